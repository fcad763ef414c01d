import Derived.Test.YtimdcaofgapnlabGreatZ37
import Derived.Test.YtimdcaofgapnlabGreatZ39
import Derived.Test.YtimdcaofgapnlabGreatZ31
import Derived.Test.YtimdcaofgapnlabGreatZ32
set_option linter.unusedVariables false
namespace Go.Proofs.YtimdcaofgapnlabGreat
open Go.RowKit
theorem FE.iv {B B1 B2:Nat} {w w':World} {v:Value} {l:List It} (f:FE B w w') (h:IV B B1 w v l) (hB:B2≤B1):IV B B2 w' v l:=by
 have h':=h.ft f.ft fun k cs _ e=>f.2 k cs _ _ e (by decide) (by decide)
 obtain ⟨a,c,h1,h2,h3,h4,h5⟩:=h'
 refine ⟨a,c,h1,h2,h3,h4,fun x hx=>?_⟩
 obtain ⟨g,o,e1,e2,e3,e4⟩:=h5 x hx
 exact ⟨g,o,e1,by omega,e3,e4⟩
theorem NV.fe {B B1 B2:Nat} {w w':World} (f:FE B w w') (hB:B2≤B1):∀ {h:Nat} {e:ED h} {S:List Nat} {v:Value},NV B B1 w h e S v→NV B B2 w' h e S v
 | 0,.inl t,S,v,hn=>hn
 | 0,.inr l,S,v,hn=>by
  obtain ⟨g,iv,h1,h2,h3,h4,h5⟩:=hn
  exact ⟨g,iv,h1,h2,by omega,f.2 _ _ _ _ h4 (by decide) (by decide),f.iv h5 hB⟩
 | h+1,.inl t,S,v,hn=>hn
 | h+1,.inr x,S,v,hn=>by
  obtain ⟨g,iv,gc,oc,cc,Sk,h1,h2,h3,h4,h5,h6,h7,h8,⟨cs,h9⟩,h10,h11⟩:=hn
  have hc:=f.2 _ _ _ _ h9 (by decide) (by decide)
  refine ⟨g,iv,gc,oc,cc,Sk,h1,h2,by omega,f.2 _ _ _ _ h4 (by decide) (by decide),f.iv h5 hB,by omega,h7,h8,⟨cs,hc⟩,h10,fun i k Si hi hS=>?_⟩
  obtain ⟨vk,q1,q2⟩:=h11 i k Si hi hS
  exact ⟨vk,(World.cell?_of_block (by rw [hc,h9])).trans q1,NV.fe f hB q2⟩
def opE:{h:Nat}→ED h→ED h
 | 0,e=>.inr (op0 e)
 | _+1,e=>.inr (opS e)
theorem mrg_op:∀ {h:Nat} (a:ED h) (x:It) (b:ED h),mrgE (opE a) x (opE b)=mrgE a x b
 | 0,_,_,_=>rfl
 | _+1,_,_,_=>rfl
theorem it_op:∀ {h:Nat} (e:ED h),itE (opE e)=itE e
 | 0,_=>rfl
 | _+1,_=>rfl
theorem Sh_op:∀ {h m:Nat} {e:ED h},ShE h m e→ShE h m (opE e)
 | 0,_,_,hs=>hs
 | _+1,_,_,hs=>hs
theorem op_new:∀ {h:Nat} {e:ED h},isNew e→opE e=e
 | 0,.inr _,_=>rfl
 | _+1,.inr _,_=>rfl
theorem isNew_op:∀ {h:Nat} (e:ED h),isNew (opE e)
 | 0,_=>trivial
 | _+1,_=>trivial
theorem gn_new:∀ {h:Nat} {e:ED h},isNew e→gn1 e=[]
 | 0,.inr _,_=>rfl
 | _+1,.inr _,_=>rfl
theorem gn_old:∀ {h:Nat} (b:BT h),gn1 (old b)=[BT.id b]
 | 0,_=>rfl
 | _+1,_=>rfl
set_option maxRecDepth 100000 in
theorem opened_lf (px g:Nat) (hh:Int) (w:World):Calls Tryz.prog 91 #[.pointer (some ⟨px,0,none⟩),lfP g,.int .i64 hh] w fun e w'=>e=.returned (lfP g)∧w'=w:=by
 have t1:=aC6 (.pointer (some ⟨g,0,none⟩)) w
 unfold lfP
 go_enter Tryz.func91,Tryz.ntmps91
 go_wp2
 go_ret
 exact ⟨rfl,rfl⟩
set_option maxRecDepth 100000 in
theorem opened_br (px g:Nat) (hh:Int) (w:World):Calls Tryz.prog 91 #[.pointer (some ⟨px,0,none⟩),brP g,.int .i64 hh] w fun e w'=>e=.returned (brP g)∧w'=w:=by
 have t1:=aEg (.pointer (some ⟨g,0,none⟩)) w
 unfold brP
 go_enter Tryz.func91,Tryz.ntmps91
 go_wp2
 go_ret
 exact ⟨rfl,rfl⟩
theorem aEy {B B1 h px:Nat} {hh:Int} {w:World} {e:ED h} {S:List Nat} {v:Value} (hn:NV B B1 w h e S v) (hnew:isNew e):Calls Tryz.prog 91 #[.pointer (some ⟨px,0,none⟩),v,.int .i64 hh] w fun e' w'=>e'=.returned v∧w'=w:=by
 match h,e,hn,hnew with
 | 0,.inr l,⟨g,iv,h1,h2,_⟩,_ =>
  rw [h2]
  exact opened_lf px g hh w
 | h+1,.inr x,⟨g,iv,gc,oc,cc,Sk,h1,h2,_⟩,_ =>
  rw [h2]
  exact opened_br px g hh w
theorem BrN.pv {B B1:Nat} {w:World} {v:Value} {l:List It} {ids:List Nat} (h:BrN B B1 w v l ids) (hl:l.length≤1000) (hi:ids.length≤1000):∃ gb,v=brP gb∧PV B B1 w gb l (ids.map plV):=by
 obtain ⟨gb,gi,gc,rfl,h1,h2,h3,h4,h5,h6⟩:=h
 refine ⟨gb,rfl,h1,_,gc,ids.length,by rw [List.length_map];exact h4,h3,by simp,by omega,⟨[],by rw [List.append_nil];exact h6⟩,h5.iv h2 hl⟩
theorem aEn [Gd] {B p q px:Nat} {s:DS} {t:PS} {w:World} {rv:Value} {d n:Int} {gone:List Nat} (hg0:Gd.g=none) (hST:ST B p q s t w) (hB:B≤w.heap.size) (hE:EV B w px q rv d n gone) (hlen:gone.length<1000) (hlf:s.life=t.life) (hd:s.down=false):∀ {h:Nat} (b:BT h),OnD s t h b→ShB h b →
  Calls Tryz.prog 91 #[.pointer (some ⟨px,0,none⟩),plV b.id,.int .i64 ((h+1:Nat):Int)] w fun e w'=>∃ v g,e=.returned v∧NV B w.heap.size w' h (opE (old b)) [g] v∧EV B w' px q rv d n (gone++[b.id])∧FE B w w'∧w.heap.size≤w'.heap.size
 | 0,b,⟨hpg,hit⟩,hsh=>by
  refine (aB4 hg0 hST hB hE hlen (i:=b.1) (hh:=1) (fun ww v w'=>LfN B ww.heap.size w' v b.2) (fun ww hs hBB=>aBp b.1 hs hBB hlf hpg.lt (by rw [hpg.of];decide) hd b.2 hpg.pg hit.n1 hit.n4 hit.ok hit.so hpg.ln hpg.bt)).mono ?_
  rintro e w' ⟨v,w1,rfl,hF1,hs1,⟨gl,gi,rfl,z1,z2,z3,z4⟩,hb,hE3⟩
  refine ⟨_,gl,rfl,⟨gl,_,rfl,rfl,by omega,z3,z4.iv (by omega) (by have:=hit.n4;omega)⟩,hE3,hF1.trans (FE.of hb (Nat.le_trans hB hs1)),Nat.le_trans hs1 hb.size⟩
 | h+1,b,⟨hpg,hit,hcl,hidb,hkids⟩,hsh=>by
  have hidm:(b.2.2.map BT.id).length=b.2.1.length+1:=by rw [List.length_map];exact hcl
  refine (aB4 hg0 hST hB hE hlen (i:=b.1) (hh:=((h+1+1:Nat):Int)) (fun ww v w'=>BrN B ww.heap.size w' v b.2.1 (b.2.2.map BT.id)) (fun ww hs hBB=>aBc b.1 (h+1+1) (by omega) hs hBB hlf hpg.lt (by rw [hpg.of];decide) hd b.2.1 (b.2.2.map BT.id) hpg.pg hidm (fun x hx=>by obtain ⟨k,hk,rfl⟩:=List.mem_map.1 hx;exact hidb k hk) hit.n1 hit.n4 hit.ok hit.so hpg.ln hpg.bt)).mono ?_
  rintro e w' ⟨v,w1,rfl,hF1,hs1,hbr,hb,hE3⟩
  have hn4:=hit.n4
  obtain ⟨gb,rfl,hpv⟩:=hbr.pv (by omega) (by omega)
  rw [List.map_map] at hpv
  have hnv:=nv_none (ks:=b.2.2) hpv
  refine ⟨_,gb,rfl,?_,hE3,hF1.trans (FE.of hb (Nat.le_trans hB hs1)),Nat.le_trans hs1 hb.size⟩
  exact NV.up (FT.refl B w') (fun _ _ _=>rfl) hs1 hnv
theorem aHg {α β:Type} (f:α→β) {ks:List α} {F i:Nat} {x y:β} (hF:F=i∨F=i+1) (hi:i+1<ks.length):((ks.map f).set F x).take i++y::((ks.map f).set F x).drop (i+2)=((ks.eraseIdx (i+1)).map f).set i y:=by
 rw [List.take_set_of_le (by omega),List.drop_set_of_lt (by omega)]
 rw [List.set_eq_take_append_cons_drop,if_pos (by rw [List.length_map,List.length_eraseIdx,if_pos hi];omega)]
 rw [List.eraseIdx_eq_take_drop_succ,List.map_append,List.map_take,List.map_drop]
 congr 1
 ·rw [List.take_append_of_le_length (by simp;omega),List.take_take,Nat.min_eq_left (by omega)]
 ·congr 1
  have h9:((ks.map f).take (i+1)).drop (i+1)=[]:=List.drop_eq_nil_of_le (by rw [List.length_take];omega)
  rw [List.drop_append_of_le_length (by rw [List.length_take,List.length_map];omega),h9,List.nil_append]
theorem EV.exT {B px q:Nat} {w w':World} {rv:Value} {d n:Int} {gone:List Nat} (h:EV B w px q rv d n gone) (f:∀ (k:Nat) (cs:Array Value) (t:TypeId),w.heap[k]?=some (.cells cs t (0,0))→t=110∨t=105→w'.heap[k]?=some (.cells cs t (0,0))):EV B w' px q rv d n gone:=by
 obtain ⟨gv,h1,h2⟩:=h.hx
 exact ⟨h.hB,⟨gv,f _ _ _ h1 (Or.inl rfl),aAj h2 fun k cs' _ e=>f k cs' _ e (Or.inr rfl)⟩,h.hn⟩
theorem Ex.oth {B ga gb gc k:Nat} {w w':World} {ca cb cc cs:Array Value} {ta tb tc t:TypeId} {fz:Nat×Nat} (h:Ex B [ga,gb,gc] w w') (ha:w.heap[ga]?=some (.cells ca ta (0,0))) (hb:w.heap[gb]?=some (.cells cb tb (0,0))) (hc:w.heap[gc]?=some (.cells cc tc (0,0))) (e:w.heap[k]?=some (.cells cs t fz)) (na:ta≠t) (nb:tb≠t) (nc:tc≠t):w'.heap[k]?=some (.cells cs t fz):=by
 rw [h.2 k (Array.getElem?_eq_some_iff.1 e).1 ?_,e]
 intro q
 simp only [List.mem_cons,List.not_mem_nil,or_false] at q
 rcases q with rfl | rfl | rfl
 ·rw [ha] at e
  simp only [Option.some.injEq,Obj.cells.injEq] at e
  exact na e.2.1
 ·rw [hb] at e
  simp only [Option.some.injEq,Obj.cells.injEq] at e
  exact nb e.2.1
 ·rw [hc] at e
  simp only [Option.some.injEq,Obj.cells.injEq] at e
  exact nc e.2.1
theorem EV.ex3 {B px q gb gi gc:Nat} {w w':World} {rv:Value} {d n:Int} {gone:List Nat} {ca cb cc:Array Value} (h:EV B w px q rv d n gone) (f:Ex B [gb,gi,gc] w w') (ha:w.heap[gb]?=some (.cells ca 152 (0,0))) (hb:w.heap[gi]?=some (.cells cb 70 (0,0))) (hc:w.heap[gc]?=some (.cells cc 107 (0,0))):EV B w' px q rv d n gone :=
 h.exT fun k cs t e ht=>f.oth ha hb hc e (by rcases ht with rfl | rfl<;>decide) (by rcases ht with rfl | rfl<;>decide) (by rcases ht with rfl | rfl<;>decide)
def FS (B:Nat) (S:List Nat) (w w':World):Prop:=Below B w w'∧∀ (k:Nat) (cs:Array Value) (t:TypeId) (fz:Nat×Nat),w.heap[k]?=some (Obj.cells cs t fz)→t≠110→t≠105→k∉S→w'.heap[k]?=some (Obj.cells cs t fz)
theorem FS.refl (B:Nat) (S:List Nat) (w:World):FS B S w w:=⟨Below.refl _ _,fun _ _ _ _ h _ _ _=>h⟩
theorem FE.fs {B:Nat} {S:List Nat} {w w':World} (f:FE B w w'):FS B S w w':=⟨f.1,fun k cs t fz e n1 n2 _=>f.2 k cs t fz e n1 n2⟩
theorem Ex.fs {B:Nat} {S:List Nat} {w w':World} (f:Ex B S w w'):FS B S w w':=⟨f.1,fun k cs t fz e _ _ hk=>(f.2 k (Array.getElem?_eq_some_iff.1 e).1 hk).trans e⟩
theorem FS.trans {B:Nat} {S:List Nat} {a b c:World} (h:FS B S a b) (k:FS B S b c):FS B S a c:=⟨h.1.trans k.1,fun i cs t fz e n1 n2 hi=>k.2 i cs t fz (h.2 i cs t fz e n1 n2 hi) n1 n2 hi⟩
theorem FE.more {B:Nat} {S:List Nat} {w0 w w':World} (h:FE B w0 w) (f:FS B S w w') (hS:∀ x∈S,w0.heap.size≤x):FE B w0 w':=by
 refine ⟨h.1.trans f.1,fun k cs t fz e n1 n2=>f.2 k cs t fz (h.2 k cs t fz e n1 n2) n1 n2 fun q=>?_⟩
 have:=hS k q
 have:=(Array.getElem?_eq_some_iff.1 e).1
 omega
structure BF (B B1:Nat) (w:World) (gb gi gc:Nat) (l:List It) (cv:List Value):Prop where
 b0:B1≤gb∧B1≤gi∧B1≤gc
 x0:w.heap[gb]?=some (.cells #[.slice (some ⟨gi,0,none⟩) l.length l.length,.slice (some ⟨gc,0,none⟩) cv.length cv.length] 152 (0,0))
 x1:∃ ic,w.heap[gi]?=some (.cells ic.toArray 70 (0,0))∧ItC B w ic l
 x2:w.heap[gc]?=some (.cells cv.toArray 107 (0,0))
 one:∀ u∈cv,u.oneCell'=true
theorem BF.pf {B B1 gb gi gc:Nat} {w:World} {l:List It} {cv:List Value} (h:BF B B1 w gb gi gc l cv) (hne:l≠[]):PF B B1 w gb l cv:=by
 obtain ⟨ic,e1,e2⟩:=h.x1
 exact ⟨h.b0.1,⟨_,_,gc,h.x0,h.b0.2.2,h.x2,Or.inr ⟨gi,ic,rfl,rfl,h.b0.2.1,e1,e2,hne⟩⟩,h.one⟩
theorem BF.fe {B B1 gb gi gc:Nat} {w w':World} {l:List It} {cv:List Value} (h:BF B B1 w gb gi gc l cv) (f:FE B w w'):BF B B1 w' gb gi gc l cv:=by
 obtain ⟨ic,e1,e2⟩:=h.x1
 exact ⟨h.b0,f.2 _ _ _ _ h.x0 (by decide) (by decide),⟨ic,f.2 _ _ _ _ e1 (by decide) (by decide),e2.ft f.ft⟩,f.2 _ _ _ _ h.x2 (by decide) (by decide),h.one⟩
theorem Sh_le:∀ {h m m':Nat} {e:ED h},m≤m'→ShE h m e→ShE h m' e
 | 0,_,_,_,hm,h=>Nat.le_trans h hm
 | _+1,_,_,_,hm,⟨h,h2,h3⟩=>⟨Nat.le_trans h hm,h2,h3⟩
theorem aFz {B B1 h:Nat} {w:World} {e:ED h} {S:List Nat} {v:Value} (hn:NV B B1 w h e S v) (hnew:isNew e):∃ a c,Calls Tryz.prog 95 #[v] w fun e' w'=>e'=.returned (.slice a (itE e).length c)∧w'=w:=by
 match h,e,hn,hnew with
 | 0,.inr l,⟨g,iv,h1,h2,h3,h4,h5⟩,_ =>
  obtain ⟨a,c,rfl⟩:=h5.len
  exact ⟨a,c,by rw [h2];exact aAp h4⟩
 | h+1,.inr x,⟨g,iv,gc,oc,cc,Sk,h1,h2,h3,h4,h5,_⟩,_ =>
  obtain ⟨a,c,rfl⟩:=h5.len
  exact ⟨a,c,by rw [h2];exact aAn h4⟩
theorem NV.low {B B1 B2 h:Nat} {w:World} {e:ED h} {S:List Nat} {v:Value} (hn:NV B B1 w h e S v) (h2:B2≤B1):NV B B2 w h e S v:=NV.up (FT.refl B w) (fun _ _ _=>rfl) h2 hn
theorem setD_merge {h:Nat} {l:List It} {c:List (ED h)} {F:Nat} {e a b:ED h} {x:It} (he:c[F]?=some e) (h2:(itE e).length<2) (ha:c[F-1]?=some a) (hx:l[F-1]?=some x) (hb:c[F-1+1]?=some b):setD l c F=setl (l.eraseIdx (F-1)) (c.take (F-1)++mrgE a x b::c.drop (F-1+2)) (F-1):=by
 unfold setD
 rw [he]
 simp only
 rw [if_pos h2,mgd_eq ha hx hb]
theorem setl_at {h:Nat} {l:List It} {c:List (ED h)} {i:Nat} {e:ED h} (he:c[i]?=some e):setl l c i=if 4<(itE e).length then (l.take i++midE e::l.drop i,c.take i++lefE e::rigE e::c.drop (i+1)) else (l,c):=by
 unfold setl
 rw [he]
theorem gnS_merge {h:Nat} {c:List (ED h)} {F:Nat} {e a b:ED h} (he:c[F]?=some e) (h2:(itE e).length<2) (ha:c[F-1]?=some a) (hb:c[F-1+1]?=some b):gnS c F=gn1 a++gn1 b:=by
 unfold gnS
 rw [he]
 simp only
 rw [if_pos h2,ha,hb]
 rfl
theorem side_at {h:Nat} {ks:List (BT h)} {F j:Nat} {e:ED h} {v:Value} (hj:j<ks.length) (hF:F<ks.length) :
  ∃ a va,((ks.map old).set F e)[j]?=some a∧((ks.map fun k=>plV k.id).set F v)[j]?=some va∧((j=F∧a=e∧va=v)∨(j≠F∧∃ b∈ks,a=old b∧va=plV b.id)):=by
 by_cases q:j=F
 ·subst q
  exact ⟨e,v,by rw [List.getElem?_set_self (by simpa using hF)],by rw [List.getElem?_set_self (by simpa using hF)],Or.inl ⟨rfl,rfl,rfl⟩⟩
 ·refine ⟨old ks[j],plV (BT.id ks[j]),?_,?_,Or.inr ⟨q,ks[j],List.getElem_mem hj,rfl,rfl⟩⟩
  ·rw [List.getElem?_set_ne (by omega),List.getElem?_map,List.getElem?_eq_getElem hj];rfl
  ·rw [List.getElem?_set_ne (by omega),List.getElem?_map,List.getElem?_eq_getElem hj];rfl
def SetR [Gd] (B B1:Nat) (w:World) (px q gb gi gc:Nat) (rv:Value) (d n:Int) (gone:List Nat) (h:Nat) (l:List It) (c:List (ED h)) (F:Nat) (w':World):Prop :=
 (∃ S',NV B B1 w' (h+1) (.inr (setD l c F)) (gb::S') (brP gb)∧(gb::S').Nodup)∧EV B w' px q rv d n (gone++gnS c F)∧FS B [gb,gi,gc] w w'
section
variable [Gd] {B B1 B2 p q px gb gi gc h F:Nat} {s:DS} {t:PS} {w:World} {rv:Value} {d n:Int} {gone:List Nat} {l:List It} {ks:List (BT h)} {e:ED h} {S:List Nat} {v:Value}
set_option maxRecDepth 100000 in
set_option maxHeartbeats 2000000 in
theorem settle_calm (hE:EV B w px q rv d n gone) (hBF:BF B B1 w gb gi gc l ((ks.map fun k=>plV k.id).set F v)) (hB:B≤B1) (hB2:gb<B2∧gi<B2∧gc<B2) (hBw:B2≤w.heap.size) (hl1:1≤l.length) (hl4:l.length≤4) (hkl:ks.length=l.length+1) (hF:F<ks.length)
  (hn:NV B B2 w h e S v) (hnd:S.Nodup) (hnew:isNew e) (hse:ShE h 4 e) (h2:2≤(itE e).length) :
  Calls Tryz.prog 94 #[.pointer (some ⟨px,0,none⟩),.pointer (some ⟨gb,0,none⟩),.int .i64 (F:Int),.int .i64 ((h+1:Nat):Int)] w fun e' w'=>e'=.returned (.tuple #[])∧SetR B B1 w px q gb gi gc rv d n gone h l ((ks.map old).set F e) F w':=by
 have hb1:=hBF.b0
 have hne:l≠[]:=fun q9=>by rw [q9] at hl1;simp at hl1
 have hlo:=NV.lo hn
 have hgS:gb∉S:=fun q9=>by have:=(hlo gb q9).1;omega
 have hle:=aHu hse
 have hcl:((ks.map fun k=>plV k.id).set F v).length=ks.length:=by simp
 have hcv:((ks.map fun k=>plV k.id).set F v)[F]?=some v:=by rw [List.getElem?_set_self (by simpa using hF)]
 have hc:((ks.map old).set F e)[F]?=some e:=by rw [List.getElem?_set_self (by simpa using hF)]
 refine (aGp (hBF.pf hne) hB (by omega) hl4 (by omega) (by omega) hcv (hn.low (by omega)) hgS hnew h2 (Sh_le (by decide) hse)).mono ?_
 rintro e' w' ⟨rfl,hw⟩
 rw [if_neg (by omega)] at hw
 subst hw
 have hsd:setD l ((ks.map old).set F e) F=(l,(ks.map old).set F e):=by
  unfold setD
  rw [hc]
  simp only
  rw [if_neg (by omega)]
  exact setl_no fun k hk=>by rw [hc,Option.some.injEq] at hk;rw [←hk];exact hle
 have hgs:gnS ((ks.map old).set F e) F=[]:=by
  unfold gnS
  rw [hc]
  simp only
  rw [if_neg (by omega)]
 have hpv:=(hBF.pf hne).pv (by omega) (by omega)
 refine ⟨rfl,⟨S,?_,List.nodup_cons.2 ⟨hgS,hnd⟩⟩,?_,FS.refl _ _ _⟩
 ·rw [hsd]
  exact nv_one hpv hF (hn.low (by omega))
 ·rw [hgs,List.append_nil]
  exact hE
set_option maxRecDepth 100000 in
set_option maxHeartbeats 4000000 in
theorem settle_merge (hg0:Gd.g=none) (hlf:s.life=t.life) (hd:s.down=false) (hST:ST B p q s t w) (hE:EV B w px q rv d n gone) (hlen:gone.length<900) (hBF:BF B B1 w gb gi gc l ((ks.map fun k=>plV k.id).set F v)) (hB:B≤B1) (hB2:gb<B2∧gi<B2∧gc<B2) (hBw:B2≤w.heap.size) (hl1:1≤l.length) (hl4:l.length≤4) (hkl:ks.length=l.length+1) (hF:F<ks.length)
  (hon:∀ k∈ks,OnD s t h k) (hsh:∀ k∈ks,ShB h k∧2≤(BT.it k).length) (hn:NV B B2 w h e S v) (hnd:S.Nodup) (hnew:isNew e) (hse:ShE h 4 e) (he1:1≤(itE e).length) (h2:(itE e).length<2) :
  Calls Tryz.prog 94 #[.pointer (some ⟨px,0,none⟩),.pointer (some ⟨gb,0,none⟩),.int .i64 (F:Int),.int .i64 ((h+1:Nat):Int)] w fun e' w'=>e'=.returned (.tuple #[])∧SetR B B1 w px q gb gi gc rv d n gone h l ((ks.map old).set F e) F w':=by
 obtain ⟨m,hm⟩:∃ m,l.length=m+1:=⟨l.length-1,by omega⟩
 obtain ⟨i,hi⟩:∃ i,i=F-1:=⟨_,rfl⟩
 have hi1:i+1<ks.length:=by omega
 have hFi:F=i∨F=i+1:=by omega
 obtain ⟨a,va,ha,hva,hca⟩:=side_at (e:=e) (v:=v) (show i<ks.length by omega) hF
 obtain ⟨b,vb,hb,hvb,hcb⟩:=side_at (e:=e) (v:=v) hi1 hF
 obtain ⟨x,hx⟩:∃ x,l[i]?=some x:=⟨_,List.getElem?_eq_getElem (by omega)⟩
 have hc:((ks.map old).set F e)[F]?=some e:=by rw [List.getElem?_set_self (by simpa using hF)]
 have hcvF:((ks.map fun k=>plV k.id).set F v)[F]?=some v:=by rw [List.getElem?_set_self (by simpa using hF)]
 have hcl:((ks.map fun k=>plV k.id).set F v).length=ks.length:=by simp
 have hb1:=hBF.b0
 have hlo:=NV.lo hn
 have hsd:setD l ((ks.map old).set F e) F=setl (l.eraseIdx i) (((ks.eraseIdx (i+1)).map old).set i (mrgE a x b)) i:=by
  rw [setD_merge hc h2 (by rw [←hi];exact ha) (by rw [←hi];exact hx) (by rw [←hi];exact hb),←hi,aHg old hFi hi1]
 have hcj:((ks.map fun k=>plV k.id).set F v).take i++v::((ks.map fun k=>plV k.id).set F v).drop (i+2)=((ks.eraseIdx (i+1)).map fun k=>plV k.id).set i v:=aHg _ hFi hi1
 have hgs:gnS ((ks.map old).set F e) F=gn1 a++gn1 b:=gnS_merge hc h2 (by rw [←hi];exact ha) (by rw [←hi];exact hb)
 have hel:(ks.eraseIdx (i+1)).length=m+1:=by rw [List.length_eraseIdx,if_pos hi1];omega
 have hM:(((ks.eraseIdx (i+1)).map old).set i (mrgE a x b))[i]?=some (mrgE a x b):=by rw [List.getElem?_set_self (by rw [List.length_map];omega)]
 -- the shape of both
 have sha:∀ {y:ED h} {vy:Value} {j:Nat},((j=F∧y=e∧vy=v)∨(j≠F∧∃ b∈ks,y=old b∧vy=plV b.id))→ShE h 4 y∧1≤(itE y).length∧(itE y).length≤4∧(j≠F→2≤(itE y).length):=by
  intro y vy j hy
  rcases hy with ⟨q1,rfl,_⟩ | ⟨q1,k,hk,rfl,_⟩
  ·exact ⟨hse,he1,aHu hse,fun q9=>absurd q1 q9⟩
  ·have h9:=hsh k hk
   have h8:=aBf k h9.1
   rw [aCd]
   exact ⟨h8,by omega,by have:=aHu h8;rw [aCd] at this;exact this,fun _=>h9.2⟩
 have sa:=sha hca
 have sb:=sha hcb
 have hitM:=it_mrg a x b
 have hML:4≤(itE (mrgE a x b)).length∧(itE (mrgE a x b)).length≤6:=by
  rw [hitM]
  rcases hFi with q9 | q9
  ·have h8:=sb.2.2.2 (by omega)
   have:(itE a).length=(itE e).length:=by
    rcases hca with ⟨_,rfl,_⟩ | ⟨q8,_⟩
    ·rfl
    ·exact absurd q9.symm q8
   have:=sb.2.2.1
   omega
  ·have h8:=sa.2.2.2 (by omega)
   have:(itE b).length=(itE e).length:=by
    rcases hcb with ⟨_,rfl,_⟩ | ⟨q8,_⟩
    ·rfl
    ·exact absurd q9.symm q8
   have:=sa.2.2.1
   omega
 have hSM:ShE h 6 (mrgE a x b):=Sh_mrg sa.1 sb.1 (by rw [←hitM];exact hML.2)
 obtain ⟨a0,c0,hio⟩:=aFz hn hnew
 have hstay:∀ ww,FE B w ww→StC gb gc ks.length i va vb ww:=fun ww f=>by
  have k1:=f.2 _ _ _ _ hBF.x0 (by decide) (by decide)
  have k2:=f.2 _ _ _ _ hBF.x2 (by decide) (by decide)
  rw [hcl] at k1
  exact ⟨aAa k1,by rw [aAa k2,List.getElem?_toArray];exact hva,by rw [aAa k2,List.getElem?_toArray];exact hvb⟩
 have hBW:B≤w.heap.size:=by omega
 have hdr:FE B w w.drew:=FE.of (Below.refl _ _).drew hBW
 have hend:∀ (one:Value) (g1:Nat) (ic:List Value) (w2 w3:World),MrgM B gb gi gc i m (m+1) ic ((ks.map fun k=>plV k.id).set F v) one w2 w3→ItC B w2 ic l→NV B B2 w3 h (mrgE a x b) (g1::S.tail) one→w.heap.size≤w2.heap.size→w2.heap.size≤g1→FT B w2 w3→EV B w3 px q rv d n (gone++(gn1 a++gn1 b))→FS B [gb,gi,gc] w w3 →
   (w3.heap[gb]?=some (.cells #[.slice (some ⟨gi,0,none⟩) m (m+1),.slice (some ⟨gc,0,none⟩) (m+1) (m+1+1)] 152 (0,0))∧w3.heap[gi]?=some (.cells (ic.take (i*2)++ic.drop ((i+1)*2)++[Value.slice none 0 0,Value.slice none 0 0]).toArray 70 (0,0))∧w3.heap[gc]?=some (.cells (((ks.eraseIdx (i+1)).map fun k=>plV k.id).set i one++[Value.nilIface]).toArray 107 (0,0))∧ItC B w3 (ic.take (i*2)++ic.drop ((i+1)*2)) (l.eraseIdx i)):=by
  rintro one g1 ic w2 w3 ⟨k1,k2,k3,k4⟩ hic _ _ _ hft _ _
  refine ⟨k1,k2,?_,hic.erase.ft hft⟩
  rw [aHg _ hFi hi1] at k3
  exact k3
 have htl:∀ y∈S.tail,B2≤y∧y<w.heap.size:=fun y hy=>hlo y (List.mem_of_mem_tail hy)
 have htn:S.tail.Nodup:=hnd.sublist (List.tail_sublist S)
 have hgbw:gb<w.heap.size:=by omega
 refine (settleM_walk (px:=px) (gb:=gb) (gc:=gc) (n:=ks.length) (i:=F) (i1:=i) (L:=(itE (mrgE a x b)).length) (hh:=((h+1:Nat):Int)) (w:=w) (v:=v) (vl:=va) (vr:=vb)
  (Q1:=fun v1 w1=>(∃ Sa,NV B B2 w1 h (opE a) Sa v1∧(F=i→Sa=S)∧(F≠i→Sa.tail=[]))∧EV B w1 px q rv d n (gone++gn1 a)∧FE B w w1∧w.heap.size≤w1.heap.size)
  (Q2:=fun v1 v2 w2=>(∃ Sa Sb,NV B B2 w2 h (opE a) Sa v1∧NV B B2 w2 h (opE b) Sb v2∧Sa.tail++Sb.tail=S.tail)∧EV B w2 px q rv d n (gone++(gn1 a++gn1 b))∧FE B w w2∧w.heap.size≤w2.heap.size)
  (Q3:=fun w3=>∃ one g1 ic w2,MrgM B gb gi gc i m (m+1) ic ((ks.map fun k=>plV k.id).set F v) one w2 w3∧ItC B w2 ic l∧NV B B2 w3 h (mrgE a x b) (g1::S.tail) one∧w.heap.size≤w2.heap.size∧w2.heap.size≤g1∧FT B w2 w3∧EV B w3 px q rv d n (gone++(gn1 a++gn1 b))∧FS B [gb,gi,gc] w w3)
  (Q4:=fun w4=>SetR B B1 w px q gb gi gc rv d n gone h l ((ks.map old).set F e) F w4)
  hi hi1 (by omega) hF (hstay w (FE.refl _ _)) (by rw [aAa hBF.x2,List.getElem?_toArray];exact hcvF) hio (by omega) ?_ ?_ (fun v1 w1 h9=>hstay w1 h9.2.2.1) (fun v1 v2 w2 h9=>hstay w2 h9.2.2.1) ?_ ?_ ?_).mono ?_
 · -- the left one
  rcases hca with ⟨q1,rfl,rfl⟩ | ⟨q1,k,hk,rfl,rfl⟩
  ·refine (aEy (hn.later (Below.refl _ _).drew hBW (Nat.le_refl _)) hnew).mono ?_
   rintro e' w' ⟨rfl,rfl⟩
   refine ⟨_,rfl,⟨S,?_,fun _=>rfl,fun q9=>absurd q1.symm q9⟩,?_,hdr,Nat.le_refl _⟩
   ·rw [op_new hnew];exact hn.later (Below.refl _ _).drew hBW (Nat.le_refl _)
   ·rw [gn_new hnew,List.append_nil];exact hE.later (Below.refl _ _).drew
  ·refine (aEn hg0 (hST.later (Below.refl _ _).drew) hBW (hE.later (Below.refl _ _).drew) (by omega) hlf hd k (hon k hk) (hsh k hk).1).mono ?_
   rintro e' w' ⟨v1,g,rfl,h1,h3,h4,h5⟩
   refine ⟨v1,rfl,⟨[g],h1.low hBw,fun q9=>absurd q9.symm q1,fun _=>rfl⟩,by rw [gn_old];exact h3,hdr.trans h4,h5⟩
 · -- the right one
  rintro v1 w1 ⟨⟨Sa,k1,k2,k3⟩,k4,k5,k6⟩
  rcases hcb with ⟨q1,rfl,rfl⟩ | ⟨q1,k,hk,rfl,rfl⟩
  ·have hn1:=NV.fe k5 (Nat.le_refl _) hn
   refine (aEy hn1 hnew).mono ?_
   rintro e' w' ⟨rfl,rfl⟩
   refine ⟨_,rfl,⟨Sa,S,k1,by rw [op_new hnew];exact hn1,?_⟩,?_,k5,k6⟩
   ·rw [k3 (by omega),List.nil_append]
   ·rw [gn_new hnew,List.append_nil];exact k4
  ·have hg1:=aEr a
   refine (aEn hg0 (k5.st hST hg0) (Nat.le_trans hBW k6) k4 (by rw [List.length_append];omega) hlf hd k (hon k hk) (hsh k hk).1).mono ?_
   rintro e' w' ⟨v2,g,rfl,h1,h3,h4,h5⟩
   refine ⟨v2,rfl,⟨Sa,[g],NV.fe h4 (Nat.le_refl _) k1,h1.low (Nat.le_trans hBw k6),?_⟩,?_,k5.trans h4,Nat.le_trans k6 h5⟩
   ·rw [k2 (by omega)];exact List.append_nil _
   ·rw [gn_old,←List.append_assoc];exact h3
 · -- merge
  rintro v1 v2 w2 ⟨⟨Sa,Sb,k1,k2,k3⟩,k4,k5,k6⟩
  have hBF2:=hBF.fe k5
  obtain ⟨ic,x1,x2⟩:=hBF2.x1
  have y0:=hBF2.x0
  rw [hcl,hkl,hm] at y0
  refine (merge_ok y0 x1 hBF2.x2 (by omega) hB2 (Nat.le_trans hBw k6) x2 hm (by omega) (by omega) (by omega) hBF2.one hx (opE a) (opE b) k1 k2 (isNew_op a) (isNew_op b) (Sh_op sa.1) (Sh_op sb.1) (by rw [it_op];exact sa.2.1) (by rw [it_op];exact sb.2.1)).mono ?_
  rintro e' w3 ⟨rfl,one,g1,h1,h3,h4,h5⟩
  rw [mrg_op,k3] at h3
  exact ⟨rfl,one,g1,ic,w2,h1,x2,h3,k6,h4,h5,k4.ex3 h1.2.2.2 y0 x1 hBF2.x2,k5.fs.trans h1.2.2.2.fs⟩
 · -- what is read behind it
  rintro w3 ⟨one,g1,ic,w2,k1,k2,k3,k4,k5,k6,k7,k8⟩
  obtain ⟨z1,z2,z3,z4⟩:=hend one g1 ic w2 w3 k1 k2 k3 k4 k5 k6 k7 k8
  obtain ⟨a3,c3,hio3⟩:=aFz k3 (aC1 a x b)
  refine ⟨one,a3,c3,?_,?_,hio3⟩
  ·rw [show ks.length-1=m+1 by omega,show ks.length=m+1+1 by omega];exact aAa z1
  ·rw [aAa z3,List.getElem?_toArray,List.getElem?_append_left (by simp;omega),List.getElem?_set_self (by rw [List.length_map];omega)]
 · -- split
  rintro h4 w3 ⟨one,g1,ic,w2,k1,k2,k3,k4,k5,k6,k7,k8⟩
  obtain ⟨z1,z2,z3,z4⟩:=hend one g1 ic w2 w3 k1 k2 k3 k4 k5 k6 k7 k8
  have hw3:w2.heap.size≤w3.heap.size:=k1.2.2.2.1.size
  have hlen':(l.eraseIdx i).length=m:=by rw [List.length_eraseIdx,if_pos (by omega)];omega
  have hcvl:(((ks.eraseIdx (i+1)).map fun k=>plV k.id).set i one).length=m+1:=by rw [List.length_set,List.length_map];exact hel
  have hone:∀ u∈((ks.eraseIdx (i+1)).map fun k=>plV k.id).set i one,u.oneCell'=true:=aA4 (fun u hu=>by
   obtain ⟨k,_,rfl⟩:=List.mem_map.1 hu
   rfl) k3.cell
  have hat:(((ks.eraseIdx (i+1)).map fun k=>plV k.id).set i one)[i]?=some one:=by rw [List.getElem?_set_self (by rw [List.length_map];omega)]
  have hsp:Calls Tryz.prog 96 #[.pointer (some ⟨gb,0,none⟩),.int .i64 (i:Int)] w3 fun e' w'=>e'=.returned (.tuple #[])∧SplR B B2 gb gi gc i m (m+1) h (mrgE a x b) (g1::S.tail) (l.eraseIdx i) (((ks.eraseIdx (i+1)).map fun k=>plV k.id).set i one) w3 w':=by
   by_cases h5:(itE (mrgE a x b)).length=5
   ·exact splitR_ok5 z1 z2 z3 (by omega) hB2 (by omega) z4 hlen' rfl (by omega) (by omega) hcvl rfl (by omega) (by omega) hone (mrgE a x b) hat k3 (aC1 a x b) h5 hSM
   ·exact splitR_ok6 z1 z2 z3 (by omega) hB2 (by omega) z4 hlen' rfl (by omega) (by omega) hcvl rfl (by omega) (by omega) hone (mrgE a x b) hat k3 (aC1 a x b) (by omega) hSM
  refine hsp.mono ?_
  rintro e' w4 ⟨rfl,lv,rv',gl,gr,A,C,ys,s1,s2,s3,s4,s5,s6,s7,s8,s9,s10,s11,s12⟩
  have s9:S.tail=A++C:=s9
  have hev:=k7.ex3 s5 z1 z2 z3
  have hfs:=k8.trans s5.fs
  have hl4':((l.eraseIdx i).take i++midE (mrgE a x b)::(l.eraseIdx i).drop i).length=m+1:=by simp [hlen'];omega
  have hcv4:((((ks.eraseIdx (i+1)).map fun k=>plV k.id).set i one).take i++lv::rv'::(((ks.eraseIdx (i+1)).map fun k=>plV k.id).set i one).drop (i+1)).length=m+1+1:=by simp [hcvl];omega
  have hpv:PV B B1 w4 gb ((l.eraseIdx i).take i++midE (mrgE a x b)::(l.eraseIdx i).drop i) ((((ks.eraseIdx (i+1)).map fun k=>plV k.id).set i one).take i++lv::rv'::(((ks.eraseIdx (i+1)).map fun k=>plV k.id).set i one).drop (i+1)):=by
   refine ⟨hb1.1,_,gc,_,by rw [hcv4];exact s1,hb1.2.2,by rw [hcv4];exact Nat.le_refl _,by omega,⟨[],by rw [List.append_nil];exact s4⟩,?_⟩
   rw [←hl4']
   exact IV.row ⟨[],by rw [List.append_nil];exact s2⟩ s3 hb1.2.1 (Nat.le_refl _) (by omega)
  have hnv:=nv_two (ks:=ks.eraseIdx (i+1)) (F:=i) (e:=mrgE a x b) (by omega) hpv (s7.low (by omega)) (s8.low (by omega))
  have hac:∀ y,y∈A∨y∈C→B2≤y∧y<w.heap.size:=fun y hy=>htl y (by rw [s9];exact List.mem_append.2 hy)
  rw [s9] at htn
  obtain ⟨n1,n2,n3⟩:=List.nodup_append.1 htn
  refine ⟨rfl,⟨(gl::A)++(gr::C),?_,?_⟩,by rw [hgs];exact hev,hfs⟩
  ·rw [hsd,setl_at hM,if_pos h4]
   exact hnv
  ·rw [List.nodup_cons]
   refine ⟨fun q9=>?_,List.nodup_append.2 ⟨List.nodup_cons.2 ⟨fun q9=>?_,n1⟩,List.nodup_cons.2 ⟨fun q9=>?_,n2⟩,fun y hy z hz q9=>?_⟩⟩
   ·rcases List.mem_append.1 q9 with q9 | q9
    ·rcases List.mem_cons.1 q9 with q9 | q9
     ·omega
     ·have:=hac gb (Or.inl q9);omega
    ·rcases List.mem_cons.1 q9 with q9 | q9
     ·omega
     ·have:=hac gb (Or.inr q9);omega
   ·have:=hac gl (Or.inl q9);omega
   ·have:=hac gr (Or.inr q9);omega
   ·subst q9
    rcases List.mem_cons.1 hy with q8 | q8
    ·rcases List.mem_cons.1 hz with q7 | q7
     ·exact s10 (q8.symm.trans q7)
     ·have:=hac y (Or.inr q7);omega
    ·rcases List.mem_cons.1 hz with q7 | q7
     ·have:=hac y (Or.inl q8);omega
     ·exact n3 y q8 y q7 rfl
 · -- the end
  rintro e' w' ⟨rfl,hq⟩
  refine ⟨rfl,?_⟩
  by_cases h4:4<(itE (mrgE a x b)).length
  ·rw [if_pos h4] at hq
   exact hq
  ·rw [if_neg h4] at hq
   obtain ⟨one,g1,ic,w2,k1,k2,k3,k4,k5,k6,k7,k8⟩:=hq
   obtain ⟨z1,z2,z3,z4⟩:=hend one g1 ic w2 w' k1 k2 k3 k4 k5 k6 k7 k8
   have hlen':(l.eraseIdx i).length=m:=by rw [List.length_eraseIdx,if_pos (by omega)];omega
   have hcvl:(((ks.eraseIdx (i+1)).map fun k=>plV k.id).set i one).length=m+1:=by rw [List.length_set,List.length_map];exact hel
   have hpv:PV B B1 w' gb (l.eraseIdx i) (((ks.eraseIdx (i+1)).map fun k=>plV k.id).set i one):=by
    refine ⟨hb1.1,_,gc,_,by rw [hcvl];exact z1,hb1.2.2,by omega,by omega,⟨[Value.nilIface],z3⟩,?_⟩
    have:=IV.row (B1:=B1) (c:=m+1) ⟨[Value.slice none 0 0,Value.slice none 0 0],z2⟩ z4 hb1.2.1 (by omega) (by omega)
    rw [hlen'] at this
    exact this
   have hnv:=nv_one (ks:=ks.eraseIdx (i+1)) (F:=i) (e:=mrgE a x b) hpv (by omega) (k3.low (by omega))
   refine ⟨⟨g1::S.tail,?_,?_⟩,by rw [hgs];exact k7,k8⟩
   ·rw [hsd,setl_at hM,if_neg h4]
    exact hnv
   ·refine List.nodup_cons.2 ⟨fun q9=>?_,List.nodup_cons.2 ⟨fun q9=>?_,htn⟩⟩
    ·rcases List.mem_cons.1 q9 with q9 | q9
     ·omega
     ·have:=htl gb q9;omega
    ·have:=htl g1 q9;omega
theorem aEl (hg0:Gd.g=none) (hlf:s.life=t.life) (hd:s.down=false) (hST:ST B p q s t w) (hE:EV B w px q rv d n gone) (hlen:gone.length<900) (hBF:BF B B1 w gb gi gc l ((ks.map fun k=>plV k.id).set F v)) (hB:B≤B1) (hB2:gb<B2∧gi<B2∧gc<B2) (hBw:B2≤w.heap.size) (hl1:1≤l.length) (hl4:l.length≤4) (hkl:ks.length=l.length+1) (hF:F<ks.length)
  (hon:∀ k∈ks,OnD s t h k) (hsh:∀ k∈ks,ShB h k∧2≤(BT.it k).length) (hn:NV B B2 w h e S v) (hnd:S.Nodup) (hnew:isNew e) (hse:ShE h 4 e) (he1:1≤(itE e).length) :
  Calls Tryz.prog 94 #[.pointer (some ⟨px,0,none⟩),.pointer (some ⟨gb,0,none⟩),.int .i64 (F:Int),.int .i64 ((h+1:Nat):Int)] w fun e' w'=>e'=.returned (.tuple #[])∧SetR B B1 w px q gb gi gc rv d n gone h l ((ks.map old).set F e) F w':=by
 by_cases h2:(itE e).length<2
 ·exact settle_merge hg0 hlf hd hST hE hlen hBF hB hB2 hBw hl1 hl4 hkl hF hon hsh hn hnd hnew hse he1 h2
 ·exact settle_calm hE hBF hB hB2 hBw hl1 hl4 hkl hF hn hnd hnew hse (by omega)
end
theorem aE4 {fn:Func} {p u:Tmp} {ty:TypeId} (h:fn.results=#[.tmp u,.cell p ty]) (tmps:Array Value) (P:Program) (w:World) :
  (results fn tmps).run P w =
   ((asAddr (tmps.getD p undef)).run P w).andThen fun a w₁=>((loadVar ty a).run P w₁).andThen fun v w₂=>.ok (.tuple #[tmps.getD u undef,v]) w₂:=by
 simp only [results,h]
 simp [Sem.run_bind,Result.andThen]
theorem info_itsz:(Tryz.prog.info? 70).map (·.size)=some 2:=by kernel_rfl
set_option maxRecDepth 100000 in
theorem aEu {fn:Func} {p u:Tmp} (h:fn.results=#[.tmp u,.cell p 70]) (tmps:Array Value) (w:World) (g:Nat) (kv vv:Value)
  (hp:tmps.getD p undef=.pointer (some ⟨g,0,none⟩)) (hg:w.heap[g]?=some (.cells #[kv,vv] 70 (0,0))) :
  (results fn tmps).run Tryz.prog w=.ok (.tuple #[tmps.getD u undef,.agg #[kv,vv]]) w:=by
 rw [aE4 h,hp]
 simp only [asAddr,Sem.run_pure,Result.andThen_ok,run_loadVar_row w g 70 70 #[kv,vv] (0,0) _ hg Tryz.underlying70 rfl info_itsz]
def WolR (B:Nat) (w:World) (px q:Nat) (rv:Value) (d n:Int) (gone:List Nat) (h:Nat) (b:BT h) (v:Value) (ka:Option Addr) (kc:Nat) (va:Option Addr) (vc:Nat) (w':World):Prop :=
 BK B w' ka (wolE h (old b)).2.1.length kc (wolE h (old b)).2.1∧BK B w' va (wolE h (old b)).2.2.length vc (wolE h (old b)).2.2∧(∃ S,NV B w.heap.size w' h (wolE h (old b)).1 S v∧S.Nodup)∧EV B w' px q rv d n (gone++gnW h (old b))∧FE B w w'∧w.heap.size≤w'.heap.size
set_option maxRecDepth 100000 in
set_option maxHeartbeats 4000000 in
theorem wol_leaf [Gd] {B p q px:Nat} {s:DS} {t:PS} {w:World} {rv:Value} {d n:Int} {gone:List Nat} (hg0:Gd.g=none) (hST:ST B p q s t w) (hB:B≤w.heap.size) (hlf:s.life=t.life) (hd:s.down=false) (hE:EV B w px q rv d n gone) (hlen:gone.length<900) (b:BT 0) (hb:OnD s t 0 b) :
  Calls Tryz.prog 106 #[.pointer (some ⟨px,0,none⟩),plV b.1,.int .i64 1] w fun e w'=>∃ v ka kc va vc,e=.returned (.tuple #[v,.agg #[.slice ka (wolE 0 (old b)).2.1.length kc,.slice va (wolE 0 (old b)).2.2.length vc]])∧WolR B w px q rv d n gone 0 b v ka kc va vc w':=by
 obtain ⟨hpg,hit⟩:=id hb
 have HBX:=hide (aAb w (.cells #[.slice none 0 0,.slice none 0 0] 70))
 have HNX:Hid ((w.alloc (.cells #[.slice none 0 0,.slice none 0 0] 70)).heap[w.heap.size]?=some (.cells #[.slice none 0 0,.slice none 0 0] 70 (0,0))):=heap_alloc_new w _
 have HOP:=hide (aEn (h:=0) hg0 (hST.later HBX.out) (Nat.le_trans hB HBX.out.size) (hE.later HBX.out) (by omega) hlf hd b hb hit.n4)
 have HB:=hide hB
 have HIT:=hide hit
 clear hST hE hpg hit hb hB hlf hd
 change Hid (Calls Tryz.prog 91 #[.pointer (some ⟨px,0,none⟩),.iface 105 (.int .i64 (b.1:Int)),.int .i64 1] _ _) at HOP
 unfold plV
 go_enter Tryz.func106,Tryz.ntmps106
 go_wp2_with fail
 refine HOP.out.mono ?_
 rintro e w2 ⟨v2,g0,rfl,⟨g,iv,hg1,rfl,hg2,hg3,hIV⟩,hE2,hF2,hs2⟩
 have hL:b.2.length=b.2.length:=rfl
 have hn1:=HIT.out.n1
 have hn4:=HIT.out.n4
 obtain ⟨gq,oq,cq,it,ka,kc,va,vc,rfl,hcq,hitx,k1,k2,b1,b2⟩:=IV.at (l:=b.2) (b.2.length-1) hIV (by omega)
 have HG3:=hide hg3
 have HIV:=hide hIV
 have HE2:=hide hE2
 have HF2:=hide hF2
 have HS2:=hide hs2
 have HB1:=hide b1
 have HB2:=hide b2
 have HIX:=hide hitx
 have HIO:=hide (aAp hg3)
 have HNX2:=hide (hF2.2 _ _ _ _ HNX.out (by decide) (by decide))
 have hGw:w.heap.size<w2.heap.size:=(Array.getElem?_eq_some_iff.1 HNX2.out).1
 have hgg:g≠w.heap.size:=by
  intro q9
  have h9:=HNX2.out
  rw [←q9,hg3] at h9
  simp only [Option.some.injEq,Obj.cells.injEq] at h9
  exact absurd h9.2.1 (by decide)
 generalize hLL:b.2.length=L at *
 clear hg3 hIV hE2 hF2 hs2 b1 b2 hitx hg1 HOP
 unfold lfP at HIO ⊢
 generalize hkn:it.1.length=kn at *
 generalize hvn:it.2.length=vn at *
 go_wp2_with fail
 refine HIO.out.mono ?_
 rintro e w9 ⟨rfl,hw⟩
 have hw:=hw.symm
 subst hw
 have ta:=aAm (.pointer (some ⟨g,0,none⟩)) w2
 have tb:=aCi (.pointer (some ⟨g,0,none⟩)) w2
 have r0:w2.cell? ⟨g,0,none⟩=some (.slice (some ⟨gq,oq,none⟩) L cq):=aAa HG3.out
 have x0:(0:Int)≤(L:Int)-1:=by omega
 have x1:(L:Int)-1<(L:Int):=by omega
 have x2:(L:Int)-1≤(cq:Int):=by omega
 have hwr:IntKind.i64.wrap ((L:Int)-1)=(L:Int)-1:=by rw [IntKind.wrap_i64];omega
 have htn:((L:Int)-1).toNat=L-1:=by omega
 clear HIO
 go_upto_region 7 with fail
 have HB3:=hide (aAb w2 (.cells #[.slice ka kn kc,.slice va vn vc] 70))
 have HN3:Hid ((w2.alloc (.cells #[.slice ka kn kc,.slice va vn vc] 70)).heap[w2.heap.size]?=some (.cells #[.slice ka kn kc,.slice va vn vc] 70 (0,0))):=heap_alloc_new w2 _
 have hgl:g<w2.heap.size:=(Array.getElem?_eq_some_iff.1 HG3.out).1
 generalize w2.alloc (.cells #[.slice ka kn kc,.slice va vn vc] 70)=w3 at *
 generalize hG3:w2.heap.size=G3 at *
 generalize hG:w.heap.size=G at *
 have HG33:Hid (w3.heap[g]?=some (.cells #[.slice (some ⟨gq,oq,none⟩) L cq] 117 (0,0))):=(HB3.out.block g hgl).trans HG3.out
 have HX33:Hid (w3.heap[G]?=some (.cells #[.slice none 0 0,.slice none 0 0] 70 (0,0))):=(HB3.out.block G hGw).trans HNX2.out
 have q0:w3.cell? ⟨g,0,none⟩=some (.slice (some ⟨gq,oq,none⟩) L cq):=aAa HG33.out
 have f0:w3.frozen? ⟨g,0,none⟩=false:=aAc HG33.out
 clear r0 ta tb k1 k2
 go_upto_region 8 with fail
 have HG4:Hid ((w3.setCell ⟨g,0,none⟩ (.slice (some ⟨gq,oq,none⟩) (L-1) cq)).heap[g]?=some (.cells #[.slice (some ⟨gq,oq,none⟩) (L-1) cq] 117 (0,0))):=by
  show _=_
  rw [heap_setCell_same _ _ _ _ _ _ HG33.out]
  rfl
 have HO4:Hid (∀ k,k≠g→(w3.setCell ⟨g,0,none⟩ (.slice (some ⟨gq,oq,none⟩) (L-1) cq)).heap[k]?=w3.heap[k]?):=fun k hk=>heap_setCell_other _ _ _ _ hk
 have HS4:Hid ((w3.setCell ⟨g,0,none⟩ (.slice (some ⟨gq,oq,none⟩) (L-1) cq)).heap.size=w3.heap.size):=by show _=_;simp only [World.setCell,Array.size_modify]
 have HW4:Hid (Below B w3 (w3.setCell ⟨g,0,none⟩ (.slice (some ⟨gq,oq,none⟩) (L-1) cq))):=(Below.refl _ _).setCell (p:=⟨g,0,none⟩) (by have:=HB.out;have:=HBX.out.size;show B≤g;omega) _
 generalize w3.setCell ⟨g,0,none⟩ (.slice (some ⟨gq,oq,none⟩) (L-1) cq)=w4 at *
 have HN4:Hid (w4.heap[G3]?=some (.cells #[.slice ka kn kc,.slice va vn vc] 70 (0,0))):=(HO4.out G3 (by omega)).trans HN3.out
 have HX4:Hid (w4.heap[G]?=some (.cells #[.slice none 0 0,.slice none 0 0] 70 (0,0))):=(HO4.out G (Ne.symm hgg)).trans HX33.out
 have p0:w4.cell? ⟨G3,0,none⟩=some (.slice ka kn kc):=aAa HN4.out
 have p1:w4.cell? ⟨G3,1,none⟩=some (.slice va vn vc):=aAa HN4.out
 have p2:w4.cell? ⟨G,0,none⟩=some (.slice none 0 0):=aAa HX4.out
 have p3:w4.cell? ⟨G,1,none⟩=some (.slice none 0 0):=aAa HX4.out
 have f1:w4.frozen? ⟨G,0,none⟩=false:=aAc HX4.out
 have f2:w4.frozen? ⟨G,1,none⟩=false:=aAc HX4.out
 clear q0 f0
 go_region
 all_goals
  go_wp2
  have HX5:Hid (((w4.setCell ⟨G,0,none⟩ (.slice ka kn kc)).setCell ⟨G,1,none⟩ (.slice va vn vc)).drew.heap[G]?=some (.cells #[.slice ka kn kc,.slice va vn vc] 70 (0,0))):=set2 HX4.out
  have HO5:Hid (∀ k,k≠G→((w4.setCell ⟨G,0,none⟩ (.slice ka kn kc)).setCell ⟨G,1,none⟩ (.slice va vn vc)).drew.heap[k]?=w4.heap[k]?):=fun k hk=>by
   show ((w4.setCell ⟨G,0,none⟩ (.slice ka kn kc)).setCell ⟨G,1,none⟩ (.slice va vn vc)).heap[k]?=_
   rw [heap_setCell_other _ _ _ _ (by exact hk),heap_setCell_other _ _ _ _ (by exact hk)]
  have hBG:B≤G:=by have:=HB.out;omega
  have HW5:Hid (Below B w4 ((w4.setCell ⟨G,0,none⟩ (.slice ka kn kc)).setCell ⟨G,1,none⟩ (.slice va vn vc)).drew):=(((Below.refl _ _).setCell (p:=⟨G,0,none⟩) hBG _).setCell (p:=⟨G,1,none⟩) hBG _).drew
  try simp only [Exit.inBlock,Exit.then]
  refine bodyPost_ret (aEu rfl _ _ G _ _ rfl HX5.out) rfl ?_
  generalize ((w4.setCell ⟨G,0,none⟩ (.slice ka kn kc)).setCell ⟨G,1,none⟩ (.slice va vn vc)).drew=w5 at *
  have hoth:∀ k,k<w2.heap.size→k≠g→k≠G→w5.heap[k]?=w2.heap[k]?:=fun k h1 h2 h3=>by
   rw [HO5.out k h3,HO4.out k h2,HB3.out.block k (by rw [←hG3];exact h1)]
  have hBw2:B≤w2.heap.size:=by have:=HB.out;omega
  have hbel:Below B w2 w5:=((HB3.out.mono (by omega)).trans HW4.out).trans HW5.out
  have hty:∀ (k:Nat) (cs:Array Value) (t:TypeId) (fz:Nat×Nat),w2.heap[k]?=some (.cells cs t fz)→t≠117→t≠70→w5.heap[k]?=some (.cells cs t fz):=fun k cs t fz e n1 n2=>by
   rw [hoth k (Array.getElem?_eq_some_iff.1 e).1 (fun q9=>by rw [q9,HG3.out] at e;simp only [Option.some.injEq,Obj.cells.injEq] at e;exact n1 e.2.1.symm) (fun q9=>by rw [q9,HNX2.out] at e;simp only [Option.some.injEq,Obj.cells.injEq] at e;exact n2 e.2.1.symm),e]
  have hft:FT B w2 w5:=⟨hbel,fun k cs fz e=>hty k cs _ fz e (by decide) (by decide)⟩
  have hgw:G+1≤g:=by
   have h9:(w.alloc (.cells #[.slice none 0 0,.slice none 0 0] 70)).heap.size=w.heap.size+1:=Array.size_push _
   omega
  have hwol:wolE 0 (old b)=(.inr b.2.dropLast,it):=by
   show ((.inr b.2.dropLast,b.2.getLastD ([],[])):ED 0×It)=_
   have hne:b.2≠[]:=fun q9=>by rw [q9] at hLL;simp at hLL;omega
   have h9:b.2.getLastD ([],[])=it:=by
    rw [List.getLastD_eq_getLast?,List.getLast?_eq_getElem?,hLL,HIX.out]
    rfl
   rw [h9]
  have hsz5:w2.heap.size≤w5.heap.size:=hbel.size
  have hfe2:FE B w w2:=(FE.of (w:=w) (by rw [hG];exact HBX.out) (by rw [hG];exact HB.out)).trans HF2.out
  refine ⟨lfP g,ka,kc,va,vc,by rw [hwol,hkn,hvn];rfl,?_⟩
  unfold WolR
  rw [hwol]
  refine ⟨by rw [hkn];exact HB1.out.ft hft,by rw [hvn];exact HB2.out.ft hft,⟨[g],⟨g,_,rfl,rfl,by omega,(HO5.out g (by omega)).trans HG4.out,?_⟩,by simp⟩,HE2.out.exT fun k cs t e ht=>hty k cs t _ e (by rcases ht with rfl | rfl<;>decide) (by rcases ht with rfl | rfl<;>decide),⟨hfe2.1.trans hbel,fun k cs t fz e n1 n2=>?_⟩,by omega⟩
  ·have h9:=(HIV.out.ft hft fun k cs h1 e=>by
    have h8:(w.alloc (.cells #[.slice none 0 0,.slice none 0 0] 70)).heap.size=w.heap.size+1:=Array.size_push _
    rw [hoth k (Array.getElem?_eq_some_iff.1 e).1 (fun q9=>by rw [q9,HG3.out] at e;simp only [Option.some.injEq,Obj.cells.injEq] at e;exact absurd e.2.1 (by decide)) (by omega),e]).take (m:=L-1) (by omega)
   rw [List.dropLast_eq_take,hLL]
   exact IV.up h9 (FT.refl _ _) (fun _ _ _=>rfl) (by
    have h8:(w.alloc (.cells #[.slice none 0 0,.slice none 0 0] 70)).heap.size=w.heap.size+1:=Array.size_push _
    omega)
  ·have e2:=hfe2.2 k cs t fz e n1 n2
   have hk:=(Array.getElem?_eq_some_iff.1 e).1
   rw [hoth k (Array.getElem?_eq_some_iff.1 e2).1 (by omega) (by omega),e2]
theorem BrN.bf {B B1:Nat} {w:World} {v:Value} {l:List It} {ids:List Nat} (h:BrN B B1 w v l ids):∃ gb gi gc,v=brP gb∧BF B B1 w gb gi gc l (ids.map plV)∧IR B w gi l:=by
 obtain ⟨gb,gi,gc,rfl,h1,h2,h3,h4,h5,h6⟩:=h
 obtain ⟨ys,e1,e2⟩:=h5.itc
 exact ⟨gb,gi,gc,rfl,⟨⟨h1,h2,h3⟩,by rw [List.length_map];exact h4,⟨ys,e1,e2⟩,h6,fun u hu=>by obtain ⟨k,_,rfl⟩:=List.mem_map.1 hu;rfl⟩,h5⟩
theorem BF.lt {B B1 gb gi gc:Nat} {w:World} {l:List It} {cv:List Value} (h:BF B B1 w gb gi gc l cv):gb<w.heap.size∧gi<w.heap.size∧gc<w.heap.size:=by
 obtain ⟨ic,e1,_⟩:=h.x1
 exact ⟨(Array.getElem?_eq_some_iff.1 h.x0).1,(Array.getElem?_eq_some_iff.1 e1).1,(Array.getElem?_eq_some_iff.1 h.x2).1⟩
theorem BF.low {B B1 B2 gb gi gc:Nat} {w:World} {l:List It} {cv:List Value} (h:BF B B1 w gb gi gc l cv) (h2:B2≤B1):BF B B2 w gb gi gc l cv:=⟨by have:=h.b0;omega,h.x0,h.x1,h.x2,h.one⟩
theorem BF.ne {B B1 gb gi gc:Nat} {w:World} {l:List It} {cv:List Value} (h:BF B B1 w gb gi gc l cv):gi≠gb∧gc≠gb∧gc≠gi:=by
 obtain ⟨ic,e1,_⟩:=h.x1
 have e0:=h.x0
 have e2:=h.x2
 refine ⟨fun q=>?_,fun q=>?_,fun q=>?_⟩
 ·rw [q,e0] at e1
  simp only [Option.some.injEq,Obj.cells.injEq] at e1
  exact absurd e1.2.1 (by decide)
 ·rw [q,e0] at e2
  simp only [Option.some.injEq,Obj.cells.injEq] at e2
  exact absurd e2.2.1 (by decide)
 ·rw [q,e1] at e2
  simp only [Option.some.injEq,Obj.cells.injEq] at e2
  exact absurd e2.2.1 (by decide)
theorem BF.setc {B B1 gb gi gc i:Nat} {w:World} {l:List It} {cv:List Value} {v:Value} (h:BF B B1 w gb gi gc l cv) (hB:B≤B1) (hv:v.oneCell'=true):BF B B1 (w.setCell ⟨gc,i,none⟩ v) gb gi gc l (cv.set i v)∧Ex B [gb,gi,gc] w (w.setCell ⟨gc,i,none⟩ v)∧FT B w (w.setCell ⟨gc,i,none⟩ v):=by
 obtain ⟨ic,e1,e2⟩:=h.x1
 obtain ⟨n1,n2,n3⟩:=h.ne
 have hb:=h.b0
 have oth:∀ k,k≠gc→(w.setCell ⟨gc,i,none⟩ v).heap[k]?=w.heap[k]?:=fun k hk=>heap_setCell_other _ _ _ _ hk
 have hex:Ex B [gb,gi,gc] w (w.setCell ⟨gc,i,none⟩ v):=⟨(Below.refl B w).setCell (p:=⟨gc,i,none⟩) (by show B≤gc;omega) _,fun k _ hk=>oth k (by simp only [List.mem_cons,List.not_mem_nil,or_false,not_or] at hk;exact hk.2.2)⟩
 have hft:FT B w (w.setCell ⟨gc,i,none⟩ v):=hex.ft3 h.x0 e1 h.x2 (by decide) (by decide) (by decide)
 refine ⟨⟨hb,by rw [List.length_set,oth gb (Ne.symm n2)];exact h.x0,⟨ic,(oth gi (Ne.symm n3)).trans e1,e2.ft hft⟩,?_,aA4 h.one hv⟩,hex,hft⟩
 rw [heap_setCell_same _ _ _ _ _ _ h.x2]
 simp
theorem BF.seti {B B1 gb gi gc i:Nat} {w:World} {l:List It} {cv:List Value} {it:It} {ka va:Option Addr} {kc vc:Nat} (h:BF B B1 w gb gi gc l cv) (hB:B≤B1) (hi:i<l.length) (hk:BK B w ka it.1.length kc it.1) (hv:BK B w va it.2.length vc it.2):BF B B1 ((w.setCell ⟨gi,i*2,none⟩ (.slice ka it.1.length kc)).setCell ⟨gi,i*2+1,none⟩ (.slice va it.2.length vc)) gb gi gc (l.set i it) cv∧Ex B [gb,gi,gc] w ((w.setCell ⟨gi,i*2,none⟩ (.slice ka it.1.length kc)).setCell ⟨gi,i*2+1,none⟩ (.slice va it.2.length vc))∧FT B w ((w.setCell ⟨gi,i*2,none⟩ (.slice ka it.1.length kc)).setCell ⟨gi,i*2+1,none⟩ (.slice va it.2.length vc)):=by
 obtain ⟨ic,e1,e2⟩:=h.x1
 obtain ⟨n1,n2,n3⟩:=h.ne
 have hb:=h.b0
 have oth:∀ k,k≠gi→((w.setCell ⟨gi,i*2,none⟩ (.slice ka it.1.length kc)).setCell ⟨gi,i*2+1,none⟩ (.slice va it.2.length vc)).heap[k]?=w.heap[k]?:=fun k hk=>by
  rw [heap_setCell_other _ _ _ _ (by exact hk),heap_setCell_other _ _ _ _ (by exact hk)]
 have hex:Ex B [gb,gi,gc] w ((w.setCell ⟨gi,i*2,none⟩ (.slice ka it.1.length kc)).setCell ⟨gi,i*2+1,none⟩ (.slice va it.2.length vc)):=⟨((Below.refl B w).setCell (p:=⟨gi,i*2,none⟩) (by show B≤gi;omega) _).setCell (p:=⟨gi,i*2+1,none⟩) (by show B≤gi;omega) _,fun k _ hk=>oth k (by simp only [List.mem_cons,List.not_mem_nil,or_false,not_or] at hk;exact hk.2.1)⟩
 have hft:=hex.ft3 h.x0 e1 h.x2 (by decide) (by decide) (by decide)
 refine ⟨⟨hb,by rw [List.length_set,oth gb (Ne.symm n1)];exact h.x0,⟨(ic.set (i*2) (.slice ka it.1.length kc)).set (i*2+1) (.slice va it.2.length vc),?_,?_⟩,(oth gc n3).trans h.x2,h.one⟩,hex,hft⟩
 ·have f1:(w.setCell ⟨gi,i*2,none⟩ (.slice ka it.1.length kc)).heap[gi]?=some (.cells (ic.set (i*2) (.slice ka it.1.length kc)).toArray 70 (0,0)):=by
   rw [heap_setCell_same _ _ _ _ _ _ e1]
   simp
  rw [heap_setCell_same _ _ _ _ _ _ f1]
  simp
 ·have hl:=e2.1
  refine ⟨by simp [hl],fun j x hj=>?_⟩
  by_cases q:j=i
  ·subst q
   rw [List.getElem?_set_self hi,Option.some.injEq] at hj
   subst hj
   refine ⟨ka,kc,va,vc,?_,?_,hk.ft hft,hv.ft hft⟩
   ·rw [List.getElem?_set_ne (by omega),List.getElem?_set_self (by omega)]
   ·rw [List.getElem?_set_self (by simp;omega)]
  ·rw [List.getElem?_set_ne (by omega)] at hj
   obtain ⟨a,c,b,d,k1,k2,k3,k4⟩:=e2.2 j x hj
   refine ⟨a,c,b,d,?_,?_,k3.ft hft,k4.ft hft⟩
   ·rw [List.getElem?_set_ne (by omega),List.getElem?_set_ne (by omega)];exact k1
   ·rw [List.getElem?_set_ne (by omega),List.getElem?_set_ne (by omega)];exact k2
theorem FS.ft {B B1 gb gi gc:Nat} {w w':World} {l:List It} {cv:List Value} (f:FS B [gb,gi,gc] w w') (h:BF B B1 w gb gi gc l cv):FT B w w':=by
 obtain ⟨ic,e1,_⟩:=h.x1
 refine ⟨f.1,fun k cs fz e=>f.2 k cs _ fz e (by decide) (by decide) fun q=>?_⟩
 simp only [List.mem_cons,List.not_mem_nil,or_false] at q
 rcases q with rfl | rfl | rfl
 ·rw [h.x0] at e
  simp only [Option.some.injEq,Obj.cells.injEq] at e
  exact absurd e.2.1 (by decide)
 ·rw [e1] at e
  simp only [Option.some.injEq,Obj.cells.injEq] at e
  exact absurd e.2.1 (by decide)
 ·rw [h.x2] at e
  simp only [Option.some.injEq,Obj.cells.injEq] at e
  exact absurd e.2.1 (by decide)
def WolIH [Gd] (B p q px:Nat) (s:DS) (t:PS) (h:Nat):Prop:=∀ (w:World) (rv:Value) (d n:Int) (gone:List Nat) (b:BT h),ST B p q s t w→B≤w.heap.size→EV B w px q rv d n gone→gone.length+3*h+4<900→OnD s t h b→ShB h b →
 Calls Tryz.prog 106 #[.pointer (some ⟨px,0,none⟩),plV b.id,.int .i64 ((h+1:Nat):Int)] w fun e w'=>∃ v ka kc va vc,e=.returned (.tuple #[v,.agg #[.slice ka (wolE h (old b)).2.1.length kc,.slice va (wolE h (old b)).2.2.length vc]])∧WolR B w px q rv d n gone h b v ka kc va vc w'
theorem opened_bf [Gd] {B p q px h:Nat} {s:DS} {t:PS} {w:World} {rv:Value} {d n:Int} {gone:List Nat} (hg0:Gd.g=none) (hST:ST B p q s t w) (hB:B≤w.heap.size) (hE:EV B w px q rv d n gone) (hlen:gone.length<1000) (hlf:s.life=t.life) (hd:s.down=false) (b:BT (h+1)) (hb:OnD s t (h+1) b) :
  Calls Tryz.prog 91 #[.pointer (some ⟨px,0,none⟩),plV b.1,.int .i64 ((h+1+1:Nat):Int)] w fun e w'=>∃ gb gi gc,e=.returned (brP gb)∧BF B w.heap.size w' gb gi gc b.2.1 (b.2.2.map fun k=>plV k.id)∧EV B w' px q rv d n (gone++[b.1])∧FE B w w'∧w.heap.size≤w'.heap.size∧IR B w' gi b.2.1:=by
 obtain ⟨hpg,hit,hcl,hidb,hkids⟩:=hb
 have hidm:(b.2.2.map BT.id).length=b.2.1.length+1:=by rw [List.length_map];exact hcl
 refine (aB4 hg0 hST hB hE hlen (i:=b.1) (hh:=((h+1+1:Nat):Int)) (fun ww v w'=>BrN B ww.heap.size w' v b.2.1 (b.2.2.map BT.id)) (fun ww hs hBB=>aBc b.1 (h+1+1) (by omega) hs hBB hlf hpg.lt (by rw [hpg.of];decide) hd b.2.1 (b.2.2.map BT.id) hpg.pg hidm (fun x hx=>by obtain ⟨k,hk,rfl⟩:=List.mem_map.1 hx;exact hidb k hk) hit.n1 hit.n4 hit.ok hit.so hpg.ln hpg.bt)).mono ?_
 rintro e w' ⟨v,w1,rfl,hF1,hs1,hbr,hb,hE3⟩
 obtain ⟨gb,gi,gc,rfl,hbf,hir⟩:=hbr.bf
 rw [List.map_map] at hbf
 exact ⟨gb,gi,gc,rfl,hbf.low hs1,hE3,hF1.trans (FE.of hb (Nat.le_trans hB hs1)),Nat.le_trans hs1 hb.size,hir⟩
set_option maxRecDepth 100000 in
set_option maxHeartbeats 8000000 in
theorem wol_branch [Gd] {B p q px h:Nat} {s:DS} {t:PS} (hg0:Gd.g=none) (hlf:s.life=t.life) (hd:s.down=false) (hIH:WolIH B p q px s t h):WolIH B p q px s t (h+1):=by
 intro w rv d n gone b hST hB hE hlen hb hsh
 obtain ⟨hs1,hs2,hs3⟩:=id hsh
 have hn1:1≤b.2.1.length:=hb.2.1.n1
 have hkon:∀ k∈b.2.2,OnD s t h k:=hb.2.2.2.2
 obtain ⟨kb,hkb⟩:∃ kb,b.2.2[b.2.1.length]?=some kb:=⟨_,List.getElem?_eq_getElem (by omega)⟩
 have hkm:=List.mem_of_getElem? hkb
 have HBX:=hide (aAb w (.cells #[.slice none 0 0,.slice none 0 0] 70))
 have HNX:Hid ((w.alloc (.cells #[.slice none 0 0,.slice none 0 0] 70)).heap[w.heap.size]?=some (.cells #[.slice none 0 0,.slice none 0 0] 70 (0,0))):=heap_alloc_new w _
 have HSX:Hid ((w.alloc (.cells #[.slice none 0 0,.slice none 0 0] 70)).heap.size=w.heap.size+1):=Array.size_push _
 have HOP:=hide (opened_bf hg0 (hST.later HBX.out) (Nat.le_trans hB HBX.out.size) (hE.later HBX.out) (by omega) hlf hd b hb)
 have HB:=hide hB
 have HST:=hide hST
 have HIH:=hide hIH
 have HKO:=hide hkon
 have HS3:=hide hs3
 have HKB:=hide hkb
 have hkw:=hs3 kb hkm
 have HWS:=hide (aG8 (old kb) (aBf kb hkw.1) (by rw [aCd];omega))
 have HW2:Hid (2≤(itE (old kb)).length):=by show _≤_;rw [aCd];exact hkw.2
 have HKN:=hide (show OnD s t h kb∧ShB h kb from ⟨hkon kb hkm,hkw.1⟩)
 have HEQ:=hide (aDf (e:=old b) (d:=old kb) (show ((b.2.2.map old)[b.2.1.length]?=some (old kb)) by rw [List.getElem?_map,hkb];rfl))
 have HGQ:=hide (gnW_eq (e:=old b) (d:=old kb) (show ((b.2.2.map old)[b.2.1.length]?=some (old kb)) by rw [List.getElem?_map,hkb];rfl))
 change Hid (wolE (h+1) (old b)=(.inr (setD b.2.1 ((b.2.2.map old).set b.2.1.length (wolE h (old kb)).1) b.2.1.length),(wolE h (old kb)).2)) at HEQ
 change Hid (gnW (h+1) (old b)=[b.1]++(gnW h (old kb)++gnS ((b.2.2.map old).set b.2.1.length (wolE h (old kb)).1) b.2.1.length)) at HGQ
 clear hE hb hsh hIH hkon hs3 hST hB hkw hkb hkm
 show Calls Tryz.prog 106 #[.pointer (some ⟨px,0,none⟩),plV b.1,.int .i64 ((h+1+1:Nat):Int)] w _
 unfold plV at HOP ⊢
 generalize hLL:b.2.1.length=L at *
 obtain ⟨n2,hn2⟩:∃ x,b.2.2.length=x:=⟨_,rfl⟩
 have hn2L:n2=L+1:=by omega
 obtain ⟨H,hH⟩:∃ H,h+1+1=H:=⟨_,rfl⟩
 have hH1:(H:Int)-1=((h+1:Nat):Int):=by omega
 have hHs:H<1000:=by omega
 rw [hH] at HOP ⊢
 go_enter Tryz.func106,Tryz.ntmps106
 go_wp2_with fail
 refine HOP.out.mono ?_
 rintro e w3 ⟨gb,gi,gc,rfl,hBF,hE3,hF3,hs3,-⟩
 have HBF:=hide hBF
 have HE3:=hide hE3
 have HF3:=hide hF3
 have HS3w:=hide hs3
 have HNX3:=hide (hF3.2 _ _ _ _ HNX.out (by decide) (by decide))
 have hx0:=hBF.x0
 rw [hLL,List.length_map,hn2] at hx0
 have HX0:=hide hx0
 have HIO:=hide (aAn hx0)
 have hlt:=hBF.lt
 have hb0:=hBF.b0
 clear hBF hE3 hF3 hs3 hx0 HOP
 unfold brP at HIO ⊢
 go_wp2_with fail
 refine HIO.out.mono ?_
 rintro e w9 ⟨rfl,hw⟩
 have hw:=hw.symm
 subst hw
 have ta:=aAk (.pointer (some ⟨gb,0,none⟩)) w3
 have r1:w3.cell? ⟨gb,1,none⟩=some (.slice (some ⟨gc,0,none⟩) n2 n2):=aAa HX0.out
 have r2:w3.cell? ⟨gc,L,none⟩=some (.iface 105 (.int .i64 (BT.id kb:Int))):=by
  rw [aAa HBF.out.x2,List.getElem?_toArray,List.getElem?_map,HKB.out]
  rfl
 have x0:(L:Int)<(n2:Int):=by omega
 have hwr:IntKind.i64.wrap ((H:Int)-1)=((h+1:Nat):Int):=by rw [IntKind.wrap_i64];omega
 have hBw1:B≤w3.heap.size:=by have:=HB.out;have:=HSX.out;have:=HS3w.out;omega
 have HRC:=hide (HIH.out w3 rv d n (gone++[b.1]) kb (by
  have h9:=HF3.out.st (HST.out.later HBX.out) hg0
  exact h9) hBw1 HE3.out (by rw [List.length_append,List.length_singleton];omega) HKN.out.1 HKN.out.2)
 unfold plV at HRC
 clear HIO
 go_wp2_with fail
 refine HRC.out.mono ?_
 rintro e w4 ⟨v4,ka,kc,va,vc,rfl,hR⟩
 obtain ⟨⟨vt,vv⟩,hve⟩:=NV.cells hR.2.2.1.choose_spec.1
 subst hve
 have HR:=hide hR
 clear hR ta r1 r2 HRC
 generalize hkn:(wolE h (old kb)).2.1.length=kn at *
 generalize hvn:(wolE h (old kb)).2.2.length=vn at *
 go_upto_region 10 with fail
 obtain ⟨R1,R2,⟨S,R3,R4⟩,R5,R6,R7⟩:=HR.out
 have b5:=aAb w4 (.cells #[.slice ka kn kc,.slice va vn vc] 70)
 have HN5:Hid ((w4.alloc (.cells #[.slice ka kn kc,.slice va vn vc] 70)).heap[w4.heap.size]?=some (.cells #[.slice ka kn kc,.slice va vn vc] 70 (0,0))):=heap_alloc_new w4 _
 have hw4:B≤w4.heap.size:=Nat.le_trans hBw1 R7
 have HF5:Hid (FE B w3 (w4.alloc (.cells #[.slice ka kn kc,.slice va vn vc] 70))):=R6.trans (FE.of b5 hw4)
 have HE5:=hide (R5.later b5)
 have HN5v:=hide (NV.later R3 b5 hw4 (Nat.le_refl _))
 have HK5:=hide (R1.later b5 hw4)
 have HV5:=hide (R2.later b5 hw4)
 have HS5:Hid (w4.heap.size<(w4.alloc (.cells #[.slice ka kn kc,.slice va vn vc] 70)).heap.size):=by show _<_;rw [show (w4.alloc (.cells #[.slice ka kn kc,.slice va vn vc] 70)).heap.size=w4.heap.size+1 from Array.size_push _];omega
 have HR4:=hide R4
 clear R1 R2 R3 R5 b5 HR R6 R4
 generalize w4.alloc (.cells #[.slice ka kn kc,.slice va vn vc] 70)=w5 at *
 have HBF5:=hide (HBF.out.fe HF5.out)
 have HX05:=hide (HF5.out.2 _ _ _ _ HX0.out (by decide) (by decide))
 have r1:w5.cell? ⟨gb,1,none⟩=some (.slice (some ⟨gc,0,none⟩) n2 n2):=aAa HX05.out
 have r2:w5.cell? ⟨gc,L,none⟩=some (.iface 105 (.int .i64 (BT.id kb:Int))):=by
  rw [aAa HBF5.out.x2,List.getElem?_toArray,List.getElem?_map,HKB.out]
  rfl
 have f1:w5.frozen? ⟨gc,L,none⟩=false:=aAc HBF5.out.x2
 have hGB:B≤w.heap.size+1:=by have:=HB.out;omega
 have hb1:w.heap.size+1≤gb∧w.heap.size+1≤gi∧w.heap.size+1≤gc:=by have:=HSX.out;omega
 have HBS:=hide ((HBF5.out.low (B2:=w.heap.size+1) (by have:=HSX.out;omega)).setc (i:=L) (v:=.iface vt vv) hGB rfl)
 go_upto_region 11 with fail
 generalize w5.setCell ⟨gc,L,none⟩ (.iface vt vv)=w6 at *
 obtain ⟨k1,k2,k3⟩:=HBS.out
 obtain ⟨ic5,x5,_⟩:=HBF5.out.x1
 have HF6:Hid (FE B w w6):=((FE.of HBX.out HB.out).trans (HF3.out.trans HF5.out)).more k2.fs (fun y hy=>by simp only [List.mem_cons,List.not_mem_nil,or_false] at hy;omega)
 have hw36:w3.heap.size≤w6.heap.size:=Nat.le_trans HF5.out.1.size k2.1.size
 have HE6:=hide (HE5.out.ex3 k2 HBF5.out.x0 x5 HBF5.out.x2)
 have HN6:=hide (NV.ex3 (B2:=w3.heap.size) HN5v.out k3 k2.2 hlt (Nat.le_refl _))
 have HG6:Hid (w6.heap[w4.heap.size]?=some (.cells #[.slice ka kn kc,.slice va vn vc] 70 (0,0))):=(k2.2 _ (Array.getElem?_eq_some_iff.1 HN5.out).1 (by simp only [List.mem_cons,List.not_mem_nil,or_false,not_or];omega)).trans HN5.out
 have HX6:Hid (w6.heap[w.heap.size]?=some (.cells #[.slice none 0 0,.slice none 0 0] 70 (0,0))):=by
  have h9:=HF5.out.2 _ _ _ _ HNX3.out (by decide) (by decide)
  exact (k2.2 _ (Array.getElem?_eq_some_iff.1 h9).1 (by simp only [List.mem_cons,List.not_mem_nil,or_false,not_or];omega)).trans h9
 have HK6:=hide (HK5.out.ft k3)
 have HV6:=hide (HV5.out.ft k3)
 have HBF6:=hide k1
 have hgl:=aHx (old kb)
 have HSET:=hide (aEl (B1:=w.heap.size+1) (B2:=w3.heap.size) (ks:=b.2.2) (F:=L) (e:=(wolE h (old kb)).1) (l:=b.2.1) hg0 hlf hd (HF6.out.st HST.out hg0) HE6.out (by rw [List.length_append,List.length_append,List.length_singleton];omega) k1 hGB hlt hw36 (by omega) (by omega) (by omega) (by omega) HKO.out HS3.out HN6.out HR4.out (aCn (old kb)) HWS.out.1 (by have:=HWS.out.2.1;have:=HW2.out;omega))
 clear k1 k2 k3 r1 r2 f1 x5 HBS HE5 HN5v HK5 HV5 HBF5 HX05
 go_wp2_with fail
 refine HSET.out.mono ?_
 rintro e w7 ⟨rfl,⟨S7,N7,D7⟩,E7,F7⟩
 have HN7:=hide N7
 have HD7:=hide D7
 have HE7:=hide E7
 have HFT7:=hide (F7.ft HBF6.out)
 have HG7:Hid (w7.heap[w4.heap.size]?=some (.cells #[.slice ka kn kc,.slice va vn vc] 70 (0,0))):=F7.2 _ _ _ _ HG6.out (by decide) (by decide) (by simp only [List.mem_cons,List.not_mem_nil,or_false,not_or];omega)
 have HX7:Hid (w7.heap[w.heap.size]?=some (.cells #[.slice none 0 0,.slice none 0 0] 70 (0,0))):=F7.2 _ _ _ _ HX6.out (by decide) (by decide) (by simp only [List.mem_cons,List.not_mem_nil,or_false,not_or];omega)
 have HF7:=hide (HF6.out.more F7 (fun y hy=>by simp only [List.mem_cons,List.not_mem_nil,or_false] at hy;omega))
 have HS7:Hid (w.heap.size<w7.heap.size):=(Array.getElem?_eq_some_iff.1 HX7.out).1
 clear N7 D7 E7 F7 HSET
 generalize hG4:w4.heap.size=G4 at *
 generalize hG:w.heap.size=G at *
 have p0:w7.cell? ⟨G4,0,none⟩=some (.slice ka kn kc):=aAa HG7.out
 have p1:w7.cell? ⟨G4,1,none⟩=some (.slice va vn vc):=aAa HG7.out
 have p2:w7.cell? ⟨G,0,none⟩=some (.slice none 0 0):=aAa HX7.out
 have p3:w7.cell? ⟨G,1,none⟩=some (.slice none 0 0):=aAa HX7.out
 have f1:w7.frozen? ⟨G,0,none⟩=false:=aAc HX7.out
 have f2:w7.frozen? ⟨G,1,none⟩=false:=aAc HX7.out
 go_upto_region 12 with fail
 go_region
 all_goals
  go_wp2
  have HX5:Hid (((w7.setCell ⟨G,0,none⟩ (.slice ka kn kc)).setCell ⟨G,1,none⟩ (.slice va vn vc)).drew.heap[G]?=some (.cells #[.slice ka kn kc,.slice va vn vc] 70 (0,0))):=set2 HX7.out
  have HO5:Hid (∀ k,k≠G→((w7.setCell ⟨G,0,none⟩ (.slice ka kn kc)).setCell ⟨G,1,none⟩ (.slice va vn vc)).drew.heap[k]?=w7.heap[k]?):=fun k hk=>by
   show ((w7.setCell ⟨G,0,none⟩ (.slice ka kn kc)).setCell ⟨G,1,none⟩ (.slice va vn vc)).heap[k]?=_
   rw [heap_setCell_other _ _ _ _ (by exact hk),heap_setCell_other _ _ _ _ (by exact hk)]
  have hBG:B≤G:=HB.out
  have HW5:Hid (Below B w7 ((w7.setCell ⟨G,0,none⟩ (.slice ka kn kc)).setCell ⟨G,1,none⟩ (.slice va vn vc)).drew):=(((Below.refl _ _).setCell (p:=⟨G,0,none⟩) hBG _).setCell (p:=⟨G,1,none⟩) hBG _).drew
  try simp only [Exit.inBlock,Exit.then]
  refine bodyPost_ret (aEu rfl _ _ G _ _ rfl HX5.out) rfl ?_
  generalize ((w7.setCell ⟨G,0,none⟩ (.slice ka kn kc)).setCell ⟨G,1,none⟩ (.slice va vn vc)).drew=w8 at *
  have hty:∀ (k:Nat) (cs:Array Value) (t:TypeId) (fz:Nat×Nat),w7.heap[k]?=some (.cells cs t fz)→t≠70→w8.heap[k]?=some (.cells cs t fz):=fun k cs t fz e n2=>by
   rw [HO5.out k (fun q9=>by rw [q9,HX7.out] at e;simp only [Option.some.injEq,Obj.cells.injEq] at e;exact n2 e.2.1.symm),e]
  have hft:FT B w7 w8:=⟨HW5.out,fun k cs fz e=>hty k cs _ fz e (by decide)⟩
  refine ⟨brP gb,ka,kc,va,vc,by rw [HEQ.out,hkn,hvn];rfl,?_⟩
  unfold WolR
  rw [HEQ.out,HGQ.out]
  refine ⟨(HK6.out.ft HFT7.out).ft hft,(HV6.out.ft HFT7.out).ft hft,⟨gb::S7,NV.up hft (fun k h1 h2=>HO5.out k (by omega)) (by omega) HN7.out,HD7.out⟩,?_,⟨HF7.out.1.trans HW5.out,fun k cs t fz e n1 n2=>?_⟩,by have:=HW5.out.size;have:=HS7.out;omega⟩
  ·have h9:=HE7.out.exT fun k cs t e ht=>hty k cs t _ e (by rcases ht with rfl | rfl<;>decide)
   simpa only [List.append_assoc] using h9
  ·have e2:=HF7.out.2 k cs t fz e n1 n2
   have hk:=(Array.getElem?_eq_some_iff.1 e).1
   rw [HO5.out k (by omega),e2]
theorem wol_ok [Gd] {B p q px:Nat} {s:DS} {t:PS} (hg0:Gd.g=none) (hlf:s.life=t.life) (hd:s.down=false):∀ h,WolIH B p q px s t h
 | 0=>fun w rv d n gone b hST hB hE hlen hb hsh=>wol_leaf hg0 hST hB hlf hd hE (by omega) b hb
 | h+1=>wol_branch hg0 hlf hd (wol_ok hg0 hlf hd h)
def DelR (B:Nat) (w:World) (px q:Nat) (rv:Value) (d n:Int) (gone:List Nat) (h:Nat) (b:BT h) (k:List Nat) (v:Value) (w':World):Prop :=
 ((delE h (old b) k).2=true→(∃ S,NV B w.heap.size w' h (delE h (old b) k).1 S v∧S.Nodup)∧EV B w' px q rv d n (gone++gnD h (old b) k))∧(∃ x:TypeId×Value,v=.iface x.1 x.2)∧FE B w w'∧w.heap.size≤w'.heap.size∧∃ gone',EV B w' px q rv d n gone'
set_option maxRecDepth 100000 in
set_option maxHeartbeats 4000000 in
theorem del_leaf [Gd] {B p q px:Nat} {s:DS} {t:PS} {w:World} {rv:Value} {d n:Int} {gone:List Nat} (hg0:Gd.g=none) (hST:ST B p q s t w) (hB:B≤w.heap.size) (hlf:s.life=t.life) (hd:s.down=false) (hE:EV B w px q rv d n gone) (hlen:gone.length<900) (b:BT 0) (hb:OnD s t 0 b) (k:List Nat) {ka:Option Addr} {kc:Nat} (hk:BK B w ka k.length kc k) :
  Calls Tryz.prog 72 #[.pointer (some ⟨px,0,none⟩),plV b.1,.int .i64 1,.slice ka k.length kc] w fun e w'=>∃ v,e=.returned (.tuple #[v,.bool (delE 0 (old b) k).2])∧DelR B w px q rv d n gone 0 b k v w':=by
 obtain ⟨hpg,hit⟩:=hb
 have HOP:=hide (aB4 hg0 hST hB hE (by omega) (i:=b.1) (hh:=1) (fun ww v w'=>LfN B ww.heap.size w' v b.2) (fun ww hs hBB=>aBp b.1 hs hBB hlf hpg.lt (by rw [hpg.of];decide) hd b.2 hpg.pg hit.n1 hit.n4 hit.ok hit.so hpg.ln hpg.bt))
 have HK:=hide hk
 have HB:=hide hB
 have HIT:=hide hit
 clear hST hE hpg hit hk hB hlf hd
 unfold plV at HOP ⊢
 obtain ⟨bb,hbb⟩:∃ x,(delE 0 (old b) k).2=x:=⟨_,rfl⟩
 rw [hbb]
 have hbb':hasI b.2 k=bb:=hbb
 generalize hkn:k.length=kn at *
 go_enter Tryz.func72,Tryz.ntmps72
 go_wp2_with fail
 refine HOP.out.mono ?_
 rintro e w3 ⟨v3,w1,rfl,hF1,hs1,⟨gl,gi,rfl,z1,z2,z3,z4⟩,hb3,hE3⟩
 have HF3:=hide (hF1.trans (FE.of hb3 (Nat.le_trans HB.out hs1)))
 have HS3:=hide (Nat.le_trans hs1 hb3.size)
 have HZ3:=hide z3
 have HZ4:=hide z4
 have HE3:=hide hE3
 have hgli:w.heap.size≤gl:=Nat.le_trans hs1 z1
 have hgii:w.heap.size≤gi:=Nat.le_trans hs1 z2
 have HIO:=hide (aAp z3)
 unfold lfP at HIO
 clear hF1 hs1 z3 z4 hb3 hE3 HOP
 have HBw3:Hid (B≤w3.heap.size):=Nat.le_trans HB.out HS3.out
 have HK3:=hide (HK.out.ft HF3.out.ft)
 have hn4:=HIT.out.n4
 have hn1:=HIT.out.n1
 have HFI:=hide (find_ok (w:=w3) HZ4.out HBw3.out HK3.out.1 (by omega) HIT.out.so rfl)
 have hfle:=aA1 b.2 k
 rw [hbb'] at HFI
 generalize hLL:b.2.length=L at *
 generalize hFi:fndI b.2 k=Fi at *
 go_wp2_with fail
 refine HIO.out.mono ?_
 rintro e w9 ⟨rfl,hw⟩
 have hw:=hw.symm
 subst hw
 clear HIO
 go_wp2_with fail
 refine HFI.out.mono ?_
 rintro e w4 ⟨rfl,hb4⟩
 have HB4:=hide hb4
 have ta:=aAm (.pointer (some ⟨gl,0,none⟩)) w4
 have tb:=aCi (.pointer (some ⟨gl,0,none⟩)) w4
 have HG4:=hide ((hb4.block gl (Array.getElem?_eq_some_iff.1 HZ3.out).1).trans HZ3.out)
 obtain ⟨ys,hg1,hg2⟩:=(HZ4.out.later hb4 HBw3.out).itc
 have HG1:=hide hg1
 have HG2:=hide hg2
 have HF4:=hide (HF3.out.trans (FE.of hb4 HBw3.out))
 have HE4:=hide (HE3.out.later hb4)
 have HS4:=hide (Nat.le_trans HS3.out hb4.size)
 clear hb4 hg1 hg2 HFI
 cases bb with
 | false =>
  go_wp2
  go_ret2
  refine ⟨_,rfl,fun h9=>?_,⟨(_,_),rfl⟩,HF4.out,HS4.out,_,HE4.out⟩
  rw [hbb] at h9
  cases h9
 | true =>
  have hFL:Fi<L:=by
   obtain ⟨x,hx,_⟩:=(HIT.out.so.has k).1 hbb'
   rw [hFi] at hx
   have:=(List.getElem?_eq_some_iff.1 hx).1
   omega
  have HSD:=hide (sdel_ok (i:=Fi) HG1.out (by rw [HG2.out.1,hLL]) (by omega) hFL HG2.out.one)
  have e1:((Fi+1:Nat):Int)=(Fi:Int)+1:=by omega
  rw [e1] at HSD
  have hwr:IntKind.i64.wrap ((Fi:Int)+1)=(Fi:Int)+1:=by rw [IntKind.wrap_i64];omega
  have r0:w4.cell? ⟨gl,0,none⟩=some (.slice (some ⟨gi,0,none⟩) L L):=aAa HG4.out
  go_wp2_with fail
  refine HSD.out.mono ?_
  rintro e w5 ⟨rfl,hg5,hot5,hbe5⟩
  have hne:gl≠gi:=by
   intro q9
   have h9:=HG4.out
   rw [q9,HG1.out] at h9
   simp only [Option.some.injEq,Obj.cells.injEq] at h9
   exact absurd h9.2.1 (by decide)
  have HG5:=hide hg5
  have HO5:=hide hot5
  have HBL5:=hide (hbe5 B (Nat.le_trans HB.out hgii))
  have HGL5:Hid (w5.heap[gl]?=some (.cells #[.slice (some ⟨gi,0,none⟩) L L] 117 (0,0))):=(hot5 gl hne).trans HG4.out
  have r1:w5.cell? ⟨gl,0,none⟩=some (.slice (some ⟨gi,0,none⟩) L L):=aAa HGL5.out
  have f1:w5.frozen? ⟨gl,0,none⟩=false:=aAc HGL5.out
  clear hg5 hot5 hbe5 HSD r0 ta tb
  have tb:=aCi (.pointer (some ⟨gl,0,none⟩)) w5
  go_wp2
  go_ret2
  have HG6:(w5.setCell ⟨gl,0,none⟩ (.slice (some ⟨gi,0,none⟩) (L-1) L)).heap[gl]?=some (.cells #[.slice (some ⟨gi,0,none⟩) (L-1) L] 117 (0,0)):=by
   rw [heap_setCell_same _ _ _ _ _ _ HGL5.out]
   rfl
  have oth:∀ j,j≠gl→j≠gi→(w5.setCell ⟨gl,0,none⟩ (.slice (some ⟨gi,0,none⟩) (L-1) L)).heap[j]?=w4.heap[j]?:=fun j h1 h2=>by
   rw [heap_setCell_other _ _ _ _ (by exact h1),HO5.out j h2]
  have hgi6:(w5.setCell ⟨gl,0,none⟩ (.slice (some ⟨gi,0,none⟩) (L-1) L)).heap[gi]?=_:=(heap_setCell_other _ _ _ _ (by exact Ne.symm hne)).trans HG5.out
  have hbel:Below B w4 (w5.setCell ⟨gl,0,none⟩ (.slice (some ⟨gi,0,none⟩) (L-1) L)):=HBL5.out.trans ((Below.refl B w5).setCell (p:=⟨gl,0,none⟩) (Nat.le_trans HB.out hgli) _)
  generalize w5.setCell ⟨gl,0,none⟩ (.slice (some ⟨gi,0,none⟩) (L-1) L)=w6 at *
  have hty:∀ (j:Nat) (cs:Array Value) (t:TypeId) (fz:Nat×Nat),w4.heap[j]?=some (.cells cs t fz)→t≠117→t≠70→w6.heap[j]?=some (.cells cs t fz):=fun j cs t fz e n1 n2=>by
   rw [oth j (fun q9=>by rw [q9,HG4.out] at e;simp only [Option.some.injEq,Obj.cells.injEq] at e;exact n1 e.2.1.symm) (fun q9=>by rw [q9,HG1.out] at e;simp only [Option.some.injEq,Obj.cells.injEq] at e;exact n2 e.2.1.symm),e]
  have hft:FT B w4 w6:=⟨hbel,fun j cs fz e=>hty j cs _ fz e (by decide) (by decide)⟩
  refine ⟨_,rfl,fun _=>⟨⟨[gl],?_,by simp⟩,HE4.out.exT fun j cs t e ht=>hty j cs t _ e (by rcases ht with rfl | rfl<;>decide) (by rcases ht with rfl | rfl<;>decide)⟩,⟨(_,_),rfl⟩,⟨HF4.out.1.trans hbel,fun j cs t fz e n1 n2=>?_⟩,by have:=hbel.size;have:=HS4.out;omega,_,HE4.out.exT fun j cs t e ht=>hty j cs t _ e (by rcases ht with rfl | rfl<;>decide) (by rcases ht with rfl | rfl<;>decide)⟩
  ·have hle:(b.2.eraseIdx Fi).length=L-1:=by rw [List.length_eraseIdx,hLL,if_pos hFL]
   show NV B w.heap.size w6 0 (.inr (delL b.2 k)) [gl] (lfP gl)
   rw [delL_erase HIT.out.so hbb',hFi]
   refine ⟨gl,_,rfl,rfl,hgli,HG6,?_⟩
   have h9:=IV.row (B1:=w.heap.size) (c:=L) ⟨_,hgi6⟩ (HG2.out.erase.ft hft) hgii (by omega) (by omega)
   rw [hle] at h9
   exact h9
  ·have e2:=HF4.out.2 j cs t fz e n1 n2
   have hj:=(Array.getElem?_eq_some_iff.1 e).1
   rw [oth j (by omega) (by omega),e2]
def DelIH [Gd] (B p q px:Nat) (s:DS) (t:PS) (h:Nat):Prop:=∀ (w:World) (rv:Value) (d n:Int) (gone:List Nat) (b:BT h) (k:List Nat) (ka:Option Addr) (kc:Nat),ST B p q s t w→B≤w.heap.size→EV B w px q rv d n gone→gone.length+3*h+4<900→OnD s t h b→ShB h b→Srt (flB h b)→BK B w ka k.length kc k →
 Calls Tryz.prog 72 #[.pointer (some ⟨px,0,none⟩),plV b.id,.int .i64 ((h+1:Nat):Int),.slice ka k.length kc] w fun e w'=>∃ v,e=.returned (.tuple #[v,.bool (delE h (old b) k).2])∧DelR B w px q rv d n gone h b k v w'
set_option maxRecDepth 100000 in
set_option maxHeartbeats 8000000 in
theorem del_branch [Gd] {B p q px h:Nat} {s:DS} {t:PS} (hg0:Gd.g=none) (hlf:s.life=t.life) (hd:s.down=false) (hIH:DelIH B p q px s t h):DelIH B p q px s t (h+1):=by
 intro w rv d n gone b k ka kc hST hB hE hlen hb hsh hso hk
 obtain ⟨hs1,hs2,hs3⟩:=id hsh
 have hit:=hb.2.1
 have hn1:1≤b.2.1.length:=hit.n1
 have hkon:∀ k∈b.2.2,OnD s t h k:=hb.2.2.2.2
 have hfle:=aA1 b.2.1 k
 obtain ⟨kb,hkb⟩:∃ kb,b.2.2[fndI b.2.1 k]?=some kb:=⟨_,List.getElem?_eq_getElem (by omega)⟩
 have hkm:=List.mem_of_getElem? hkb
 have hkw:=hs3 kb hkm
 have hget:(opS (old b)).2[fndI (opS (old b)).1 k]?=some (old kb):=by
  show (b.2.2.map old)[fndI b.2.1 k]?=_
  rw [List.getElem?_map,hkb];rfl
 have hkso:Srt (flB h kb):=kid_srt (l:=b.2.1) (cs:=b.2.2.map (flB h)) (i:=fndI b.2.1 k) (by rw [List.length_map];exact hs2) (by rw [List.getElem?_map,hkb];rfl) hso
 have HOP:=hide (opened_bf hg0 hST hB hE (by omega) hlf hd b hb)
 have HB:=hide hB
 have HST:=hide hST
 have HIH:=hide hIH
 have HKO:=hide hkon
 have HS3:=hide hs3
 have HKB:=hide hkb
 have HK:=hide hk
 have HIT:=hide hit
 have HSE:=hide (aBf kb hkw.1)
 have HW2:Hid (2≤(itE (old kb)).length):=by show _≤_;rw [aCd];exact hkw.2
 have HKN:=hide (show OnD s t h kb∧ShB h kb∧Srt (flB h kb) from ⟨hkon kb hkm,hkw.1,hkso⟩)
 have HEQ:=hide (aDh hget)
 have HGQ:=hide (gnD_eq hget)
 change Hid (delE (h+1) (old b) k=if hasI b.2.1 k then (.inr (setD (b.2.1.set (fndI b.2.1 k) (wolE h (old kb)).2) ((b.2.2.map old).set (fndI b.2.1 k) (wolE h (old kb)).1) (fndI b.2.1 k)),true)
   else if (delE h (old kb) k).2 then (.inr (setD b.2.1 ((b.2.2.map old).set (fndI b.2.1 k) (delE h (old kb) k).1) (fndI b.2.1 k)),true)
   else (.inr (b.2.1,(b.2.2.map old).set (fndI b.2.1 k) (delE h (old kb) k).1),false)) at HEQ
 change Hid (gnD (h+1) (old b) k=[b.1]++(if hasI b.2.1 k then gnW h (old kb)++gnS ((b.2.2.map old).set (fndI b.2.1 k) (wolE h (old kb)).1) (fndI b.2.1 k)
   else gnD h (old kb) k++(if (delE h (old kb) k).2 then gnS ((b.2.2.map old).set (fndI b.2.1 k) (delE h (old kb) k).1) (fndI b.2.1 k) else []))) at HGQ
 clear hE hb hsh hIH hkon hs3 hST hB hkw hkb hkm hk hit hget hso hkso
 show Calls Tryz.prog 72 #[.pointer (some ⟨px,0,none⟩),plV b.1,.int .i64 ((h+1+1:Nat):Int),.slice ka k.length kc] w _
 unfold plV at HOP ⊢
 generalize hLL:b.2.1.length=L at *
 generalize hFi:fndI b.2.1 k=Fi at *
 obtain ⟨hb0,hhb⟩:∃ x,hasI b.2.1 k=x:=⟨_,rfl⟩
 obtain ⟨n2,hn2⟩:∃ x,b.2.2.length=x:=⟨_,rfl⟩
 have hn2L:n2=L+1:=by omega
 obtain ⟨H,hH⟩:∃ H,h+1+1=H:=⟨_,rfl⟩
 have hHs:H<1000:=by omega
 rw [hH] at HOP ⊢
 generalize hkn:k.length=kn at *
 go_enter Tryz.func72,Tryz.ntmps72
 go_wp2_with fail
 refine HOP.out.mono ?_
 rintro e w3 ⟨gb,gi,gc,rfl,hBF,hE3,hF3,hs3,hIR⟩
 have HBF:=hide hBF
 have HE3:=hide hE3
 have HF3:=hide hF3
 have HS3w:=hide hs3
 have HIR:=hide hIR
 have hx0:=hBF.x0
 rw [hLL,List.length_map,hn2] at hx0
 have HX0:=hide hx0
 have HIO:=hide (aAn hx0)
 have hlt:=hBF.lt
 have hb1:=hBF.b0
 have HBw3:Hid (B≤w3.heap.size):=Nat.le_trans HB.out hs3
 have HK3:=hide (HK.out.ft hF3.ft)
 have hn4:=HIT.out.n4
 have HFI:=hide (find_ok (w:=w3) hIR HBw3.out HK3.out.1 (by omega) HIT.out.so hLL)
 rw [hFi,hhb] at HFI
 clear hBF hE3 hF3 hs3 hx0 HOP hIR
 unfold brP at HIO ⊢
 go_wp2_with fail
 refine HIO.out.mono ?_
 rintro e w9 ⟨rfl,hw⟩
 have hw:=hw.symm
 subst hw
 clear HIO
 go_wp2_with fail
 refine HFI.out.mono ?_
 rintro e w4 ⟨rfl,hb4⟩
 have HF4:=hide (HF3.out.trans (FE.of hb4 HBw3.out))
 have HBF4:=hide (HBF.out.fe (FE.of hb4 HBw3.out))
 have HE4:=hide (HE3.out.later hb4)
 have HK4:=hide (HK3.out.later hb4 HBw3.out)
 have HX4:=hide ((hb4.block gb hlt.1).trans HX0.out)
 have hw34:w3.heap.size≤w4.heap.size:=hb4.size
 have HBw4:Hid (B≤w4.heap.size):=Nat.le_trans HBw3.out hb4.size
 have ta:=aAk (.pointer (some ⟨gb,0,none⟩)) w4
 have hwr:IntKind.i64.wrap ((H:Int)-1)=((h+1:Nat):Int):=by rw [IntKind.wrap_i64];omega
 have hwr2:IntKind.i64.wrap ((h:Int)+1)=(h:Int)+1:=by rw [IntKind.wrap_i64];omega
 have hcs:((h+1:Nat):Int)=(h:Int)+1:=by omega
 have xF:(Fi:Int)<(n2:Int):=by omega
 have r0:w4.cell? ⟨gb,0,none⟩=some (.slice (some ⟨gi,0,none⟩) L L):=aAa HX4.out
 have r1:w4.cell? ⟨gb,1,none⟩=some (.slice (some ⟨gc,0,none⟩) n2 n2):=aAa HX4.out
 have r2:w4.cell? ⟨gc,Fi,none⟩=some (.iface 105 (.int .i64 (BT.id kb:Int))):=by
  rw [aAa HBF4.out.x2,List.getElem?_toArray,List.getElem?_map,HKB.out]
  rfl
 have hgbi:=HBF4.out.ne
 clear hb4 HFI HIR HX0 HBF HE3 HK3 HF3
 generalize hG:w.heap.size=G at *
 cases hb0 with
 | true =>
  have hFL:Fi<L:=by
   obtain ⟨x,hx,_⟩:=(HIT.out.so.has k).1 hhb
   rw [hFi] at hx
   have:=(List.getElem?_eq_some_iff.1 hx).1
   omega
  have xL:(Fi:Int)<(L:Int):=by omega
  have HRC:=hide (wol_ok (B:=B) (p:=p) (q:=q) (px:=px) hg0 hlf hd h w4.drew rv d n (gone++[b.1]) kb ((HF4.out.st HST.out hg0).later (Below.refl _ _).drew) HBw4.out (HE4.out.later (Below.refl _ _).drew) (by rw [List.length_append,List.length_singleton];omega) HKN.out.1 HKN.out.2.1)
  unfold plV at HRC
  rw [hcs] at HRC
  have HWS:=hide (aG8 (old kb) HSE.out (by have:=HW2.out;omega))
  generalize hkn':(wolE h (old kb)).2.1.length=wn at *
  generalize hvn':(wolE h (old kb)).2.2.length=vn at *
  have HX2:Hid ((fun wx=>wx.cell? ⟨gb,0,none⟩=some (.slice (some ⟨gi,0,none⟩) L L)∧wx.cell? ⟨gb,1,none⟩=some (.slice (some ⟨gc,0,none⟩) n2 n2)) w4.drew):=⟨r0,r1⟩
  go_upto_region 10 with fail
  refine wp_region_noPanic ?_
  refine wp_region_held_drew (S:=fun wx=>wx.cell? ⟨gb,0,none⟩=some (.slice (some ⟨gi,0,none⟩) L L)∧wx.cell? ⟨gb,1,none⟩=some (.slice (some ⟨gc,0,none⟩) n2 n2)) (by kernel_rfl) HX2.out (fun hHeld=>?_)
  refine wpAnyH_tk 0 52 ?_
  refine wpAnyH_tk 1 53 ?_
  refine wpAnyH_tk 2 54 ?_
  refine wpAnyH_tk 3 55 ?_
  refine wpAnyH_tk 4 56 ?_
  refine wpAnyH_tk 5 57 ?_
  refine wpAnyH_tk 6 58 ?_
  refine wpAnyH_tk 7 59 ?_
  refine wpAnyH_tk 8 60 ?_
  refine wpAnyH_tk 9 61 ?_
  refine wpAnyH_tk 10 62 ?_
  refine wpAnyH_tk 11 63 ?_
  refine wpAnyH_tk 12 64 ?_
  refine wpAnyH_tk 13 65 ?_
  refine wpAnyH_tk 14 66 ?_
  refine wpAnyH_tk 15 67 ?_
  refine aAd (i:=16) (d:=68) (v:=?vc16) (by kernel_rfl) (by kernel_rfl) (by kernel_rfl) (by kernel_rfl) (fun _ _ _ h=>h) ?hyc16 (by assumption) ?restc16
  case hyc16 =>
   intro oi ho
   simp only [List.getElem?_toArray,List.getElem?_cons_succ,List.getElem?_cons_zero,Option.some.injEq] at ho
   subst ho
   refine Or.inl ⟨by rfl,?_⟩
   intro wx hSw
   try dsimp only at hSw
   go_simp
   try rfl
   rw [if_pos (by omega)]
  try simp only [Act.put,List.setIfInBounds_toArray,List.set_cons_zero,List.set_cons_succ]
  refine wpAnyH_tk 18 70 ?_
  refine wpAnyH_tk 19 71 ?_
  refine wpAnyH_cm 17 ?_;intro o ho K hK;simp only [List.getElem?_toArray,List.getElem?_cons_succ,List.getElem?_cons_zero,Option.some.injEq] at ho;subst ho
  go_simp
  refine hK.out _ _ HX2.out (fun hHeld=>?_)
  clear hK K
  refine wpAnyH_cm 20 ?_;intro o ho K hK;simp only [List.getElem?_toArray,List.getElem?_cons_succ,List.getElem?_cons_zero,Option.some.injEq] at ho;subst ho
  go_simp
  refine HRC.out.mono ?_
  rintro e w5 ⟨v5,la,lc,va,vc,rfl,hP5⟩
  obtain ⟨⟨vt,vv⟩,hve⟩:=NV.cells hP5.2.2.1.choose_spec.1
  subst hve
  have HBF5:=hide (HBF4.out.fe ((FE.of (Below.refl _ _).drew HBw4.out).trans hP5.2.2.2.2.1))
  have HX05:Hid (w5.heap[gb]?=_):=((FE.of (Below.refl _ _).drew HBw4.out).trans hP5.2.2.2.2.1).2 _ _ _ _ HX4.out (by decide) (by decide)
  have HX5:Hid ((fun wx=>wx.cell? ⟨gb,0,none⟩=some (.slice (some ⟨gi,0,none⟩) L L)∧wx.cell? ⟨gb,1,none⟩=some (.slice (some ⟨gc,0,none⟩) n2 n2)) w5):=⟨aAa HX05.out,aAa HX05.out⟩
  have HP5:=hide hP5
  clear hP5 hHeld
  refine hK.out _ _ HX5.out (fun hHeld=>?_)
  clear hK K
  refine wpAnyH_tk 21 51 ?_
  refine wpAnyH_tk 22 73 ?_
  refine wpAnyH_tk 23 74 ?_
  refine aAd (i:=24) (d:=75) (v:=?vc24) (by kernel_rfl) (by kernel_rfl) (by kernel_rfl) (by kernel_rfl) (fun _ _ _ h=>h) ?hyc24 (by assumption) ?restc24
  case hyc24 =>
   intro oi ho
   simp only [List.getElem?_toArray,List.getElem?_cons_succ,List.getElem?_cons_zero,Option.some.injEq] at ho
   subst ho
   refine Or.inl ⟨by rfl,?_⟩
   intro wx hSw
   try dsimp only at hSw
   go_simp
   try rfl
   rw [if_pos (by omega)]
  try simp only [Act.put,List.setIfInBounds_toArray,List.set_cons_zero,List.set_cons_succ]
  obtain ⟨R1,R2,⟨SS,R3,R4⟩,R5,R6,R7⟩:=HP5.out
  obtain ⟨ic5,x5,i5⟩:=HBF5.out.x1
  have HF5:Hid (FE B w w5):=(HF4.out.trans (FE.of (Below.refl _ _).drew HBw4.out)).trans R6
  have hw45:w4.heap.size≤w5.heap.size:=R7
  have q2:w5.cell? ⟨gc,Fi,none⟩=some (.iface 105 (.int .i64 (BT.id kb:Int))):=by
   rw [aAa HBF5.out.x2,List.getElem?_toArray,List.getElem?_map,HKB.out]
   rfl
  have f2:w5.frozen? ⟨gc,Fi,none⟩=false:=aAc HBF5.out.x2
  have hBG:B≤G:=HB.out
  have HBS:=hide ((HBF5.out).setc (i:=Fi) (v:=.iface vt vv) hBG rfl)
  have HX6:Hid ((fun wx=>wx.cell? ⟨gb,0,none⟩=some (.slice (some ⟨gi,0,none⟩) L L)∧wx.cell? ⟨gb,1,none⟩=some (.slice (some ⟨gc,0,none⟩) n2 n2)) (w5.setCell ⟨gc,Fi,none⟩ (.iface vt vv))):=by
   have h9:=HBS.out.1.x0
   rw [hLL,List.length_set,List.length_map,hn2] at h9
   exact ⟨aAa h9,aAa h9⟩
  have HR1:=hide R1
  have HR2:=hide R2
  have HR3:=hide R3
  have HR4:=hide R4
  have HR5:=hide R5
  clear R1 R2 R3 R4 R5 R6 R7 x5 i5 HP5
  refine wpAnyH_cm 25 ?_;intro o ho K hK;simp only [List.getElem?_toArray,List.getElem?_cons_succ,List.getElem?_cons_zero,Option.some.injEq] at ho;subst ho
  go_simp
  refine hK.out _ _ HX6.out (fun hHeld=>?_)
  clear hK K
  try simp only [Act.put,List.setIfInBounds_toArray,List.set_cons_zero,List.set_cons_succ]
  refine wpAnyH_tk 26 76 ?_
  clear q2 f2
  generalize w5.setCell ⟨gc,Fi,none⟩ (.iface vt vv)=w6 at *
  obtain ⟨k61,k62,k63⟩:=HBS.out
  have HBF6:=hide k61
  have HEX6:=hide k62
  have HFT6:=hide k63
  clear k61 k62 k63 HBS
  have hfe5:=HF5.out
  obtain ⟨ic6,x6,i6⟩:=HBF6.out.x1
  have hil:ic6.length=L*2:=by rw [i6.1,hLL]
  obtain ⟨u0,hu0⟩:∃ u,ic6[Fi*2]?=some u:=⟨_,List.getElem?_eq_getElem (by omega)⟩
  obtain ⟨u1,hu1⟩:∃ u,ic6[Fi*2+1]?=some u:=⟨_,List.getElem?_eq_getElem (by omega)⟩
  have q0:w6.cell? ⟨gi,Fi*2,none⟩=some u0:=by rw [aAa x6,List.getElem?_toArray];exact hu0
  have q1:w6.cell? ⟨gi,Fi*2+1,none⟩=some u1:=by rw [aAa x6,List.getElem?_toArray];exact hu1
  have f0:w6.frozen? ⟨gi,Fi*2,none⟩=false:=aAc x6
  have f1:w6.frozen? ⟨gi,Fi*2+1,none⟩=false:=aAc x6
  have HBS:=hide (HBF6.out.seti (i:=Fi) (it:=(wolE h (old kb)).2) (ka:=la) (kc:=lc) (va:=va) (vc:=vc) hBG (by omega) (HR1.out.ft HFT6.out) (HR2.out.ft HFT6.out))
  rw [hkn',hvn'] at HBS
  have HX7:Hid ((fun wx=>wx.cell? ⟨gb,0,none⟩=some (.slice (some ⟨gi,0,none⟩) L L)∧wx.cell? ⟨gb,1,none⟩=some (.slice (some ⟨gc,0,none⟩) n2 n2)) ((w6.setCell ⟨gi,Fi*2,none⟩ (.slice la wn lc)).setCell ⟨gi,Fi*2+1,none⟩ (.slice va vn vc))):=by
   have h9:=HBS.out.1.x0
   rw [List.length_set,hLL,List.length_set,List.length_map,hn2] at h9
   exact ⟨aAa h9,aAa h9⟩
  clear x6 i6 hu0 hu1
  refine wpAnyH_cm 27 ?_;intro o ho K hK;simp only [List.getElem?_toArray,List.getElem?_cons_succ,List.getElem?_cons_zero,Option.some.injEq] at ho;subst ho
  go_simp
  refine hK.out _ _ HX7.out (fun hHeld=>?_)
  clear hK K
  try simp only [Act.put,List.setIfInBounds_toArray,List.set_cons_zero,List.set_cons_succ]
  refine wpAnyH_done (by kernel_rfl) ?_ _
  refine NoPanic.normal ?_
  clear hHeld q0 q1 f0 f1 HX2 HX5 HX6 HX7
  generalize (w6.setCell ⟨gi,Fi*2,none⟩ (.slice la wn lc)).setCell ⟨gi,Fi*2+1,none⟩ (.slice va vn vc)=w7 at *
  obtain ⟨k71,k72,k73⟩:=HBS.out
  obtain ⟨ic5,x5,i5⟩:=HBF5.out.x1
  obtain ⟨ic6',x6',i6'⟩:=HBF6.out.x1
  have hex7:FS B [gb,gi,gc] w5 w7:=HEX6.out.fs.trans k72.fs
  have HF7:Hid (FE B w w7):=HF5.out.more hex7 (fun y hy=>by simp only [List.mem_cons,List.not_mem_nil,or_false] at hy;omega)
  have HE7:=hide ((HR5.out.ex3 HEX6.out HBF5.out.x0 x5 HBF5.out.x2).ex3 k72 HBF6.out.x0 x6' HBF6.out.x2)
  have hlt4:gb<w4.heap.size∧gi<w4.heap.size∧gc<w4.heap.size:=by omega
  have HN7:=hide (NV.ex3 (B2:=w4.heap.size) (B3:=w4.heap.size) (NV.ex3 (B2:=w4.heap.size) (B3:=w4.heap.size) HR3.out HFT6.out HEX6.out.2 hlt4 (Nat.le_refl _)) k73 k72.2 hlt4 (Nat.le_refl _))
  have hw7:w4.heap.size≤w7.heap.size:=Nat.le_trans hw45 hex7.1.size
  have hll:(b.2.1.set Fi (wolE h (old kb)).2).length=L:=by rw [List.length_set];exact hLL
  have hgl:=aHx (old kb)
  have HSET:=hide (aEl (B1:=G) (B2:=w4.heap.size) (ks:=b.2.2) (F:=Fi) (e:=(wolE h (old kb)).1) (l:=b.2.1.set Fi (wolE h (old kb)).2) hg0 hlf hd (HF7.out.st HST.out hg0) HE7.out (by rw [List.length_append,List.length_append,List.length_singleton];omega) k71 hBG hlt4 hw7 (by omega) (by omega) (by omega) (by omega) HKO.out HS3.out HN7.out HR4.out (aCn (old kb)) HWS.out.1 (by have:=HWS.out.2.1;have:=HW2.out;omega))
  rw [hcs] at HSET
  clear k71 k72 k73 x5 i5 x6' i6'
  go_wp2_with fail
  refine HSET.out.mono ?_
  rintro e w8 ⟨rfl,⟨S8,N8,D8⟩,E8,F8⟩
  have HN8:=hide N8
  have HD8:=hide D8
  have HE8:=hide E8
  have HF8:=hide (HF7.out.more F8 (fun y hy=>by simp only [List.mem_cons,List.not_mem_nil,or_false] at hy;omega))
  have HS8:Hid (w7.heap.size≤w8.heap.size):=F8.1.size
  clear N8 D8 E8 F8 HSET
  go_wp2
  go_ret2
  rw [hhb,if_pos rfl] at HEQ
  rw [hhb,if_pos rfl] at HGQ
  refine ⟨brP gb,by rw [HEQ.out];rfl,fun _=>⟨⟨gb::S8,by rw [HEQ.out,hG];exact HN8.out,HD8.out⟩,?_⟩,⟨(_,_),rfl⟩,HF8.out,by rw [hG];have:=HS8.out;omega,_,HE8.out⟩
  rw [HGQ.out]
  have h9:=HE8.out
  simpa only [List.append_assoc] using h9
 | false =>
  have HRC:=hide (HIH.out w4.drew rv d n (gone++[b.1]) kb k ka kc ((HF4.out.st HST.out hg0).later (Below.refl _ _).drew) HBw4.out (HE4.out.later (Below.refl _ _).drew) (by rw [List.length_append,List.length_singleton];omega) HKN.out.1 HKN.out.2.1 HKN.out.2.2 (by rw [hkn];exact HK4.out.later (Below.refl _ _).drew HBw4.out))
  unfold plV at HRC
  rw [hcs,hkn] at HRC
  obtain ⟨b2,hb2⟩:∃ x,(delE h (old kb) k).2=x:=⟨_,rfl⟩
  rw [hb2] at HRC
  have HX2:Hid ((fun wx=>wx.cell? ⟨gb,1,none⟩=some (.slice (some ⟨gc,0,none⟩) n2 n2)) w4.drew):=r1
  go_upto_region 11 with fail
  refine wp_region_noPanic ?_
  refine wp_region_held_drew (S:=fun wx=>wx.cell? ⟨gb,1,none⟩=some (.slice (some ⟨gc,0,none⟩) n2 n2)) (by kernel_rfl) HX2.out (fun hHeld=>?_)
  refine wpAnyH_tk 0 78 ?_
  refine wpAnyH_tk 1 79 ?_
  refine wpAnyH_tk 2 80 ?_
  refine wpAnyH_tk 3 81 ?_
  refine wpAnyH_tk 4 82 ?_
  refine wpAnyH_tk 5 83 ?_
  refine wpAnyH_tk 6 84 ?_
  refine wpAnyH_tk 7 85 ?_
  refine wpAnyH_tk 8 86 ?_
  refine wpAnyH_tk 9 87 ?_
  refine wpAnyH_tk 10 88 ?_
  refine aAd (i:=11) (d:=89) (v:=?vd11) (by kernel_rfl) (by kernel_rfl) (by kernel_rfl) (by kernel_rfl) (fun _ _ _ h=>h) ?hyd11 (by assumption) ?restd11
  case hyd11 =>
   intro oi ho
   simp only [List.getElem?_toArray,List.getElem?_cons_succ,List.getElem?_cons_zero,Option.some.injEq] at ho
   subst ho
   refine Or.inl ⟨by rfl,?_⟩
   intro wx hSw
   try dsimp only at hSw
   go_simp
   try rfl
   rw [if_pos (by omega)]
  try simp only [Act.put,List.setIfInBounds_toArray,List.set_cons_zero,List.set_cons_succ]
  refine wpAnyH_tk 13 91 ?_
  refine wpAnyH_tk 14 92 ?_
  refine wpAnyH_tk 15 93 ?_
  refine wpAnyH_cm 12 ?_;intro o ho K hK;simp only [List.getElem?_toArray,List.getElem?_cons_succ,List.getElem?_cons_zero,Option.some.injEq] at ho;subst ho
  go_simp
  refine hK.out _ _ HX2.out (fun hHeld=>?_)
  clear hK K
  refine wpAnyH_cm 16 ?_;intro o ho K hK;simp only [List.getElem?_toArray,List.getElem?_cons_succ,List.getElem?_cons_zero,Option.some.injEq] at ho;subst ho
  go_simp
  refine HRC.out.mono ?_
  rintro e w5 ⟨v5,rfl,hP5⟩
  obtain ⟨⟨vt,vv⟩,hve⟩:=hP5.2.1
  subst hve
  have HBF5:=hide (HBF4.out.fe ((FE.of (Below.refl _ _).drew HBw4.out).trans hP5.2.2.1))
  have HX05:Hid (w5.heap[gb]?=_):=((FE.of (Below.refl _ _).drew HBw4.out).trans hP5.2.2.1).2 _ _ _ _ HX4.out (by decide) (by decide)
  have HX5:Hid ((fun wx=>wx.cell? ⟨gb,1,none⟩=some (.slice (some ⟨gc,0,none⟩) n2 n2)) w5):=aAa HX05.out
  have HP5:=hide hP5
  clear hP5 hHeld
  refine hK.out _ _ HX5.out (fun hHeld=>?_)
  clear hK K
  refine wpAnyH_tk 17 77 ?_
  refine wpAnyH_tk 18 95 ?_
  refine wpAnyH_tk 19 96 ?_
  refine aAd (i:=20) (d:=97) (v:=?vd20) (by kernel_rfl) (by kernel_rfl) (by kernel_rfl) (by kernel_rfl) (fun _ _ _ h=>h) ?hyd20 (by assumption) ?restd20
  case hyd20 =>
   intro oi ho
   simp only [List.getElem?_toArray,List.getElem?_cons_succ,List.getElem?_cons_zero,Option.some.injEq] at ho
   subst ho
   refine Or.inl ⟨by rfl,?_⟩
   intro wx hSw
   try dsimp only at hSw
   go_simp
   try rfl
   rw [if_pos (by omega)]
  try simp only [Act.put,List.setIfInBounds_toArray,List.set_cons_zero,List.set_cons_succ]
  obtain ⟨R1,R2,R6,R7,gone8,R8⟩:=HP5.out
  have HF5:Hid (FE B w w5):=(HF4.out.trans (FE.of (Below.refl _ _).drew HBw4.out)).trans R6
  have hw45:w4.heap.size≤w5.heap.size:=R7
  have q2:w5.cell? ⟨gc,Fi,none⟩=some (.iface 105 (.int .i64 (BT.id kb:Int))):=by
   rw [aAa HBF5.out.x2,List.getElem?_toArray,List.getElem?_map,HKB.out]
   rfl
  have f2:w5.frozen? ⟨gc,Fi,none⟩=false:=aAc HBF5.out.x2
  have hBG:B≤G:=HB.out
  have HBS:=hide ((HBF5.out).setc (i:=Fi) (v:=.iface vt vv) hBG rfl)
  have HX6:Hid ((fun wx=>wx.cell? ⟨gb,1,none⟩=some (.slice (some ⟨gc,0,none⟩) n2 n2)) (w5.setCell ⟨gc,Fi,none⟩ (.iface vt vv))):=by
   have h9:=HBS.out.1.x0
   rw [hLL,List.length_set,List.length_map,hn2] at h9
   exact aAa h9
  have HR1:=hide R1
  have HR8:=hide R8
  clear R1 R2 R6 R7 R8 HP5
  refine wpAnyH_cm 21 ?_;intro o ho K hK;simp only [List.getElem?_toArray,List.getElem?_cons_succ,List.getElem?_cons_zero,Option.some.injEq] at ho;subst ho
  go_simp
  refine hK.out _ _ HX6.out (fun hHeld=>?_)
  clear hK K
  try simp only [Act.put,List.setIfInBounds_toArray,List.set_cons_zero,List.set_cons_succ]
  refine wpAnyH_tk 22 11 ?_
  refine wpAnyH_done (by kernel_rfl) ?_ _
  refine NoPanic.normal ?_
  clear hHeld q2 f2 HX2 HX5 HX6
  generalize w5.setCell ⟨gc,Fi,none⟩ (.iface vt vv)=w6 at *
  obtain ⟨k61,k62,k63⟩:=HBS.out
  obtain ⟨ic5,x5,i5⟩:=HBF5.out.x1
  have HF6:Hid (FE B w w6):=HF5.out.more k62.fs (fun y hy=>by simp only [List.mem_cons,List.not_mem_nil,or_false] at hy;omega)
  have hw6:w4.heap.size≤w6.heap.size:=Nat.le_trans hw45 k62.1.size
  rw [hhb,if_neg (by decide),hb2] at HEQ
  rw [hhb,if_neg (by decide),hb2] at HGQ
  cases b2 with
  | false =>
   rw [if_neg (by decide)] at HEQ
   have HE9:=hide (HR8.out.ex3 k62 HBF5.out.x0 x5 HBF5.out.x2)
   clear k61 k62 k63 x5 i5
   go_wp2
   go_ret2
   refine ⟨brP gb,by rw [HEQ.out];rfl,fun h9=>?_,⟨(_,_),rfl⟩,HF6.out,by rw [hG];omega,_,HE9.out⟩
   rw [HEQ.out] at h9
   cases h9
  | true =>
   rw [if_pos rfl] at HEQ HGQ
   obtain ⟨⟨SS,R3,R4⟩,R5⟩:=HR1.out hb2
   have hlt4:gb<w4.heap.size∧gi<w4.heap.size∧gc<w4.heap.size:=by omega
   have HE6:=hide (R5.ex3 k62 HBF5.out.x0 x5 HBF5.out.x2)
   have HN6:=hide (NV.ex3 (B2:=w4.heap.size) (B3:=w4.heap.size) R3 k63 k62.2 hlt4 (Nat.le_refl _))
   have HDS:=hide (Sh_del (old kb) k HSE.out (by have:=HW2.out;omega) (by rw [aBw];exact HKN.out.2.2) hb2)
   have hgl:=aHy (old kb) k
   have HSET:=hide (aEl (B1:=G) (B2:=w4.heap.size) (ks:=b.2.2) (F:=Fi) (e:=(delE h (old kb) k).1) (l:=b.2.1) hg0 hlf hd (HF6.out.st HST.out hg0) HE6.out (by rw [List.length_append,List.length_append,List.length_singleton];omega) k61 hBG hlt4 hw6 (by omega) (by omega) (by omega) (by omega) HKO.out HS3.out HN6.out R4 (aCe (old kb) k) HDS.out.1 (by have:=HDS.out.2.1;have:=HW2.out;omega))
   rw [hcs] at HSET
   clear k61 k62 k63 x5 i5 R3 R4 R5
   go_wp2_with fail
   refine HSET.out.mono ?_
   rintro e w8 ⟨rfl,⟨S8,N8,D8⟩,E8,F8⟩
   have HN8:=hide N8
   have HD8:=hide D8
   have HE8:=hide E8
   have HF8:=hide (HF6.out.more F8 (fun y hy=>by simp only [List.mem_cons,List.not_mem_nil,or_false] at hy;omega))
   have HS8:Hid (w6.heap.size≤w8.heap.size):=F8.1.size
   clear N8 D8 E8 F8 HSET
   go_wp2
   go_ret2
   refine ⟨brP gb,by rw [HEQ.out];rfl,fun _=>⟨⟨gb::S8,by rw [HEQ.out,hG];exact HN8.out,HD8.out⟩,?_⟩,⟨(_,_),rfl⟩,HF8.out,by rw [hG];have:=HS8.out;omega,_,HE8.out⟩
   rw [HGQ.out]
   have h9:=HE8.out
   simpa only [List.append_assoc] using h9
theorem del_ok [Gd] {B p q px:Nat} {s:DS} {t:PS} (hg0:Gd.g=none) (hlf:s.life=t.life) (hd:s.down=false):∀ h,DelIH B p q px s t h
 | 0=>fun w rv d n gone b k ka kc hST hB hE hlen hb hsh hso hk=>del_leaf hg0 hST hB hlf hd hE (by omega) b hb k hk
 | h+1=>del_branch hg0 hlf hd (del_ok hg0 hlf hd h)
end Go.Proofs.YtimdcaofgapnlabGreat
