import Derived.Test.YtimdcaofgapnlaaGreatZ49
import Derived.Test.YtimdcaofgapnlaaGreatZ48
set_option maxRecDepth 100000
set_option maxHeartbeats 16000000
set_option linter.unusedVariables false
namespace Go.Proofs.YtimdcaofgapnlaaGreat
open Go.RowKit
theorem cnt_bsum:∀ (l:List Nat),cntF l=bsum (fun i=>decide (l.getD i 0=1)) l.length
 | []=>rfl
 | a::l=>by
  have ih:=cnt_bsum l
  unfold cntF at ih ⊢
  rw [List.length_cons,Nat.add_comm l.length 1,aB0,List.count_cons,ih]
  have e1:bsum (fun i=>decide ((a::l).getD i 0=1)) 1=if a == 1 then 1 else 0:=by
   show 0+(decide (a=1)).toNat=_
   by_cases c:a=1
   ·simp [c]
   ·simp [c]
  have e2:bsum (fun i=>decide ((a::l).getD (1+i) 0=1)) l.length=bsum (fun i=>decide (l.getD i 0=1)) l.length:=aCr fun i _=>by
   show decide ((a::l).getD (1+i) 0=1)=_
   rw [Nat.add_comm 1 i]
   rfl
  rw [e1,e2,Nat.add_comm]
theorem aHd {f g k:Nat→Bool}:∀ {n:Nat},(∀ i,i<n→(f i).toNat+(g i).toNat+(k i).toNat=1)→bsum f n+bsum g n+bsum k n=n
 | 0,_=>rfl
 | n+1,h=>by
  have ih:=aHd (n:=n) fun i hi=>h i (by omega)
  have h1:=h n (by omega)
  show bsum f n+(f n).toNat+(bsum g n+(g n).toNat)+(bsum k n+(k n).toNat)=n+1
  omega
theorem Cmt.count {s s':DS} {t t':PS} {nd L:List Nat} {root:Nat} (c:Cmt s t nd root s' t') (h:Full3 t) (hn:PgS nd L) (hL:∀ x∈L,t.st.getD x 0=2∧x<t.st.length) (hd0:t.st.getD 0 0=0∧t.st.getD 1 0=0) (hd:t'.st.getD 0 0=0∧t'.st.getD 1 0=0) (h2:2≤t.st.length):cntF t'.st+L.length+2=t.st.length:=by
 have b1:bsum (fun j=>decide (j∈L)) t.st.length=L.length:=aGf hn.2.1 fun x hx=>(hL x hx).2
 have b2:bsum (fun j=>decide (j∈[0,1])) t.st.length=2:=aGf (l:=[0,1]) (by decide) fun x hx=>by
  simp at hx
  omega
 have b3:=cnt_bsum t'.st
 rw [c.len] at b3
 rw [b3,←b1,←b2]
 conv=>lhs;arg 2;rw [b2]
 have:=aHd (f:=fun i=>decide (t'.st.getD i 0=1)) (g:=fun j=>decide (j∈L)) (k:=fun j=>decide (j∈[0,1])) (n:=t.st.length) fun i hi=>?_
 ·rw [b2] at this
  rw [this]
 ·have e:=c.st i hi
  show (decide (t'.st.getD i 0=1)).toNat+(decide (i∈L)).toNat+(decide (i∈[0,1])).toNat=1
  by_cases q2:i<2
  ·have hi0:t'.st.getD i 0=0∧t.st.getD i 0=0:=by
    rcases (show i=0∨i=1 by omega) with rfl | rfl
    ·exact ⟨hd.1,hd0.1⟩
    ·exact ⟨hd.2,hd0.2⟩
   have m1:i∉L:=fun q=>by have:=(hL i q).1;omega
   have m2:i∈[0,1]:=by simp;omega
   rw [hi0.1,decide_eq_false m1,decide_eq_true m2]
   rfl
  ·have m2:i∉[0,1]:=by simp;omega
   rw [decide_eq_false m2]
   by_cases q:i∈L
   ·have h9:=(hL i q).1
    have hh:hsP nd i=true:=by rw [hn.2.2.2 i];exact decide_eq_true q
    rw [if_neg (by rintro (q9 | ⟨_,q9,_⟩)<;>simp_all)] at e
    rw [e,h9,decide_eq_true q]
    rfl
   ·have hh:hsP nd i=false:=by rw [hn.2.2.2 i];exact decide_eq_false q
    have e1:t'.st.getD i 0=1:=by
     rw [e]
     rcases h i (by omega) hi with q9 | q9 | q9
     ·rw [if_neg (by rintro (q8 | q8)<;>omega),q9]
     ·rw [if_pos (Or.inr ⟨by omega,hh,q9⟩)]
     ·rw [if_pos (Or.inl q9)]
    rw [e1,decide_eq_false q]
    rfl
theorem pg_le:∀ {h:Nat} {b:BT h},ShB h b→1≤(BT.it b).length→(pgB h b).length≤(flB h b).length
 | 0,b,hs,h2=>h2
 | h+1,b,⟨s1,s2,s3⟩,h2=>by
  have h2:1≤b.2.1.length:=h2
  have hw:(flB (h+1) b).length=b.2.1.length+((b.2.2.map (flB h)).map List.length).sum:=aBg _ _ (by rw [List.length_map];exact s2)
  have key:∀ (c:List (BT h)),(∀ k∈c,ShB h k∧2≤(BT.it k).length)→(c.map (pgB h)).flatten.length≤((c.map (flB h)).map List.length).sum:=by
   intro c
   induction c with
   | nil=>intro _;simp
   | cons k c ih =>
    intro hc
    have i1:=ih fun x hx=>hc x (List.mem_cons_of_mem _ hx)
    obtain ⟨a1,a2⟩:=hc k List.mem_cons_self
    have i2:=pg_le a1 (by omega)
    simp only [List.map_cons,List.flatten_cons,lA,List.sum_cons]
    omega
  have hk:=key b.2.2 s3
  show (b.1::(b.2.2.map (pgB h)).flatten).length≤_
  rw [List.length_cons,hw]
  omega
structure Shp (n:Nat) (d:Nat) (P:Nat) (F:Nat) (M:Nat):Prop where
 pn:P≤n
 ls:0<d→2*3 ^ (d-1)≤n+1
 all:F+P+2=M
theorem Tr.shp {s s':DS} {t t':PS} {st:StT} {l:List It} (h:Tr s t st l) (hsn:t.st.length=s.n) (c:Cmt s t st.pgs st.root.toNat s' t') (f:Full3 t) (hd0:t.st.getD 0 0=0∧t.st.getD 1 0=0) (hd:t'.st.getD 0 0=0∧t'.st.getD 1 0=0) (h2:2≤t.st.length) :
  ∃ (d:Nat) (L:List Nat),st.depth=(d:Int)∧st.keys=((l.length:Nat):Int)∧PgS st.pgs L∧Shp l.length d L.length (cntF t'.st) t.st.length:=by
 have hk:=h.keys
 rcases h with ⟨_,h1,_,rfl,h5⟩ | ⟨h,b,e1,e2,e3,e4,e5,e6,e7,e8,e9⟩
 ·exact ⟨0,[],h1,hk,h5,by simp,fun q=>absurd q (by decide),c.count f h5 (fun x hx=>by simp at hx) hd0 hd h2⟩
 ·refine ⟨h+1,pgB h b,e2,hk,e9,?_,fun _=>?_,c.count f e9 (fun x hx=>?_) hd0 hd h2⟩
  ·rw [←e4];exact pg_le e7 e8
  ·rw [←e4];exact deepR e7 e8
  ·have:=e6.held x hx
   exact ⟨this.1,by rw [hsn];exact this.2⟩
def lsN (j:Nat):Nat:=2*3 ^ (j-1)-1
theorem aH0 {j:Nat} (h:1≤j):lsN (j+1)=lsN j*3+2:=by
 obtain ⟨k,rfl⟩:∃ k,j=k+1:=⟨j-1,by omega⟩
 unfold lsN
 show 2*3 ^ (k+1)-1=(2*3 ^ k-1)*3+2
 have:0<3 ^ k:=Nat.pow_pos (by decide)
 rw [Nat.pow_succ]
 omega
theorem lsN_le {j:Nat} (h:j≤5):lsN j≤161:=by
 rcases (show j=0∨j=1∨j=2∨j=3∨j=4∨j=5 by omega) with rfl | rfl | rfl | rfl | rfl | rfl<;>decide
theorem its_ok {W:World} {aa:Option Addr} {m cc:Nat} {ys:List Nat} (h:BS W aa m cc ys) (h0:0<m) (h6:m≤64):ItOk (ys,ys):=by
 have hl:=h.hlen
 refine ⟨fun q9=>?_,?_,?_,h.hbyte,h.hbyte⟩
 ·have q9:ys=[]:=q9
  rw [q9] at hl
  simp at hl
  omega
 ·show ys.length≤64
  omega
 ·show ys.length≤1800
  omega
section
variable [Gd] {B p q g j:Nat} {W w:World}
def SHI [Gd] (B p q g j:Nat) (W wx:World):Prop:=∃ c s t now last left l,TI B p q g 400 c 80 last l s t now left W wx∧l.length≤j∧c≤j
def SHJ [Gd] (B p q g j:Nat) (W wx:World):Prop:=∃ c s t now last left l,TI B p q g 400 c 89 last l s t now left W wx∧l.length≤j+1∧c≤j
def SHK [Gd] (B p q g j n d P F:Nat) (W wx:World):Prop:=∃ c s t now last l L,TI B p q g 400 c 80 last l s t now ((F:Nat):Int) W wx∧l.length≤j+1∧c≤j+1∧now.depth=(d:Int)∧d≤4∧now.keys=(n:Int)∧l.length=n∧PgS now.pgs L∧L.length=P∧Shp n d P F 400
theorem OpT.shi {g:Nat} (h:OpT B p g 400 w) (hb:Below B W w):∃ q,SHI B p q g 0 W w:=by
 obtain ⟨q,s0,t0,st0,left0,hTI,hleft⟩:=h.ti (by decide) hb
 exact ⟨q,0,s0,t0,st0,st0,left0,[],hTI.more (by decide),nR _,nR _⟩
theorem SHI.be (h:SHI B p q g j W w):Below B W w:=by
 obtain ⟨_,_,_,_,_,_,_,h,_⟩:=h
 exact h.be
theorem SHI.later {w':World} (h:SHI B p q g j W w) (hb:Below w.heap.size w w'):SHI B p q g j W w':=by
 obtain ⟨c,s,t,now,last,left,l,h,h2⟩:=h
 exact ⟨c,s,t,now,last,left,l,h.later hb,h2⟩
theorem SHI.next (h:SHI B p q g j W w):SHI B p q g (j+1) W w:=by
 obtain ⟨c,s,t,now,last,left,l,h,h2,h3⟩:=h
 exact ⟨c,s,t,now,last,left,l,h,by omega,by omega⟩
theorem SHK.next {n d P F:Nat} (h:SHK B p q g j n d P F W w):SHI B p q g (j+1) W w:=by
 obtain ⟨c,s,t,now,last,l,L,h,h2,h3,_⟩:=h
 exact ⟨c,s,t,now,last,_,l,h,h2,h3⟩
theorem SHI.Put (hg0:Gd.g=none) (h:SHI B p q g j W w) (hj:j<80) {aa:Option Addr} {m cc:Nat} {ys:List Nat} (hit:ItOk (ys,ys)) (hl:ys.length=m) (hk:BK B w aa m cc ys) :
  Calls Tryz.prog 11 #[.pointer (some ⟨g,0,none⟩),.slice aa m cc,.slice aa m cc] w fun e w'=>e=.returned (.int .i64 0)∧SHJ B p q g j W w':=by
 obtain ⟨c,s,t,now,last,left,l,h,h2,h3⟩:=h
 refine (h.Put hg0 (by omega) (by omega) (by omega) (ys,ys) hit (kn:=m) (vn:=m) hl hl hk hk).mono ?_
 rintro e w' ⟨rfl,s',t',now',left',h'⟩
 have hln:=aHs l (ys,ys)
 refine ⟨rfl,c,s',t',now',last,left',_,h',?_,h3⟩
 rw [hln];split<;>omega
theorem SHI.Delete (hg0:Gd.g=none) (h:SHI B p q g j W w) {aa:Option Addr} {m cc:Nat} {ys:List Nat} (hl:ys.length=m) (h0:0<m) (h6:m≤64) (hk:BK B w aa m cc ys) :
  Calls Tryz.prog 13 #[.pointer (some ⟨g,0,none⟩),.slice aa m cc] w fun e w'=>(∃ b:Bool,e=.returned (.tuple #[.bool b,.int .i64 0]))∧SHJ B p q g j W w':=by
 obtain ⟨c,s,t,now,last,left,l,h,h2,h3⟩:=h
 refine (h.Delete hg0 (by omega) (by omega) ys hl h0 h6 hk).mono ?_
 rintro e w' ⟨rfl,s',t',now',left',h'⟩
 have hln:(delL l ys).length≤l.length:=List.length_filter_le _ _
 exact ⟨⟨_,rfl⟩,c,s',t',now',last,left',_,h',by omega,h3⟩
theorem SHJ.commit (h:SHJ B p q g j W w) (hj:j<80) :
  Calls Tryz.prog 16 #[.pointer (some ⟨g,0,none⟩)] w fun e w'=>e=.returned (.int .i64 0)∧∃ n d P F,SHK B p q g j n d P F W w':=by
 obtain ⟨c,s,t,now,last,left,l,h,h2,h3⟩:=h
 refine (h.commit (by decide) (by omega)).mono ?_
 rintro e w' ⟨rfl,s',t',k1,k2,k3⟩
 have hlen:t.st.length=400:=by rw [h.tm.sn];exact h.sn
 obtain ⟨d,L,e1,e2,e3,e4⟩:=h.tr.shp h.tm.sn k1 h.f3 h.tm.hd k2.tm.hd (by omega)
 rw [hlen] at e4
 have a1:=e4.all
 have a2:=e4.pn
 have a3:=k2.dep
 refine ⟨rfl,l.length,d,L.length,cntF t'.st,c+1,s',t',now,now,l,L,⟨k2.tm,k2.tr,k2.ln,k2.sn,by rw [k3];omega,by omega,k2.nm,k2.f3,k2.be⟩,h2,by omega,e1,by omega,e2,rfl,e3,rfl,e4⟩
variable {n d P F:Nat}
theorem SHK.shp (h:SHK B p q g j n d P F W w):Shp n d P F 400∧d≤4∧n≤j+1:=by
 obtain ⟨_,_,_,_,_,_,_,_,a,_,_,b,_,c,_,_,h⟩:=h
 exact ⟨h,b,by omega⟩
theorem SHK.check (h:SHK B p q g j n d P F W w) (hj:j<80):Calls Tryz.prog 24 #[.pointer (some ⟨g,0,none⟩)] w fun e w'=>e=.returned (.int .i64 0)∧SHK B p q g j n d P F W w':=by
 obtain ⟨c,s,t,now,last,l,L,h,h2,h3,h4,h5,h6⟩:=h
 refine (Check_ok h.tm h.tr (by omega) (by omega)).mono ?_
 rintro e w' ⟨rfl,hb⟩
 exact ⟨rfl,c,s,t,now,last,l,L,h.later hb,h2,h3,h4,h5,h6⟩
theorem SHK.len (h:SHK B p q g j n d P F W w):Calls Tryz.prog 22 #[.pointer (some ⟨g,0,none⟩)] w fun e w'=>e=.returned (.int .i64 (n:Int))∧w'=w:=by
 obtain ⟨c,s,t,now,last,l,L,h,h2,h3,h4,h5,h6,h7⟩:=h
 have:=Len_any h.tm
 rwa [h6] at this
theorem SHK.depth (h:SHK B p q g j n d P F W w):Calls Tryz.prog 26 #[.pointer (some ⟨g,0,none⟩)] w fun e w'=>e=.returned (.int .i64 (d:Int))∧w'=w:=by
 obtain ⟨c,s,t,now,last,l,L,h,h2,h3,h4,h5,h6,h7⟩:=h
 have:=Depth_any h.tm
 rwa [h4] at this
theorem SHK.pages (h:SHK B p q g j n d P F W w):Calls Tryz.prog 27 #[.pointer (some ⟨g,0,none⟩)] w fun e w'=>e=.returned (.int .i64 (P:Int))∧w'=w:=by
 obtain ⟨c,s,t,now,last,l,L,h,h2,h3,h4,h5,h6,h7,h8,h9,_⟩:=h
 have:=Pages_any h.tm h8
 rwa [h9] at this
theorem SHK.left (h:SHK B p q g j n d P F W w):Calls Tryz.prog 28 #[.pointer (some ⟨g,0,none⟩)] w fun e w'=>e=.returned (.int .i64 (F:Int))∧w'=w:=by
 obtain ⟨c,s,t,now,last,l,L,h,_⟩:=h
 exact Left_any h.tm
end
end Go.Proofs.YtimdcaofgapnlaaGreat
