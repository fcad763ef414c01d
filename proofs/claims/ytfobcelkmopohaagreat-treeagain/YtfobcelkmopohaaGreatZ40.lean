import Derived.Test.YtfobcelkmopohaaGreatZ39
set_option maxRecDepth 100000
set_option maxHeartbeats 16000000
set_option linter.unusedVariables false
namespace Go.Proofs.YtfobcelkmopohaaGreat
open Go.RowKit
def valL (L:List It) (k:List Nat):Option (List Nat):=(L.find? fun y=>decide (y.1=k)).map (·.2)
theorem Srt.inj {L:List It} (hs:Srt L) {x y:It} (hx:x∈L) (hy:y∈L) (h:x.1=y.1):x=y:=by
 obtain ⟨i,hi,rfl⟩:=List.getElem_of_mem hx
 obtain ⟨j,hj,rfl⟩:=List.getElem_of_mem hy
 have hp:=List.pairwise_iff_getElem.1 hs
 rcases Nat.lt_trichotomy i j with q | q | q
 ·have:=hp i j hi hj q
  rw [h,aBe] at this
  omega
 ·subst q;rfl
 ·have:=hp j i hj hi q
  rw [h,aBe] at this
  omega
theorem aFe {L:List It} (hs:Srt L) {x:It} (hx:x∈L):valL L x.1=some x.2:=by
 unfold valL
 cases h:L.find? fun y=>decide (y.1=x.1) with
 | none =>
  have:=List.find?_eq_none.1 h x hx
  simp at this
 | some y =>
  have h1:=List.mem_of_find?_eq_some h
  have h2:=List.find?_some h
  simp only [decide_eq_true_eq] at h2
  rw [hs.inj h1 hx h2]
  rfl
theorem aFo {L:List It} {k:List Nat} (h:∀ x∈L,x.1≠k):valL L k=none:=by
 unfold valL
 rw [List.find?_eq_none.2 fun x hx=>by simpa using h x hx]
 rfl
theorem valL_same {L M:List It} (hs:Srt L) (hsm:Srt M) {k:List Nat} (h1:∀ x∈M,x∈L) (h2:∀ x∈L,x.1=k->x∈M):valL L k=valL M k:=by
 by_cases c:∃ x∈M,x.1=k
 ·obtain ⟨x,hx,rfl⟩:=c
  rw [aFe hs (h1 x hx),aFe hsm hx]
 ·rw [aFo (L:=M) fun x hx q=>c ⟨x,hx,q⟩,aFo fun x hx q=>c ⟨x,h2 x hx q,q⟩]
theorem aFn:∀ (l:List It) (c:List (List It)),c.length=l.length+1->∀ x∈l,x∈weave l c:=fun l c h x hx=>(aCp l c h).subset hx
theorem valL_kid {l:List It} {cs:List (List It)} {c:List It} {k:List Nat} (hs:Srt (weave l cs)) (hl:cs.length=l.length+1) (hc:cs[fndI l k]?=some c) (hh:hasI l k=false):valL (weave l cs) k=valL c k:=by
 refine valL_same hs (Srt.kid hs hl (mG hc)) (fun x hx=>(aC1 l cs c hl (mG hc)).subset hx) fun x hx ek=>?_
 have e0:0<=cmpB x.1 k:=by rw [ek,aBe];omega
 have hf:x∈frm (weave l cs) k:=List.mem_filter.2 ⟨hx,by simpa using e0⟩
 rw [frm_weave hs hl hc,hh] at hf
 simp only [Bool.false_eq_true,if_false] at hf
 rcases List.mem_append.1 hf with q | q
 ·exact (List.mem_filter.1 q).1
 ·exfalso
  have hsl:Srt l:=List.Pairwise.sublist (aCp l cs hl) hs
  have hle:=aA1 l k
  by_cases e:fndI l k=l.length
  ·rw [wvR_end (by omega)] at q
   simp at q
  ·obtain ⟨z,hz⟩:∃ z,l[fndI l k]?=some z:=⟨_,gE (by omega)⟩
   obtain ⟨c2,hc2⟩:∃ c2,cs[fndI l k+1]?=some c2:=⟨_,gE (by omega)⟩
   have hw:=aAv l cs (fndI l k) c hl hc
   rw [hw] at hs
   have p5:=hs.app.2.1.app.2.1
   have hz0:=(hsl.part k).2 z (by
    have hd:l.drop (fndI l k)=z::l.drop (fndI l k+1):=by rw [<-(List.getElem?_eq_some_iff.1 hz).2,List.getElem_cons_drop]
    rw [hd];simp)
   have hzk:cmpB z.1 k≠0:=fun q3=>by
    have:=(hsl.has k).2 ⟨z,hz,aDo q3⟩
    rw [hh] at this
    cases this
   rw [aDr hz hc2] at q p5
   rcases List.mem_cons.1 q with q | q
   ·rw [q] at ek
    rw [ek,aBe] at hzk
    exact hzk rfl
   ·have h1:=(List.pairwise_cons.1 p5).1 x q
    rw [ek] at h1
    omega
def VlR (B:Nat) (o:Option (List Nat)) (e:Ending) (w':World):Prop:=match o with
 | some x=>∃ v,e=.returned (.tuple #[v,.bool true])/\KV B w' v x
 | none=>e=.returned (.tuple #[.slice none 0 0,.bool false])
def VlI (s:DS) (t:PS) (o:Option (List Nat)) (k:List Nat) (a d:Value):Prop :=
 (d=.int .i64 0/\o=none/\∃ i:Nat,a=.int .i64 (i:Int))\/∃ (h:Nat) (b:BT h),a=.int .i64 (BT.id b:Int)/\d=.int .i64 ((h:Int)+1)/\h<100000/\OnD s t h b/\Srt (flB h b)/\valL (flB h b) k=o
theorem valueIn_any [Gd] {B p q gs so:Nat} {s:DS} {t:PS} {w:World} {st:StT} {l:List It} (hST:ST B p q s t w) (hB:B<=w.heap.size) (hlf:s.life=t.life) (hdn:s.down=false) (hTr:Tr s t st l) (hdp:st.depth<100000) (hr0:w.cell? ⟨gs,so,none⟩=some (.int .i64 st.root)) (hd0:w.cell? ⟨gs,so+1,none⟩=some (.int .i64 st.depth)) {ka:Option Addr} {kn kc:Nat} {key:List Nat} (hk:BK B w ka kn kc key) :
  Calls Tryz.prog 91 #[.pointer (some ⟨q,0,none⟩),.pointer (some ⟨gs,so,none⟩),.slice ka kn kc] w fun e w'=>VlR B (valL l key) e w'/\Below w.heap.size w w':=by
 have HST:=zH hST
 have HB:=zH hB
 have HK:=zH hk
 have HI0:Hid (VlI s t (valL l key) key (.int .i64 st.root) (.int .i64 st.depth)):=by
  rcases hTr with ⟨r1,r2,r3,r4,r5⟩ | ⟨h,b,q1,q2,q3,q4,q5,q6,q7,q8,q9⟩
  ·subst r4
   exact Or.inl ⟨by rw [r2],rfl,0,by rw [r1];rfl⟩
  ·exact Or.inr ⟨h,b,by rw [q1],by rw [q2];simp,by omega,q6,by rw [q4];exact q5,by rw [q4]⟩
 clear hST hB hTr hdp hk
 generalize st.root=rt at *
 generalize st.depth=dp at *
 generalize valL l key=o at *
 go_enter Tryz.func91,Tryz.ntmps91
 go_wp2_with fail
 go_loopw [8,9] (fun a d wx=>VlI s t o key a d/\Below w.heap.size w wx) (fun _ d _=>(intOf d).toNat)
 case atStart=>exact ⟨HI0.o,Below.refl _ _⟩
 case round =>
  obtain ⟨hI,hbr⟩:=hrel
  have HBR:=zH hbr
  have HBw:Hid (B<=wr.heap.size):=nT HB.o hbr.size
  rcases hI with ⟨rfl,rfl,i0,rfl⟩ | ⟨h,b,rfl,rfl,hh,hon,hsr,hvl⟩
  ·clear hbr
   go_wp2
   (try simp only [Exit.inBlock,Exit.then])
   go_ret2
   exact ⟨rfl,HBR.o⟩
  ·have HVL:=zH hvl
   have HSR:=zH hsr
   cases h with
   | zero =>
    obtain ⟨hpg,hit⟩:=hon
    have HLD:=zH (aBp b.1 (HST.o.later hbr) HBw.o hlf hpg.lt (by rw [hpg.of];decide) hdn b.2 hpg.pg hit.n1 hit.n4 hit.ok hit.so hpg.ln hpg.bt)
    have HIT:=zH hit
    have hl4:=hit.n4
    clear hpg hit hvl hsr hbr
    generalize hl:b.2=l0 at *
    generalize hLL:l0.length=L at *
    generalize hFi:fndI l0 key=Fi at *
    generalize hhb:hasI l0 key=hb0 at *
    have HBI:Hid (flB 0 b=l0):=hl
    have x0:(0:Int)<((0:Nat):Int)+1:=by omega
    have x1:((0:Nat):Int)+1=1:=rfl
    rw [x1]
    go_wp2_with fail
    refine HLD.o.mono ?_
    rintro e w1 ⟨v1,rfl,⟨gl,gi,rfl,z1,z2,z3,z4⟩,hb1⟩
    rw [hLL] at z3
    have HZ3:=zH z3
    have HIO:=zH (aAq z3)
    have HBw1:Hid (B<=w1.heap.size):=nT HBw.o hb1.size
    have HB1:Hid (Below w.heap.size w w1):=HBR.o.trans (hb1.mono HBR.o.size)
    have HFN:Hid (Calls Tryz.prog 78 #[.slice (some ⟨gi,0,none⟩) L L,.slice ka kn kc] w1 fun e w'=>e=.returned (.tuple #[.int .i64 (Fi:Int),.bool hb0])/\Below w1.heap.size w1 w'):=by
     have:=find_ok z4 HBw1.o ((HK.o.later HB1.o HB.o).1) (by omega) HIT.o.so hLL
     rw [hFi,hhb] at this
     exact this
    have HZ4:=zH z4
    clear z3 z4 hb1 HLD
    unfold lfP at HIO
    go_wp2_with fail
    refine HIO.o.mono ?_
    rintro e w1' ⟨rfl,rfl⟩
    go_wp2_with fail
    refine HFN.o.mono ?_
    rintro e w2 ⟨rfl,hb2⟩
    have HIR2:=zH (HZ4.o.later hb2 HBw1.o)
    have HB2:Hid (Below w.heap.size w w2):=HB1.o.trans (hb2.mono HB1.o.size)
    have HG2:=zH ((hb2.block gl (lO HZ3.o)).trans HZ3.o)
    have ta:=aAm (.pointer (some ⟨gl,0,none⟩)) w2
    clear hb2 HFN HIO HZ4 HZ3
    cases hb0 with
    | true =>
     obtain ⟨x,hx,hxk⟩:=(HIT.o.so.has key).1 hhb
     have hFL:Fi<L:=by
      rw [hFi] at hx
      have:=(lL hx)
      omega
     rw [hFi] at hx
     obtain ⟨kf,vf,hg1,hg2⟩:=HIR2.o
     rw [hLL] at hg1
     obtain ⟨hk1,hv1⟩:=hg2 Fi x hx
     have HVV:=zH hv1
     have y6:w2.cell? ⟨gi,Fi*2+1,none⟩=some (vf Fi):=by rw [aAa hg1,List.getElem?_toArray];exact aA0 kf vf Fi L hFL
     have xF:(Fi:Int)<(L:Int):=by omega
     have HOV:Hid (o=some x.2):=by
      show _=_
      rw [<-HVL.o,<-hxk]
      exact aFe HSR.o (by rw [HBI.o];exact mG hx)
     have HIO2:=zH (by have h9:=aAq HG2.o;unfold lfP at h9;exact h9)
     obtain ⟨va,vc,hva,_⟩:=hv1
     rw [hva] at y6 HVV
     generalize hvn:x.2.length=vn at *
     clear hg1 hg2 hk1 hva
     go_wp2_with fail
     refine HIO2.o.mono ?_
     rintro e w4 ⟨rfl,rfl⟩
     go_wp2
     (try simp only [Exit.inBlock,Exit.then])
     go_ret2
     refine ⟨?_,HB2.o⟩
     rw [HOV.o]
     exact ⟨_,rfl,HVV.o⟩
    | false =>
     have HOV:Hid (o=none):=by
      show _=_
      rw [<-HVL.o,HBI.o]
      refine aFo fun x hx q9=>?_
      have:hasI l0 key=true:=by
       simp only [hasI,List.contains_eq_mem,List.mem_map,decide_eq_true_eq]
       exact ⟨x,hx,q9⟩
      rw [hhb] at this
      cases this
     go_wp2_with fail
     go_roundw
     case rel=>exact ⟨Or.inl ⟨by go_num,HOV.o,b.1,rfl⟩,HB2.o⟩
     case measure=>simp [intOf]
   | succ h =>
    obtain ⟨hpg,hit,hcl,hid,hkd⟩:=hon
    have hidl:(b.2.2.map BT.id).length=b.2.1.length+1:=by rw [List.length_map];exact hcl
    have HLD:=aBd b.1 (h+2) (by omega) (HST.o.later hbr) HBw.o hlf hpg.lt (by rw [hpg.of];decide) hdn b.2.1 (b.2.2.map BT.id) hpg.pg hidl (by intro x hx;obtain ⟨k,hk,rfl⟩:=List.mem_map.1 hx;exact hid k hk) hit.n1 hit.n4 hit.ok hit.so hpg.ln hpg.bt
    rw [show (((h+2:Nat):Nat):Int)=(h:Int)+1+1 by omega] at HLD
    replace HLD:=zH HLD
    have HIT:=zH hit
    have hl4:=hit.n4
    have HKD:=zH hkd
    have HCL:=zH hcl
    have hfl:=aA1 b.2.1 key
    have HSW:Hid (Srt (weave b.2.1 (b.2.2.map (flB h)))):=hsr
    have HBI:Hid (flB (h+1) b=weave b.2.1 (b.2.2.map (flB h))):=rfl
    have HCS:Hid ((b.2.2.map (flB h)).length=b.2.1.length+1):=by rw [List.length_map];exact hcl
    clear hpg hit hvl hsr hbr hid hkd
    have hn2:(b.2.2.map BT.id).length=b.2.1.length+1:=hidl
    generalize hl:b.2.1=l0 at *
    generalize hLL:l0.length=L at *
    generalize hFi:fndI l0 key=Fi at *
    generalize hhb:hasI l0 key=hb0 at *
    have x0:(0:Int)<(((h+1:Nat):Nat):Int)+1:=by omega
    have x1:(((h+1:Nat):Nat):Int)+1=(h:Int)+1+1:=by omega
    rw [x1]
    rw [x1] at x0
    go_wp2_with fail
    refine HLD.o.mono ?_
    rintro e w1 ⟨v1,rfl,⟨gb,gi,gc,rfl,z1,z2,z5,z3,z4,z6⟩,hb1⟩
    rw [hLL,hn2] at z3
    have HZ3:=zH z3
    have HIO:=zH (aAn z3)
    have HBw1:Hid (B<=w1.heap.size):=nT HBw.o hb1.size
    have HB1:Hid (Below w.heap.size w w1):=HBR.o.trans (hb1.mono HBR.o.size)
    have HFN:Hid (Calls Tryz.prog 78 #[.slice (some ⟨gi,0,none⟩) L L,.slice ka kn kc] w1 fun e w'=>e=.returned (.tuple #[.int .i64 (Fi:Int),.bool hb0])/\Below w1.heap.size w1 w'):=by
     have:=find_ok z4 HBw1.o ((HK.o.later HB1.o HB.o).1) (by omega) HIT.o.so hLL
     rw [hFi,hhb] at this
     exact this
    have HZ4:=zH z4
    have HZ6:=zH z6
    clear z3 z4 z6 hb1 HLD
    unfold brP at HIO
    go_wp2_with fail
    refine HIO.o.mono ?_
    rintro e w1' ⟨rfl,rfl⟩
    go_wp2_with fail
    refine HFN.o.mono ?_
    rintro e w2 ⟨rfl,hb2⟩
    have HIR2:=zH (HZ4.o.later hb2 HBw1.o)
    have HB2:Hid (Below w.heap.size w w2):=HB1.o.trans (hb2.mono HB1.o.size)
    have HG2:=zH ((hb2.block gb (lO HZ3.o)).trans HZ3.o)
    have HGC2:=zH ((hb2.block gc (lO HZ6.o)).trans HZ6.o)
    have ta:=aAk (.pointer (some ⟨gb,0,none⟩)) w2
    clear hb2 HFN HIO HZ4 HZ3 HZ6
    cases hb0 with
    | true =>
     obtain ⟨x,hx,hxk⟩:=(HIT.o.so.has key).1 hhb
     have hFL:Fi<L:=by
      rw [hFi] at hx
      have:=(lL hx)
      omega
     rw [hFi] at hx
     obtain ⟨kf,vf,hg1,hg2⟩:=HIR2.o
     rw [hLL] at hg1
     obtain ⟨hk1,hv1⟩:=hg2 Fi x hx
     have HVV:=zH hv1
     have y6:w2.cell? ⟨gi,Fi*2+1,none⟩=some (vf Fi):=by rw [aAa hg1,List.getElem?_toArray];exact aA0 kf vf Fi L hFL
     have xF:(Fi:Int)<(L:Int):=by omega
     have HOV:Hid (o=some x.2):=by
      show _=_
      rw [<-HVL.o,<-hxk]
      exact aFe HSR.o (by rw [HBI.o];exact aFn _ _ (by rw [hLL];exact HCS.o) _ (mG hx))
     have HIO2:=zH (by have h9:=aAn HG2.o;unfold brP at h9;exact h9)
     obtain ⟨va,vc,hva,_⟩:=hv1
     rw [hva] at y6 HVV
     generalize hvn:x.2.length=vn at *
     clear hg1 hg2 hk1 hva
     go_wp2_with fail
     refine HIO2.o.mono ?_
     rintro e w4 ⟨rfl,rfl⟩
     go_wp2
     (try simp only [Exit.inBlock,Exit.then])
     go_ret2
     refine ⟨?_,HB2.o⟩
     rw [HOV.o]
     exact ⟨_,rfl,HVV.o⟩
    | false =>
     obtain ⟨kb,hkb⟩:∃ kb,b.2.2[Fi]?=some kb:=⟨_,gE (by have:=HCL.o;omega)⟩
     have hkm:=mG hkb
     have HOV:Hid (valL (flB h kb) key=o):=by
      show _=_
      rw [<-HVL.o,HBI.o]
      exact (valL_kid HSW.o (by rw [hLL];exact HCS.o) (by rw [hFi,List.getElem?_map,hkb];rfl) hhb).symm
     have HKS:Hid (Srt (flB h kb)):=Srt.kid HSW.o (by rw [hLL];exact HCS.o) (List.mem_map_of_mem hkm)
     have HKO:=zH (HKD.o kb hkm)
     have g1:w2.cell? ⟨gb,1,none⟩=some (.slice (some ⟨gc,0,none⟩) (L+1) (L+1)):=aAa HG2.o
     have g2:w2.cell? ⟨gc,Fi,none⟩=some (.iface 92 (.int .i64 (BT.id kb:Int))):=by
      rw [aAa HGC2.o,List.getElem?_toArray,List.getElem?_map,List.getElem?_map,hkb]
      rfl
     have g3:=aDb (.int .i64 (BT.id kb:Int)) w2
     have xl:(Fi:Int)<((L+1:Nat):Int):=by omega
     clear hkb hkm
     go_wp2_with fail
     go_roundw
     case rel=>exact ⟨Or.inr ⟨h,kb,rfl,by go_num,by omega,HKO.o,HKS.o,HOV.o⟩,HB2.o⟩
     case measure=>simp [intOf];omega
theorem aA5:∀ (l:List Obj) (w:World),Below w.heap.size w (l.foldl World.alloc w)/\(l.foldl World.alloc w).heap.size=w.heap.size+l.length
 | [],w=>⟨Below.refl _ _,rfl⟩
 | o::l,w=>by
  have h:=aA5 l (w.alloc o)
  have b:=aAb w o
  have e:(w.alloc o).heap.size=w.heap.size+1:=Array.size_push _
  refine ⟨b.trans (h.1.mono b.size),?_⟩
  rw [List.foldl_cons,h.2,e,List.length_cons]
  omega
theorem aAp:∀ (l:List Obj) (w:World) (i:Nat) (o:Obj),l[i]?=some o->(l.foldl World.alloc w).heap[w.heap.size+i]?=some o
 | [],w,i,o,h=>by simp at h
 | a::l,w,0,o,h=>by
  simp only [List.getElem?_cons_zero,oI] at h
  subst h
  have e:(w.alloc a).heap.size=w.heap.size+1:=Array.size_push _
  have hb:=(aA5 l (w.alloc a)).1
  rw [List.foldl_cons,Nat.add_zero,hb.block _ (by omega)]
  exact heap_alloc_new w a
 | a::l,w,i+1,o,h=>by
  have e:(w.alloc a).heap.size=w.heap.size+1:=Array.size_push _
  have:=aAp l (w.alloc a) i o (by simpa using h)
  rw [e,show w.heap.size+1+i=w.heap.size+(i+1) by omega] at this
  exact this
theorem Ex.ftX {B g:Nat} {w w':World} {cs:Array Value} {T0:TypeId} {fz:Nat×Nat} (f:Ex B [g] w w') (hg:w.heap[g]?=some (.cells cs T0 fz)) (h0:5≠T0):FT B w w':=⟨f.1,fun k cs' fz e=>f.keepX hg e h0⟩
theorem aFy {fn:Func} {p q u:Tmp} {ty ty2:TypeId} (h:fn.results=#[.cell p ty,.cell q ty2,.tmp u]) (tmps:Array Value) (P:Program) (w:World) {a b:Addr} {v1 v2:Value} (hp:tmps.getD p undef=.pointer (some a)) (hq:tmps.getD q undef=.pointer (some b)) (h1:(loadVar ty a).run P w=.ok v1 w) (h2:(loadVar ty2 b).run P w=.ok v2 w) :
  (results fn tmps).run P w=.ok (.tuple #[v1,v2,tmps.getD u undef]) w:=by
 have hp':tmps[p]?.getD undef=.pointer (some a):=by simpa using hp
 have hq':tmps[q]?.getD undef=.pointer (some b):=by simpa using hq
 simp [results,h,hp',hq',asAddr,Sem.run_bind,Result.andThen,h1,h2]
def VlV (B:Nat) (w:World) (o:Option (List Nat)) (v:Value) (isb:Bool):Prop:=match o with
 | some x=>isb=true/\KV B w v x
 | none=>isb=false/\v=.slice none 0 0
theorem VlV.ft {B:Nat} {w w':World} {o:Option (List Nat)} {v:Value} {isb:Bool} (h:VlV B w o v isb) (f:FT B w w'):VlV B w' o v isb:=by
 cases o with
 | some x=>exact ⟨h.1,h.2.ft f⟩
 | none=>exact h
theorem VlV.form {B:Nat} {w:World} {o:Option (List Nat)} {v:Value} {isb:Bool} (h:VlV B w o v isb):∃ a n c,v=.slice a n c:=by
 cases o with
 | some x=>obtain ⟨a,c,e,_⟩:=h.2;exact ⟨a,_,c,e⟩
 | none=>exact ⟨none,0,0,h.2⟩
theorem VlR.vv {B:Nat} {o:Option (List Nat)} {e:Ending} {w:World} (h:VlR B o e w):∃ v isb,e=.returned (.tuple #[v,.bool isb])/\VlV B w o v isb:=by
 cases o with
 | some x=>obtain ⟨v,h1,h2⟩:=h;exact ⟨v,true,h1,rfl,h2⟩
 | none=>exact ⟨_,false,h,rfl,rfl⟩
def GtR (B:Nat) (w:World) (o:Option (List Nat)) (vb ib:Nat) (w':World):Prop:=∃ w1 v isb,VlV B w1 o v isb/\Below w.heap.size w w1/\w'=(w1.setCell ⟨vb,0,none⟩ v).setCell ⟨ib,0,none⟩ (.bool isb)
theorem get1_any [Gd] {B p q g tb sb kb vb ib gs so:Nat} {s:DS} {t:PS} {w:World} {st:StT} {l:List It} (hST:ST B p q s t w) (hB:B<=w.heap.size) (hlf:s.life=t.life) (hdn:s.down=false) (hTr:Tr s t st l) (hdp:st.depth<100000) (hr0:w.cell? ⟨gs,so,none⟩=some (.int .i64 st.root)) (hd0:w.cell? ⟨gs,so+1,none⟩=some (.int .i64 st.depth)) {ka:Option Addr} {kn kc:Nat} {key:List Nat} (hk:BK B w ka kn kc key)
  (c1:w.cell? ⟨tb,0,none⟩=some (.pointer (some ⟨g,0,none⟩))) (c2:w.cell? ⟨g,1,none⟩=some (.pointer (some ⟨q,0,none⟩))) (c3:w.cell? ⟨sb,0,none⟩=some (.pointer (some ⟨gs,so,none⟩))) (c4:w.cell? ⟨kb,0,none⟩=some (.slice ka kn kc)) (hvb:w.heap[vb]?=some (.cells #[.slice none 0 0] 27 (0,0))) (hib:w.heap[ib]?=some (.cells #[.bool false] 4 (0,0))) (n1:tb≠vb/\g≠vb/\sb≠vb/\kb≠vb) (n2:tb≠ib/\g≠ib/\sb≠ib/\kb≠ib) :
  Calls Tryz.prog 90 #[.pointer (some ⟨tb,0,none⟩),.pointer (some ⟨sb,0,none⟩),.pointer (some ⟨kb,0,none⟩),.pointer (some ⟨vb,0,none⟩),.pointer (some ⟨ib,0,none⟩)] w fun e w'=>e=.returned (.int .i64 0)/\GtR B w (valL l key) vb ib w':=by
 have HBd:=zH ((Below.refl w.heap.size w).drew)
 have HVI:=zH (valueIn_any (w:=w.drew) (hST.later HBd.o) hB hlf hdn hTr hdp hr0 hd0 (hk.later HBd.o hB))
 have HVB:=zH hvb
 have HIB:=zH hib
 have lt:∀ {k:Nat} {o:Obj} {ww:World},ww.heap[k]?=some o->k<ww.heap.size:=fun e=>(lO e)
 have hnvi:vb≠ib:=by
  intro q9
  subst q9
  rw [hvb] at hib
  simp only [oI,cI] at hib
  exact absurd hib.2.1 (by decide)
 have HX0:Hid ((fun wx=>wx.cell? ⟨tb,0,none⟩=some (.pointer (some ⟨g,0,none⟩))/\wx.cell? ⟨g,1,none⟩=some (.pointer (some ⟨q,0,none⟩))/\wx.cell? ⟨sb,0,none⟩=some (.pointer (some ⟨gs,so,none⟩))/\wx.cell? ⟨kb,0,none⟩=some (.slice ka kn kc)) w.drew):=⟨c1,c2,c3,c4⟩
 have HKK:=zH (show ∀ w',Below w.heap.size w.drew w'->((fun wx=>wx.cell? ⟨tb,0,none⟩=some (.pointer (some ⟨g,0,none⟩))/\wx.cell? ⟨g,1,none⟩=some (.pointer (some ⟨q,0,none⟩))/\wx.cell? ⟨sb,0,none⟩=some (.pointer (some ⟨gs,so,none⟩))/\wx.cell? ⟨kb,0,none⟩=some (.slice ka kn kc)) w') from fun w' hb=>⟨(hb.cell (p:=⟨tb,0,none⟩) (block_lt_of_cell c1)).trans c1,(hb.cell (p:=⟨g,1,none⟩) (block_lt_of_cell c2)).trans c2,(hb.cell (p:=⟨sb,0,none⟩) (block_lt_of_cell c3)).trans c3,(hb.cell (p:=⟨kb,0,none⟩) (block_lt_of_cell c4)).trans c4⟩)
 clear hST hTr hr0 hd0 hk c1 c2 c3 c4 hvb hib
 go_enter Tryz.func90,Tryz.ntmps90
 go_upto_region 1 with fail
 refine wp_region_noPanic ?_
 refine wp_region_held_drew (S:=fun wx=>wx.cell? ⟨tb,0,none⟩=some (.pointer (some ⟨g,0,none⟩))/\wx.cell? ⟨g,1,none⟩=some (.pointer (some ⟨q,0,none⟩))/\wx.cell? ⟨sb,0,none⟩=some (.pointer (some ⟨gs,so,none⟩))/\wx.cell? ⟨kb,0,none⟩=some (.slice ka kn kc)) (by kernel_rfl) HX0.o (fun hHeld=>?_)
 refine kT 0 7 ?_
 refine kT 1 8 ?_
 refine kT 2 9 ?_
 refine kT 3 10 ?_
 refine kT 4 11 ?_
 refine kT 5 12 ?_
 refine kC 6 ?_;intro K hK
 go_simp
 refine HVI.o.mono ?_
 rintro e w1 ⟨hv,hb1⟩
 obtain ⟨v,isb,rfl,hvv⟩:=hv.vv
 obtain ⟨va,vn,vc,hva⟩:=hvv.form
 subst hva
 have HVV:=zH hvv
 have HB1:=zH hb1
 have HX1:=zH (HKK.o w1 hb1)
 have HV1:=zH ((hb1.block vb (lt HVB.o)).trans (show w.drew.heap[vb]?=_ from HVB.o))
 have HI1:=zH ((hb1.block ib (lt HIB.o)).trans (show w.drew.heap[ib]?=_ from HIB.o))
 have f1:w1.frozen? ⟨vb,0,none⟩=false:=aAc HV1.o
 have d1:w1.cell? ⟨vb,0,none⟩=some (.slice none 0 0):=aAa HV1.o
 have HI2:Hid ((w1.setCell ⟨vb,0,none⟩ (.slice va vn vc)).heap[ib]?=some (.cells #[.bool false] 4 (0,0))):=(heap_setCell_other _ _ _ _ (Ne.symm hnvi)).trans HI1.o
 have f2:(w1.setCell ⟨vb,0,none⟩ (.slice va vn vc)).frozen? ⟨ib,0,none⟩=false:=aAc HI2.o
 have d2:(w1.setCell ⟨vb,0,none⟩ (.slice va vn vc)).cell? ⟨ib,0,none⟩=some (.bool false):=aAa HI2.o
 have HX2:Hid ((fun wx=>wx.cell? ⟨tb,0,none⟩=some (.pointer (some ⟨g,0,none⟩))/\wx.cell? ⟨g,1,none⟩=some (.pointer (some ⟨q,0,none⟩))/\wx.cell? ⟨sb,0,none⟩=some (.pointer (some ⟨gs,so,none⟩))/\wx.cell? ⟨kb,0,none⟩=some (.slice ka kn kc)) (w1.setCell ⟨vb,0,none⟩ (.slice va vn vc))):=⟨(World.cell?_of_block (heap_setCell_other _ _ _ _ n1.1)).trans HX1.o.1,(World.cell?_of_block (heap_setCell_other _ _ _ _ n1.2.1)).trans HX1.o.2.1,(World.cell?_of_block (heap_setCell_other _ _ _ _ n1.2.2.1)).trans HX1.o.2.2.1,(World.cell?_of_block (heap_setCell_other _ _ _ _ n1.2.2.2)).trans HX1.o.2.2.2⟩
 have HX3:Hid ((fun wx=>wx.cell? ⟨tb,0,none⟩=some (.pointer (some ⟨g,0,none⟩))/\wx.cell? ⟨g,1,none⟩=some (.pointer (some ⟨q,0,none⟩))/\wx.cell? ⟨sb,0,none⟩=some (.pointer (some ⟨gs,so,none⟩))/\wx.cell? ⟨kb,0,none⟩=some (.slice ka kn kc)) ((w1.setCell ⟨vb,0,none⟩ (.slice va vn vc)).setCell ⟨ib,0,none⟩ (.bool isb))):=⟨(World.cell?_of_block (heap_setCell_other _ _ _ _ n2.1)).trans HX2.o.1,(World.cell?_of_block (heap_setCell_other _ _ _ _ n2.2.1)).trans HX2.o.2.1,(World.cell?_of_block (heap_setCell_other _ _ _ _ n2.2.2.1)).trans HX2.o.2.2.1,(World.cell?_of_block (heap_setCell_other _ _ _ _ n2.2.2.2)).trans HX2.o.2.2.2⟩
 clear hv hb1 hvv hHeld
 refine hK.out _ _ HX1.o (fun hHeld=>?_)
 clear hK K
 try simp only [Act.put,siT,scZ,scS]
 refine kT 7 6 ?_
 refine kT 8 14 ?_
 refine kT 9 15 ?_
 refine kC 10 ?_;intro K hK
 go_simp
 clear hHeld
 refine hK.out _ _ HX2.o (fun hHeld=>?_)
 clear hK K
 try simp only [Act.put,siT,scZ,scS]
 refine kC 11 ?_;intro K hK
 go_simp
 clear hHeld
 refine hK.out _ _ HX3.o (fun hHeld=>?_)
 clear hK K
 try simp only [Act.put,siT,scZ,scS]
 refine wpAnyH_done (by kernel_rfl) ?_ _
 refine NoPanic.normal ?_
 clear hHeld f1 f2 d1 d2
 go_wp2
 go_ret
 exact ⟨rfl,w1,_,isb,HVV.o,HBd.o.trans HB1.o,rfl⟩
theorem getC_any [Gd] {B p q g n0 gs so:Nat} {s:DS} {t:PS} {w:World} {now last st:StT} {sv:Value} {left:Int} {l:List It} (hM:TM B p q g s t now last sv left w) (hTr:Tr s t st l) (hdp:st.depth<100000) (hr0:w.cell? ⟨gs,so,none⟩=some (.int .i64 st.root)) (hd0:w.cell? ⟨gs,so+1,none⟩=some (.int .i64 st.depth)) {ka:Option Addr} {kn kc:Nat} {key:List Nat} (hk:BK B w ka kn kc key) (hn0:B<=n0) (hgn:g<n0)
  (x:w.heap[n0]?=some (.cells #[.pointer (some ⟨g,0,none⟩)] 24 (0,0))/\w.heap[n0+1]?=some (.cells #[.pointer (some ⟨gs,so,none⟩)] 71 (0,0))/\w.heap[n0+2]?=some (.cells #[.slice ka kn kc] 27 (0,0))/\w.heap[n0+3]?=some (.cells #[.slice none 0 0] 27 (0,0))/\w.heap[n0+4]?=some (.cells #[.bool false] 4 (0,0))) :
  Calls Tryz.prog 40 #[.func (Fn.func 90) #[] #[.pointer (some ⟨n0,0,none⟩),.pointer (some ⟨n0+1,0,none⟩),.pointer (some ⟨n0+2,0,none⟩),.pointer (some ⟨n0+3,0,none⟩),.pointer (some ⟨n0+4,0,none⟩)]] w fun e w'=>e=.returned (.int .i64 0)/\∃ v isb,VlV B w' (valL l key) v isb/\Below n0 w w'/\w'.heap[n0+3]?=some (.cells #[v] 27 (0,0))/\w'.heap[n0+4]?=some (.cells #[.bool isb] 4 (0,0)):=by
 obtain ⟨x0,x1,x2,x3,x4⟩:=x
 have lt:∀ {k:Nat} {o:Obj} {ww:World},ww.heap[k]?=some o->k<ww.heap.size:=fun e=>(lO e)
 have b3:=aAb w (.cells #[.int .i64 0] 33)
 have xe:(w.alloc (.cells #[.int .i64 0] 33)).heap[w.heap.size]?=some (.cells #[.int .i64 0] 33 (0,0)):=heap_alloc_new w _
 have hn4:=lt x4
 obtain ⟨cs,hg,hT⟩:=hM.tv
 have yg:=(b3.block _ (lt hg)).trans hg
 have y0:=(b3.block _ (lt x0)).trans x0
 have y1:=(b3.block _ (lt x1)).trans x1
 have y2:=(b3.block _ (lt x2)).trans x2
 have y3:=(b3.block _ (lt x3)).trans x3
 have y4:=(b3.block _ (lt x4)).trans x4
 have hC:=get1_any (w:=w.alloc (.cells #[.int .i64 0] 33)) (hM.st.later b3) (nT hM.bw b3.size) hM.lf hM.dn hTr hdp ((b3.cell (p:=⟨gs,so,none⟩) (block_lt_of_cell hr0)).trans hr0) ((b3.cell (p:=⟨gs,so+1,none⟩) (block_lt_of_cell hd0)).trans hd0) (hk.later b3 hM.bw) (aAa y0) ((aAa yg).trans hT.c1) (aAa y1) (aAa y2) y3 y4 ⟨by omega,by omega,by omega,by omega⟩ ⟨by omega,by omega,by omega,by omega⟩
 refine (aB8 (w:=w) (P:=fun r' ww=>r'=0/\GtR B (w.alloc (.cells #[.int .i64 0] 33)) (valL l key) (n0+3) (n0+4) ww) (fun ww=>by rfl) (hC.mono ?_)).mono ?_
 ·rintro e9 w9 ⟨rfl,hG⟩
  refine ⟨0,rfl,⟨rfl,hG⟩,?_⟩
  obtain ⟨w1,v,isb,g1,g2,rfl⟩:=hG
  rw [heap_setCell_other _ _ _ _ (by show w.heap.size≠n0+4;omega),heap_setCell_other _ _ _ _ (by show w.heap.size≠n0+3;omega),g2.block _ (lt xe),xe]
 ·rintro e9 w9 ⟨r',w8,rfl,⟨rfl,hG⟩,rfl⟩
  obtain ⟨w1,v,isb,g1,g2,rfl⟩:=hG
  have z3:=(g2.block _ (lt y3)).trans y3
  have z4:=(g2.block _ (lt y4)).trans y4
  have ze:=(g2.block _ (lt xe)).trans xe
  have a1:Ex B [n0+3] w1 (w1.setCell ⟨n0+3,0,none⟩ v):=Ex.set (by omega)
  have z4':(w1.setCell ⟨n0+3,0,none⟩ v).heap[n0+4]?=_:=(heap_setCell_other _ _ _ _ (by show n0+4≠n0+3;omega)).trans z4
  have a2:Ex B [n0+4] (w1.setCell ⟨n0+3,0,none⟩ v) ((w1.setCell ⟨n0+3,0,none⟩ v).setCell ⟨n0+4,0,none⟩ (.bool isb)):=Ex.set (by omega)
  have ze':((w1.setCell ⟨n0+3,0,none⟩ v).setCell ⟨n0+4,0,none⟩ (.bool isb)).heap[w.heap.size]?=_:=(heap_setCell_other _ _ _ _ (by show w.heap.size≠n0+4;omega)).trans ((heap_setCell_other _ _ _ _ (by show w.heap.size≠n0+3;omega)).trans ze)
  have a3:Ex B [w.heap.size] ((w1.setCell ⟨n0+3,0,none⟩ v).setCell ⟨n0+4,0,none⟩ (.bool isb)) (((w1.setCell ⟨n0+3,0,none⟩ v).setCell ⟨n0+4,0,none⟩ (.bool isb)).setCell ⟨w.heap.size,0,none⟩ (.int .i64 0)):=Ex.set hM.bw
  refine ⟨rfl,v,isb,((g1.ft (a1.ftX z3 (by decide))).ft (a2.ftX z4' (by decide))).ft (a3.ftX ze' (by decide)),?_,?_,?_⟩
  ·have c0:Below n0 w w1:=(b3.mono (by omega)).trans (g2.mono (by have:=b3.size;omega))
   exact ((c0.setCell (p:=⟨n0+3,0,none⟩) (by show n0<=n0+3;omega) _).setCell (p:=⟨n0+4,0,none⟩) (by show n0<=n0+4;omega) _).setCell (p:=⟨w.heap.size,0,none⟩) (by show n0<=w.heap.size;omega) _
  ·rw [heap_setCell_other _ _ _ _ (by show n0+3≠w.heap.size;omega),heap_setCell_other _ _ _ _ (by show n0+3≠n0+4;omega),heap_setCell_same _ _ _ _ _ _ z3]
   rfl
  ·rw [heap_setCell_other _ _ _ _ (by show n0+4≠w.heap.size;omega),heap_setCell_same _ _ _ _ _ _ z4']
   rfl
theorem get_any' [Gd] {B p q g gs so:Nat} {s:DS} {t:PS} {w:World} {now last st:StT} {sv:Value} {left:Int} {l:List It} (hM:TM B p q g s t now last sv left w) (hTr:Tr s t st l) (hdp:st.depth<100000) (hr0:w.cell? ⟨gs,so,none⟩=some (.int .i64 st.root)) (hd0:w.cell? ⟨gs,so+1,none⟩=some (.int .i64 st.depth)) {ka:Option Addr} {kn kc:Nat} {key:List Nat} (hk:BK B w ka kn kc key) (hk0:0<kn) (hk6:kn<=64) :
  Calls Tryz.prog 57 #[.pointer (some ⟨g,0,none⟩),.pointer (some ⟨gs,so,none⟩),.slice ka kn kc] w fun e w'=>∃ v isb,e=.returned (.tuple #[v,.bool isb,.int .i64 0])/\VlV B w' (valL l key) v isb/\Below w.heap.size w w':=by
 have hmf:∀ (fn:Fn) (first cap:Array Value) (w:World),(Instr.makeFunc fn first cap).run Tryz.prog w=.ok (.func fn first cap) w:=fun _ _ _ _=>rfl
 have lt:∀ {k:Nat} {o:Obj} {ww:World},ww.heap[k]?=some o->k<ww.heap.size:=fun e=>(lO e)
 have HM:=zH hM
 have HTR:=zH hTr
 have HK:=zH hk
 have HR0:=zH hr0
 have HD0:=zH hd0
 have HGL:Hid (g<w.heap.size):=by obtain ⟨cs,hg,hT⟩:=hM.tv;exact lt hg
 have HBB:=zH (aA5 [(Obj.cells #[.pointer (some ⟨g,0,none⟩)] 24),(Obj.cells #[.pointer (some ⟨gs,so,none⟩)] 71),(Obj.cells #[.slice ka kn kc] 27),(Obj.cells #[.slice none 0 0] 27),(Obj.cells #[.bool false] 4)] w)
 have HXX:Hid ((((((w.alloc (.cells #[.pointer (some ⟨g,0,none⟩)] 24)).alloc (.cells #[.pointer (some ⟨gs,so,none⟩)] 71)).alloc (.cells #[.slice ka kn kc] 27)).alloc (.cells #[.slice none 0 0] 27)).alloc (.cells #[.bool false] 4)).heap[w.heap.size]?=some (.cells #[.pointer (some ⟨g,0,none⟩)] 24 (0,0))/\(((((w.alloc (.cells #[.pointer (some ⟨g,0,none⟩)] 24)).alloc (.cells #[.pointer (some ⟨gs,so,none⟩)] 71)).alloc (.cells #[.slice ka kn kc] 27)).alloc (.cells #[.slice none 0 0] 27)).alloc (.cells #[.bool false] 4)).heap[w.heap.size+1]?=some (.cells #[.pointer (some ⟨gs,so,none⟩)] 71 (0,0))/\(((((w.alloc (.cells #[.pointer (some ⟨g,0,none⟩)] 24)).alloc (.cells #[.pointer (some ⟨gs,so,none⟩)] 71)).alloc (.cells #[.slice ka kn kc] 27)).alloc (.cells #[.slice none 0 0] 27)).alloc (.cells #[.bool false] 4)).heap[w.heap.size+2]?=some (.cells #[.slice ka kn kc] 27 (0,0))/\(((((w.alloc (.cells #[.pointer (some ⟨g,0,none⟩)] 24)).alloc (.cells #[.pointer (some ⟨gs,so,none⟩)] 71)).alloc (.cells #[.slice ka kn kc] 27)).alloc (.cells #[.slice none 0 0] 27)).alloc (.cells #[.bool false] 4)).heap[w.heap.size+3]?=some (.cells #[.slice none 0 0] 27 (0,0))/\(((((w.alloc (.cells #[.pointer (some ⟨g,0,none⟩)] 24)).alloc (.cells #[.pointer (some ⟨gs,so,none⟩)] 71)).alloc (.cells #[.slice ka kn kc] 27)).alloc (.cells #[.slice none 0 0] 27)).alloc (.cells #[.bool false] 4)).heap[w.heap.size+4]?=some (.cells #[.bool false] 4 (0,0))):=⟨aAp [(Obj.cells #[.pointer (some ⟨g,0,none⟩)] 24),(Obj.cells #[.pointer (some ⟨gs,so,none⟩)] 71),(Obj.cells #[.slice ka kn kc] 27),(Obj.cells #[.slice none 0 0] 27),(Obj.cells #[.bool false] 4)] w 0 _ rfl,aAp [(Obj.cells #[.pointer (some ⟨g,0,none⟩)] 24),(Obj.cells #[.pointer (some ⟨gs,so,none⟩)] 71),(Obj.cells #[.slice ka kn kc] 27),(Obj.cells #[.slice none 0 0] 27),(Obj.cells #[.bool false] 4)] w 1 _ rfl,aAp [(Obj.cells #[.pointer (some ⟨g,0,none⟩)] 24),(Obj.cells #[.pointer (some ⟨gs,so,none⟩)] 71),(Obj.cells #[.slice ka kn kc] 27),(Obj.cells #[.slice none 0 0] 27),(Obj.cells #[.bool false] 4)] w 2 _ rfl,aAp [(Obj.cells #[.pointer (some ⟨g,0,none⟩)] 24),(Obj.cells #[.pointer (some ⟨gs,so,none⟩)] 71),(Obj.cells #[.slice ka kn kc] 27),(Obj.cells #[.slice none 0 0] 27),(Obj.cells #[.bool false] 4)] w 3 _ rfl,aAp [(Obj.cells #[.pointer (some ⟨g,0,none⟩)] 24),(Obj.cells #[.pointer (some ⟨gs,so,none⟩)] 71),(Obj.cells #[.slice ka kn kc] 27),(Obj.cells #[.slice none 0 0] 27),(Obj.cells #[.bool false] 4)] w 4 _ rfl⟩
 have HB1:Hid (Below w.heap.size w (((((w.alloc (.cells #[.pointer (some ⟨g,0,none⟩)] 24)).alloc (.cells #[.pointer (some ⟨gs,so,none⟩)] 71)).alloc (.cells #[.slice ka kn kc] 27)).alloc (.cells #[.slice none 0 0] 27)).alloc (.cells #[.bool false] 4))):=HBB.o.1
 have c0:(((((w.alloc (.cells #[.pointer (some ⟨g,0,none⟩)] 24)).alloc (.cells #[.pointer (some ⟨gs,so,none⟩)] 71)).alloc (.cells #[.slice ka kn kc] 27)).alloc (.cells #[.slice none 0 0] 27)).alloc (.cells #[.bool false] 4)).cell? ⟨w.heap.size,0,none⟩=some (.pointer (some ⟨g,0,none⟩)):=aAa HXX.o.1
 have c2:(((((w.alloc (.cells #[.pointer (some ⟨g,0,none⟩)] 24)).alloc (.cells #[.pointer (some ⟨gs,so,none⟩)] 71)).alloc (.cells #[.slice ka kn kc] 27)).alloc (.cells #[.slice none 0 0] 27)).alloc (.cells #[.bool false] 4)).cell? ⟨w.heap.size+2,0,none⟩=some (.slice ka kn kc):=aAa HXX.o.2.2.1
 have HBW:=zH hM.bw
 clear hM hTr hk hr0 hd0 HBB
 generalize hn0:w.heap.size=n0 at *
 generalize hW:(((((w.alloc (.cells #[.pointer (some ⟨g,0,none⟩)] 24)).alloc (.cells #[.pointer (some ⟨gs,so,none⟩)] 71)).alloc (.cells #[.slice ka kn kc] 27)).alloc (.cells #[.slice none 0 0] 27)).alloc (.cells #[.bool false] 4))=w1 at *
 have HRF:Hid (Calls Tryz.prog 17 #[.pointer (some ⟨g,0,none⟩),.slice ka kn kc] w1 fun e w'=>e=.returned (.int .i64 0)/\Below w1.heap.size w1 w'):=by
  have h1:=HM.o.later (by rw [hn0];exact HB1.o)
  obtain ⟨cs,hg,hT⟩:=h1.tv
  have hr:=aCd h1.st HM.o.lf hg hT ka kn kc
  rw [if_neg (by omega),if_neg (by omega)] at hr
  exact hr
 go_enter Tryz.func57,Tryz.ntmps57
 go_wp2_with fail
 refine HRF.o.mono ?_
 rintro e w2 ⟨rfl,hb2⟩
 have HB2:Hid (Below n0 w w2):=HB1.o.trans (hb2.mono (by have:=HB1.o.size;omega))
 have HY:Hid (w2.heap[n0]?=some (.cells #[.pointer (some ⟨g,0,none⟩)] 24 (0,0))/\w2.heap[n0+1]?=some (.cells #[.pointer (some ⟨gs,so,none⟩)] 71 (0,0))/\w2.heap[n0+2]?=some (.cells #[.slice ka kn kc] 27 (0,0))/\w2.heap[n0+3]?=some (.cells #[.slice none 0 0] 27 (0,0))/\w2.heap[n0+4]?=some (.cells #[.bool false] 4 (0,0))):=⟨(hb2.block _ (lt HXX.o.1)).trans HXX.o.1,(hb2.block _ (lt HXX.o.2.1)).trans HXX.o.2.1,(hb2.block _ (lt HXX.o.2.2.1)).trans HXX.o.2.2.1,(hb2.block _ (lt HXX.o.2.2.2.1)).trans HXX.o.2.2.2.1,(hb2.block _ (lt HXX.o.2.2.2.2)).trans HXX.o.2.2.2.2⟩
 have HB2':Hid (Below w.heap.size w w2):=by rw [hn0];exact HB2.o
 have HCC:=zH (getC_any (n0:=n0) (HM.o.later HB2'.out) HTR.o hdp ((HB2'.out.cell (p:=⟨gs,so,none⟩) (block_lt_of_cell HR0.o)).trans HR0.o) ((HB2'.out.cell (p:=⟨gs,so+1,none⟩) (block_lt_of_cell HD0.o)).trans HD0.o) (HK.o.later HB2'.out HM.o.bw) HBW.o HGL.o HY.o)
 clear hb2 c0 c2 HRF
 go_wp2_with fail
 refine HCC.o.mono ?_
 rintro e w3 ⟨rfl,v,isb,h1,h2,h3,h4⟩
 obtain ⟨va,vn,vc,hva⟩:=h1.form
 subst hva
 have HV3:=zH h1
 have HB3:Hid (Below n0 w w3):=HB2.o.trans h2
 have H3:=zH h3
 have H4:=zH h4
 have d3:w3.cell? ⟨n0+3,0,none⟩=some (.slice va vn vc):=aAa h3
 have d4:w3.cell? ⟨n0+4,0,none⟩=some (.bool isb):=aAa h4
 have f3:w3.frozen? ⟨n0+3,0,none⟩=false:=aAc h3
 have f4:w3.frozen? ⟨n0+4,0,none⟩=false:=aAc h4
 clear h1 h2 h3 h4 HCC
 have e4:(w3.setCell ⟨n0+3,0,none⟩ (.slice va vn vc)).heap[n0+4]?=some (.cells #[.bool isb] 4 (0,0)):=(heap_setCell_other _ _ _ _ (by show n0+4≠n0+3;omega)).trans H4.o
 have f5:(w3.setCell ⟨n0+3,0,none⟩ (.slice va vn vc)).frozen? ⟨n0+4,0,none⟩=false:=aAc e4
 have d5:(w3.setCell ⟨n0+3,0,none⟩ (.slice va vn vc)).cell? ⟨n0+4,0,none⟩=some (.bool isb):=aAa e4
 clear e4
 go_wp2
 go_region
 go_wp2
 have a1:Ex B [n0+3] w3 (w3.setCell ⟨n0+3,0,none⟩ (.slice va vn vc)):=Ex.set (by have:=HBW.o;omega)
 have z4:(w3.setCell ⟨n0+3,0,none⟩ (.slice va vn vc)).heap[n0+4]?=some (.cells #[.bool isb] 4 (0,0)):=(heap_setCell_other _ _ _ _ (by show n0+4≠n0+3;omega)).trans H4.o
 have a2:Ex B [n0+4] (w3.setCell ⟨n0+3,0,none⟩ (.slice va vn vc)) ((w3.setCell ⟨n0+3,0,none⟩ (.slice va vn vc)).setCell ⟨n0+4,0,none⟩ (.bool isb)):=Ex.set (by have:=HBW.o;omega)
 have z3:(w3.setCell ⟨n0+3,0,none⟩ (.slice va vn vc)).heap[n0+3]?=some (.cells #[.slice va vn vc] 27 (0,0)):=by rw [heap_setCell_same _ _ _ _ _ _ H3.o];rfl
 have z3':((w3.setCell ⟨n0+3,0,none⟩ (.slice va vn vc)).setCell ⟨n0+4,0,none⟩ (.bool isb)).drew.heap[n0+3]?=some (.cells #[.slice va vn vc] 27 (0,0)):=(heap_setCell_other _ _ _ _ (by show n0+3≠n0+4;omega)).trans z3
 have z4':((w3.setCell ⟨n0+3,0,none⟩ (.slice va vn vc)).setCell ⟨n0+4,0,none⟩ (.bool isb)).drew.heap[n0+4]?=some (.cells #[.bool isb] 4 (0,0)):=by
  show ((w3.setCell ⟨n0+3,0,none⟩ (.slice va vn vc)).setCell ⟨n0+4,0,none⟩ (.bool isb)).heap[n0+4]?=_
  rw [heap_setCell_same _ _ _ _ _ _ z4];rfl
 have HBF:Hid (Below n0 w ((w3.setCell ⟨n0+3,0,none⟩ (.slice va vn vc)).setCell ⟨n0+4,0,none⟩ (.bool isb)).drew):=((HB3.o.setCell (p:=⟨n0+3,0,none⟩) (by show n0<=n0+3;omega) _).setCell (p:=⟨n0+4,0,none⟩) (by show n0<=n0+4;omega) _).drew
 have HVF:Hid (VlV B ((w3.setCell ⟨n0+3,0,none⟩ (.slice va vn vc)).setCell ⟨n0+4,0,none⟩ (.bool isb)).drew (valL l key) (.slice va vn vc) isb):=((HV3.o.ft (a1.ftX H3.o (by decide))).ft (a2.ftX z4 (by decide))).ft (FT.of (Below.refl _ _).drew (nT HM.o.bw (by have:=HBF.o.size;exact this)))
 have c3:=aAa (i:=0) z3'
 have c4:=aAa (i:=0) z4'
 simp only [show n0+1+1+1=n0+3 from rfl,show n0+1+1+1+1=n0+4 from rfl]
 generalize ((w3.setCell ⟨n0+3,0,none⟩ (.slice va vn vc)).setCell ⟨n0+4,0,none⟩ (.bool isb)).drew=w4 at *
 refine bodyPost_ret (aFy (v1:=.slice va vn vc) (v2:=.bool isb) rfl _ _ _ rfl rfl (by simp [go_sem,c3]) (by simp [go_sem,c4])) rfl ⟨_,isb,rfl,HVF.o,HBF.o⟩
theorem Get_ok [Gd] {B p q g:Nat} {s:DS} {t:PS} {w:World} {now last:StT} {sv:Value} {left:Int} {l:List It} (hM:TM B p q g s t now last sv left w) (hTr:Tr s t now l) (hdp:now.depth<100000) {ka:Option Addr} {kn kc:Nat} {key:List Nat} (hk:BK B w ka kn kc key) (hk0:0<kn) (hk6:kn<=64) :
  Calls Tryz.prog 26 #[.pointer (some ⟨g,0,none⟩),.slice ka kn kc] w fun e w'=>∃ v isb,e=.returned (.tuple #[v,.bool isb,.int .i64 0])/\VlV B w' (valL l key) v isb/\Below w.heap.size w w':=by
 obtain ⟨cs,hg,hT⟩:=hM.tv
 have HGT:=zH (get_any' (gs:=g) (so:=2) hM hTr hdp ((aAa hg).trans hT.n0) ((aAa hg).trans hT.n1) hk hk0 hk6)
 clear hM hTr hdp hk hg hT
 go_enter Tryz.func26,Tryz.ntmps26
 go_wp2_with fail
 refine HGT.o.mono ?_
 rintro e w1 ⟨v,isb,rfl,h1,h2⟩
 obtain ⟨va,vn,vc,hva⟩:=h1.form
 subst hva
 have H1:=zH h1
 have H2:=zH h2
 clear h1 h2
 go_wp2
 go_ret3
 exact ⟨_,isb,rfl,H1.o,H2.o⟩
structure StV (cs:Array Value) (root dp k:Int) (ps:List Nat):Prop where
 sz:cs.size=67
 c0:cs[0]?=some (.int .i64 root)
 c1:cs[1]?=some (.int .i64 dp)
 c2:cs[2]?=some (.int .i64 k)
 wd:Wd cs 3 ps
theorem StV.keys {cs:Array Value} {root dp k k':Int} {ps:List Nat} (h:StV cs root dp k ps):StV (cs.setIfInBounds 2 (.int .i64 k')) root dp k' ps:=by
 have ne:∀ i,i≠2->(cs.setIfInBounds 2 (.int .i64 k'))[i]?=cs[i]?:=fun i hi=>Array.getElem?_setIfInBounds_ne (Ne.symm hi)
 exact ⟨by rw [Array.size_setIfInBounds,h.sz],(ne 0 (by decide)).trans h.c0,(ne 1 (by decide)).trans h.c1,Array.getElem?_setIfInBounds_self_of_lt (by rw [h.sz];decide),h.wd.same fun i hi _=>ne i (by omega)⟩
theorem StV.words {cs cs':Array Value} {root dp k:Int} {ps ps':List Nat} (h:StV cs root dp k ps) (hw:Wd cs' 3 ps') (hs:Sm cs cs' 3):StV cs' root dp k ps' :=
 ⟨hs.1.trans h.sz,(hs.2 0 (by omega)).trans h.c0,(hs.2 1 (by omega)).trans h.c1,(hs.2 2 (by omega)).trans h.c2,hw⟩
theorem ST.exS [Gd] {B p q g:Nat} {s:DS} {t:PS} {w w':World} {cs:Array Value} (h:ST B p q s t w) (f:Ex B [g] w w') (hg:w.heap[g]?=some (.cells cs 54 (0,0))):ST B p q s t w':=by
 obtain ⟨h1,gs,h2⟩:=h
 refine ⟨?_,gs,f.keepX hg h2.hq (by decide),f.keepX hg h2.hs (by decide),h2.qB,h2.gB,h2.ok,h2.hG⟩
 exact h1.of_stay (fun k cs t e ht=>f.keepX hg e (by rcases ht with rfl | rfl | rfl | rfl | rfl | rfl | rfl<;>decide))
def WkR (B fb:Nat) (root dp k:Int) (ps:List Nat) (n:Nat) (pg:List Nat) (w w':World):Prop:=∃ cs',w'.heap[fb]?=some (.cells cs' 54 (0,0))/\StV cs' root dp (k+(n:Int)) (pg.foldl adP ps)/\Ex B [fb] w w'
def Bnd (lo hi:List Nat) (l:List It):Prop:=∀ x∈l,0<cmpB x.1 lo/\(hi=[]\/cmpB x.1 hi<0)
structure PgW (s:DS) (t:PS) (i:Nat) (b:List Nat):Prop where
 lt:i<s.n
 of:t.of (i:Int)≠0
 pg:pageOf (pad (s.show i))=some b
 ln:b.length<=8192
 bt:∀ c∈b,c<256
def OnW (s:DS) (t:PS):(h:Nat)->BT h->Prop
 | 0,b=>PgW s t b.1 (leafB b.2)/\ItsOk b.2
 | h+1,b=>PgW s t b.1 (branB b.2.1 (b.2.2.map BT.id))/\ItsOk b.2.1/\b.2.2.length=b.2.1.length+1/\(∀ k∈b.2.2,BT.id k<9223372036854775808)/\∀ k∈b.2.2,OnW s t h k
theorem PgI.w {s:DS} {t:PS} {i:Nat} {b:List Nat} (h:PgI s t i b):PgW s t i b:=⟨h.lt,by rw [h.of];decide,h.pg,h.ln,h.bt⟩
theorem OnD.w {s:DS} {t:PS}:∀ {h:Nat} {b:BT h},OnD s t h b->OnW s t h b
 | 0,b,⟨h1,h2⟩=>⟨h1.w,h2⟩
 | h+1,b,⟨h1,h2,h3,h4,h5⟩=>⟨h1.w,h2,h3,h4,fun k hk=>OnD.w (h5 k hk)⟩
theorem OnW.ok {s:DS} {t:PS}:∀ {h:Nat} {b:BT h},OnW s t h b->∀ x∈flB h b,ItOk x
 | 0,b,⟨_,hi⟩,x,hx=>hi.ok x hx
 | h+1,b,⟨_,hi,_,_,hk⟩,x,hx=>by
  rcases aF3 _ _ x hx with q | ⟨k,q1,q2⟩
  ·exact hi.ok x q
  ·obtain ⟨kb,q3,rfl⟩:=List.mem_map.1 q1
   exact OnW.ok (hk kb q3) x q2
theorem OnW.pgs {s:DS} {t:PS}:∀ {h:Nat} {b:BT h},OnW s t h b->∀ x∈pgB h b,t.st.getD x 0≠0/\x<s.n
 | 0,b,⟨hp,_⟩,x,hx=>by
  simp only [pgB,List.mem_singleton] at hx
  subst hx
  exact ⟨by rw [<-aBb];exact hp.of,hp.lt⟩
 | h+1,b,⟨hp,_,_,_,hk⟩,x,hx=>by
  rcases List.mem_cons.1 hx with rfl | hx
  ·exact ⟨by rw [<-aBb];exact hp.of,hp.lt⟩
  ·obtain ⟨k,q1,q2⟩:=List.mem_flatten.1 hx
   obtain ⟨kb,q3,rfl⟩:=List.mem_map.1 q1
   exact OnW.pgs (hk kb q3) x q2
def WkC [Gd] (B p q fb:Nat) (s:DS) (t:PS) (h:Nat):Prop :=
 ∀ (w:World) (b:BT h) (cs:Array Value) (root dp k:Int) (ps:List Nat) (lo hi:List Nat) (la:Option Addr) (ln lc:Nat) (ha:Option Addr) (hn hc:Nat),
  ST B p q s t w->B<=w.heap.size->B<=fb->w.heap[fb]?=some (.cells cs 54 (0,0))->StV cs root dp k ps->OnW s t h b->ShB h b->Srt (flB h b)->((BT.id b:Int)=root\/2<=(BT.it b).length)->0<=k->k+((flB h b).length:Int)<=1000000->BK B w la ln lc lo->BK B w ha hn hc hi->lo.length=ln->hi.length=hn->Bnd lo hi (flB h b) ->
  Calls Tryz.prog 64 #[.pointer (some ⟨fb,0,none⟩),.pointer (some ⟨q,0,none⟩),.int .i64 (BT.id b:Int),.slice la ln lc,.slice ha hn hc] w fun e w'=>e=.returned (.int .i64 ((h:Int)+1))/\WkR B fb root dp k ps (flB h b).length (pgB h b) w w'
theorem walk_leaf [Gd] {B p q fb:Nat} {s:DS} {t:PS} (hlf:s.life=t.life) (hdn:s.down=false) (hsn:s.n<=4096):WkC B p q fb s t 0:=by
 intro w b cs root dp k ps lo hi la ln lc ha hn hc hST hB hBf hfb hsv hon hsh hsr hro hk0 hk1 hlo hhi hln hhn hbd
 obtain ⟨hpg,hit⟩:=hon
 have hkk:k+(b.2.length:Int)<=1000000:=hk1
 show Calls Tryz.prog 64 #[.pointer (some ⟨fb,0,none⟩),.pointer (some ⟨q,0,none⟩),.int .i64 (b.1:Int),.slice la ln lc,.slice ha hn hc] w fun e w'=>e=.returned (.int .i64 1)/\WkR B fb root dp k ps b.2.length [b.1] w w'
 have HLD:=zH (aF5 b.1 hST hB hlf hpg.lt hpg.of hdn b.2 hpg.pg hit.n1 hit.n4 hit.ok hit.so hpg.ln hpg.bt)
 have HST:=zH hST
 have HIT:=zH hit
 have hl4:=hit.n4
 have hl1:=hit.n1
 have HB:=zH hB
 have HFB:=zH hfb
 have HSV:=zH hsv
 have HBF:=zH hBf
 have hfl:=(lO hfb)
 have HLO:=zH hlo
 have HHI:=zH hhi
 have HID:Hid (b.1<4096):=Nat.lt_of_lt_of_le hpg.lt hsn
 have HBI:Hid (∀ x∈b.2,0<cmpB x.1 lo/\(hi=[]\/cmpB x.1 hi<0)):=fun x hx=>hbd x (hx)
 clear hST hfb hsv hpg hit hlo hhi hB hBf hsn hlf hdn hbd hsh hsr hk1
 generalize hl:b.2=l at *
 generalize hLL:l.length=L at *
 go_enter Tryz.func64,Tryz.ntmps64
 go_wp2_with fail
 refine HLD.o.mono ?_
 rintro e w1 ⟨v1,rfl,⟨gl,gi,rfl,z1,z2,z3,z4⟩,hb1⟩
 rw [hLL] at z3
 have HIO:=zH (aAq z3)
 unfold lfP at HIO
 have HZ3:=zH z3
 have HB1:=zH hb1
 have HBw1:Hid (B<=w1.heap.size):=nT HB.o hb1.size
 obtain ⟨kf,vf,hg1,hg2⟩:=z4
 rw [hLL] at hg1
 have HG1:=zH hg1
 have HG2:=zH hg2
 have HFB1:=zH ((hb1.block fb hfl).trans HFB.o)
 have r0:w1.cell? ⟨fb,0,none⟩=some (.int .i64 root):=(aAa HFB1.o).trans HSV.o.c0
 have HF1:=zH (FT.of hb1 HB.o)
 clear z3 hb1 HLD hg1 hg2
 go_wp2_with fail
 refine HIO.o.mono ?_
 rintro e w1' ⟨rfl,rfl⟩
 go_upto_region 3 with fail
 go_cut [] from 26 to 37 (fun wx=>wx=w1')
 case first =>
  by_cases hrt:(b.1:Int)=root
  ·have drt:((b.1:Int) == root)=true:=by simp;exact hrt
   subst hrt
   go_wp2_with fail
   refine (aA3 _).mono ?_
   rintro e w2 ⟨rfl,rfl⟩
   go_wp2
   go_meet
   rfl
  ·have drt:((b.1:Int) == root)=false:=by simp;exact hrt
   have x2:(2:Int)<=(L:Int):=by
    rcases hro with h9 | h9
    ·exact absurd h9 hrt
    ·have h9:2<=b.2.length:=h9
     rw [hl,hLL] at h9
     omega
   go_wp2_with fail
   refine (aA3 _).mono ?_
   rintro e w2 ⟨rfl,rfl⟩
   go_wp2
   go_meet
   rfl
 case rest =>
  subst hcut
  obtain ⟨x0,hx0⟩:∃ x,l[0]?=some x:=⟨_,gE (by omega)⟩
  obtain ⟨x9,hx9⟩:∃ x,l[L-1]?=some x:=⟨_,gE (by omega)⟩
  obtain ⟨ka0,kc0,hk0,hb0⟩:=(HG2.o 0 x0 hx0).1
  obtain ⟨ka9,kc9,hk9,hb9⟩:=(HG2.o (L-1) x9 hx9).1
  have y0:wc.cell? ⟨gi,0,none⟩=some (.slice ka0 x0.1.length kc0):=by rw [aAa HG1.o,List.getElem?_toArray,<-hk0];exact aAt kf vf 0 L (by omega)
  have y9:wc.cell? ⟨gi,(L-1)*2,none⟩=some (.slice ka9 x9.1.length kc9):=by rw [aAa HG1.o,List.getElem?_toArray,<-hk9];exact aAt kf vf (L-1) L (by omega)
  have HC0:=zH (aBm ka0 la x0.1.length kc0 ln lc x0.1 lo wc hb0.1 (HLO.o.ft HF1.o).1)
  have HC9:=zH (aBm ka9 ha x9.1.length kc9 hn hc x9.1 hi wc hb9.1 (HHI.o.ft HF1.o).1)
  have xc0:(0:Int)<cmpB x0.1 lo:=(HBI.o x0 (mG hx0)).1
  have HX9:=zH (HBI.o x9 (mG hx9)).2
  clear hx0 hx9 hb0 hb9 hk0 hk9
  generalize cmpB x0.1 lo=cc0 at *
  generalize cmpB x9.1 hi=cc9 at *
  generalize x0.1.length=n00 at *
  generalize x9.1.length=n99 at *
  have xL0:(0:Int)<(L:Int):=by omega
  have xL1:((L:Int)-1)=((L-1:Nat):Int):=by omega
  have xL2:((L-1:Nat):Int)<(L:Int):=by omega
  go_wp2_with fail
  refine HC0.o.mono ?_
  rintro e w2 ⟨rfl,rfl⟩
  go_wp2_with fail
  refine (aA3 _).mono ?_
  rintro e w3 ⟨rfl,rfl⟩
  go_upto_region 5 with fail
  go_cut [] from 46 to 61 (fun wx=>wx=w3)
  case first =>
   by_cases hhe:hn=0
   ·subst hhe
    go_wp2_with fail
    refine (aA3 _).mono ?_
    rintro e w4 ⟨rfl,rfl⟩
    go_wp2
    go_meet
    rfl
   ·have xh:¬ (hn:Int)=0:=by omega
    have dh:((hn:Int) == 0)=false:=by simp;omega
    have xc9:cc9<0:=by
     rcases HX9.o with h9 | h9
     ·rw [h9] at hhn
      simp at hhn
      omega
     ·exact h9
    go_wp2_with fail
    refine HC9.o.mono ?_
    rintro e w4 ⟨rfl,rfl⟩
    go_wp2_with fail
    refine (aA3 _).mono ?_
    rintro e w5 ⟨rfl,rfl⟩
    go_wp2
    go_meet
    rfl
  case rest =>
   subst hcut
   have r2:wc.cell? ⟨fb,2,none⟩=some (.int .i64 k):=(aAa HFB1.o).trans HSV.o.c2
   have f2:wc.frozen? ⟨fb,2,none⟩=false:=aAc HFB1.o
   have HFB2:Hid ((wc.setCell ⟨fb,2,none⟩ (.int .i64 (k+(L:Int)))).heap[fb]?=some (.cells (cs.setIfInBounds 2 (.int .i64 (k+(L:Int)))) 54 (0,0))):=heap_setCell_same _ _ _ _ _ _ HFB1.o
   have HSV2:=zH (HSV.o.keys (k':=k+(L:Int)))
   have HEX2:Hid (Ex B [fb] wc (wc.setCell ⟨fb,2,none⟩ (.int .i64 (k+(L:Int))))):=Ex.set HBF.o
   have HAD:=zH (add_ok (B:=B) (o:=3) HBF.o HFB2.o HSV2.o.wd HID.o)
   clear y0 y9 r0 HC0 HC9 HX9
   go_wp2_with fail
   refine HAD.o.mono ?_
   rintro e w4 ⟨rfl,cs4,p1,p2,p3,p4⟩
   have HFB4:=zH p1
   have HSV4:=zH (HSV2.o.words p2 p3)
   have HEX4:=zH (HEX2.o.trans p4)
   have HEXw:Hid (Ex B [fb] w w4):=⟨(HB1.o.mono HB.o).trans HEX4.o.1,fun k9 h8 h9=>by rw [HEX4.o.2 k9 (Nat.lt_of_lt_of_le h8 HB1.o.size) h9,HB1.o.block k9 h8]⟩
   have ta:=aAm (.pointer (some ⟨gl,0,none⟩)) w4
   clear p1 p2 p3 p4 r2 f2 HAD
   go_wp2
   go_ret
   exact ⟨rfl,cs4,HFB4.o,HSV4.o,HEXw.o⟩
theorem kid_bounds {l:List It} {cs:List (List It)} {c:List It} {j:Nat} (hs:Srt (weave l cs)) (hl:cs.length=l.length+1) (hc:cs[j]?=some c):(∀ z,0<j->l[j-1]?=some z->∀ x∈c,0<cmpB x.1 z.1)/\(∀ z,l[j]?=some z->∀ x∈c,cmpB x.1 z.1<0):=by
 have hjl:=(lL hc)
 have hw:=aAv l cs j c hl hc
 rw [hw] at hs
 obtain ⟨p1,p2,p3⟩:=hs.app
 obtain ⟨p4,p5,p6⟩:=p2.app
 constructor
 ·intro z h0 hz x hx
  obtain ⟨a,ha⟩:=wvL_end (l.take j) (cs.take j) z (by simp;omega) (by
   rw [List.getLast?_eq_getElem?,List.length_take,Nat.min_eq_left (by omega),List.getElem?_take_of_lt (by omega)]
   exact hz)
  have h1:=p3 z (by rw [ha];simp) x (List.mem_append_left _ hx)
  rw [aBc] at h1
  omega
 ·intro z hz x hx
  obtain ⟨c2,hc2⟩:∃ c2,cs[j+1]?=some c2:=⟨_,gE (by have:=(lL hz);omega)⟩
  rw [aDr hz hc2] at p6
  exact p6 x hx z (by simp)
theorem Ex.wk {B fb:Nat} {a b c:World} (h:Ex B [fb] a b) (k:Ex B [fb] b c):Ex B [fb] a c:=h.trans k
theorem walk_branch [Gd] {B p q fb h:Nat} {s:DS} {t:PS} (hlf:s.life=t.life) (hdn:s.down=false) (hsn:s.n<=4096) (hh:h<100000) (hIH:WkC B p q fb s t h):WkC B p q fb s t (h+1):=by
 intro w b cs root dp k ps lo hi la ln lc ha hn hc hST hB hBf hfb hsv hon hsh hsr hro hk0 hk1 hlo hhi hln hhn hbd
 obtain ⟨hpg,hit,hcl,hid,hkd⟩:=hon
 obtain ⟨s1,s2,s3⟩:=hsh
 have hidl:(b.2.2.map BT.id).length=b.2.1.length+1:=by rw [List.length_map];exact hcl
 have hcs:(b.2.2.map (flB h)).length=b.2.1.length+1:=by rw [List.length_map];exact hcl
 have HIH:=zH hIH
 have HBD:=zH hbd
 have HSR:Hid (Srt (weave b.2.1 (b.2.2.map (flB h)))):=hsr
 have HCS:=zH hcs
 have HLN:Hid ((flB (h+1) b).length=b.2.1.length+((b.2.2.map (flB h)).map List.length).sum):=aB0 _ _ hcs
 have HPG:Hid (pgB (h+1) b=b.1::(b.2.2.map (pgB h)).flatten):=rfl
 have HK1:=zH hk1
 have HFL:Hid (flB (h+1) b=weave b.2.1 (b.2.2.map (flB h))):=rfl
 rw [HPG.o]
 show Calls Tryz.prog 64 #[.pointer (some ⟨fb,0,none⟩),.pointer (some ⟨q,0,none⟩),.int .i64 (b.1:Int),.slice la ln lc,.slice ha hn hc] w fun e w'=>e=.returned (.int .i64 ((((h+1:Nat):Nat):Int)+1))/\WkR B fb root dp k ps (flB (h+1) b).length (b.1::(b.2.2.map (pgB h)).flatten) w w'
 rw [show (((h+1:Nat):Nat):Int)+1=(h:Int)+1+1 by omega]
 have hkk:k+(b.2.1.length:Int)<=1000000:=by have:=HLN.o;omega
 clear hIH hsr hk1
 generalize hALL:flB (h+1) b=all at *
 have HLD:=zH (aEe b.1 hST hB hlf hpg.lt hpg.of hdn b.2.1 (b.2.2.map BT.id) hpg.pg hidl (by intro x hx;obtain ⟨k,hk,rfl⟩:=List.mem_map.1 hx;exact hid k hk) hit.n1 hit.n4 hit.ok hit.so hpg.ln hpg.bt)
 have HST:=zH hST
 have HIT:=zH hit
 have hl4:=hit.n4
 have hl1:=hit.n1
 have HB:=zH hB
 have HFB:=zH hfb
 have HSV:=zH hsv
 have HBF:=zH hBf
 have hfl:=(lO hfb)
 have HLO:=zH hlo
 have HHI:=zH hhi
 have HID:Hid (b.1<4096):=Nat.lt_of_lt_of_le hpg.lt hsn
 have HKD:=zH hkd
 have HS3:=zH s3
 have HBI:Hid (∀ x∈b.2.1,0<cmpB x.1 lo/\(hi=[]\/cmpB x.1 hi<0)):=fun x hx=>hbd x (by rw [HFL.o];exact aFn _ _ hcs _ hx)
 clear hST hfb hsv hpg hit hlo hhi hB hBf hsn hlf hdn hbd
 generalize hl:b.2.1=l at *
 generalize hLL:l.length=L at *
 have hn2:(b.2.2.map BT.id).length=L+1:=hidl
 go_enter Tryz.func64,Tryz.ntmps64
 go_wp2_with fail
 refine HLD.o.mono ?_
 rintro e w1 ⟨v1,rfl,⟨gb,gi,gc,rfl,z1,z2,z5,z3,z4,z6⟩,hb1⟩
 rw [hLL,hn2] at z3
 have HIO:=zH (aAn z3)
 unfold brP at HIO
 have HZ6:=zH z6
 have HZ3:=zH z3
 have HB1:=zH hb1
 have HBw1:Hid (B<=w1.heap.size):=nT HB.o hb1.size
 obtain ⟨kf,vf,hg1,hg2⟩:=z4
 rw [hLL] at hg1
 have HG1:=zH hg1
 have HG2:=zH hg2
 have HFB1:=zH ((hb1.block fb hfl).trans HFB.o)
 have r0:w1.cell? ⟨fb,0,none⟩=some (.int .i64 root):=(aAa HFB1.o).trans HSV.o.c0
 have HF1:=zH (FT.of hb1 HB.o)
 clear z3 hb1 HLD hg1 hg2
 go_wp2_with fail
 refine HIO.o.mono ?_
 rintro e w1' ⟨rfl,rfl⟩
 go_upto_region 3 with fail
 go_cut [] from 26 to 37 (fun wx=>wx=w1')
 case first =>
  by_cases hrt:(b.1:Int)=root
  ·have drt:((b.1:Int) == root)=true:=by simp;exact hrt
   subst hrt
   go_wp2_with fail
   refine (aA3 _).mono ?_
   rintro e w2 ⟨rfl,rfl⟩
   go_wp2
   go_meet
   rfl
  ·have drt:((b.1:Int) == root)=false:=by simp;exact hrt
   have x2:(2:Int)<=(L:Int):=by
    rcases hro with h9 | h9
    ·exact absurd h9 hrt
    ·have h9:2<=b.2.1.length:=h9
     rw [hl,hLL] at h9
     omega
   go_wp2_with fail
   refine (aA3 _).mono ?_
   rintro e w2 ⟨rfl,rfl⟩
   go_wp2
   go_meet
   rfl
 case rest =>
  subst hcut
  obtain ⟨x0,hx0⟩:∃ x,l[0]?=some x:=⟨_,gE (by omega)⟩
  obtain ⟨x9,hx9⟩:∃ x,l[L-1]?=some x:=⟨_,gE (by omega)⟩
  obtain ⟨ka0,kc0,hk0,hb0⟩:=(HG2.o 0 x0 hx0).1
  obtain ⟨ka9,kc9,hk9,hb9⟩:=(HG2.o (L-1) x9 hx9).1
  have y0:wc.cell? ⟨gi,0,none⟩=some (.slice ka0 x0.1.length kc0):=by rw [aAa HG1.o,List.getElem?_toArray,<-hk0];exact aAt kf vf 0 L (by omega)
  have y9:wc.cell? ⟨gi,(L-1)*2,none⟩=some (.slice ka9 x9.1.length kc9):=by rw [aAa HG1.o,List.getElem?_toArray,<-hk9];exact aAt kf vf (L-1) L (by omega)
  have HC0:=zH (aBm ka0 la x0.1.length kc0 ln lc x0.1 lo wc hb0.1 (HLO.o.ft HF1.o).1)
  have HC9:=zH (aBm ka9 ha x9.1.length kc9 hn hc x9.1 hi wc hb9.1 (HHI.o.ft HF1.o).1)
  have xc0:(0:Int)<cmpB x0.1 lo:=(HBI.o x0 (mG hx0)).1
  have HX9:=zH (HBI.o x9 (mG hx9)).2
  clear hx0 hx9 hb0 hb9 hk0 hk9
  generalize cmpB x0.1 lo=cc0 at *
  generalize cmpB x9.1 hi=cc9 at *
  generalize x0.1.length=n00 at *
  generalize x9.1.length=n99 at *
  have xL0:(0:Int)<(L:Int):=by omega
  have xL1:((L:Int)-1)=((L-1:Nat):Int):=by omega
  have xL2:((L-1:Nat):Int)<(L:Int):=by omega
  go_wp2_with fail
  refine HC0.o.mono ?_
  rintro e w2 ⟨rfl,rfl⟩
  go_wp2_with fail
  refine (aA3 _).mono ?_
  rintro e w3 ⟨rfl,rfl⟩
  go_upto_region 5 with fail
  go_cut [] from 46 to 61 (fun wx=>wx=w3)
  case first =>
   by_cases hhe:hn=0
   ·subst hhe
    go_wp2_with fail
    refine (aA3 _).mono ?_
    rintro e w4 ⟨rfl,rfl⟩
    go_wp2
    go_meet
    rfl
   ·have xh:¬ (hn:Int)=0:=by omega
    have dh:((hn:Int) == 0)=false:=by simp;omega
    have xc9:cc9<0:=by
     rcases HX9.o with h9 | h9
     ·rw [h9] at hhn
      simp at hhn
      omega
     ·exact h9
    go_wp2_with fail
    refine HC9.o.mono ?_
    rintro e w4 ⟨rfl,rfl⟩
    go_wp2_with fail
    refine (aA3 _).mono ?_
    rintro e w5 ⟨rfl,rfl⟩
    go_wp2
    go_meet
    rfl
  case rest =>
   subst hcut
   have r2:wc.cell? ⟨fb,2,none⟩=some (.int .i64 k):=(aAa HFB1.o).trans HSV.o.c2
   have f2:wc.frozen? ⟨fb,2,none⟩=false:=aAc HFB1.o
   have HFB2:Hid ((wc.setCell ⟨fb,2,none⟩ (.int .i64 (k+(L:Int)))).heap[fb]?=some (.cells (cs.setIfInBounds 2 (.int .i64 (k+(L:Int)))) 54 (0,0))):=heap_setCell_same _ _ _ _ _ _ HFB1.o
   have HSV2:=zH (HSV.o.keys (k':=k+(L:Int)))
   have HEX2:Hid (Ex B [fb] wc (wc.setCell ⟨fb,2,none⟩ (.int .i64 (k+(L:Int))))):=Ex.set HBF.o
   have HAD:=zH (add_ok (B:=B) (o:=3) HBF.o HFB2.o HSV2.o.wd HID.o)
   clear y0 y9 r0 HC0 HC9 HX9
   go_wp2_with fail
   refine HAD.o.mono ?_
   rintro e w4 ⟨rfl,cs4,p1,p2,p3,p4⟩
   have HFB4:=zH p1
   have HSV4:=zH (HSV2.o.words p2 p3)
   have HEX4:=zH (HEX2.o.trans p4)
   have HEXw:Hid (Ex B [fb] w w4):=⟨(HB1.o.mono HB.o).trans HEX4.o.1,fun k9 h8 h9=>by rw [HEX4.o.2 k9 (Nat.lt_of_lt_of_le h8 HB1.o.size) h9,HB1.o.block k9 h8]⟩
   have ta:=aAk (.pointer (some ⟨gb,0,none⟩)) w4
   clear p1 p2 p3 p4 r2 f2 HAD
   have hm:∀ (ds:List (BT h)),((ds.map (flB h)).map List.length).sum=(ds.map fun d=>(flB h d).length).sum:=fun ds=>by rw [List.map_map];rfl
   have HSUM:Hid (all.length=L+(b.2.2.map fun d=>(flB h d).length).sum):=by
    show _=_
    rw [HLN.o,hm]
   have HG1':=zH ((HEX4.o.2 gi (lO HG1.o) (by
    intro q9
    simp only [List.mem_singleton] at q9
    have h9:=HG1.o
    rw [q9,HFB1.o] at h9
    simp only [oI,cI] at h9
    exact absurd h9.2.1 (by decide))).trans HG1.o)
   have HGB4:=zH (HEX4.o.keepX HFB1.o HZ3.o (by decide))
   have HGC4:=zH (HEX4.o.keepX HFB1.o HZ6.o (by decide))
   have HF4:Hid (FT B wc w4):=HEX4.o.ftX HFB1.o (by decide)
   have g1:w4.cell? ⟨gb,1,none⟩=some (.slice (some ⟨gc,0,none⟩) (L+1) (L+1)):=aAa HGB4.o
   have HST4:Hid (ST B p q s t w4):=HST.o.exS HEXw.o HFB.o
   have HBw4:Hid (B<=w4.heap.size):=nT HB.o HEXw.o.1.size
   go_wp2_with fail
   go_loopw [88,15] (fun i hgt wx=>∃ j:Nat,j<=L+1/\i=.int .i64 j/\hgt=.int .i64 (if j=0 then 0 else (h:Int)+1)/\∃ csj,wx.heap[fb]?=some (.cells csj 54 (0,0))/\StV csj root dp (k+(L:Int)+(((b.2.2.take j).map fun d=>(flB h d).length).sum:Nat)) (((b.2.2.take j).map (pgB h)).flatten.foldl adP (adP ps b.1))/\Ex B [fb] w4 wx) (fun i _ _=>L+1-(intOf i).toNat)
   case atStart=>exact ⟨0,by omega,rfl,rfl,cs4,HFB4.o,by simpa using HSV4.o,Ex.refl _ _ _⟩
   case round =>
    obtain ⟨j,hj,rfl,rfl,csj,hfj,hsj,hej⟩:=hrel
    have HFBj:=zH hfj
    have HSVj:=zH hsj
    have HEXj:=zH hej
    have HEWj:=zH (HEXw.o.wk hej)
    clear hfj hsj hej g1 ta
    by_cases hjn:j<L+1
    ·have xj:(j:Int)<((L+1:Nat):Int):=by omega
     obtain ⟨kb,hkb⟩:∃ kb,b.2.2[j]?=some kb:=⟨_,gE (by omega)⟩
     have hkm:=mG hkb
     have hkc:(b.2.2.map (flB h))[j]?=some (flB h kb):=by rw [List.getElem?_map,hkb];rfl
     have HKB:=zH (kid_bounds HSR.o (by rw [hLL];exact HCS.o) hkc)
     have HKS:Hid (Srt (flB h kb)):=Srt.kid HSR.o (by rw [hLL];exact HCS.o) (mG hkc)
     have HCB:Hid (∀ x∈flB h kb,0<cmpB x.1 lo/\(hi=[]\/cmpB x.1 hi<0)):=fun x hx=>HBD.o x (by rw [HFL.o];exact (aC1 l _ _ (by rw [hLL];exact HCS.o) (mG hkc)).subset hx)
     have HGR:=zH (HEXj.o.keepX HFB4.o HG1'.out (by decide))
     have HFT:Hid (FT B wc wr):=HF4.o.trans (HEXj.o.ftX HFB4.o (by decide))
     have HSTr:Hid (ST B p q s t wr):=HST4.o.exS HEXj.o HFB4.o
     have HBr:Hid (B<=wr.heap.size):=nT HBw4.o HEXj.o.1.size
     have hgc:=HEXj.o.keepX HFB4.o HGC4.o (by decide)
     have g2:wr.cell? ⟨gc,j,none⟩=some (.iface 92 (.int .i64 (BT.id kb:Int))):=by
      rw [aAa hgc,List.getElem?_toArray,List.getElem?_map,List.getElem?_map,hkb]
      rfl
     have g3:=aDb (.int .i64 (BT.id kb:Int)) wr
     have htk:(b.2.2.take (j+1)).map (fun d=>(flB h d).length)=(b.2.2.take j).map (fun d=>(flB h d).length)++[(flB h kb).length]:=by
      rw [List.take_add_one,hkb];simp
     have htp:((b.2.2.take (j+1)).map (pgB h)).flatten=((b.2.2.take j).map (pgB h)).flatten++pgB h kb:=by
      rw [List.take_add_one,hkb];simp
     have hle:((b.2.2.take (j+1)).map fun d=>(flB h d).length).sum<=(b.2.2.map fun d=>(flB h d).length).sum:=by
      conv=>rhs;rw [<-List.take_append_drop (j+1) b.2.2,List.map_append,List.sum_append]
      omega
     rw [htk,List.sum_append] at hle
     simp only [List.sum_cons,List.sum_nil,Nat.add_zero] at hle
     generalize hkj:k+(L:Int)+(((b.2.2.take j).map fun d=>(flB h d).length).sum:Nat)=kj at *
     generalize hpj:((b.2.2.take j).map (pgB h)).flatten.foldl adP (adP ps b.1)=psj at *
     have HKJ0:Hid (0<=kj):=by show 0<=kj;omega
     have HKJ1:Hid (kj+((flB h kb).length:Int)<=1000000):=by
      have h1:=HK1.o
      have h2:=HSUM.o
      show kj+((flB h kb).length:Int)<=1000000
      omega
     have HNX:Hid (∀ (csn:Array Value) (wn:World),wn.heap[fb]?=some (.cells csn 54 (0,0))->StV csn root dp (kj+((flB h kb).length:Int)) ((pgB h kb).foldl adP psj)->Ex B [fb] w4 wn->∃ j':Nat,j'<=L+1/\Value.int .i64 (j+1)=.int .i64 j'/\Value.int .i64 ((h:Int)+1)=.int .i64 (if j'=0 then 0 else (h:Int)+1)/\∃ csj,wn.heap[fb]?=some (.cells csj 54 (0,0))/\StV csj root dp (k+(L:Int)+(((b.2.2.take j').map fun d=>(flB h d).length).sum:Nat)) (((b.2.2.take j').map (pgB h)).flatten.foldl adP (adP ps b.1))/\Ex B [fb] w4 wn):=by
      intro csn wn a1 a2 a3
      refine ⟨j+1,by omega,by simp,by simp,csn,a1,?_,a3⟩
      rw [htk,htp,List.sum_append,List.foldl_append,hpj]
      rw [<-hkj] at a2
      have:k+(L:Int)+((((b.2.2.take j).map fun d=>(flB h d).length).sum+[(flB h kb).length].sum:Nat):Int)=k+(L:Int)+(((b.2.2.take j).map fun d=>(flB h d).length).sum:Nat)+((flB h kb).length:Int):=by
       simp only [List.sum_cons,List.sum_nil,Nat.add_zero]
       omega
      rw [this]
      exact a2
     clear hgc htk htp hle hkb hkc hkj hpj
     by_cases hj00:j=0
     ·obtain ⟨x1,hx1⟩:∃ x,l[j]?=some x:=⟨_,gE (by omega)⟩
      obtain ⟨ka1,kc1,hka1,hkb1⟩:=(HG2.o j x1 hx1).1
      have y1:wr.cell? ⟨gi,j*2,none⟩=some (.slice ka1 x1.1.length kc1):=by rw [aAa HGR.o,List.getElem?_toArray,<-hka1];exact aAt kf vf j L (by omega)
      have hb1':=hkb1.ft HFT.o
      have hx11:=HKB.o.2 x1 hx1
      have HCW:=zH (HIH.o wr kb csj root dp kj psj lo x1.1 la ln lc ka1 x1.1.length kc1 HSTr.o HBr.o HBF.o HFBj.o HSVj.o (HKD.o kb hkm) (HS3.o kb hkm).1 HKS.o (Or.inr (HS3.o kb hkm).2) HKJ0.o HKJ1.o ((HLO.o.ft HF1.o).ft HFT.o) (hb1') hln rfl (fun x hx=>⟨(HCB.o x hx).1,Or.inr (hx11 x hx)⟩))
      generalize x1.1.length=n1 at *
      subst hj00
      clear hkb1 hb1' hka1 hx1 hx11
      go_wp2_with fail
      refine HCW.o.mono ?_
      rintro e w5 ⟨rfl,csn,p1,p2,p3⟩
      have HFBn:=zH p1
      have HSVn:=zH p2
      have HEXn:=zH (HEXj.o.wk p3)
      clear p1 p2 p3 HCW
      go_wp2_with fail
      refine (aA3 _).mono ?_
      rintro e w6 ⟨rfl,rfl⟩
      go_wp2_with fail
      go_roundw
      case rel=>exact HNX.o _ _ HFBn.o HSVn.o HEXn.o
      case measure=>simp [intOf]
     ·have xj0:(0:Int)<(j:Int):=by omega
      have xj00:¬ (j:Int)=0:=by omega
      have dj00:((j:Int) == 0)=false:=by simp;omega
      simp only [if_neg hj00]
      by_cases hjl:j<L
      ·have xjl:(j:Int)<(L:Int):=by omega
       obtain ⟨x0,hx0⟩:∃ x,l[j-1]?=some x:=⟨_,gE (by omega)⟩
       obtain ⟨ka0,kc0,hka0,hkb0⟩:=(HG2.o (j-1) x0 hx0).1
       have y0:wr.cell? ⟨gi,(j-1)*2,none⟩=some (.slice ka0 x0.1.length kc0):=by rw [aAa HGR.o,List.getElem?_toArray,<-hka0];exact aAt kf vf (j-1) L (by omega)
       have xj1:((j:Int)-1)=((j-1:Nat):Int):=by omega
       have xj2:((j-1:Nat):Int)<(L:Int):=by omega
       have hb0':=hkb0.ft HFT.o
       have hx01:=HKB.o.1 x0 (by omega) hx0
       obtain ⟨x1,hx1⟩:∃ x,l[j]?=some x:=⟨_,gE (by omega)⟩
       obtain ⟨ka1,kc1,hka1,hkb1⟩:=(HG2.o j x1 hx1).1
       have y1:wr.cell? ⟨gi,j*2,none⟩=some (.slice ka1 x1.1.length kc1):=by rw [aAa HGR.o,List.getElem?_toArray,<-hka1];exact aAt kf vf j L (by omega)
       have hb1':=hkb1.ft HFT.o
       have hx11:=HKB.o.2 x1 hx1
       have HCW:=zH (HIH.o wr kb csj root dp kj psj x0.1 x1.1 ka0 x0.1.length kc0 ka1 x1.1.length kc1 HSTr.o HBr.o HBF.o HFBj.o HSVj.o (HKD.o kb hkm) (HS3.o kb hkm).1 HKS.o (Or.inr (HS3.o kb hkm).2) HKJ0.o HKJ1.o (hb0') (hb1') rfl rfl (fun x hx=>⟨hx01 x hx,Or.inr (hx11 x hx)⟩))
       generalize x0.1.length=n0 at *
       generalize x1.1.length=n1 at *
       clear hkb0 hb0' hka0 hx0 hx01
       clear hkb1 hb1' hka1 hx1 hx11
       go_wp2_with fail
       refine HCW.o.mono ?_
       rintro e w5 ⟨rfl,csn,p1,p2,p3⟩
       have HFBn:=zH p1
       have HSVn:=zH p2
       have HEXn:=zH (HEXj.o.wk p3)
       clear p1 p2 p3 HCW
       go_wp2_with fail
       refine (aA3 _).mono ?_
       rintro e w6 ⟨rfl,rfl⟩
       go_wp2_with fail
       go_roundw
       case rel=>exact HNX.o _ _ HFBn.o HSVn.o HEXn.o
       case measure=>simp [intOf];omega
      ·have xjl:¬ (j:Int)<(L:Int):=by omega
       obtain ⟨x0,hx0⟩:∃ x,l[j-1]?=some x:=⟨_,gE (by omega)⟩
       obtain ⟨ka0,kc0,hka0,hkb0⟩:=(HG2.o (j-1) x0 hx0).1
       have y0:wr.cell? ⟨gi,(j-1)*2,none⟩=some (.slice ka0 x0.1.length kc0):=by rw [aAa HGR.o,List.getElem?_toArray,<-hka0];exact aAt kf vf (j-1) L (by omega)
       have xj1:((j:Int)-1)=((j-1:Nat):Int):=by omega
       have xj2:((j-1:Nat):Int)<(L:Int):=by omega
       have hb0':=hkb0.ft HFT.o
       have hx01:=HKB.o.1 x0 (by omega) hx0
       have HCW:=zH (HIH.o wr kb csj root dp kj psj x0.1 hi ka0 x0.1.length kc0 ha hn hc HSTr.o HBr.o HBF.o HFBj.o HSVj.o (HKD.o kb hkm) (HS3.o kb hkm).1 HKS.o (Or.inr (HS3.o kb hkm).2) HKJ0.o HKJ1.o (hb0') ((HHI.o.ft HF1.o).ft HFT.o) rfl hhn (fun x hx=>⟨hx01 x hx,(HCB.o x hx).2⟩))
       generalize x0.1.length=n0 at *
       clear hkb0 hb0' hka0 hx0 hx01
       go_wp2_with fail
       refine HCW.o.mono ?_
       rintro e w5 ⟨rfl,csn,p1,p2,p3⟩
       have HFBn:=zH p1
       have HSVn:=zH p2
       have HEXn:=zH (HEXj.o.wk p3)
       clear p1 p2 p3 HCW
       go_wp2_with fail
       refine (aA3 _).mono ?_
       rintro e w6 ⟨rfl,rfl⟩
       go_wp2_with fail
       go_roundw
       case rel=>exact HNX.o _ _ HFBn.o HSVn.o HEXn.o
       case measure=>simp [intOf];omega
    ·have xj:¬ (j:Int)<((L+1:Nat):Int):=by omega
     obtain rfl:j=L+1:=by omega
     have htt:b.2.2.take (L+1)=b.2.2:=List.take_of_length_le (by omega)
     rw [htt] at HSVj
     have hjz:¬ L+1=0:=by omega
     simp only [if_neg hjz]
     go_wp2
     go_ret
     refine ⟨rfl,csj,HFBj.o,?_,HEWj.o⟩
     rw [HSUM.o,List.foldl_cons]
     have:k+((L+(b.2.2.map fun d=>(flB h d).length).sum:Nat):Int)=k+(L:Int)+((b.2.2.map fun d=>(flB h d).length).sum:Nat):=by omega
     rw [this]
     exact HSVj.o
theorem walk_ok [Gd] {B p q fb:Nat} {s:DS} {t:PS} (hlf:s.life=t.life) (hdn:s.down=false) (hsn:s.n<=4096):∀ h,h<100000->WkC B p q fb s t h
 | 0,_=>walk_leaf hlf hdn hsn
 | h+1,hh=>walk_branch hlf hdn hsn (by omega) (walk_ok hlf hdn hsn h (by omega))
end Go.Proofs.YtfobcelkmopohaaGreat
set_option linter.unusedVariables false
namespace Go.Proofs.YtfobcelkmopohaaGreat
def gn1:{h:Nat}->ED h->List Nat
 | 0,.inl t=>[t.1]
 | 0,.inr _=>[]
 | _+1,.inl t=>[t.1]
 | _+1,.inr _=>[]
def gnO {h:Nat}:Option (ED h)->List Nat
 | some e=>gn1 e
 | none=>[]
def gnS {h:Nat} (c:List (ED h)) (i:Nat):List Nat :=
 match c[i]? with
 | some e=>if (itE e).length<2 then gnO c[i-1]?++gnO c[i-1+1]? else []
 | none=>[]
def gnW:(h:Nat)->ED h->List Nat
 | 0,e=>gn1 e
 | h+1,e=>gn1 e++match (opS e).2[(opS e).1.length]? with
  | some d=>gnW h d++gnS ((opS e).2.set (opS e).1.length (wolE h d).1) (opS e).1.length
  | none=>[]
def gnD:(h:Nat)->ED h->List Nat->List Nat
 | 0,e,_=>gn1 e
 | h+1,e,k=>gn1 e++match (opS e).2[fndI (opS e).1 k]? with
  | some d=>if hasI (opS e).1 k then gnW h d++gnS ((opS e).2.set (fndI (opS e).1 k) (wolE h d).1) (fndI (opS e).1 k)
   else gnD h d k++(if (delE h d k).2 then gnS ((opS e).2.set (fndI (opS e).1 k) (delE h d k).1) (fndI (opS e).1 k) else [])
  | none=>[]
theorem gnW_eq {h:Nat} {e:ED (h+1)} {d:ED h} (hd:(opS e).2[(opS e).1.length]?=some d):gnW (h+1) e=gn1 e++(gnW h d++gnS ((opS e).2.set (opS e).1.length (wolE h d).1) (opS e).1.length):=by
 show gn1 e++(match (opS e).2[(opS e).1.length]? with
  | some d=>gnW h d++gnS ((opS e).2.set (opS e).1.length (wolE h d).1) (opS e).1.length
  | none=>[])=_
 rw [hd]
theorem gnD_eq {h:Nat} {e:ED (h+1)} {k:List Nat} {d:ED h} (hd:(opS e).2[fndI (opS e).1 k]?=some d):gnD (h+1) e k=gn1 e++(if hasI (opS e).1 k then gnW h d++gnS ((opS e).2.set (fndI (opS e).1 k) (wolE h d).1) (fndI (opS e).1 k)
   else gnD h d k++(if (delE h d k).2 then gnS ((opS e).2.set (fndI (opS e).1 k) (delE h d k).1) (fndI (opS e).1 k) else [])):=by
 show gn1 e++(match (opS e).2[fndI (opS e).1 k]? with
  | some d=>if hasI (opS e).1 k then gnW h d++gnS ((opS e).2.set (fndI (opS e).1 k) (wolE h d).1) (fndI (opS e).1 k)
   else gnD h d k++(if (delE h d k).2 then gnS ((opS e).2.set (fndI (opS e).1 k) (delE h d k).1) (fndI (opS e).1 k) else [])
  | none=>[])=_
 rw [hd]
theorem aFh:∀ (e:ED 0),olP 0 e=gn1 e
 | .inl _=>rfl
 | .inr _=>rfl
theorem aHy {h:Nat}:∀ (e:ED (h+1)),olP (h+1) e=gn1 e++((opS e).2.map (olP h)).flatten
 | .inl t=>by
  show t.1::(t.2.2.map (pgB h)).flatten=[t.1]++((t.2.2.map old).map (olP h)).flatten
  rw [aD9]
  rfl
 | .inr x=>rfl
theorem ol_mrg:∀ {h:Nat} (a:ED h) (x:It) (b:ED h),(olP h a++olP h b).Perm (gn1 a++gn1 b++olP h (mrgE a x b))
 | 0,a,x,b=>by
  rw [aFh,aFh]
  show (gn1 a++gn1 b).Perm (gn1 a++gn1 b++[])
  rw [List.append_nil]
 | h+1,a,x,b=>by
  rw [aHy,aHy]
  show List.Perm _ (gn1 a++gn1 b++(((opS a).2++(opS b).2).map (olP h)).flatten)
  rw [List.map_append,List.flatten_append,List.perm_iff_count]
  intro y
  simp only [List.count_append]
  omega
theorem aC5:∀ {h:Nat} (a:ED h) (x:It) (b:ED h),isNew (mrgE a x b)
 | 0,_,_,_=>trivial
 | _+1,_,_,_=>trivial
theorem ol_setD {h:Nat} {l:List It} {c:List (ED h)} {i:Nat} (hl:c.length=l.length+1) (hl1:1<=l.length) (hi:i<c.length) (hc:∀ e,c[i]?=some e->isNew e):(c.map (olP h)).flatten.Perm (gnS c i++((setD l c i).2.map (olP h)).flatten):=by
 unfold setD gnS
 rw [gE hi]
 simp only
 by_cases h2:(itE c[i]).length<2
 ·rw [if_pos h2,if_pos h2]
  obtain ⟨a,ha⟩:∃ a,c[i-1]?=some a:=⟨_,gE (by omega)⟩
  obtain ⟨x,hx⟩:∃ x,l[i-1]?=some x:=⟨_,gE (by omega)⟩
  obtain ⟨b,hb⟩:∃ b,c[i-1+1]?=some b:=⟨_,gE (by omega)⟩
  have ha1:=(lL ha)
  rw [mgd_eq ha hx hb,ha,hb,aHz]
  ·have hp:=ol_mrg a x b
   conv=>lhs;rw [aIe ha hb]
   rw [List.perm_iff_count] at hp ⊢
   intro y
   have:=hp y
   simp only [gnO,List.map_append,List.map_cons,List.flatten_append,List.flatten_cons,List.count_append] at this ⊢
   omega
  ·intro e he
   simp only at he
   rw [List.getElem?_append_right (by simp;omega)] at he
   have em:i-1-(List.take (i-1) c).length=0:=by rw [List.length_take];omega
   rw [em,List.getElem?_cons_zero] at he
   simp only [oI] at he
   subst he
   exact aC5 a x b
 ·rw [if_neg h2,if_neg h2,aHz hc]
  exact List.Perm.refl _
theorem flat_set {h:Nat} {c:List (ED h)} {i:Nat} {d d':ED h} {G:List Nat} (hd:c[i]?=some d) (hp:(olP h d).Perm (G++olP h d')):(c.map (olP h)).flatten.Perm (G++((c.set i d').map (olP h)).flatten):=by
 have hi:=(lL hd)
 conv=>lhs;rw [aAh hd]
 rw [List.set_eq_take_append_cons_drop,if_pos hi]
 rw [List.perm_iff_count] at hp ⊢
 intro y
 have:=hp y
 simp only [List.map_append,List.map_cons,List.flatten_append,List.flatten_cons,List.count_append] at this ⊢
 omega
theorem aCs:∀ {h:Nat} (e:ED h),isNew (wolE h e).1
 | 0,_=>trivial
 | h+1,e=>by
  cases hd:(opS e).2[(opS e).1.length]? with
  | some d=>rw [aDk hd];exact trivial
  | none =>
   have:wolE (h+1) e=(.inr (opS e),([],[])):=by
    show (match (opS e).2[(opS e).1.length]? with
     | some d=>(Sum.inr (setD (opS e).1 ((opS e).2.set (opS e).1.length (wolE h d).1) (opS e).1.length),(wolE h d).2)
     | none=>(Sum.inr (opS e),([],[])))=_
    rw [hd]
    rfl
   rw [this]
   exact trivial
theorem aCi:∀ {h:Nat} (e:ED h) (k:List Nat),isNew (delE h e k).1
 | 0,_,_=>trivial
 | h+1,e,k=>by
  cases hd:(opS e).2[fndI (opS e).1 k]? with
  | some d =>
   rw [aDm hd]
   split
   ·exact trivial
   ·split<;>exact trivial
  | none =>
   have:delE (h+1) e k=(.inr (opS e),false):=by
    show (match (opS e).2[fndI (opS e).1 k]? with
     | some d=>if hasI (opS e).1 k then (Sum.inr (setD ((opS e).1.set (fndI (opS e).1 k) (wolE h d).2) ((opS e).2.set (fndI (opS e).1 k) (wolE h d).1) (fndI (opS e).1 k)),true)
      else if (delE h d k).2 then (Sum.inr (setD (opS e).1 ((opS e).2.set (fndI (opS e).1 k) (delE h d k).1) (fndI (opS e).1 k)),true)
      else (Sum.inr ((opS e).1,(opS e).2.set (fndI (opS e).1 k) (delE h d k).1),false)
     | none=>(Sum.inr (opS e),false))=_
    rw [hd]
    rfl
   rw [this]
   exact trivial
theorem pg_wol:∀ {h:Nat} (e:ED h),ShE h 4 e->1<=(itE e).length->(olP h e).Perm (gnW h e++olP h (wolE h e).1)
 | 0,e,_,_=>by
  rw [aFh]
  show (gn1 e).Perm (gn1 e++[])
  rw [List.append_nil]
 | h+1,e,⟨h4,h2,h3⟩,h1=>by
  have h1:1<=(opS e).1.length:=h1
  obtain ⟨d,hd⟩:∃ d,(opS e).2[(opS e).1.length]?=some d:=⟨_,gE (by omega)⟩
  have hk:=h3 d (mG hd)
  have ih:=pg_wol d hk.1 (by omega)
  rw [gnW_eq hd,aDk hd,aHy]
  have p1:=flat_set hd ih
  have p2:=ol_setD (l:=(opS e).1) (c:=(opS e).2.set (opS e).1.length (wolE h d).1) (i:=(opS e).1.length) (by simpa using h2) h1 (by simp;omega) (fun q hq=>by
   rw [List.getElem?_set_self (by omega)] at hq
   simp only [oI] at hq
   subst hq
   exact aCs d)
  show (gn1 e++_).Perm (gn1 e++(gnW h d++_)++((setD _ _ _).2.map (olP h)).flatten)
  rw [List.perm_iff_count] at p1 p2 ⊢
  intro y
  have f1:=p1 y
  have f2:=p2 y
  simp only [List.count_append] at f1 f2 ⊢
  omega
theorem pg_del:∀ {h:Nat} (e:ED h) (k:List Nat),ShE h 4 e->1<=(itE e).length->(delE h e k).2=true->(olP h e).Perm (gnD h e k++olP h (delE h e k).1)
 | 0,e,k,_,_,_=>by
  rw [aFh]
  show (gn1 e).Perm (gn1 e++[])
  rw [List.append_nil]
 | h+1,e,k,⟨h4,h2,h3⟩,h1,hw=>by
  have h1:1<=(opS e).1.length:=h1
  have hle:=aA1 (opS e).1 k
  obtain ⟨d,hd⟩:∃ d,(opS e).2[fndI (opS e).1 k]?=some d:=⟨_,gE (by omega)⟩
  have hk:=h3 d (mG hd)
  have step:∀ (l:List It) (d':ED h) (G:List Nat),l.length=(opS e).1.length->isNew d'->(olP h d).Perm (G++olP h d')->(olP (h+1) e).Perm (gn1 e++(G++gnS ((opS e).2.set (fndI (opS e).1 k) d') (fndI (opS e).1 k))++((setD l ((opS e).2.set (fndI (opS e).1 k) d') (fndI (opS e).1 k)).2.map (olP h)).flatten):=by
   intro l d' G hll hn hp
   have p1:=flat_set hd hp
   have p2:=ol_setD (l:=l) (c:=(opS e).2.set (fndI (opS e).1 k) d') (i:=fndI (opS e).1 k) (by rw [List.length_set,hll];exact h2) (by omega) (by simp;omega) (fun q hq=>by
    rw [List.getElem?_set_self (by omega)] at hq
    simp only [oI] at hq
    subst hq
    exact hn)
   rw [aHy]
   rw [List.perm_iff_count] at p1 p2 ⊢
   intro y
   have f1:=p1 y
   have f2:=p2 y
   simp only [List.count_append] at f1 f2 ⊢
   omega
  rw [aDm hd] at hw ⊢
  rw [gnD_eq hd]
  by_cases c1:hasI (opS e).1 k=true
  ·rw [if_pos c1,if_pos c1]
   exact step _ _ _ (by simp) (aCs d) (pg_wol d hk.1 (by omega))
  ·rw [if_neg c1] at hw
   rw [if_neg c1,if_neg c1]
   by_cases c2:(delE h d k).2=true
   ·rw [if_pos c2,if_pos c2]
    exact step _ _ _ rfl (aCi d k) (pg_del d k hk.1 (by omega) c2)
   ·rw [if_neg c2] at hw
    cases hw
section
variable {s:DS} {t:PS}
theorem OldOn.mrg:∀ {h:Nat} {a b:ED h} (x:It),OldOn s t h a->OldOn s t h b->OldOn s t h (mrgE a x b)
 | 0,_,_,_,_,_=>trivial
 | _+1,a,b,x,ha,hb=>fun k hk=>by
  rcases List.mem_append.1 (show k∈(opS a).2++(opS b).2 from hk) with q | q
  ·exact ha.kids k q
  ·exact hb.kids k q
theorem OldOn.setD {h:Nat} {l:List It} {c:List (ED h)} {i:Nat} (hc:∀ k∈c,OldOn s t h k):∀ k∈(setD l c i).2,OldOn s t h k:=by
 have hm:∀ k∈(mgd l c (i-1)).2,OldOn s t h k:=by
  unfold mgd
  split
  ·rename_i a x b h1 h2 h3
   intro k hk
   rcases List.mem_append.1 hk with q | q
   ·exact hc k (List.mem_of_mem_take q)
   ·rcases List.mem_cons.1 q with q | q
    ·subst q;exact OldOn.mrg x (hc a (mG h1)) (hc b (mG h3))
    ·exact hc k (List.mem_of_mem_drop q)
  ·exact hc
 unfold Go.Proofs.YtfobcelkmopohaaGreat.setD
 split
 ·split
  ·exact OldOn.setl hm
  ·exact OldOn.setl hc
 ·exact hc
theorem OldOn.wol:∀ {h:Nat} {e:ED h},OldOn s t h e->OldOn s t h (wolE h e).1
 | 0,_,_=>trivial
 | h+1,e,ho=>by
  cases hd:(opS e).2[(opS e).1.length]? with
  | some d =>
   rw [aDk hd]
   exact OldOn.setD (aA4 ho.kids (OldOn.wol (ho.kids d (mG hd))))
  | none =>
   have:(wolE (h+1) e).1=.inr (opS e):=by
    show (match (opS e).2[(opS e).1.length]? with
     | some d=>(Sum.inr (Go.Proofs.YtfobcelkmopohaaGreat.setD (opS e).1 ((opS e).2.set (opS e).1.length (wolE h d).1) (opS e).1.length),(wolE h d).2)
     | none=>(Sum.inr (opS e),([],[]))).1=_
    rw [hd]
   rw [this]
   exact ho.kids
theorem OldOn.del:∀ {h:Nat} {e:ED h} (k:List Nat),OldOn s t h e->OldOn s t h (delE h e k).1
 | 0,_,_,_=>trivial
 | h+1,e,k,ho=>by
  cases hd:(opS e).2[fndI (opS e).1 k]? with
  | some d =>
   have hod:=ho.kids d (mG hd)
   rw [aDm hd]
   split
   ·exact OldOn.setD (aA4 ho.kids hod.wol)
   ·split
    ·exact OldOn.setD (aA4 ho.kids (OldOn.del k hod))
    ·exact fun q hq=>aA4 ho.kids (OldOn.del k hod) q hq
  | none =>
   have:(delE (h+1) e k).1=.inr (opS e):=by
    show (match (opS e).2[fndI (opS e).1 k]? with
     | some d=>if hasI (opS e).1 k then (Sum.inr (Go.Proofs.YtfobcelkmopohaaGreat.setD ((opS e).1.set (fndI (opS e).1 k) (wolE h d).2) ((opS e).2.set (fndI (opS e).1 k) (wolE h d).1) (fndI (opS e).1 k)),true)
      else if (delE h d k).2 then (Sum.inr (Go.Proofs.YtfobcelkmopohaaGreat.setD (opS e).1 ((opS e).2.set (fndI (opS e).1 k) (delE h d k).1) (fndI (opS e).1 k)),true)
      else (Sum.inr ((opS e).1,(opS e).2.set (fndI (opS e).1 k) (delE h d k).1),false)
     | none=>(Sum.inr (opS e),false)).1=_
    rw [hd]
   rw [this]
   exact ho.kids
end
end Go.Proofs.YtfobcelkmopohaaGreat
