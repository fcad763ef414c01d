import Derived.Test.YthgleplmbnkacaaGreatY42
set_option maxRecDepth 100000
set_option maxHeartbeats 16000000
set_option linter.unusedVariables false
namespace Go.Proofs.YthgleplmbnkacaaGreat
open Go.RowKit
theorem Tr.root0 {s:DS} {t:PS} {st:StT} (h:Tr s t st []):st.root=0:=by
 have hn:=h.nil
 rcases h with ⟨h1,_⟩ | ⟨h,b,e1,e2,_⟩
 ·exact h1
 ·rw [hn.1] at e2
  have e2:(0:Int)=((h+1:Nat):Int):=e2
  omega
theorem pairs_emp [Gd] {B p q g N c u r ln lc hn hc most:Nat} {la ha:Option Addr} (hl1:ln≤64) (hl2:hn≤64) (hmo:0<most) {W w:World} (h:KX B p q g N c u [] W w) (hr:w.heap[r]?=some (.cells #[.slice la ln lc,.slice ha hn hc,.int .i64 (most:Int),.slice none 0 0] 173 (0,0))) :
  Calls Tryz.prog 103 #[.pointer (some ⟨g,0,none⟩),.pointer (some ⟨g,2,none⟩),.pointer (some ⟨r,0,none⟩)] w fun e w'=>e=.returned (.tuple #[.slice none 0 0,.int .i64 0])∧Below w.heap.size w w':=by
 have lt:∀ {k:Nat} {o:Obj} {ww:World},ww.heap[k]?=some o→k<ww.heap.size:=fun e=>(lO e)
 have q0:=aAf [Obj.cells #[.pointer (some ⟨g,0,none⟩)] 91,Obj.cells #[.pointer (some ⟨g,2,none⟩)] 169,Obj.cells #[.pointer (some ⟨r,0,none⟩)] 171] w 0 _ rfl
 have q1:=aAf [Obj.cells #[.pointer (some ⟨g,0,none⟩)] 91,Obj.cells #[.pointer (some ⟨g,2,none⟩)] 169,Obj.cells #[.pointer (some ⟨r,0,none⟩)] 171] w 1 _ rfl
 have q2:=aAf [Obj.cells #[.pointer (some ⟨g,0,none⟩)] 91,Obj.cells #[.pointer (some ⟨g,2,none⟩)] 169,Obj.cells #[.pointer (some ⟨r,0,none⟩)] 171] w 2 _ rfl
 have qb:=(aAl [Obj.cells #[.pointer (some ⟨g,0,none⟩)] 91,Obj.cells #[.pointer (some ⟨g,2,none⟩)] 169,Obj.cells #[.pointer (some ⟨r,0,none⟩)] 171] w).1
 have HQ0:Hid ((((w.alloc (.cells #[.pointer (some ⟨g,0,none⟩)] 91)).alloc (.cells #[.pointer (some ⟨g,2,none⟩)] 169)).alloc (.cells #[.pointer (some ⟨r,0,none⟩)] 171)).heap[w.heap.size]?=some (.cells #[.pointer (some ⟨g,0,none⟩)] 91 (0,0))):=q0
 have HQ1:Hid ((((w.alloc (.cells #[.pointer (some ⟨g,0,none⟩)] 91)).alloc (.cells #[.pointer (some ⟨g,2,none⟩)] 169)).alloc (.cells #[.pointer (some ⟨r,0,none⟩)] 171)).heap[w.heap.size+1]?=some (.cells #[.pointer (some ⟨g,2,none⟩)] 169 (0,0))):=q1
 have HQ2:Hid ((((w.alloc (.cells #[.pointer (some ⟨g,0,none⟩)] 91)).alloc (.cells #[.pointer (some ⟨g,2,none⟩)] 169)).alloc (.cells #[.pointer (some ⟨r,0,none⟩)] 171)).heap[w.heap.size+1+1]?=some (.cells #[.pointer (some ⟨r,0,none⟩)] 171 (0,0))):=q2
 have HB1:Hid (Below w.heap.size w (((w.alloc (.cells #[.pointer (some ⟨g,0,none⟩)] 91)).alloc (.cells #[.pointer (some ⟨g,2,none⟩)] 169)).alloc (.cells #[.pointer (some ⟨r,0,none⟩)] 171))):=qb
 have H1:=hide (h.later HB1.out)
 have HR1:=hide ((HB1.out.block r (lt hr)).trans hr)
 have HD:=hide H1.out.dead
 have HG:Hid (∃ cs,w.heap[g]?=some (.cells cs 147 (0,0))∧cs[2]?=some (.int .i64 0)):=by
  obtain ⟨last,s,t,now,left,h⟩:=h
  obtain ⟨cs,h1,h2⟩:=h.tm.tv
  exact ⟨cs,h1,by rw [h2.n0,h.tr.root0]⟩
 have y0:(((w.alloc (.cells #[.pointer (some ⟨g,0,none⟩)] 91)).alloc (.cells #[.pointer (some ⟨g,2,none⟩)] 169)).alloc (.cells #[.pointer (some ⟨r,0,none⟩)] 171)).cell? ⟨w.heap.size,0,none⟩=some (.pointer (some ⟨g,0,none⟩)):=aAa HQ0.out
 clear h hr q0 q1 q2 qb
 go_enter Tryz.func103,Tryz.ntmps103
 go_wp2_with fail
 refine HD.out.mono ?_
 rintro e w2 ⟨rfl,hb2⟩
 have HN1:=hide ((hb2.block _ (lt HQ1.out)).trans HQ1.out)
 have HN2:=hide ((hb2.block _ (lt HQ2.out)).trans HQ2.out)
 have HR2:=hide ((hb2.block r (lt HR1.out)).trans HR1.out)
 have HB2:Hid (Below w.heap.size w w2):=HB1.out.trans (hb2.mono HB1.out.size)
 have x4:w2.cell? ⟨g,2,none⟩=some (.int .i64 0):=by
  obtain ⟨cs,h1,h2⟩:=HG.out
  exact (aAa ((HB2.out.block g (lt h1)).trans h1)).trans h2
 clear hb2 HD y0
 generalize hn1:w.heap.size+1=n1 at *
 generalize hn2:n1+1=n2 at *
 have x0:w2.cell? ⟨n2,0,none⟩=some (.pointer (some ⟨r,0,none⟩)):=aAa HN2.out
 have x5:w2.cell? ⟨n1,0,none⟩=some (.pointer (some ⟨g,2,none⟩)):=aAa HN1.out
 have x1:w2.cell? ⟨r,0,none⟩=some (.slice la ln lc):=aAa HR2.out
 have x2:w2.cell? ⟨r,1,none⟩=some (.slice ha hn hc):=aAa HR2.out
 have x3:w2.cell? ⟨r,2,none⟩=some (.int .i64 (most:Int)):=aAa HR2.out
 have HX0:Hid ((fun wx=>wx.cell? ⟨n2,0,none⟩=some (.pointer (some ⟨r,0,none⟩))∧wx.cell? ⟨r,2,none⟩=some (.int .i64 (most:Int))∧wx.cell? ⟨n1,0,none⟩=some (.pointer (some ⟨g,2,none⟩))∧wx.cell? ⟨g,2,none⟩=some (.int .i64 0)) w2.drew):=⟨x0,x3,x5,x4⟩
 have d1:((most:Int) == 0)=false:=by simp;omega
 have d2:¬ (most:Int)=0:=by omega
 have d3:¬ (most:Int)<0:=by omega
 have g1:¬ (64:Int)<(ln:Int):=by omega
 have g2:¬ (64:Int)<(hn:Int):=by omega
 go_upto_region 7 with fail
 refine wp_region_noPanic ?_
 refine wp_region_held_drew (S:=fun wx=>wx.cell? ⟨n2,0,none⟩=some (.pointer (some ⟨r,0,none⟩))∧wx.cell? ⟨r,2,none⟩=some (.int .i64 (most:Int))∧wx.cell? ⟨n1,0,none⟩=some (.pointer (some ⟨g,2,none⟩))∧wx.cell? ⟨g,2,none⟩=some (.int .i64 0)) (by kernel_rfl) HX0.out (fun hHeld=>?_)
 refine wpAnyH_tk 0 34 ?_
 refine wpAnyH_tk 1 35 ?_
 refine wpAnyH_tk 2 36 ?_
 refine wpAnyH_tk 3 37 ?_
 refine wpAnyH_tk 4 38 ?_
 refine wpAnyH_tk 5 39 ?_
 refine wpAnyH_tk 6 40 ?_
 refine wpAnyH_tk 7 41 ?_
 refine wpAnyH_tk 8 42 ?_
 refine wpAnyH_tk 9 43 ?_
 refine wpAnyH_tk 10 44 ?_
 refine wpAnyH_tk 11 45 ?_
 refine wpAnyH_tk 12 46 ?_
 refine aAc (i:=13) (d:=47) (v:=undef) (by kernel_rfl) (by kernel_rfl) (by kernel_rfl) (by kernel_rfl) (fun _ _ _ h=>h) ?hya13 (by assumption) ?resta13
 case hya13 =>
  intro oi ho
  simp only [List.getElem?_toArray,List.getElem?_cons_succ,List.getElem?_cons_zero,oI] at ho
  subst ho
  exact Or.inr ⟨by rfl,rfl⟩
 try simp only [Act.put,siT,scZ,scS]
 refine aAc (i:=14) (d:=48) (v:=undef) (by kernel_rfl) (by kernel_rfl) (by kernel_rfl) (by kernel_rfl) (fun _ _ _ h=>h) ?hya14 (by assumption) ?resta14
 case hya14 =>
  intro oi ho
  simp only [List.getElem?_toArray,List.getElem?_cons_succ,List.getElem?_cons_zero,oI] at ho
  subst ho
  exact Or.inr ⟨by rfl,rfl⟩
 try simp only [Act.put,siT,scZ,scS]
 refine aAc (i:=15) (d:=49) (v:=undef) (by kernel_rfl) (by kernel_rfl) (by kernel_rfl) (by kernel_rfl) (fun _ _ _ h=>h) ?hya15 (by assumption) ?resta15
 case hya15 =>
  intro oi ho
  simp only [List.getElem?_toArray,List.getElem?_cons_succ,List.getElem?_cons_zero,oI] at ho
  subst ho
  exact Or.inr ⟨by rfl,rfl⟩
 try simp only [Act.put,siT,scZ,scS]
 refine aAc (i:=16) (d:=50) (v:=undef) (by kernel_rfl) (by kernel_rfl) (by kernel_rfl) (by kernel_rfl) (fun _ _ _ h=>h) ?hya16 (by assumption) ?resta16
 case hya16 =>
  intro oi ho
  simp only [List.getElem?_toArray,List.getElem?_cons_succ,List.getElem?_cons_zero,oI] at ho
  subst ho
  exact Or.inr ⟨by rfl,rfl⟩
 try simp only [Act.put,siT,scZ,scS]
 refine aAc (i:=17) (d:=51) (v:=undef) (by kernel_rfl) (by kernel_rfl) (by kernel_rfl) (by kernel_rfl) (fun _ _ _ h=>h) ?hya17 (by assumption) ?resta17
 case hya17 =>
  intro oi ho
  simp only [List.getElem?_toArray,List.getElem?_cons_succ,List.getElem?_cons_zero,oI] at ho
  subst ho
  exact Or.inr ⟨by rfl,rfl⟩
 try simp only [Act.put,siT,scZ,scS]
 refine aAc (i:=18) (d:=52) (v:=undef) (by kernel_rfl) (by kernel_rfl) (by kernel_rfl) (by kernel_rfl) (fun _ _ _ h=>h) ?hya18 (by assumption) ?resta18
 case hya18 =>
  intro oi ho
  simp only [List.getElem?_toArray,List.getElem?_cons_succ,List.getElem?_cons_zero,oI] at ho
  subst ho
  exact Or.inr ⟨by rfl,rfl⟩
 try simp only [Act.put,siT,scZ,scS]
 refine wpAnyH_tk 19 53 ?_
 refine wpAnyH_tk 20 33 ?_
 refine wpAnyH_done (by kernel_rfl) ?_ _
 refine NoPanic.normal ?_
 clear hHeld
 go_wp2
 go_ret2
 exact ⟨rfl,HB2.out.drew⟩
theorem Range_emp [Gd] {B p q g N c u ln lc hn hc:Nat} (most:Nat) {la ha:Option Addr} (hl1:ln≤64) (hl2:hn≤64) {W w:World} (h:KX B p q g N c u [] W w) :
  Calls Tryz.prog 79 #[.pointer (some ⟨g,0,none⟩),.slice la ln lc,.slice ha hn hc,.int .i64 (most:Int)] w fun e w'=>e=.returned (.tuple #[.slice none 0 0,.int .i64 0])∧Below w.heap.size w w':=by
 by_cases hm:most=0
 ·subst hm
  exact Range_most0 hl1 hl2 h
 ·have HB1:=hide (aAb w (.cells #[.slice la ln lc,.slice ha hn hc,.int .i64 (most:Int),.slice none 0 0] 173))
  have HP:=hide (pairs_emp hl1 hl2 (Nat.pos_of_ne_zero hm) (h.later HB1.out) (heap_alloc_new w _))
  clear h
  go_enter Tryz.func79,Tryz.ntmps79
  go_wp2_with fail
  refine HP.out.mono ?_
  rintro e w2 ⟨rfl,hb2⟩
  have HB2:=hide (HB1.out.trans (hb2.mono HB1.out.size))
  clear hb2
  go_wp2
  go_ret2
  exact ⟨rfl,HB2.out⟩
def isSp (sp:Int):Bool:=decide (0≤sp∧sp<16)
theorem aDe (sp:Int) (w:World):Calls Tryz.prog 73 #[.int .i64 sp] w fun e w'=>e=.returned (.bool (isSp sp))∧w'=w:=by
 by_cases h1:0≤sp
 ·by_cases h2:sp<16
  ·have e:isSp sp=true:=decide_eq_true ⟨h1,h2⟩
   rw [e]
   clear e
   go_enter Tryz.func73,Tryz.ntmps73
   go_wp2
   go_ret
   exact ⟨by simp,rfl⟩
  ·have e:isSp sp=false:=decide_eq_false (fun q=>h2 q.2)
   rw [e]
   clear e
   go_enter Tryz.func73,Tryz.ntmps73
   go_wp2
   go_ret
   exact ⟨by simp,rfl⟩
 ·have e:isSp sp=false:=decide_eq_false (fun q=>h1 q.1)
  rw [e]
  clear e
  go_enter Tryz.func73,Tryz.ntmps73
  go_wp2
  go_ret
  exact ⟨by simp,rfl⟩
theorem isWrong_any {ka va:Option Addr} {kn kc vn vc:Nat} (sp:Int) (gn:Bool) (w:World) :
  Calls Tryz.prog 64 #[.agg #[.int .i64 sp,.slice ka kn kc,.slice va vn vc,.bool gn]] w fun e w'=>e=.returned (.bool (!isSp sp || decide (kn=0)))∧Below w.heap.size w w':=by
 have HBX:=hide (aAb w (.cells #[.int .i64 sp,.slice ka kn kc,.slice va vn vc,.bool gn] 39))
 have HIS:=hide (fun w=>aDe sp w)
 cases hs:isSp sp with
 | false =>
  rw [hs] at HIS
  clear hs
  go_enter Tryz.func64,Tryz.ntmps64
  go_wp2_with fail
  refine (HIS.out _).mono ?_
  rintro e w1 ⟨rfl,hw⟩
  have hw:=hw.symm
  subst hw
  go_wp2
  go_ret
  exact ⟨rfl,HBX.out⟩
 | true =>
  rw [hs] at HIS
  clear hs
  by_cases h0:kn=0
  ·have zb:((kn:Int) == 0)=true:=by simp;omega
   have zc:(kn:Int)=0:=by omega
   have zd:decide (kn=0)=true:=decide_eq_true h0
   rw [zd]
   clear h0 zd
   go_enter Tryz.func64,Tryz.ntmps64
   go_wp2_with fail
   refine (HIS.out _).mono ?_
   rintro e w1 ⟨rfl,hw⟩
   have hw:=hw.symm
   subst hw
   go_wp2
   go_ret
   exact ⟨by simp,HBX.out⟩
  ·have zb:((kn:Int) == 0)=false:=by simp;omega
   have zc:¬ (kn:Int)=0:=by omega
   have zd:decide (kn=0)=false:=decide_eq_false h0
   rw [zd]
   clear h0 zd
   go_enter Tryz.func64,Tryz.ntmps64
   go_wp2_with fail
   refine (HIS.out _).mono ?_
   rintro e w1 ⟨rfl,hw⟩
   have hw:=hw.symm
   subst hw
   go_wp2
   go_ret
   exact ⟨by simp,HBX.out⟩
theorem isLong_any {ka va:Option Addr} {kn kc vn vc:Nat} (sp:Int) (gn:Bool) (w:World) :
  Calls Tryz.prog 65 #[.agg #[.int .i64 sp,.slice ka kn kc,.slice va vn vc,.bool gn]] w fun e w'=>e=.returned (.bool (decide (60<kn) || decide (1800<vn)))∧Below w.heap.size w w':=by
 have HBX:=hide (aAb w (.cells #[.int .i64 sp,.slice ka kn kc,.slice va vn vc,.bool gn] 39))
 by_cases h0:60<kn
 ·have z0:(60:Int)<(kn:Int):=by omega
  have zd:decide (60<kn)=true:=decide_eq_true h0
  rw [zd]
  clear h0 zd
  go_enter Tryz.func65,Tryz.ntmps65
  go_wp2
  go_ret
  exact ⟨by simp,HBX.out⟩
 ·have z0:¬ (60:Int)<(kn:Int):=by omega
  have zd:decide (60<kn)=false:=decide_eq_false h0
  rw [zd]
  clear h0 zd
  by_cases h1:1800<vn
  ·have z1:(1800:Int)<(vn:Int):=by omega
   have ze:decide (1800<vn)=true:=decide_eq_true h1
   rw [ze]
   clear h1 ze
   go_enter Tryz.func65,Tryz.ntmps65
   go_wp2
   go_ret
   exact ⟨by simp,HBX.out⟩
  ·have z1:¬ (1800:Int)<(vn:Int):=by omega
   have ze:decide (1800<vn)=false:=decide_eq_false h1
   rw [ze]
   clear h1 ze
   go_enter Tryz.func65,Tryz.ntmps65
   go_wp2
   go_ret
   exact ⟨by simp,HBX.out⟩
theorem contains_one {K:Nat} {w:World} {gv cap:Nat} {ka va:Option Addr} {kn kc vn vc:Nat} {sp:Int} {gn bb:Bool} (hv:w.heap[gv]?=some (.cells #[.int .i64 sp,.slice ka kn kc,.slice va vn vc,.bool gn] 39 (0,0))) (hcf:∀ (a:Value) (ww:World),(callFunc K #[a]).run Tryz.prog ww=.ok (.enter K #[a]) ww)
  (hK:∀ (ww:World),Calls Tryz.prog K #[.agg #[.int .i64 sp,.slice ka kn kc,.slice va vn vc,.bool gn]] ww fun e w'=>e=.returned (.bool bb)∧Below ww.heap.size ww w') :
  Calls Tryz.prog 63 #[.slice (some ⟨gv,0,none⟩) 1 cap,.func (Fn.func K) #[] #[]] w fun e w'=>e=.returned (.bool bb)∧Below w.heap.size w w':=by
 have HI:Hid (Calls Tryz.prog 89 #[.slice (some ⟨gv,0,none⟩) 1 cap,.func (Fn.func K) #[] #[]] w fun e w'=>e=.returned (.int .i64 (if bb then 0 else -1))∧Below w.heap.size w w'):=by
  have HC:=hide (hK w)
  have hcf1:=hcf (.agg #[.int .i64 sp,.slice ka kn kc,.slice va vn vc,.bool gn]) w
  have y0:w.cell? ⟨gv,0,none⟩=some (.int .i64 sp):=aAa hv
  have y1:w.cell? ⟨gv,1,none⟩=some (.slice ka kn kc):=aAa hv
  have y2:w.cell? ⟨gv,2,none⟩=some (.slice va vn vc):=aAa hv
  have y3:w.cell? ⟨gv,3,none⟩=some (.bool gn):=aAa hv
  clear hv hcf hK
  go_enter Tryz.func89,Tryz.ntmps89
  go_wp2_with fail
  go_loopw [8] (fun i wx=>(i=.int .i64 0∧wx=w)∨(i=.int .i64 1∧bb=false∧Below w.heap.size w wx)) (fun i _=>1-(intOf i).toNat)
  case atStart=>exact Or.inl ⟨rfl,rfl⟩
  case round =>
   rcases hrel with ⟨rfl,rfl⟩ | ⟨rfl,rfl,hb⟩
   ·go_wp2_with fail
    refine HC.out.mono ?_
    rintro e w1 ⟨rfl,hb1⟩
    have HB1:=hide hb1
    clear hb1 HC
    cases bb with
    | true =>
     go_wp2_with fail
     go_ret
     exact ⟨rfl,HB1.out⟩
    | false =>
     go_wp2_with fail
     go_roundw
     case rel=>exact Or.inr ⟨by go_num,by trivial,HB1.out⟩
     case measure=>simp [intOf]
   ·have HB1:=hide hb
    clear hb
    go_wp2_with fail
    go_ret
    exact ⟨rfl,HB1.out⟩
 clear hv hcf hK
 cases bb<;>(
  go_enter Tryz.func63,Tryz.ntmps63
  go_wp2_with fail
  refine HI.out.mono ?_
  rintro e w1 ⟨rfl,hb1⟩
  have HB1:=hide hb1
  clear hb1
  go_wp2
  go_ret
  exact ⟨rfl,HB1.out⟩)
def wrg (sp:Int) (kn vn:Nat):Int:=if !isSp sp || decide (kn=0) then 1 else if decide (60<kn) || decide (1800<vn) then 3 else 0
theorem LS.refusal_one [Gd] {B p q g ls N c u:Nat} {l:List It} {W w:World} (h:LS B p q g ls N c u l W w) {gv cap:Nat} {ka va:Option Addr} {kn kc vn vc:Nat} {sp:Int} {gn:Bool} (hv:w.heap[gv]?=some (.cells #[.int .i64 sp,.slice ka kn kc,.slice va vn vc,.bool gn] 39 (0,0))) :
  Calls Tryz.prog 39 #[.pointer (some ⟨ls,0,none⟩),.bool true,.slice (some ⟨gv,0,none⟩) 1 cap] w fun e w'=>e=.returned (.int .i64 (wrg sp kn vn))∧Below w.heap.size w w':=by
 have HD:=hide h.dead
 have HV:=hide hv
 unfold wrg
 generalize hw1:(!isSp sp || decide (kn=0))=b1
 generalize hw2:(decide (60<kn) || decide (1800<vn))=b2
 have HK1:=hide (fun (ww:World)=>isWrong_any (ka:=ka) (kc:=kc) (va:=va) (vn:=vn) (vc:=vc) (kn:=kn) sp gn ww)
 have HK2:=hide (fun (ww:World)=>isLong_any (ka:=ka) (kc:=kc) (va:=va) (vn:=vn) (vc:=vc) (kn:=kn) sp gn ww)
 rw [hw1] at HK1
 rw [hw2] at HK2
 clear h hv hw1 hw2
 go_enter Tryz.func39,Tryz.ntmps39
 go_wp2_with fail
 refine HD.out.mono ?_
 rintro e w1 ⟨rfl,hb1⟩
 have HB1:=hide hb1
 have HV1:=hide ((hb1.block _ (lO HV.out)).trans HV.out)
 have HC1:=hide (contains_one (K:=64) (cap:=cap) HV1.out (fun a ww=>by rfl) HK1.out)
 clear hb1 HD
 go_wp2_with fail
 refine HC1.out.mono ?_
 rintro e w2 ⟨rfl,hb2⟩
 have HB2:=hide (HB1.out.trans (hb2.mono HB1.out.size))
 have HV2:=hide ((hb2.block _ (lO HV1.out)).trans HV1.out)
 have HC2:=hide (contains_one (K:=65) (cap:=cap) HV2.out (fun a ww=>by rfl) HK2.out)
 clear hb2 HC1
 cases b1 with
 | true =>
  go_wp2
  go_ret
  exact ⟨rfl,HB2.out⟩
 | false =>
  go_wp2_with fail
  refine HC2.out.mono ?_
  rintro e w3 ⟨rfl,hb3⟩
  have HB3:=hide (HB2.out.trans (hb3.mono HB2.out.size))
  clear hb3 HC2
  cases b2<;>(
   go_wp2
   go_ret
   exact ⟨rfl,HB3.out⟩)
theorem LS.GetS [Gd] {B p q g ls N c u:Nat} {l:List It} {W w:World} (h:LS B p q g ls N c u l W w) {ka:Option Addr} {kn kc:Nat} {key:List Nat} (hk:BK B w ka kn kc key) (h0:0<kn) (h6:kn≤60) {sp:Nat} (hsp:sp<16) :
  Calls Tryz.prog 52 #[.pointer (some ⟨ls,0,none⟩),.int .i64 (sp:Int),.slice ka kn kc] w fun e w'=>GtT B (valL l (sp::key)) w e w':=by
 have hkl:=hk.len
 obtain ⟨x1,hx1⟩:∃ x,x=w.alloc (.cells #[.int .i64 (sp:Int),.slice ka kn kc,.slice none 0 0,.bool false] 39):=⟨_,rfl⟩
 obtain ⟨x2,hx2⟩:∃ x,x=x1.alloc (.cells #[.int .i64 (sp:Int),.slice ka kn kc,.slice none 0 0,.bool false] 39):=⟨_,rfl⟩
 have b1:Below w.heap.size w x1:=by rw [hx1];exact aAb w _
 have b2:Below x1.heap.size x1 x2:=by rw [hx2];exact aAb x1 _
 have HB2:Hid (Below w.heap.size w x2):=b1.trans (b2.mono b1.size)
 have hs1:x1.heap.size=w.heap.size+1:=by rw [hx1];exact Array.size_push _
 have hnew:x2.heap[w.heap.size+1]?=some (.cells #[.int .i64 (sp:Int),.slice ka kn kc,.slice none 0 0,.bool false] 39 (0,0)):=by rw [←hs1,hx2];exact heap_alloc_new x1 _
 have hL2:=h.later HB2.out
 have hwr:wrg (sp:Int) kn 0=0:=by
  have e1:isSp (sp:Int)=true:=decide_eq_true ⟨by omega,by omega⟩
  have e2:decide (kn=0)=false:=decide_eq_false (by omega)
  have e3:decide (60<kn)=false:=decide_eq_false (by omega)
  unfold wrg
  rw [e1,e2,e3]
  rfl
 have HRF:=hide (hL2.refusal_one (cap:=1) hnew)
 rw [hwr] at HRF
 clear hwr
 have HL:=hide hL2
 have HK:=hide (hk.later HB2.out h.bw)
 rw [hx2,hx1] at HRF
 clear h hk b1 b2 hs1 hnew hL2
 go_enter Tryz.func52,Tryz.ntmps52
 go_wp2_with fail
 refine HRF.out.mono ?_
 rintro e w3 ⟨rfl,hb3⟩
 rw [←hx1,←hx2] at hb3
 have HL3:=hide (HL.out.later hb3)
 have HK3:=hide (HK.out.later hb3 HL.out.bw)
 have HB3:=hide (HB2.out.trans (hb3.mono HB2.out.size))
 clear hb3 HRF hx1 hx2 HB2
 have HX0:Hid ((fun wx=>wx.cell? ⟨ls,0,none⟩=some (.pointer (some ⟨g,0,none⟩))) w3.drew):=HL3.out.cell0
 have HLD:=hide (HL3.out.later (Below.refl _ _).drew)
 have HKD:=hide (HK3.out.later (Below.refl _ _).drew HL3.out.bw)
 have HBD:Hid (Below w.heap.size w w3.drew):=HB3.out.drew
 go_upto_region 5 with fail
 have HTK:=hide (aBh (B:=B) (sp:=sp) (by omega) HKD.out.1 (by omega))
 refine wp_region_noPanic ?_
 refine wp_region_held_drew (S:=fun wx=>wx.cell? ⟨ls,0,none⟩=some (.pointer (some ⟨g,0,none⟩))) (by kernel_rfl) HX0.out (fun hHeld=>?_)
 refine wpAnyH_tk 0 22 ?_
 refine wpAnyH_tk 1 23 ?_
 refine wpAnyH_tk 2 24 ?_
 refine wpAnyH_tk 3 25 ?_
 refine wpAnyH_tk 4 26 ?_
 refine wpAnyH_tk 5 27 ?_
 refine wpAnyH_cm 6 ?_;intro K hK
 go_simp
 refine HTK.out.mono ?_
 rintro e w5 ⟨tb,td,rfl,hk5,hb5⟩
 have HL5:=hide (HLD.out.later hb5)
 have HB5:=hide (HBD.out.trans (hb5.mono HBD.out.size))
 have HGT:=hide (HL5.out.kx.Get hk5 (by omega) (by omega))
 have HX5:Hid ((fun wx=>wx.cell? ⟨ls,0,none⟩=some (.pointer (some ⟨g,0,none⟩))) w5):=HL5.out.cell0
 clear hk5 hb5 hHeld
 refine hK.out _ _ HX5.out (fun hHeld=>?_)
 clear hK K
 try simp only [Act.put,siT,scZ,scS]
 refine wpAnyH_cm 7 ?_;intro K hK
 go_simp
 refine HGT.out.mono ?_
 rintro e w6 ⟨v,isb,rfl,hv6,hb6⟩
 obtain ⟨va,vn,vc,hva⟩:=hv6.form
 subst hva
 have HL6:=hide (HL5.out.later hb6)
 have HB6:=hide (HB5.out.trans (hb6.mono HB5.out.size))
 have HV6:=hide hv6
 have HX6:Hid ((fun wx=>wx.cell? ⟨ls,0,none⟩=some (.pointer (some ⟨g,0,none⟩))) w6):=HL6.out.cell0
 clear hv6 hb6 hHeld
 refine hK.out _ _ HX6.out (fun hHeld=>?_)
 clear hK K
 try simp only [Act.put,siT,scZ,scS]
 refine wpAnyH_tk 8 30 ?_
 refine wpAnyH_tk 9 31 ?_
 refine wpAnyH_tk 10 32 ?_
 refine wpAnyH_tk 11 6 ?_
 refine wpAnyH_tk 12 7 ?_
 refine wpAnyH_tk 13 8 ?_
 refine wpAnyH_done (by kernel_rfl) ?_ _
 refine NoPanic.normal ?_
 clear hHeld
 go_wp2
 go_ret3
 exact ⟨_,isb,rfl,HV6.out,HB6.out⟩
theorem LS.GetE [Gd] {B p q g ls N c u:Nat} {W w:World} (h:LS B p q g ls N c u [] W w) {ka:Option Addr} {kn kc:Nat} {key:List Nat} (hk:BK B w ka kn kc key) (sp:Int) :
  Calls Tryz.prog 52 #[.pointer (some ⟨ls,0,none⟩),.int .i64 sp,.slice ka kn kc] w fun e w'=>e=.returned (.tuple #[.slice none 0 0,.bool false,.int .i64 (wrg sp kn 0)])∧Below w.heap.size w w':=by
 by_cases hw:wrg sp kn 0=0
 ·rw [hw]
  have e1:isSp sp=true∧kn≠0∧kn≤60:=by
   unfold wrg at hw
   cases q1:(!isSp sp || decide (kn=0)) with
   | true=>rw [q1] at hw;simp at hw
   | false =>
    rw [q1] at hw
    simp only [Bool.or_eq_false_iff,Bool.not_eq_false',decide_eq_false_iff_not] at q1
    refine ⟨q1.1,q1.2,?_⟩
    apply Classical.byContradiction
    intro q
    have q3:decide (60<kn)=true:=decide_eq_true (by omega)
    rw [q3] at hw
    simp at hw
  obtain ⟨e1,e2,e3⟩:=e1
  have e4:0≤sp∧sp<16:=of_decide_eq_true e1
  obtain ⟨sn,rfl⟩:∃ sn:Nat,sp=(sn:Int):=⟨sp.toNat,by omega⟩
  refine (h.GetS hk (by omega) e3 (sp:=sn) (by omega)).mono ?_
  rintro e w' ⟨v,isb,rfl,⟨hv1,hv2⟩,hb⟩
  subst hv1 hv2
  exact ⟨rfl,hb⟩
 ·obtain ⟨x1,hx1⟩:∃ x,x=w.alloc (.cells #[.int .i64 sp,.slice ka kn kc,.slice none 0 0,.bool false] 39):=⟨_,rfl⟩
  obtain ⟨x2,hx2⟩:∃ x,x=x1.alloc (.cells #[.int .i64 sp,.slice ka kn kc,.slice none 0 0,.bool false] 39):=⟨_,rfl⟩
  have b1:Below w.heap.size w x1:=by rw [hx1];exact aAb w _
  have b2:Below x1.heap.size x1 x2:=by rw [hx2];exact aAb x1 _
  have HB2:Hid (Below w.heap.size w x2):=b1.trans (b2.mono b1.size)
  have hs1:x1.heap.size=w.heap.size+1:=by rw [hx1];exact Array.size_push _
  have hnew:x2.heap[w.heap.size+1]?=some (.cells #[.int .i64 sp,.slice ka kn kc,.slice none 0 0,.bool false] 39 (0,0)):=by rw [←hs1,hx2];exact heap_alloc_new x1 _
  have HRF:=hide ((h.later HB2.out).refusal_one (cap:=1) hnew)
  rw [hx2,hx1] at HRF
  generalize hwe:wrg sp kn 0=we at *
  clear h hk b1 b2 hs1 hnew
  go_enter Tryz.func52,Tryz.ntmps52
  go_wp2_with fail
  refine HRF.out.mono ?_
  rintro e w3 ⟨rfl,hb3⟩
  rw [←hx1,←hx2] at hb3
  have HB3:=hide (HB2.out.trans (hb3.mono HB2.out.size))
  clear hb3 HRF hx1 hx2 HB2 hwe
  go_wp2
  go_ret3
  exact ⟨rfl,HB3.out⟩
theorem LS.refusal_b [Gd] {B p q g ls N c u:Nat} {l:List It} {W w:World} (h:LS B p q g ls N c u l W w) (b:Bool) :
  Calls Tryz.prog 39 #[.pointer (some ⟨ls,0,none⟩),.bool b,.slice none 0 0] w fun e w'=>e=.returned (.int .i64 (if b then 0 else 1))∧Below w.heap.size w w':=by
 cases b with
 | true=>exact h.refusal_nil
 | false =>
  have HD:=hide h.dead
  clear h
  go_enter Tryz.func39,Tryz.ntmps39
  go_wp2_with fail
  refine HD.out.mono ?_
  rintro e w1 ⟨rfl,hb1⟩
  have HB1:=hide hb1
  clear hb1 HD
  go_wp2
  go_ret
  exact ⟨rfl,HB1.out⟩
theorem LS.pairsE [Gd] {B p q g ls N c u ln lc hn hc:Nat} (most:Nat) {la ha:Option Addr} {W w:World} (hl1:ln≤64) (hl2:hn≤64) (h:LS B p q g ls N c u [] W w) :
  Calls Tryz.prog 56 #[.pointer (some ⟨ls,0,none⟩),.slice la ln lc,.slice ha hn hc,.int .i64 (most:Int)] w fun e w'=>e=.returned (.tuple #[.slice none 0 0,.int .i64 0])∧Below w.heap.size w w':=by
 have x0:=h.cell0
 have HR:=hide (Range_emp most (la:=la) (lc:=lc) (ha:=ha) (hc:=hc) hl1 hl2 h.kx)
 clear h
 go_enter Tryz.func56,Tryz.ntmps56
 go_wp2_with fail
 refine HR.out.mono ?_
 rintro e w1 ⟨rfl,hb1⟩
 have HB1:=hide hb1
 clear hb1 HR x0
 go_wp2_with fail
 go_loopw [32] (fun i wx=>i=.int .i64 0∧wx=w1) (fun _ _=>0)
 case atStart=>exact ⟨rfl,rfl⟩
 case round =>
  obtain ⟨rfl,rfl⟩:=hrel
  go_wp2
  go_ret2
  exact ⟨rfl,HB1.out⟩
theorem treeEnd_any {B sp:Nat} {w:World} {a:Option Addr} {n c:Nat} {xs:List Nat} (hsp:sp<16) (h:BS w a n c xs) (hn:n≤60) :
  Calls Tryz.prog 75 #[.int .i64 (sp:Int),.slice a n c] w fun e w'=>∃ b d m,e=.returned (.slice b m d)∧m≤61∧Below w.heap.size w w':=by
 by_cases h0:n=0
 ·subst h0
  have z0:((0:Nat):Int)=0:=rfl
  have s1:IntKind.i64.wrap ((sp:Int)+1)=(sp:Int)+1:=wrap_small _ (by omega) (by omega)
  have HT:=hide (aBh (B:=B) (sp:=sp+1) (w:=w) (by omega) (BK.nil B w).1 (by omega))
  rw [show ((sp+1:Nat):Int)=(sp:Int)+1 by omega] at HT
  clear h
  go_enter Tryz.func75,Tryz.ntmps75
  go_wp2_with fail
  refine HT.out.mono ?_
  rintro e w1 ⟨b,d,rfl,hk,hb⟩
  have HB:=hide hb
  clear hk hb HT
  go_wp2
  go_ret
  exact ⟨b,d,0+1,rfl,by omega,HB.out⟩
 ·have z0:¬ (n:Int)=0:=by omega
  have HT:=hide (aBh (B:=B) (sp:=sp) (by omega) h (by omega))
  have HN:=hide hn
  clear h h0
  go_enter Tryz.func75,Tryz.ntmps75
  go_wp2_with fail
  refine HT.out.mono ?_
  rintro e w1 ⟨b,d,rfl,hk,hb⟩
  have HB:=hide hb
  clear hk hb HT
  go_wp2
  go_ret
  exact ⟨b,d,n+1,rfl,by have:=HN.out;omega,HB.out⟩
def rge (sp:Int) (ln hn:Nat) (most:Int):Int:=if !(isSp sp && decide (0≤most)) then 1 else if decide (60<ln) || decide (60<hn) then 3 else 0
theorem LS.RangeE [Gd] {B p q g ls N c u:Nat} {W w:World} (h:LS B p q g ls N c u [] W w) {la ha:Option Addr} {ln lc hn hc:Nat} {lo hi:List Nat} (hlo:BK B w la ln lc lo) (hhi:BK B w ha hn hc hi) (sp most:Int) :
  Calls Tryz.prog 45 #[.pointer (some ⟨ls,0,none⟩),.int .i64 sp,.slice la ln lc,.slice ha hn hc,.int .i64 most] w fun e w'=>e=.returned (.tuple #[.slice none 0 0,.int .i64 (rge sp ln hn most)])∧Below w.heap.size w w':=by
 have HIS:=hide (aDe sp w)
 have HL:=hide h
 have HLO:=hide hlo
 have HHI:=hide hhi
 have HBW:=hide h.bw
 have HRF:=hide (fun b=>h.refusal_b b)
 clear h hlo hhi
 unfold rge
 cases hs:isSp sp with
 | false =>
  rw [hs] at HIS
  have HR1:=hide (HRF.out false)
  clear hs HRF
  go_enter Tryz.func45,Tryz.ntmps45
  go_wp2_with fail
  refine HIS.out.mono ?_
  rintro e w1 ⟨rfl,hw⟩
  have hw:=hw.symm
  subst hw
  clear HIS
  go_wp2_with fail
  refine HR1.out.mono ?_
  rintro e w2 ⟨rfl,hb2⟩
  have HB2:=hide hb2
  clear hb2 HR1
  go_wp2
  go_ret2
  exact ⟨rfl,HB2.out⟩
 | true =>
  rw [hs] at HIS
  have hs2:0≤sp∧sp<16:=of_decide_eq_true hs
  by_cases hm:0≤most
  ·have e1:decide (0≤most)=true:=decide_eq_true hm
   rw [e1]
   have HR1:=hide (HRF.out true)
   obtain ⟨sn,rfl⟩:∃ sn:Nat,sp=(sn:Int):=⟨sp.toNat,by omega⟩
   obtain ⟨mn,rfl⟩:∃ mn:Nat,most=(mn:Int):=⟨most.toNat,by omega⟩
   have hsn:sn<16:=by omega
   clear hs HRF e1 hs2
   by_cases h6:60<ln
   ·have z0:(60:Int)<(ln:Int):=by omega
    have e2:decide (60<ln)=true:=decide_eq_true h6
    rw [e2]
    clear h6 e2
    go_enter Tryz.func45,Tryz.ntmps45
    go_wp2_with fail
    refine HIS.out.mono ?_
    rintro e w1 ⟨rfl,hw⟩
    have hw:=hw.symm
    subst hw
    clear HIS
    go_wp2_with fail
    refine HR1.out.mono ?_
    rintro e w2 ⟨rfl,hb2⟩
    have HB2:=hide hb2
    clear hb2 HR1
    go_wp2
    go_ret2
    exact ⟨rfl,HB2.out⟩
   ·have z0:¬ (60:Int)<(ln:Int):=by omega
    have e2:decide (60<ln)=false:=decide_eq_false h6
    rw [e2]
    clear e2
    by_cases h7:60<hn
    ·have z1:(60:Int)<(hn:Int):=by omega
     have e3:decide (60<hn)=true:=decide_eq_true h7
     rw [e3]
     clear h6 h7 e3
     go_enter Tryz.func45,Tryz.ntmps45
     go_wp2_with fail
     refine HIS.out.mono ?_
     rintro e w1 ⟨rfl,hw⟩
     have hw:=hw.symm
     subst hw
     clear HIS
     go_wp2_with fail
     refine HR1.out.mono ?_
     rintro e w2 ⟨rfl,hb2⟩
     have HB2:=hide hb2
     clear hb2 HR1
     go_wp2
     go_ret2
     exact ⟨rfl,HB2.out⟩
    ·have z1:¬ (60:Int)<(hn:Int):=by omega
     have e3:decide (60<hn)=false:=decide_eq_false h7
     rw [e3]
     clear e3
     go_enter Tryz.func45,Tryz.ntmps45
     go_wp2_with fail
     refine HIS.out.mono ?_
     rintro e w1 ⟨rfl,hw⟩
     have hw:=hw.symm
     subst hw
     clear HIS
     go_wp2_with fail
     refine HR1.out.mono ?_
     rintro e w2 ⟨rfl,hb2⟩
     have HB2:=hide hb2
     have HL2:=hide (HL.out.later hb2)
     have HTK:=hide (aBh (B:=B) (sp:=sn) (w:=w2) (by omega) (HLO.out.later hb2 HBW.out).1 (by omega))
     have HH2:=hide (HHI.out.later hb2 HBW.out)
     clear hb2 HR1
     go_wp2_with fail
     refine HTK.out.mono ?_
     rintro e w3 ⟨kb,kd,rfl,hk3,hb3⟩
     have HB3:=hide (HB2.out.trans (hb3.mono HB2.out.size))
     have HL3:=hide (HL2.out.later hb3)
     have HTE:=hide (treeEnd_any (B:=B) (w:=w3) hsn (HH2.out.later hb3 HL2.out.bw).1 (by omega))
     clear hk3 hb3 HTK
     go_wp2_with fail
     refine HTE.out.mono ?_
     rintro e w4 ⟨eb,ed,em,rfl,hm4,hb4⟩
     have HB4:=hide (HB3.out.trans (hb4.mono HB3.out.size))
     have HPS:=hide ((HL3.out.later hb4).pairsE mn (la:=kb) (lc:=kd) (ha:=eb) (hc:=ed) (ln:=ln+1) (hn:=em) (by omega) (by omega))
     clear hb4 HTE
     go_wp2_with fail
     refine HPS.out.mono ?_
     rintro e w5 ⟨rfl,hb5⟩
     have HB5:=hide (HB4.out.trans (hb5.mono HB4.out.size))
     clear hb5 HPS
     go_wp2
     go_ret2
     exact ⟨rfl,HB5.out⟩
  ·have e1:decide (0≤most)=false:=decide_eq_false hm
   rw [e1]
   have z2:¬ (0:Int)≤most:=hm
   have z3:decide ((0:Int)≤most)=false:=decide_eq_false hm
   have z4:most<0:=by omega
   have z5:decide (most≥0)=false:=decide_eq_false (by omega)
   have HR1:=hide (HRF.out false)
   clear hs HRF e1 hm
   go_enter Tryz.func45,Tryz.ntmps45
   go_wp2_with fail
   refine HIS.out.mono ?_
   rintro e w1 ⟨rfl,hw⟩
   have hw:=hw.symm
   subst hw
   clear HIS
   go_wp2_with fail
   refine HR1.out.mono ?_
   rintro e w2 ⟨rfl,hb2⟩
   have HB2:=hide hb2
   clear hb2 HR1
   go_wp2
   go_ret2
   exact ⟨rfl,HB2.out⟩
end Go.Proofs.YthgleplmbnkacaaGreat
