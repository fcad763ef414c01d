import Derived.Test.YtmmcebojbbdfmaaGreatZ35
set_option maxRecDepth 100000
set_option maxHeartbeats 16000000
set_option linter.unusedVariables false
namespace Go.Proofs.YtmmcebojbbdfmaaGreat
open Go.RowKit
theorem isright_four {w:World} {y:OpV} (h:OpM w y) (hz:OpZ y) (hk:y.kind=4):Calls Tryz.prog 80 #[.agg #[.int .i64 y.kind,.string y.nm,.string y.s.nm,.slice y.ca y.cl y.cc,.slice y.xa y.xl y.xc,.slice y.ra y.rl y.rc,.int .i64 y.key.1,.int .i64 y.key.2.1,.string y.key.2.2,.int .i64 y.col,.int .i64 y.lo.1,.int .i64 y.lo.2.1,.string y.lo.2.2,.int .i64 y.hi.1,.int .i64 y.hi.2.1,.string y.hi.2.2,.int .i64 y.lim]] w fun e w'=>e=.returned (.bool (opRt y))∧Below w.heap.size w w':=by
 have ek1:(y.kind == 1)=false:=by rw [hk];rfl
 have ek2:(y.kind == 2)=false:=by rw [hk];rfl
 have ek3:(y.kind == 3)=false:=by rw [hk];rfl
 have ek4:(y.kind == 4)=true:=by rw [hk];rfl
 have HU:Hid (opRt y=(isNm y.nm && (rowRt [y.key] && onlyB y (prK y)))):=by
  show _=_
  unfold opRt
  rw [if_neg (by omega),if_neg (by omega),if_pos (by omega)]
 clear hk
 have hbx:=aAc w (.cells #[.int .i64 y.kind,.string y.nm,.string y.s.nm,.slice y.ca y.cl y.cc,.slice y.xa y.xl y.xc,.slice y.ra y.rl y.rc,.int .i64 y.key.1,.int .i64 y.key.2.1,.string y.key.2.2,.int .i64 y.col,.int .i64 y.lo.1,.int .i64 y.lo.2.1,.string y.lo.2.2,.int .i64 y.hi.1,.int .i64 y.hi.2.1,.string y.hi.2.2,.int .i64 y.lim] 75)
 have HR1:Hid ((w.alloc (.cells #[.int .i64 y.kind,.string y.nm,.string y.s.nm,.slice y.ca y.cl y.cc,.slice y.xa y.xl y.xc,.slice y.ra y.rl y.rc,.int .i64 y.key.1,.int .i64 y.key.2.1,.string y.key.2.2,.int .i64 y.col,.int .i64 y.lo.1,.int .i64 y.lo.2.1,.string y.lo.2.2,.int .i64 y.hi.1,.int .i64 y.hi.2.1,.string y.hi.2.2,.int .i64 y.lim] 75)).heap[w.heap.size]?=some (.cells #[.int .i64 y.kind,.string y.nm,.string y.s.nm,.slice y.ca y.cl y.cc,.slice y.xa y.xl y.xc,.slice y.ra y.rl y.rc,.int .i64 y.key.1,.int .i64 y.key.2.1,.string y.key.2.2,.int .i64 y.col,.int .i64 y.lo.1,.int .i64 y.lo.2.1,.string y.lo.2.2,.int .i64 y.hi.1,.int .i64 y.hi.2.1,.string y.hi.2.2,.int .i64 y.lim] 75 (0,0))):=boxed w _
 have HW1:=hide hbx
 have HM1:=hide (h.later hbx)
 have HZ:=hide hz
 clear hbx h hz
 go_enter Tryz.func80,Tryz.ntmps80
 go_upto_region 1 with fail
 generalize w.alloc (.cells #[.int .i64 y.kind,.string y.nm,.string y.s.nm,.slice y.ca y.cl y.cc,.slice y.xa y.xl y.xc,.slice y.ra y.rl y.rc,.int .i64 y.key.1,.int .i64 y.key.2.1,.string y.key.2.2,.int .i64 y.col,.int .i64 y.lo.1,.int .i64 y.lo.2.1,.string y.lo.2.2,.int .i64 y.hi.1,.int .i64 y.hi.2.1,.string y.hi.2.2,.int .i64 y.lim] 75)=w1 at *
 generalize hL:w.heap.size=L at *
 have y0:w1.cell? ⟨L,0,none⟩=some (.int .i64 y.kind):=aAa HR1.out
 have y1:w1.cell? ⟨L,1,none⟩=some (.string y.nm):=aAa HR1.out
 have y2:w1.cell? ⟨L,2,none⟩=some (.string y.s.nm):=aAa HR1.out
 have y3:w1.cell? ⟨L,3,none⟩=some (.slice y.ca y.cl y.cc):=aAa HR1.out
 have y4:w1.cell? ⟨L,4,none⟩=some (.slice y.xa y.xl y.xc):=aAa HR1.out
 have y5:w1.cell? ⟨L,5,none⟩=some (.slice y.ra y.rl y.rc):=aAa HR1.out
 have y6:w1.cell? ⟨L,6,none⟩=some (.int .i64 y.key.1):=aAa HR1.out
 have y7:w1.cell? ⟨L,7,none⟩=some (.int .i64 y.key.2.1):=aAa HR1.out
 have y8:w1.cell? ⟨L,8,none⟩=some (.string y.key.2.2):=aAa HR1.out
 have y9:w1.cell? ⟨L,9,none⟩=some (.int .i64 y.col):=aAa HR1.out
 have y10:w1.cell? ⟨L,10,none⟩=some (.int .i64 y.lo.1):=aAa HR1.out
 have y11:w1.cell? ⟨L,11,none⟩=some (.int .i64 y.lo.2.1):=aAa HR1.out
 have y12:w1.cell? ⟨L,12,none⟩=some (.string y.lo.2.2):=aAa HR1.out
 have y13:w1.cell? ⟨L,13,none⟩=some (.int .i64 y.hi.1):=aAa HR1.out
 have y14:w1.cell? ⟨L,14,none⟩=some (.int .i64 y.hi.2.1):=aAa HR1.out
 have y15:w1.cell? ⟨L,15,none⟩=some (.string y.hi.2.2):=aAa HR1.out
 have y16:w1.cell? ⟨L,16,none⟩=some (.int .i64 y.lim):=aAa HR1.out
 obtain ⟨bb,eb⟩:∃ b,isNm y.nm=b:=⟨_,rfl⟩
 have HCL:=hide (aBc y.nm w1)
 rw [eb] at HCL
 go_wp2_with fail
 refine HCL.out.mono ?_
 rintro e w2 ⟨rfl,hb⟩
 have HM2:=hide (HM1.out.later hb)
 have HR2:=hide ((hb.block L (aAb HR1.out)).trans HR1.out)
 have HW2:Hid (Below L w w2):=HW1.out.trans (hb.mono (by have:=aAb HR1.out;omega))
 clear hb HCL y0 y1 y2 y3 y4 y5 y6 y7 y8 y9 y10 y11 y12 y13 y14 y15 y16
 have y0:w2.cell? ⟨L,0,none⟩=some (.int .i64 y.kind):=aAa HR2.out
 have y1:w2.cell? ⟨L,1,none⟩=some (.string y.nm):=aAa HR2.out
 have y2:w2.cell? ⟨L,2,none⟩=some (.string y.s.nm):=aAa HR2.out
 have y3:w2.cell? ⟨L,3,none⟩=some (.slice y.ca y.cl y.cc):=aAa HR2.out
 have y4:w2.cell? ⟨L,4,none⟩=some (.slice y.xa y.xl y.xc):=aAa HR2.out
 have y5:w2.cell? ⟨L,5,none⟩=some (.slice y.ra y.rl y.rc):=aAa HR2.out
 have y6:w2.cell? ⟨L,6,none⟩=some (.int .i64 y.key.1):=aAa HR2.out
 have y7:w2.cell? ⟨L,7,none⟩=some (.int .i64 y.key.2.1):=aAa HR2.out
 have y8:w2.cell? ⟨L,8,none⟩=some (.string y.key.2.2):=aAa HR2.out
 have y9:w2.cell? ⟨L,9,none⟩=some (.int .i64 y.col):=aAa HR2.out
 have y10:w2.cell? ⟨L,10,none⟩=some (.int .i64 y.lo.1):=aAa HR2.out
 have y11:w2.cell? ⟨L,11,none⟩=some (.int .i64 y.lo.2.1):=aAa HR2.out
 have y12:w2.cell? ⟨L,12,none⟩=some (.string y.lo.2.2):=aAa HR2.out
 have y13:w2.cell? ⟨L,13,none⟩=some (.int .i64 y.hi.1):=aAa HR2.out
 have y14:w2.cell? ⟨L,14,none⟩=some (.int .i64 y.hi.2.1):=aAa HR2.out
 have y15:w2.cell? ⟨L,15,none⟩=some (.string y.hi.2.2):=aAa HR2.out
 have y16:w2.cell? ⟨L,16,none⟩=some (.int .i64 y.lim):=aAa HR2.out
 cases bb with
 | false =>
  have HN:Hid (opRt y=false):=by
   show _=_
   rw [HU.out,eb]
   rfl
  go_wp2
  go_ret
  exact ⟨by rw [HN.out];rfl,by first | exact HW2.out | (rw [hL];exact HW2.out)⟩
 | true =>
  obtain ⟨b2,e2⟩:∃ b,rowRt [y.key]=b:=⟨_,rfl⟩
  have hb:=aAc w2 (.cells #[.int .i64 y.key.1,.int .i64 y.key.2.1,.string y.key.2.2] 73)
  have HM3:=hide (HM2.out.later hb)
  have HR3:=hide ((hb.block L (aAb HR2.out)).trans HR2.out)
  have HW3:Hid (Below L w (w2.alloc (.cells #[.int .i64 y.key.1,.int .i64 y.key.2.1,.string y.key.2.2] 73))):=HW2.out.trans (hb.mono (by have:=aAb HR2.out;omega))
  have HS3:=hide (sv_one w2 y.key)
  clear hb
  have HCL:=hide (aA1 HS3.out (by
   intro x hx
   simp only [List.mem_cons,List.not_mem_nil,or_false] at hx
   subst hx
   exact HZ.out.key))
  rw [e2] at HCL
  go_wp2_with fail
  refine HCL.out.mono ?_
  rintro e w4 ⟨rfl,hb⟩
  have HM4:=hide (HM3.out.later hb)
  have HR4:=hide ((hb.block L (aAb HR3.out)).trans HR3.out)
  have HW4:Hid (Below L w w4):=HW3.out.trans (hb.mono (by have:=aAb HR3.out;omega))
  clear hb HCL y0 y1 y2 y3 y4 y5 y6 y7 y8 y9 y10 y11 y12 y13 y14 y15 y16
  have y0:w4.cell? ⟨L,0,none⟩=some (.int .i64 y.kind):=aAa HR4.out
  have y1:w4.cell? ⟨L,1,none⟩=some (.string y.nm):=aAa HR4.out
  have y2:w4.cell? ⟨L,2,none⟩=some (.string y.s.nm):=aAa HR4.out
  have y3:w4.cell? ⟨L,3,none⟩=some (.slice y.ca y.cl y.cc):=aAa HR4.out
  have y4:w4.cell? ⟨L,4,none⟩=some (.slice y.xa y.xl y.xc):=aAa HR4.out
  have y5:w4.cell? ⟨L,5,none⟩=some (.slice y.ra y.rl y.rc):=aAa HR4.out
  have y6:w4.cell? ⟨L,6,none⟩=some (.int .i64 y.key.1):=aAa HR4.out
  have y7:w4.cell? ⟨L,7,none⟩=some (.int .i64 y.key.2.1):=aAa HR4.out
  have y8:w4.cell? ⟨L,8,none⟩=some (.string y.key.2.2):=aAa HR4.out
  have y9:w4.cell? ⟨L,9,none⟩=some (.int .i64 y.col):=aAa HR4.out
  have y10:w4.cell? ⟨L,10,none⟩=some (.int .i64 y.lo.1):=aAa HR4.out
  have y11:w4.cell? ⟨L,11,none⟩=some (.int .i64 y.lo.2.1):=aAa HR4.out
  have y12:w4.cell? ⟨L,12,none⟩=some (.string y.lo.2.2):=aAa HR4.out
  have y13:w4.cell? ⟨L,13,none⟩=some (.int .i64 y.hi.1):=aAa HR4.out
  have y14:w4.cell? ⟨L,14,none⟩=some (.int .i64 y.hi.2.1):=aAa HR4.out
  have y15:w4.cell? ⟨L,15,none⟩=some (.string y.hi.2.2):=aAa HR4.out
  have y16:w4.cell? ⟨L,16,none⟩=some (.int .i64 y.lim):=aAa HR4.out
  cases b2 with
  | false =>
   have HN:Hid (opRt y=false):=by
    show _=_
    rw [HU.out,eb,e2]
    rfl
   go_wp2
   go_ret
   exact ⟨by rw [HN.out];rfl,by first | exact HW4.out | (rw [hL];exact HW4.out)⟩
  | true =>
   have HCL:=hide (aAy HM4.out HM4.out.prK (fun q=>by have:y.cl=0:=q;omega) (fun q=>by have:y.xl=0:=q;omega) (fun q=>by have:y.rl=0:=q;omega))
   obtain ⟨b9,e9⟩:∃ b,onlyB y (prK y)=b:=⟨_,rfl⟩
   rw [e9] at HCL
   have HN:Hid (opRt y=b9):=by
    show _=_
    rw [HU.out,eb,e2,e9]
    rfl
   go_wp2_with fail
   refine HCL.out.mono ?_
   rintro e w5 ⟨rfl,hb⟩
   have HW5:Hid (Below L w w5):=HW4.out.trans (hb.mono (by have:=aAb HR4.out;omega))
   clear hb HCL
   cases b9 with
   | false =>
    go_wp2
    go_ret
    exact ⟨by rw [HN.out];rfl,by first | exact HW5.out | (rw [hL];exact HW5.out)⟩
   | true =>
    go_wp2
    go_ret
    exact ⟨by rw [HN.out];rfl,by first | exact HW5.out | (rw [hL];exact HW5.out)⟩
theorem isright_five {w:World} {y:OpV} (h:OpM w y) (hz:OpZ y) (hk:y.kind=5):Calls Tryz.prog 80 #[.agg #[.int .i64 y.kind,.string y.nm,.string y.s.nm,.slice y.ca y.cl y.cc,.slice y.xa y.xl y.xc,.slice y.ra y.rl y.rc,.int .i64 y.key.1,.int .i64 y.key.2.1,.string y.key.2.2,.int .i64 y.col,.int .i64 y.lo.1,.int .i64 y.lo.2.1,.string y.lo.2.2,.int .i64 y.hi.1,.int .i64 y.hi.2.1,.string y.hi.2.2,.int .i64 y.lim]] w fun e w'=>e=.returned (.bool (opRt y))∧Below w.heap.size w w':=by
 have ek1:(y.kind == 1)=false:=by rw [hk];rfl
 have ek2:(y.kind == 2)=false:=by rw [hk];rfl
 have ek3:(y.kind == 3)=false:=by rw [hk];rfl
 have ek4:(y.kind == 4)=false:=by rw [hk];rfl
 have ek5:(y.kind == 5)=true:=by rw [hk];rfl
 have HU:Hid (opRt y=(isNm y.nm && (rowRt [y.key] && onlyB y (prK y)))):=by
  show _=_
  unfold opRt
  rw [if_neg (by omega),if_neg (by omega),if_pos (by omega)]
 clear hk
 have hbx:=aAc w (.cells #[.int .i64 y.kind,.string y.nm,.string y.s.nm,.slice y.ca y.cl y.cc,.slice y.xa y.xl y.xc,.slice y.ra y.rl y.rc,.int .i64 y.key.1,.int .i64 y.key.2.1,.string y.key.2.2,.int .i64 y.col,.int .i64 y.lo.1,.int .i64 y.lo.2.1,.string y.lo.2.2,.int .i64 y.hi.1,.int .i64 y.hi.2.1,.string y.hi.2.2,.int .i64 y.lim] 75)
 have HR1:Hid ((w.alloc (.cells #[.int .i64 y.kind,.string y.nm,.string y.s.nm,.slice y.ca y.cl y.cc,.slice y.xa y.xl y.xc,.slice y.ra y.rl y.rc,.int .i64 y.key.1,.int .i64 y.key.2.1,.string y.key.2.2,.int .i64 y.col,.int .i64 y.lo.1,.int .i64 y.lo.2.1,.string y.lo.2.2,.int .i64 y.hi.1,.int .i64 y.hi.2.1,.string y.hi.2.2,.int .i64 y.lim] 75)).heap[w.heap.size]?=some (.cells #[.int .i64 y.kind,.string y.nm,.string y.s.nm,.slice y.ca y.cl y.cc,.slice y.xa y.xl y.xc,.slice y.ra y.rl y.rc,.int .i64 y.key.1,.int .i64 y.key.2.1,.string y.key.2.2,.int .i64 y.col,.int .i64 y.lo.1,.int .i64 y.lo.2.1,.string y.lo.2.2,.int .i64 y.hi.1,.int .i64 y.hi.2.1,.string y.hi.2.2,.int .i64 y.lim] 75 (0,0))):=boxed w _
 have HW1:=hide hbx
 have HM1:=hide (h.later hbx)
 have HZ:=hide hz
 clear hbx h hz
 go_enter Tryz.func80,Tryz.ntmps80
 go_upto_region 1 with fail
 generalize w.alloc (.cells #[.int .i64 y.kind,.string y.nm,.string y.s.nm,.slice y.ca y.cl y.cc,.slice y.xa y.xl y.xc,.slice y.ra y.rl y.rc,.int .i64 y.key.1,.int .i64 y.key.2.1,.string y.key.2.2,.int .i64 y.col,.int .i64 y.lo.1,.int .i64 y.lo.2.1,.string y.lo.2.2,.int .i64 y.hi.1,.int .i64 y.hi.2.1,.string y.hi.2.2,.int .i64 y.lim] 75)=w1 at *
 generalize hL:w.heap.size=L at *
 have y0:w1.cell? ⟨L,0,none⟩=some (.int .i64 y.kind):=aAa HR1.out
 have y1:w1.cell? ⟨L,1,none⟩=some (.string y.nm):=aAa HR1.out
 have y2:w1.cell? ⟨L,2,none⟩=some (.string y.s.nm):=aAa HR1.out
 have y3:w1.cell? ⟨L,3,none⟩=some (.slice y.ca y.cl y.cc):=aAa HR1.out
 have y4:w1.cell? ⟨L,4,none⟩=some (.slice y.xa y.xl y.xc):=aAa HR1.out
 have y5:w1.cell? ⟨L,5,none⟩=some (.slice y.ra y.rl y.rc):=aAa HR1.out
 have y6:w1.cell? ⟨L,6,none⟩=some (.int .i64 y.key.1):=aAa HR1.out
 have y7:w1.cell? ⟨L,7,none⟩=some (.int .i64 y.key.2.1):=aAa HR1.out
 have y8:w1.cell? ⟨L,8,none⟩=some (.string y.key.2.2):=aAa HR1.out
 have y9:w1.cell? ⟨L,9,none⟩=some (.int .i64 y.col):=aAa HR1.out
 have y10:w1.cell? ⟨L,10,none⟩=some (.int .i64 y.lo.1):=aAa HR1.out
 have y11:w1.cell? ⟨L,11,none⟩=some (.int .i64 y.lo.2.1):=aAa HR1.out
 have y12:w1.cell? ⟨L,12,none⟩=some (.string y.lo.2.2):=aAa HR1.out
 have y13:w1.cell? ⟨L,13,none⟩=some (.int .i64 y.hi.1):=aAa HR1.out
 have y14:w1.cell? ⟨L,14,none⟩=some (.int .i64 y.hi.2.1):=aAa HR1.out
 have y15:w1.cell? ⟨L,15,none⟩=some (.string y.hi.2.2):=aAa HR1.out
 have y16:w1.cell? ⟨L,16,none⟩=some (.int .i64 y.lim):=aAa HR1.out
 obtain ⟨bb,eb⟩:∃ b,isNm y.nm=b:=⟨_,rfl⟩
 have HCL:=hide (aBc y.nm w1)
 rw [eb] at HCL
 go_wp2_with fail
 refine HCL.out.mono ?_
 rintro e w2 ⟨rfl,hb⟩
 have HM2:=hide (HM1.out.later hb)
 have HR2:=hide ((hb.block L (aAb HR1.out)).trans HR1.out)
 have HW2:Hid (Below L w w2):=HW1.out.trans (hb.mono (by have:=aAb HR1.out;omega))
 clear hb HCL y0 y1 y2 y3 y4 y5 y6 y7 y8 y9 y10 y11 y12 y13 y14 y15 y16
 have y0:w2.cell? ⟨L,0,none⟩=some (.int .i64 y.kind):=aAa HR2.out
 have y1:w2.cell? ⟨L,1,none⟩=some (.string y.nm):=aAa HR2.out
 have y2:w2.cell? ⟨L,2,none⟩=some (.string y.s.nm):=aAa HR2.out
 have y3:w2.cell? ⟨L,3,none⟩=some (.slice y.ca y.cl y.cc):=aAa HR2.out
 have y4:w2.cell? ⟨L,4,none⟩=some (.slice y.xa y.xl y.xc):=aAa HR2.out
 have y5:w2.cell? ⟨L,5,none⟩=some (.slice y.ra y.rl y.rc):=aAa HR2.out
 have y6:w2.cell? ⟨L,6,none⟩=some (.int .i64 y.key.1):=aAa HR2.out
 have y7:w2.cell? ⟨L,7,none⟩=some (.int .i64 y.key.2.1):=aAa HR2.out
 have y8:w2.cell? ⟨L,8,none⟩=some (.string y.key.2.2):=aAa HR2.out
 have y9:w2.cell? ⟨L,9,none⟩=some (.int .i64 y.col):=aAa HR2.out
 have y10:w2.cell? ⟨L,10,none⟩=some (.int .i64 y.lo.1):=aAa HR2.out
 have y11:w2.cell? ⟨L,11,none⟩=some (.int .i64 y.lo.2.1):=aAa HR2.out
 have y12:w2.cell? ⟨L,12,none⟩=some (.string y.lo.2.2):=aAa HR2.out
 have y13:w2.cell? ⟨L,13,none⟩=some (.int .i64 y.hi.1):=aAa HR2.out
 have y14:w2.cell? ⟨L,14,none⟩=some (.int .i64 y.hi.2.1):=aAa HR2.out
 have y15:w2.cell? ⟨L,15,none⟩=some (.string y.hi.2.2):=aAa HR2.out
 have y16:w2.cell? ⟨L,16,none⟩=some (.int .i64 y.lim):=aAa HR2.out
 cases bb with
 | false =>
  have HN:Hid (opRt y=false):=by
   show _=_
   rw [HU.out,eb]
   rfl
  go_wp2
  go_ret
  exact ⟨by rw [HN.out];rfl,by first | exact HW2.out | (rw [hL];exact HW2.out)⟩
 | true =>
  obtain ⟨b2,e2⟩:∃ b,rowRt [y.key]=b:=⟨_,rfl⟩
  have hb:=aAc w2 (.cells #[.int .i64 y.key.1,.int .i64 y.key.2.1,.string y.key.2.2] 73)
  have HM3:=hide (HM2.out.later hb)
  have HR3:=hide ((hb.block L (aAb HR2.out)).trans HR2.out)
  have HW3:Hid (Below L w (w2.alloc (.cells #[.int .i64 y.key.1,.int .i64 y.key.2.1,.string y.key.2.2] 73))):=HW2.out.trans (hb.mono (by have:=aAb HR2.out;omega))
  have HS3:=hide (sv_one w2 y.key)
  clear hb
  have HCL:=hide (aA1 HS3.out (by
   intro x hx
   simp only [List.mem_cons,List.not_mem_nil,or_false] at hx
   subst hx
   exact HZ.out.key))
  rw [e2] at HCL
  go_wp2_with fail
  refine HCL.out.mono ?_
  rintro e w4 ⟨rfl,hb⟩
  have HM4:=hide (HM3.out.later hb)
  have HR4:=hide ((hb.block L (aAb HR3.out)).trans HR3.out)
  have HW4:Hid (Below L w w4):=HW3.out.trans (hb.mono (by have:=aAb HR3.out;omega))
  clear hb HCL y0 y1 y2 y3 y4 y5 y6 y7 y8 y9 y10 y11 y12 y13 y14 y15 y16
  have y0:w4.cell? ⟨L,0,none⟩=some (.int .i64 y.kind):=aAa HR4.out
  have y1:w4.cell? ⟨L,1,none⟩=some (.string y.nm):=aAa HR4.out
  have y2:w4.cell? ⟨L,2,none⟩=some (.string y.s.nm):=aAa HR4.out
  have y3:w4.cell? ⟨L,3,none⟩=some (.slice y.ca y.cl y.cc):=aAa HR4.out
  have y4:w4.cell? ⟨L,4,none⟩=some (.slice y.xa y.xl y.xc):=aAa HR4.out
  have y5:w4.cell? ⟨L,5,none⟩=some (.slice y.ra y.rl y.rc):=aAa HR4.out
  have y6:w4.cell? ⟨L,6,none⟩=some (.int .i64 y.key.1):=aAa HR4.out
  have y7:w4.cell? ⟨L,7,none⟩=some (.int .i64 y.key.2.1):=aAa HR4.out
  have y8:w4.cell? ⟨L,8,none⟩=some (.string y.key.2.2):=aAa HR4.out
  have y9:w4.cell? ⟨L,9,none⟩=some (.int .i64 y.col):=aAa HR4.out
  have y10:w4.cell? ⟨L,10,none⟩=some (.int .i64 y.lo.1):=aAa HR4.out
  have y11:w4.cell? ⟨L,11,none⟩=some (.int .i64 y.lo.2.1):=aAa HR4.out
  have y12:w4.cell? ⟨L,12,none⟩=some (.string y.lo.2.2):=aAa HR4.out
  have y13:w4.cell? ⟨L,13,none⟩=some (.int .i64 y.hi.1):=aAa HR4.out
  have y14:w4.cell? ⟨L,14,none⟩=some (.int .i64 y.hi.2.1):=aAa HR4.out
  have y15:w4.cell? ⟨L,15,none⟩=some (.string y.hi.2.2):=aAa HR4.out
  have y16:w4.cell? ⟨L,16,none⟩=some (.int .i64 y.lim):=aAa HR4.out
  cases b2 with
  | false =>
   have HN:Hid (opRt y=false):=by
    show _=_
    rw [HU.out,eb,e2]
    rfl
   go_wp2
   go_ret
   exact ⟨by rw [HN.out];rfl,by first | exact HW4.out | (rw [hL];exact HW4.out)⟩
  | true =>
   have HCL:=hide (aAy HM4.out HM4.out.prK (fun q=>by have:y.cl=0:=q;omega) (fun q=>by have:y.xl=0:=q;omega) (fun q=>by have:y.rl=0:=q;omega))
   obtain ⟨b9,e9⟩:∃ b,onlyB y (prK y)=b:=⟨_,rfl⟩
   rw [e9] at HCL
   have HN:Hid (opRt y=b9):=by
    show _=_
    rw [HU.out,eb,e2,e9]
    rfl
   go_wp2_with fail
   refine HCL.out.mono ?_
   rintro e w5 ⟨rfl,hb⟩
   have HW5:Hid (Below L w w5):=HW4.out.trans (hb.mono (by have:=aAb HR4.out;omega))
   clear hb HCL
   cases b9 with
   | false =>
    go_wp2
    go_ret
    exact ⟨by rw [HN.out];rfl,by first | exact HW5.out | (rw [hL];exact HW5.out)⟩
   | true =>
    go_wp2
    go_ret
    exact ⟨by rw [HN.out];rfl,by first | exact HW5.out | (rw [hL];exact HW5.out)⟩
theorem isright_six {w:World} {y:OpV} (h:OpM w y) (hz:OpZ y) (hk:y.kind=6):Calls Tryz.prog 80 #[.agg #[.int .i64 y.kind,.string y.nm,.string y.s.nm,.slice y.ca y.cl y.cc,.slice y.xa y.xl y.xc,.slice y.ra y.rl y.rc,.int .i64 y.key.1,.int .i64 y.key.2.1,.string y.key.2.2,.int .i64 y.col,.int .i64 y.lo.1,.int .i64 y.lo.2.1,.string y.lo.2.2,.int .i64 y.hi.1,.int .i64 y.hi.2.1,.string y.hi.2.2,.int .i64 y.lim]] w fun e w'=>e=.returned (.bool (opRt y))∧Below w.heap.size w w':=by
 have ek1:(y.kind == 1)=false:=by rw [hk];rfl
 have ek2:(y.kind == 2)=false:=by rw [hk];rfl
 have ek3:(y.kind == 3)=false:=by rw [hk];rfl
 have ek4:(y.kind == 4)=false:=by rw [hk];rfl
 have ek5:(y.kind == 5)=false:=by rw [hk];rfl
 have ek6:(y.kind == 6)=true:=by rw [hk];rfl
 have HU:Hid (opRt y=(isNm y.nm && (spanB y && onlyB y (prX y)))):=by
  show _=_
  unfold opRt
  rw [if_neg (by omega),if_neg (by omega),if_neg (by omega),if_pos hk]
 clear hk
 have hbx:=aAc w (.cells #[.int .i64 y.kind,.string y.nm,.string y.s.nm,.slice y.ca y.cl y.cc,.slice y.xa y.xl y.xc,.slice y.ra y.rl y.rc,.int .i64 y.key.1,.int .i64 y.key.2.1,.string y.key.2.2,.int .i64 y.col,.int .i64 y.lo.1,.int .i64 y.lo.2.1,.string y.lo.2.2,.int .i64 y.hi.1,.int .i64 y.hi.2.1,.string y.hi.2.2,.int .i64 y.lim] 75)
 have HR1:Hid ((w.alloc (.cells #[.int .i64 y.kind,.string y.nm,.string y.s.nm,.slice y.ca y.cl y.cc,.slice y.xa y.xl y.xc,.slice y.ra y.rl y.rc,.int .i64 y.key.1,.int .i64 y.key.2.1,.string y.key.2.2,.int .i64 y.col,.int .i64 y.lo.1,.int .i64 y.lo.2.1,.string y.lo.2.2,.int .i64 y.hi.1,.int .i64 y.hi.2.1,.string y.hi.2.2,.int .i64 y.lim] 75)).heap[w.heap.size]?=some (.cells #[.int .i64 y.kind,.string y.nm,.string y.s.nm,.slice y.ca y.cl y.cc,.slice y.xa y.xl y.xc,.slice y.ra y.rl y.rc,.int .i64 y.key.1,.int .i64 y.key.2.1,.string y.key.2.2,.int .i64 y.col,.int .i64 y.lo.1,.int .i64 y.lo.2.1,.string y.lo.2.2,.int .i64 y.hi.1,.int .i64 y.hi.2.1,.string y.hi.2.2,.int .i64 y.lim] 75 (0,0))):=boxed w _
 have HW1:=hide hbx
 have HM1:=hide (h.later hbx)
 have HZ:=hide hz
 clear hbx h hz
 go_enter Tryz.func80,Tryz.ntmps80
 go_upto_region 1 with fail
 generalize w.alloc (.cells #[.int .i64 y.kind,.string y.nm,.string y.s.nm,.slice y.ca y.cl y.cc,.slice y.xa y.xl y.xc,.slice y.ra y.rl y.rc,.int .i64 y.key.1,.int .i64 y.key.2.1,.string y.key.2.2,.int .i64 y.col,.int .i64 y.lo.1,.int .i64 y.lo.2.1,.string y.lo.2.2,.int .i64 y.hi.1,.int .i64 y.hi.2.1,.string y.hi.2.2,.int .i64 y.lim] 75)=w1 at *
 generalize hL:w.heap.size=L at *
 have y0:w1.cell? ⟨L,0,none⟩=some (.int .i64 y.kind):=aAa HR1.out
 have y1:w1.cell? ⟨L,1,none⟩=some (.string y.nm):=aAa HR1.out
 have y2:w1.cell? ⟨L,2,none⟩=some (.string y.s.nm):=aAa HR1.out
 have y3:w1.cell? ⟨L,3,none⟩=some (.slice y.ca y.cl y.cc):=aAa HR1.out
 have y4:w1.cell? ⟨L,4,none⟩=some (.slice y.xa y.xl y.xc):=aAa HR1.out
 have y5:w1.cell? ⟨L,5,none⟩=some (.slice y.ra y.rl y.rc):=aAa HR1.out
 have y6:w1.cell? ⟨L,6,none⟩=some (.int .i64 y.key.1):=aAa HR1.out
 have y7:w1.cell? ⟨L,7,none⟩=some (.int .i64 y.key.2.1):=aAa HR1.out
 have y8:w1.cell? ⟨L,8,none⟩=some (.string y.key.2.2):=aAa HR1.out
 have y9:w1.cell? ⟨L,9,none⟩=some (.int .i64 y.col):=aAa HR1.out
 have y10:w1.cell? ⟨L,10,none⟩=some (.int .i64 y.lo.1):=aAa HR1.out
 have y11:w1.cell? ⟨L,11,none⟩=some (.int .i64 y.lo.2.1):=aAa HR1.out
 have y12:w1.cell? ⟨L,12,none⟩=some (.string y.lo.2.2):=aAa HR1.out
 have y13:w1.cell? ⟨L,13,none⟩=some (.int .i64 y.hi.1):=aAa HR1.out
 have y14:w1.cell? ⟨L,14,none⟩=some (.int .i64 y.hi.2.1):=aAa HR1.out
 have y15:w1.cell? ⟨L,15,none⟩=some (.string y.hi.2.2):=aAa HR1.out
 have y16:w1.cell? ⟨L,16,none⟩=some (.int .i64 y.lim):=aAa HR1.out
 obtain ⟨bb,eb⟩:∃ b,isNm y.nm=b:=⟨_,rfl⟩
 have HCL:=hide (aBc y.nm w1)
 rw [eb] at HCL
 go_wp2_with fail
 refine HCL.out.mono ?_
 rintro e w2 ⟨rfl,hb⟩
 have HM2:=hide (HM1.out.later hb)
 have HR2:=hide ((hb.block L (aAb HR1.out)).trans HR1.out)
 have HW2:Hid (Below L w w2):=HW1.out.trans (hb.mono (by have:=aAb HR1.out;omega))
 clear hb HCL y0 y1 y2 y3 y4 y5 y6 y7 y8 y9 y10 y11 y12 y13 y14 y15 y16
 have y0:w2.cell? ⟨L,0,none⟩=some (.int .i64 y.kind):=aAa HR2.out
 have y1:w2.cell? ⟨L,1,none⟩=some (.string y.nm):=aAa HR2.out
 have y2:w2.cell? ⟨L,2,none⟩=some (.string y.s.nm):=aAa HR2.out
 have y3:w2.cell? ⟨L,3,none⟩=some (.slice y.ca y.cl y.cc):=aAa HR2.out
 have y4:w2.cell? ⟨L,4,none⟩=some (.slice y.xa y.xl y.xc):=aAa HR2.out
 have y5:w2.cell? ⟨L,5,none⟩=some (.slice y.ra y.rl y.rc):=aAa HR2.out
 have y6:w2.cell? ⟨L,6,none⟩=some (.int .i64 y.key.1):=aAa HR2.out
 have y7:w2.cell? ⟨L,7,none⟩=some (.int .i64 y.key.2.1):=aAa HR2.out
 have y8:w2.cell? ⟨L,8,none⟩=some (.string y.key.2.2):=aAa HR2.out
 have y9:w2.cell? ⟨L,9,none⟩=some (.int .i64 y.col):=aAa HR2.out
 have y10:w2.cell? ⟨L,10,none⟩=some (.int .i64 y.lo.1):=aAa HR2.out
 have y11:w2.cell? ⟨L,11,none⟩=some (.int .i64 y.lo.2.1):=aAa HR2.out
 have y12:w2.cell? ⟨L,12,none⟩=some (.string y.lo.2.2):=aAa HR2.out
 have y13:w2.cell? ⟨L,13,none⟩=some (.int .i64 y.hi.1):=aAa HR2.out
 have y14:w2.cell? ⟨L,14,none⟩=some (.int .i64 y.hi.2.1):=aAa HR2.out
 have y15:w2.cell? ⟨L,15,none⟩=some (.string y.hi.2.2):=aAa HR2.out
 have y16:w2.cell? ⟨L,16,none⟩=some (.int .i64 y.lim):=aAa HR2.out
 cases bb with
 | false =>
  have HN:Hid (opRt y=false):=by
   show _=_
   rw [HU.out,eb]
   rfl
  go_wp2
  go_ret
  exact ⟨by rw [HN.out];rfl,by first | exact HW2.out | (rw [hL];exact HW2.out)⟩
 | true =>
  obtain ⟨b2,e2⟩:∃ b,spanB y=b:=⟨_,rfl⟩
  have HCL:=hide (isspan_any HM2.out HZ.out)
  rw [e2] at HCL
  go_wp2_with fail
  refine HCL.out.mono ?_
  rintro e w4 ⟨rfl,hb⟩
  have HM4:=hide (HM2.out.later hb)
  have HR4:=hide ((hb.block L (aAb HR2.out)).trans HR2.out)
  have HW4:Hid (Below L w w4):=HW2.out.trans (hb.mono (by have:=aAb HR2.out;omega))
  clear hb HCL y0 y1 y2 y3 y4 y5 y6 y7 y8 y9 y10 y11 y12 y13 y14 y15 y16
  have y0:w4.cell? ⟨L,0,none⟩=some (.int .i64 y.kind):=aAa HR4.out
  have y1:w4.cell? ⟨L,1,none⟩=some (.string y.nm):=aAa HR4.out
  have y2:w4.cell? ⟨L,2,none⟩=some (.string y.s.nm):=aAa HR4.out
  have y3:w4.cell? ⟨L,3,none⟩=some (.slice y.ca y.cl y.cc):=aAa HR4.out
  have y4:w4.cell? ⟨L,4,none⟩=some (.slice y.xa y.xl y.xc):=aAa HR4.out
  have y5:w4.cell? ⟨L,5,none⟩=some (.slice y.ra y.rl y.rc):=aAa HR4.out
  have y6:w4.cell? ⟨L,6,none⟩=some (.int .i64 y.key.1):=aAa HR4.out
  have y7:w4.cell? ⟨L,7,none⟩=some (.int .i64 y.key.2.1):=aAa HR4.out
  have y8:w4.cell? ⟨L,8,none⟩=some (.string y.key.2.2):=aAa HR4.out
  have y9:w4.cell? ⟨L,9,none⟩=some (.int .i64 y.col):=aAa HR4.out
  have y10:w4.cell? ⟨L,10,none⟩=some (.int .i64 y.lo.1):=aAa HR4.out
  have y11:w4.cell? ⟨L,11,none⟩=some (.int .i64 y.lo.2.1):=aAa HR4.out
  have y12:w4.cell? ⟨L,12,none⟩=some (.string y.lo.2.2):=aAa HR4.out
  have y13:w4.cell? ⟨L,13,none⟩=some (.int .i64 y.hi.1):=aAa HR4.out
  have y14:w4.cell? ⟨L,14,none⟩=some (.int .i64 y.hi.2.1):=aAa HR4.out
  have y15:w4.cell? ⟨L,15,none⟩=some (.string y.hi.2.2):=aAa HR4.out
  have y16:w4.cell? ⟨L,16,none⟩=some (.int .i64 y.lim):=aAa HR4.out
  cases b2 with
  | false =>
   have HN:Hid (opRt y=false):=by
    show _=_
    rw [HU.out,eb,e2]
    rfl
   go_wp2
   go_ret
   exact ⟨by rw [HN.out];rfl,by first | exact HW4.out | (rw [hL];exact HW4.out)⟩
  | true =>
   have HCL:=hide (aAy HM4.out HM4.out.prX (fun q=>by have:y.cl=0:=q;omega) (fun q=>by have:y.xl=0:=q;omega) (fun q=>by have:y.rl=0:=q;omega))
   obtain ⟨b9,e9⟩:∃ b,onlyB y (prX y)=b:=⟨_,rfl⟩
   rw [e9] at HCL
   have HN:Hid (opRt y=b9):=by
    show _=_
    rw [HU.out,eb,e2,e9]
    rfl
   go_wp2_with fail
   refine HCL.out.mono ?_
   rintro e w5 ⟨rfl,hb⟩
   have HW5:Hid (Below L w w5):=HW4.out.trans (hb.mono (by have:=aAb HR4.out;omega))
   clear hb HCL
   cases b9 with
   | false =>
    go_wp2
    go_ret
    exact ⟨by rw [HN.out];rfl,by first | exact HW5.out | (rw [hL];exact HW5.out)⟩
   | true =>
    go_wp2
    go_ret
    exact ⟨by rw [HN.out];rfl,by first | exact HW5.out | (rw [hL];exact HW5.out)⟩
theorem isright_none {w:World} {y:OpV} (h:OpM w y) (hz:OpZ y) (hk:y.kind≠1∧y.kind≠2∧y.kind≠3∧y.kind≠4∧y.kind≠5∧y.kind≠6):Calls Tryz.prog 80 #[.agg #[.int .i64 y.kind,.string y.nm,.string y.s.nm,.slice y.ca y.cl y.cc,.slice y.xa y.xl y.xc,.slice y.ra y.rl y.rc,.int .i64 y.key.1,.int .i64 y.key.2.1,.string y.key.2.2,.int .i64 y.col,.int .i64 y.lo.1,.int .i64 y.lo.2.1,.string y.lo.2.2,.int .i64 y.hi.1,.int .i64 y.hi.2.1,.string y.hi.2.2,.int .i64 y.lim]] w fun e w'=>e=.returned (.bool (opRt y))∧Below w.heap.size w w':=by
 have ek1:(y.kind == 1)=false:=by simp [hk]
 have ek2:(y.kind == 2)=false:=by simp [hk]
 have ek3:(y.kind == 3)=false:=by simp [hk]
 have ek4:(y.kind == 4)=false:=by simp [hk]
 have ek5:(y.kind == 5)=false:=by simp [hk]
 have ek6:(y.kind == 6)=false:=by simp [hk]
 have HN:Hid (opRt y=false):=by
  show _=_
  unfold opRt
  rw [if_neg hk.1,if_neg (by omega),if_neg (by omega),if_neg hk.2.2.2.2.2]
 clear hk
 have hbx:=aAc w (.cells #[.int .i64 y.kind,.string y.nm,.string y.s.nm,.slice y.ca y.cl y.cc,.slice y.xa y.xl y.xc,.slice y.ra y.rl y.rc,.int .i64 y.key.1,.int .i64 y.key.2.1,.string y.key.2.2,.int .i64 y.col,.int .i64 y.lo.1,.int .i64 y.lo.2.1,.string y.lo.2.2,.int .i64 y.hi.1,.int .i64 y.hi.2.1,.string y.hi.2.2,.int .i64 y.lim] 75)
 have HR1:Hid ((w.alloc (.cells #[.int .i64 y.kind,.string y.nm,.string y.s.nm,.slice y.ca y.cl y.cc,.slice y.xa y.xl y.xc,.slice y.ra y.rl y.rc,.int .i64 y.key.1,.int .i64 y.key.2.1,.string y.key.2.2,.int .i64 y.col,.int .i64 y.lo.1,.int .i64 y.lo.2.1,.string y.lo.2.2,.int .i64 y.hi.1,.int .i64 y.hi.2.1,.string y.hi.2.2,.int .i64 y.lim] 75)).heap[w.heap.size]?=some (.cells #[.int .i64 y.kind,.string y.nm,.string y.s.nm,.slice y.ca y.cl y.cc,.slice y.xa y.xl y.xc,.slice y.ra y.rl y.rc,.int .i64 y.key.1,.int .i64 y.key.2.1,.string y.key.2.2,.int .i64 y.col,.int .i64 y.lo.1,.int .i64 y.lo.2.1,.string y.lo.2.2,.int .i64 y.hi.1,.int .i64 y.hi.2.1,.string y.hi.2.2,.int .i64 y.lim] 75 (0,0))):=boxed w _
 have HW1:=hide hbx
 have HM1:=hide (h.later hbx)
 have HZ:=hide hz
 clear hbx h hz
 go_enter Tryz.func80,Tryz.ntmps80
 go_upto_region 1 with fail
 generalize w.alloc (.cells #[.int .i64 y.kind,.string y.nm,.string y.s.nm,.slice y.ca y.cl y.cc,.slice y.xa y.xl y.xc,.slice y.ra y.rl y.rc,.int .i64 y.key.1,.int .i64 y.key.2.1,.string y.key.2.2,.int .i64 y.col,.int .i64 y.lo.1,.int .i64 y.lo.2.1,.string y.lo.2.2,.int .i64 y.hi.1,.int .i64 y.hi.2.1,.string y.hi.2.2,.int .i64 y.lim] 75)=w1 at *
 generalize hL:w.heap.size=L at *
 have y0:w1.cell? ⟨L,0,none⟩=some (.int .i64 y.kind):=aAa HR1.out
 have y1:w1.cell? ⟨L,1,none⟩=some (.string y.nm):=aAa HR1.out
 have y2:w1.cell? ⟨L,2,none⟩=some (.string y.s.nm):=aAa HR1.out
 have y3:w1.cell? ⟨L,3,none⟩=some (.slice y.ca y.cl y.cc):=aAa HR1.out
 have y4:w1.cell? ⟨L,4,none⟩=some (.slice y.xa y.xl y.xc):=aAa HR1.out
 have y5:w1.cell? ⟨L,5,none⟩=some (.slice y.ra y.rl y.rc):=aAa HR1.out
 have y6:w1.cell? ⟨L,6,none⟩=some (.int .i64 y.key.1):=aAa HR1.out
 have y7:w1.cell? ⟨L,7,none⟩=some (.int .i64 y.key.2.1):=aAa HR1.out
 have y8:w1.cell? ⟨L,8,none⟩=some (.string y.key.2.2):=aAa HR1.out
 have y9:w1.cell? ⟨L,9,none⟩=some (.int .i64 y.col):=aAa HR1.out
 have y10:w1.cell? ⟨L,10,none⟩=some (.int .i64 y.lo.1):=aAa HR1.out
 have y11:w1.cell? ⟨L,11,none⟩=some (.int .i64 y.lo.2.1):=aAa HR1.out
 have y12:w1.cell? ⟨L,12,none⟩=some (.string y.lo.2.2):=aAa HR1.out
 have y13:w1.cell? ⟨L,13,none⟩=some (.int .i64 y.hi.1):=aAa HR1.out
 have y14:w1.cell? ⟨L,14,none⟩=some (.int .i64 y.hi.2.1):=aAa HR1.out
 have y15:w1.cell? ⟨L,15,none⟩=some (.string y.hi.2.2):=aAa HR1.out
 have y16:w1.cell? ⟨L,16,none⟩=some (.int .i64 y.lim):=aAa HR1.out
 go_wp2
 go_ret
 exact ⟨by rw [HN.out];rfl,by first | exact HW1.out | (rw [hL];exact HW1.out)⟩
theorem isright_any {w:World} {y:OpV} (h:OpM w y) (hz:OpZ y):Calls Tryz.prog 80 #[.agg #[.int .i64 y.kind,.string y.nm,.string y.s.nm,.slice y.ca y.cl y.cc,.slice y.xa y.xl y.xc,.slice y.ra y.rl y.rc,.int .i64 y.key.1,.int .i64 y.key.2.1,.string y.key.2.2,.int .i64 y.col,.int .i64 y.lo.1,.int .i64 y.lo.2.1,.string y.lo.2.2,.int .i64 y.hi.1,.int .i64 y.hi.2.1,.string y.hi.2.2,.int .i64 y.lim]] w fun e w'=>e=.returned (.bool (opRt y))∧Below w.heap.size w w':=by
 by_cases h1:y.kind=1
 ·exact isright_one h hz h1
 ·by_cases h2:y.kind=2
  ·exact isright_two h hz h2
  ·by_cases h3:y.kind=3
   ·exact aEg h hz h3
   ·by_cases h4:y.kind=4
    ·exact isright_four h hz h4
    ·by_cases h5:y.kind=5
     ·exact isright_five h hz h5
     ·by_cases h6:y.kind=6
      ·exact isright_six h hz h6
      ·exact isright_none h hz ⟨h1,h2,h3,h4,h5,h6⟩
abbrev OPV:=OpV
abbrev CMDV:=CmdV
theorem all_any {α:Type} (p:α→Bool) (l:List α):l.any (fun x=>!p x)=!(l.all p):=by
 induction l with
 | nil=>rfl
 | cons x l ih=>simp [List.any_cons,List.all_cons,ih,Bool.not_and]
theorem opwrong_any {w:World} {y:OpV} (h:OpP w y):Calls Tryz.prog 63 #[.agg #[.int .i64 y.kind,.string y.nm,.string y.s.nm,.slice y.ca y.cl y.cc,.slice y.xa y.xl y.xc,.slice y.ra y.rl y.rc,.int .i64 y.key.1,.int .i64 y.key.2.1,.string y.key.2.2,.int .i64 y.col,.int .i64 y.lo.1,.int .i64 y.lo.2.1,.string y.lo.2.2,.int .i64 y.hi.1,.int .i64 y.hi.2.1,.string y.hi.2.2,.int .i64 y.lim]] w fun e w'=>e=.returned (.bool (!opRt y))∧Below w.heap.size w w':=by
 have hbx:=aAc w (.cells #[.int .i64 y.kind,.string y.nm,.string y.s.nm,.slice y.ca y.cl y.cc,.slice y.xa y.xl y.xc,.slice y.ra y.rl y.rc,.int .i64 y.key.1,.int .i64 y.key.2.1,.string y.key.2.2,.int .i64 y.col,.int .i64 y.lo.1,.int .i64 y.lo.2.1,.string y.lo.2.2,.int .i64 y.hi.1,.int .i64 y.hi.2.1,.string y.hi.2.2,.int .i64 y.lim] 75)
 have HR1:Hid ((w.alloc (.cells #[.int .i64 y.kind,.string y.nm,.string y.s.nm,.slice y.ca y.cl y.cc,.slice y.xa y.xl y.xc,.slice y.ra y.rl y.rc,.int .i64 y.key.1,.int .i64 y.key.2.1,.string y.key.2.2,.int .i64 y.col,.int .i64 y.lo.1,.int .i64 y.lo.2.1,.string y.lo.2.2,.int .i64 y.hi.1,.int .i64 y.hi.2.1,.string y.hi.2.2,.int .i64 y.lim] 75)).heap[w.heap.size]?=some (.cells #[.int .i64 y.kind,.string y.nm,.string y.s.nm,.slice y.ca y.cl y.cc,.slice y.xa y.xl y.xc,.slice y.ra y.rl y.rc,.int .i64 y.key.1,.int .i64 y.key.2.1,.string y.key.2.2,.int .i64 y.col,.int .i64 y.lo.1,.int .i64 y.lo.2.1,.string y.lo.2.2,.int .i64 y.hi.1,.int .i64 y.hi.2.1,.string y.hi.2.2,.int .i64 y.lim] 75 (0,0))):=boxed w _
 have HW1:=hide hbx
 have HI:=hide (isright_any (h.later hbx).m h.z)
 obtain ⟨bb,eb⟩:∃ b,opRt y=b:=⟨_,rfl⟩
 rw [eb] at HI ⊢
 clear hbx h eb
 go_enter Tryz.func63,Tryz.ntmps63
 go_upto_region 1 with fail
 generalize w.alloc (.cells #[.int .i64 y.kind,.string y.nm,.string y.s.nm,.slice y.ca y.cl y.cc,.slice y.xa y.xl y.xc,.slice y.ra y.rl y.rc,.int .i64 y.key.1,.int .i64 y.key.2.1,.string y.key.2.2,.int .i64 y.col,.int .i64 y.lo.1,.int .i64 y.lo.2.1,.string y.lo.2.2,.int .i64 y.hi.1,.int .i64 y.hi.2.1,.string y.hi.2.2,.int .i64 y.lim] 75)=w1 at *
 generalize hL:w.heap.size=L at *
 have y0:w1.cell? ⟨L,0,none⟩=some (.int .i64 y.kind):=aAa HR1.out
 have y1:w1.cell? ⟨L,1,none⟩=some (.string y.nm):=aAa HR1.out
 have y2:w1.cell? ⟨L,2,none⟩=some (.string y.s.nm):=aAa HR1.out
 have y3:w1.cell? ⟨L,3,none⟩=some (.slice y.ca y.cl y.cc):=aAa HR1.out
 have y4:w1.cell? ⟨L,4,none⟩=some (.slice y.xa y.xl y.xc):=aAa HR1.out
 have y5:w1.cell? ⟨L,5,none⟩=some (.slice y.ra y.rl y.rc):=aAa HR1.out
 have y6:w1.cell? ⟨L,6,none⟩=some (.int .i64 y.key.1):=aAa HR1.out
 have y7:w1.cell? ⟨L,7,none⟩=some (.int .i64 y.key.2.1):=aAa HR1.out
 have y8:w1.cell? ⟨L,8,none⟩=some (.string y.key.2.2):=aAa HR1.out
 have y9:w1.cell? ⟨L,9,none⟩=some (.int .i64 y.col):=aAa HR1.out
 have y10:w1.cell? ⟨L,10,none⟩=some (.int .i64 y.lo.1):=aAa HR1.out
 have y11:w1.cell? ⟨L,11,none⟩=some (.int .i64 y.lo.2.1):=aAa HR1.out
 have y12:w1.cell? ⟨L,12,none⟩=some (.string y.lo.2.2):=aAa HR1.out
 have y13:w1.cell? ⟨L,13,none⟩=some (.int .i64 y.hi.1):=aAa HR1.out
 have y14:w1.cell? ⟨L,14,none⟩=some (.int .i64 y.hi.2.1):=aAa HR1.out
 have y15:w1.cell? ⟨L,15,none⟩=some (.string y.hi.2.2):=aAa HR1.out
 have y16:w1.cell? ⟨L,16,none⟩=some (.int .i64 y.lim):=aAa HR1.out
 go_wp2_with fail
 refine HI.out.mono ?_
 rintro e w2 ⟨rfl,hb⟩
 have HW2:Hid (Below L w w2):=HW1.out.trans (hb.mono (by have:=aAb HR1.out;omega))
 clear hb HI
 cases bb with
 | true =>
  go_wp2
  go_ret
  exact ⟨rfl,by first | exact HW2.out | (rw [hL];exact HW2.out)⟩
 | false =>
  go_wp2
  go_ret
  exact ⟨rfl,by first | exact HW2.out | (rw [hL];exact HW2.out)⟩
theorem opv_idx {w:World} {a:Option Addr} {len cap:Nat} {l:List OPV} (h:SV fO 17 w a len cap l) (hlen:len≤1000) (hr:∀ x∈l,OpP w x) :
  Calls Tryz.prog 79 #[.slice a len cap,.func (Fn.func 63) #[] #[]] w fun e w'=>∃ i:Int,e=.returned (.int .i64 i)∧(decide (0≤i)=l.any (fun x=>!opRt x))∧Below w.heap.size w w':=by
 have H:=hide h
 have hx:=h.hl
 have HL:=hide hx
 clear h hx
 have HR:=hide hr
 clear hr
 go_enter Tryz.func79,Tryz.ntmps79
 go_wp2_with fail
 go_loopg [8] len (fun gh s8 wx=>∃ j:Nat,j+gh=len∧s8=.int .i64 (j:Int)∧(l.take j).any (fun x=>!opRt x)=false∧Below w.heap.size w wx)
 case atStart=>exact ⟨0,by omega,rfl,by simp,Below.refl _ _⟩
 case round =>
  obtain ⟨j,hj,rfl,hno,hbr⟩:=hrel
  have HNO:=hide hno
  have HBR:=hide hbr
  clear hno hbr
  by_cases hjn:j<len
  ·have xj:(j:Int)<(len:Int):=by omega
   obtain ⟨x,hxj⟩:∃ x,l[j]?=some x:=⟨_,gE (by rw [HL.out];exact hjn)⟩
   have HTK:Hid ((l.take (j+1)).any (fun x=>!opRt x)=(!opRt x)):=by
    show _=_
    rw [List.take_add_one,hxj,List.any_append,HNO.out]
    simp
   have HYES:Hid ((!opRt x)=true→l.any (fun x=>!opRt x)=true):=fun q=>List.any_eq_true.2 ⟨x,mG hxj,q⟩
   obtain ⟨b,o,e0,hb,hcs⟩:=H.out.pl (by omega)
   have hcell:=fun t (ht:t<17)=>hcs j x hxj t ht
   subst e0
   have y0:wr.cell? ⟨b,o+j*17,none⟩=some (.int .i64 x.kind):=(HBR.out.cell hb).trans (hcell 0 (by omega))
   have y1:wr.cell? ⟨b,o+j*17+1,none⟩=some (.string x.nm):=(HBR.out.cell hb).trans (hcell 1 (by omega))
   have y2:wr.cell? ⟨b,o+j*17+2,none⟩=some (.string x.s.nm):=(HBR.out.cell hb).trans (hcell 2 (by omega))
   have y3:wr.cell? ⟨b,o+j*17+3,none⟩=some (.slice x.ca x.cl x.cc):=(HBR.out.cell hb).trans (hcell 3 (by omega))
   have y4:wr.cell? ⟨b,o+j*17+4,none⟩=some (.slice x.xa x.xl x.xc):=(HBR.out.cell hb).trans (hcell 4 (by omega))
   have y5:wr.cell? ⟨b,o+j*17+5,none⟩=some (.slice x.ra x.rl x.rc):=(HBR.out.cell hb).trans (hcell 5 (by omega))
   have y6:wr.cell? ⟨b,o+j*17+6,none⟩=some (.int .i64 x.key.1):=(HBR.out.cell hb).trans (hcell 6 (by omega))
   have y7:wr.cell? ⟨b,o+j*17+7,none⟩=some (.int .i64 x.key.2.1):=(HBR.out.cell hb).trans (hcell 7 (by omega))
   have y8:wr.cell? ⟨b,o+j*17+8,none⟩=some (.string x.key.2.2):=(HBR.out.cell hb).trans (hcell 8 (by omega))
   have y9:wr.cell? ⟨b,o+j*17+9,none⟩=some (.int .i64 x.col):=(HBR.out.cell hb).trans (hcell 9 (by omega))
   have y10:wr.cell? ⟨b,o+j*17+10,none⟩=some (.int .i64 x.lo.1):=(HBR.out.cell hb).trans (hcell 10 (by omega))
   have y11:wr.cell? ⟨b,o+j*17+11,none⟩=some (.int .i64 x.lo.2.1):=(HBR.out.cell hb).trans (hcell 11 (by omega))
   have y12:wr.cell? ⟨b,o+j*17+12,none⟩=some (.string x.lo.2.2):=(HBR.out.cell hb).trans (hcell 12 (by omega))
   have y13:wr.cell? ⟨b,o+j*17+13,none⟩=some (.int .i64 x.hi.1):=(HBR.out.cell hb).trans (hcell 13 (by omega))
   have y14:wr.cell? ⟨b,o+j*17+14,none⟩=some (.int .i64 x.hi.2.1):=(HBR.out.cell hb).trans (hcell 14 (by omega))
   have y15:wr.cell? ⟨b,o+j*17+15,none⟩=some (.string x.hi.2.2):=(HBR.out.cell hb).trans (hcell 15 (by omega))
   have y16:wr.cell? ⟨b,o+j*17+16,none⟩=some (.int .i64 x.lim):=(HBR.out.cell hb).trans (hcell 16 (by omega))
   have hrx:=OpP.later (HR.out x (mG hxj)) HBR.out
   have HCL:=hide (opwrong_any hrx)
   obtain ⟨pb,hpb⟩:∃ pb:Bool,pb=(!opRt x):=⟨_,rfl⟩
   rw [←hpb] at HTK HYES HCL
   clear hcs hcell hxj hpb hrx
   go_wp2_with fail
   refine HCL.out.mono ?_
   rintro e w1 ⟨rfl,hb1⟩
   have HB1:Hid (Below w.heap.size w w1):=HBR.out.trans (hb1.mono HBR.out.size)
   clear hb1 HCL
   cases pb with
   | true =>
    have HY:=hide (HYES.out rfl)
    go_wp2_with fail
    go_ret
    exact ⟨(j:Int),rfl,by rw [HY.out];exact decide_eq_true (by omega),HB1.out⟩
   | false =>
    go_wp2_with fail
    go_roundg (gk-1)
    case measure=>omega
    case rel=>exact ⟨j+1,by omega,rfl,HTK.out,HB1.out⟩
  ·have xj:¬ (j:Int)<(len:Int):=by omega
   have HN:Hid (l.any (fun x=>!opRt x)=false):=by
    have h9:=HNO.out
    rw [List.take_of_length_le (by rw [HL.out];omega)] at h9
    exact h9
   go_wp2
   go_ret
   exact ⟨-1,rfl,by rw [HN.out];rfl,HBR.out⟩
theorem opv_has {w:World} {a:Option Addr} {len cap:Nat} {l:List OPV} (h:SV fO 17 w a len cap l) (hlen:len≤1000) (hr:∀ x∈l,OpP w x) :
  Calls Tryz.prog 62 #[.slice a len cap,.func (Fn.func 63) #[] #[]] w fun e w'=>e=.returned (.bool (l.any (fun x=>!opRt x)))∧Below w.heap.size w w':=by
 have HI:=hide (opv_idx h hlen hr)
 clear h hr
 generalize l.any (fun x=>!opRt x)=bb at *
 go_enter Tryz.func62,Tryz.ntmps62
 go_wp2_with fail
 refine HI.out.mono ?_
 rintro e w1 ⟨i,rfl,hi,hb1⟩
 have HB1:=hide hb1
 have HE:=hide hi
 clear hb1 HI hi
 go_wp2
 go_ret
 exact ⟨by rw [←HE.out];rfl,HB1.out⟩
def opsRt (l:List OpV):Bool:=decide (l.length≤3) && l.all opRt
theorem opsright_any {w:World} {a:Option Addr} {n c:Nat} {l:List OpV} (h:SV fO 17 w a n c l) (hr:∀ x∈l,OpP w x) :
  Calls Tryz.prog 42 #[.slice a n c] w fun e w'=>e=.returned (.bool (opsRt l))∧Below w.heap.size w w':=by
 have HL:=hide h.hl
 unfold opsRt
 by_cases h3:n≤3
 ·have x3:(n:Int)≤3:=by omega
  have HI:=hide (opv_has h (by omega) hr)
  rw [all_any] at HI
  rw [decide_eq_true (show l.length≤3 by rw [HL.out];exact h3),Bool.true_and]
  generalize l.all opRt=bb at *
  clear h hr
  go_enter Tryz.func42,Tryz.ntmps42
  go_wp2_with fail
  refine HI.out.mono ?_
  rintro e w1 ⟨rfl,hb1⟩
  have HB1:=hide hb1
  clear hb1 HI
  cases bb with
  | true =>
   go_wp2
   go_ret
   exact ⟨rfl,HB1.out⟩
  | false =>
   go_wp2
   go_ret
   exact ⟨rfl,HB1.out⟩
 ·have x3:¬ (n:Int)≤3:=by omega
  rw [decide_eq_false (show ¬ l.length≤3 by rw [HL.out];exact h3),Bool.false_and]
  clear h hr
  go_enter Tryz.func42,Tryz.ntmps42
  go_wp2
  go_ret
  exact ⟨rfl,Below.refl _ _⟩
def cmdRt (c:CmdV):Bool:=decide (0≤c.sess∧c.sess≤7) && (decide (1≤c.seq∧c.seq≤2147483647) && opsRt c.ops)
theorem cmdwrong_any {w:World} {c:CmdV} (h:CmdP w c):Calls Tryz.prog 24 #[.agg #[.int .i64 c.sess,.int .i64 c.seq,.slice c.oa c.on c.oc]] w fun e w'=>e=.returned (.bool (!cmdRt c))∧Below w.heap.size w w':=by
 have hbx:=aAc w (.cells #[.int .i64 c.sess,.int .i64 c.seq,.slice c.oa c.on c.oc] 46)
 have HR1:Hid ((w.alloc (.cells #[.int .i64 c.sess,.int .i64 c.seq,.slice c.oa c.on c.oc] 46)).heap[w.heap.size]?=some (.cells #[.int .i64 c.sess,.int .i64 c.seq,.slice c.oa c.on c.oc] 46 (0,0))):=boxed w _
 have HW1:=hide hbx
 have HC1:=hide (h.later hbx)
 clear hbx h
 by_cases h1:0≤c.sess∧c.sess≤7
 ·by_cases h2:1≤c.seq∧c.seq≤2147483647
  ·have H1:=hide h1
   have H2:=hide h2
   have HN:Hid (cmdRt c=opsRt c.ops):=by
    show _=_
    unfold cmdRt
    rw [decide_eq_true h1,decide_eq_true h2]
    rfl
   clear h1 h2
   go_enter Tryz.func24,Tryz.ntmps24
   go_upto_region 1 with fail
   generalize w.alloc (.cells #[.int .i64 c.sess,.int .i64 c.seq,.slice c.oa c.on c.oc] 46)=w1 at *
   generalize hL:w.heap.size=L at *
   have y0:w1.cell? ⟨L,0,none⟩=some (.int .i64 c.sess):=aAa HR1.out
   have y1:w1.cell? ⟨L,1,none⟩=some (.int .i64 c.seq):=aAa HR1.out
   have y2:w1.cell? ⟨L,2,none⟩=some (.slice c.oa c.on c.oc):=aAa HR1.out
   go_wp2_with fail
   refine (aAg w1 H1.out.1 H1.out.2).mono ?_
   rintro e w9 ⟨rfl,hw⟩
   have hw:=hw.symm
   subst hw
   clear hw
   go_wp2_with fail
   refine (aAg w1 H2.out.1 H2.out.2).mono ?_
   rintro e w9 ⟨rfl,hw⟩
   have hw:=hw.symm
   subst hw
   clear hw
   have HOR:=hide (opsright_any HC1.out.sv HC1.out.ops)
   obtain ⟨bb,eb⟩:∃ b,opsRt c.ops=b:=⟨_,rfl⟩
   rw [eb] at HOR HN
   go_wp2_with fail
   refine HOR.out.mono ?_
   rintro e w2 ⟨rfl,hb⟩
   have HW2:Hid (Below L w w2):=HW1.out.trans (hb.mono (by have:=aAb HR1.out;omega))
   clear hb HOR eb
   cases bb with
   | true =>
    go_wp2
    go_ret
    exact ⟨by rw [HN.out];rfl,by first | exact HW2.out | (rw [hL];exact HW2.out)⟩
   | false =>
    go_wp2
    go_ret
    exact ⟨by rw [HN.out];rfl,by first | exact HW2.out | (rw [hL];exact HW2.out)⟩
  ·have H1:=hide h1
   have H2:=hide h2
   have HN:Hid (cmdRt c=false):=by
    show _=_
    unfold cmdRt
    rw [decide_eq_false h2,Bool.false_and,Bool.and_false]
   clear h1 h2
   go_enter Tryz.func24,Tryz.ntmps24
   go_upto_region 1 with fail
   generalize w.alloc (.cells #[.int .i64 c.sess,.int .i64 c.seq,.slice c.oa c.on c.oc] 46)=w1 at *
   generalize hL:w.heap.size=L at *
   have y0:w1.cell? ⟨L,0,none⟩=some (.int .i64 c.sess):=aAa HR1.out
   have y1:w1.cell? ⟨L,1,none⟩=some (.int .i64 c.seq):=aAa HR1.out
   have y2:w1.cell? ⟨L,2,none⟩=some (.slice c.oa c.on c.oc):=aAa HR1.out
   go_wp2_with fail
   refine (aAg w1 H1.out.1 H1.out.2).mono ?_
   rintro e w9 ⟨rfl,hw⟩
   have hw:=hw.symm
   subst hw
   clear hw
   go_wp2_with fail
   refine (aAt w1 H2.out).mono ?_
   rintro e w9 ⟨rfl,hw⟩
   have hw:=hw.symm
   subst hw
   clear hw
   go_wp2
   go_ret
   exact ⟨by rw [HN.out];rfl,by first | exact HW1.out | (rw [hL];exact HW1.out)⟩
 ·have H1:=hide h1
  have HN:Hid (cmdRt c=false):=by
   show _=_
   unfold cmdRt
   rw [decide_eq_false h1,Bool.false_and]
  clear h1
  go_enter Tryz.func24,Tryz.ntmps24
  go_upto_region 1 with fail
  generalize w.alloc (.cells #[.int .i64 c.sess,.int .i64 c.seq,.slice c.oa c.on c.oc] 46)=w1 at *
  generalize hL:w.heap.size=L at *
  have y0:w1.cell? ⟨L,0,none⟩=some (.int .i64 c.sess):=aAa HR1.out
  have y1:w1.cell? ⟨L,1,none⟩=some (.int .i64 c.seq):=aAa HR1.out
  have y2:w1.cell? ⟨L,2,none⟩=some (.slice c.oa c.on c.oc):=aAa HR1.out
  go_wp2_with fail
  refine (aAt w1 H1.out).mono ?_
  rintro e w9 ⟨rfl,hw⟩
  have hw:=hw.symm
  subst hw
  clear hw
  go_wp2
  go_ret
  exact ⟨by rw [HN.out];rfl,by first | exact HW1.out | (rw [hL];exact HW1.out)⟩
theorem cmdv_idx {w:World} {a:Option Addr} {len cap:Nat} {l:List CMDV} (h:SV fCm 3 w a len cap l) (hlen:len≤1000) (hr:∀ x∈l,CmdP w x) :
  Calls Tryz.prog 41 #[.slice a len cap,.func (Fn.func 24) #[] #[]] w fun e w'=>∃ i:Int,e=.returned (.int .i64 i)∧(decide (0≤i)=l.any (fun x=>!cmdRt x))∧Below w.heap.size w w':=by
 have H:=hide h
 have hx:=h.hl
 have HL:=hide hx
 clear h hx
 have HR:=hide hr
 clear hr
 go_enter Tryz.func41,Tryz.ntmps41
 go_wp2_with fail
 go_loopg [8] len (fun gh s8 wx=>∃ j:Nat,j+gh=len∧s8=.int .i64 (j:Int)∧(l.take j).any (fun x=>!cmdRt x)=false∧Below w.heap.size w wx)
 case atStart=>exact ⟨0,by omega,rfl,by simp,Below.refl _ _⟩
 case round =>
  obtain ⟨j,hj,rfl,hno,hbr⟩:=hrel
  have HNO:=hide hno
  have HBR:=hide hbr
  clear hno hbr
  by_cases hjn:j<len
  ·have xj:(j:Int)<(len:Int):=by omega
   obtain ⟨x,hxj⟩:∃ x,l[j]?=some x:=⟨_,gE (by rw [HL.out];exact hjn)⟩
   have HTK:Hid ((l.take (j+1)).any (fun x=>!cmdRt x)=(!cmdRt x)):=by
    show _=_
    rw [List.take_add_one,hxj,List.any_append,HNO.out]
    simp
   have HYES:Hid ((!cmdRt x)=true→l.any (fun x=>!cmdRt x)=true):=fun q=>List.any_eq_true.2 ⟨x,mG hxj,q⟩
   obtain ⟨b,o,e0,hb,hcs⟩:=H.out.pl (by omega)
   have hcell:=fun t (ht:t<3)=>hcs j x hxj t ht
   subst e0
   have y0:wr.cell? ⟨b,o+j*3,none⟩=some (.int .i64 x.sess):=(HBR.out.cell hb).trans (hcell 0 (by omega))
   have y1:wr.cell? ⟨b,o+j*3+1,none⟩=some (.int .i64 x.seq):=(HBR.out.cell hb).trans (hcell 1 (by omega))
   have y2:wr.cell? ⟨b,o+j*3+2,none⟩=some (.slice x.oa x.on x.oc):=(HBR.out.cell hb).trans (hcell 2 (by omega))
   have hrx:=CmdP.later (HR.out x (mG hxj)) HBR.out
   have HCL:=hide (cmdwrong_any hrx)
   obtain ⟨pb,hpb⟩:∃ pb:Bool,pb=(!cmdRt x):=⟨_,rfl⟩
   rw [←hpb] at HTK HYES HCL
   clear hcs hcell hxj hpb hrx
   go_wp2_with fail
   refine HCL.out.mono ?_
   rintro e w1 ⟨rfl,hb1⟩
   have HB1:Hid (Below w.heap.size w w1):=HBR.out.trans (hb1.mono HBR.out.size)
   clear hb1 HCL
   cases pb with
   | true =>
    have HY:=hide (HYES.out rfl)
    go_wp2_with fail
    go_ret
    exact ⟨(j:Int),rfl,by rw [HY.out];exact decide_eq_true (by omega),HB1.out⟩
   | false =>
    go_wp2_with fail
    go_roundg (gk-1)
    case measure=>omega
    case rel=>exact ⟨j+1,by omega,rfl,HTK.out,HB1.out⟩
  ·have xj:¬ (j:Int)<(len:Int):=by omega
   have HN:Hid (l.any (fun x=>!cmdRt x)=false):=by
    have h9:=HNO.out
    rw [List.take_of_length_le (by rw [HL.out];omega)] at h9
    exact h9
   go_wp2
   go_ret
   exact ⟨-1,rfl,by rw [HN.out];rfl,HBR.out⟩
theorem cmdv_has {w:World} {a:Option Addr} {len cap:Nat} {l:List CMDV} (h:SV fCm 3 w a len cap l) (hlen:len≤1000) (hr:∀ x∈l,CmdP w x) :
  Calls Tryz.prog 23 #[.slice a len cap,.func (Fn.func 24) #[] #[]] w fun e w'=>e=.returned (.bool (l.any (fun x=>!cmdRt x)))∧Below w.heap.size w w':=by
 have HI:=hide (cmdv_idx h hlen hr)
 clear h hr
 generalize l.any (fun x=>!cmdRt x)=bb at *
 go_enter Tryz.func23,Tryz.ntmps23
 go_wp2_with fail
 refine HI.out.mono ?_
 rintro e w1 ⟨i,rfl,hi,hb1⟩
 have HB1:=hide hb1
 have HE:=hide hi
 clear hb1 HI hi
 go_wp2
 go_ret
 exact ⟨by rw [←HE.out];rfl,HB1.out⟩
def nRt (y:EntV):Bool :=
 if y.kind=2∨y.kind=4 then decide (0≤y.n∧y.n≤2147483647) else if y.kind=3 then decide (1≤y.n∧y.n≤1048576) else if y.kind=5 then decide (1≤y.n∧y.n≤2) else false
theorem hasn_two {w:World} {y:EntV} (hk:y.kind=2):Calls Tryz.prog 25 #[.agg #[.int .i64 y.kind,.int .i64 y.srv,.slice y.ca y.cl y.cc,.int .i64 y.n]] w fun e w'=>e=.returned (.bool (nRt y))∧Below w.heap.size w w':=by
 have hbx:=aAc w (.cells #[.int .i64 y.kind,.int .i64 y.srv,.slice y.ca y.cl y.cc,.int .i64 y.n] 24)
 have HR1:Hid ((w.alloc (.cells #[.int .i64 y.kind,.int .i64 y.srv,.slice y.ca y.cl y.cc,.int .i64 y.n] 24)).heap[w.heap.size]?=some (.cells #[.int .i64 y.kind,.int .i64 y.srv,.slice y.ca y.cl y.cc,.int .i64 y.n] 24 (0,0))):=boxed w _
 have HW1:=hide hbx
 clear hbx
 have ek2:(y.kind == 2)=true:=by rw [hk];rfl
 have HU:Hid (nRt y=decide (0≤y.n∧y.n≤2147483647)):=by
  show _=_
  unfold nRt
  rw [if_pos (by omega)]
 clear hk
 by_cases h1:0≤y.n∧y.n≤2147483647
 ·have H1:=hide h1
  have HN:Hid (nRt y=true):=by
   show _=_
   rw [HU.out,decide_eq_true h1]
  clear h1
  go_enter Tryz.func25,Tryz.ntmps25
  go_upto_region 1 with fail
  generalize w.alloc (.cells #[.int .i64 y.kind,.int .i64 y.srv,.slice y.ca y.cl y.cc,.int .i64 y.n] 24)=w1 at *
  generalize hL:w.heap.size=L at *
  have y0:w1.cell? ⟨L,0,none⟩=some (.int .i64 y.kind):=aAa HR1.out
  have y1:w1.cell? ⟨L,1,none⟩=some (.int .i64 y.srv):=aAa HR1.out
  have y2:w1.cell? ⟨L,2,none⟩=some (.slice y.ca y.cl y.cc):=aAa HR1.out
  have y3:w1.cell? ⟨L,3,none⟩=some (.int .i64 y.n):=aAa HR1.out
  go_wp2_with fail
  refine (aAg w1 H1.out.1 H1.out.2).mono ?_
  rintro e w9 ⟨rfl,hw⟩
  have hw:=hw.symm
  subst hw
  clear hw
  go_wp2
  go_ret
  exact ⟨by rw [HN.out];rfl,by first | exact HW1.out | (rw [hL];exact HW1.out)⟩
 ·have H1:=hide h1
  have HN:Hid (nRt y=false):=by
   show _=_
   rw [HU.out,decide_eq_false h1]
  clear h1
  go_enter Tryz.func25,Tryz.ntmps25
  go_upto_region 1 with fail
  generalize w.alloc (.cells #[.int .i64 y.kind,.int .i64 y.srv,.slice y.ca y.cl y.cc,.int .i64 y.n] 24)=w1 at *
  generalize hL:w.heap.size=L at *
  have y0:w1.cell? ⟨L,0,none⟩=some (.int .i64 y.kind):=aAa HR1.out
  have y1:w1.cell? ⟨L,1,none⟩=some (.int .i64 y.srv):=aAa HR1.out
  have y2:w1.cell? ⟨L,2,none⟩=some (.slice y.ca y.cl y.cc):=aAa HR1.out
  have y3:w1.cell? ⟨L,3,none⟩=some (.int .i64 y.n):=aAa HR1.out
  go_wp2_with fail
  refine (aAt w1 H1.out).mono ?_
  rintro e w9 ⟨rfl,hw⟩
  have hw:=hw.symm
  subst hw
  clear hw
  go_wp2
  go_ret
  exact ⟨by rw [HN.out];rfl,by first | exact HW1.out | (rw [hL];exact HW1.out)⟩
theorem hasn_four {w:World} {y:EntV} (hk:y.kind=4):Calls Tryz.prog 25 #[.agg #[.int .i64 y.kind,.int .i64 y.srv,.slice y.ca y.cl y.cc,.int .i64 y.n]] w fun e w'=>e=.returned (.bool (nRt y))∧Below w.heap.size w w':=by
 have hbx:=aAc w (.cells #[.int .i64 y.kind,.int .i64 y.srv,.slice y.ca y.cl y.cc,.int .i64 y.n] 24)
 have HR1:Hid ((w.alloc (.cells #[.int .i64 y.kind,.int .i64 y.srv,.slice y.ca y.cl y.cc,.int .i64 y.n] 24)).heap[w.heap.size]?=some (.cells #[.int .i64 y.kind,.int .i64 y.srv,.slice y.ca y.cl y.cc,.int .i64 y.n] 24 (0,0))):=boxed w _
 have HW1:=hide hbx
 clear hbx
 have ek2:(y.kind == 2)=false:=by rw [hk];rfl
 have ek4:(y.kind == 4)=true:=by rw [hk];rfl
 have HU:Hid (nRt y=decide (0≤y.n∧y.n≤2147483647)):=by
  show _=_
  unfold nRt
  rw [if_pos (by omega)]
 clear hk
 by_cases h1:0≤y.n∧y.n≤2147483647
 ·have H1:=hide h1
  have HN:Hid (nRt y=true):=by
   show _=_
   rw [HU.out,decide_eq_true h1]
  clear h1
  go_enter Tryz.func25,Tryz.ntmps25
  go_upto_region 1 with fail
  generalize w.alloc (.cells #[.int .i64 y.kind,.int .i64 y.srv,.slice y.ca y.cl y.cc,.int .i64 y.n] 24)=w1 at *
  generalize hL:w.heap.size=L at *
  have y0:w1.cell? ⟨L,0,none⟩=some (.int .i64 y.kind):=aAa HR1.out
  have y1:w1.cell? ⟨L,1,none⟩=some (.int .i64 y.srv):=aAa HR1.out
  have y2:w1.cell? ⟨L,2,none⟩=some (.slice y.ca y.cl y.cc):=aAa HR1.out
  have y3:w1.cell? ⟨L,3,none⟩=some (.int .i64 y.n):=aAa HR1.out
  go_wp2_with fail
  refine (aAg w1 H1.out.1 H1.out.2).mono ?_
  rintro e w9 ⟨rfl,hw⟩
  have hw:=hw.symm
  subst hw
  clear hw
  go_wp2
  go_ret
  exact ⟨by rw [HN.out];rfl,by first | exact HW1.out | (rw [hL];exact HW1.out)⟩
 ·have H1:=hide h1
  have HN:Hid (nRt y=false):=by
   show _=_
   rw [HU.out,decide_eq_false h1]
  clear h1
  go_enter Tryz.func25,Tryz.ntmps25
  go_upto_region 1 with fail
  generalize w.alloc (.cells #[.int .i64 y.kind,.int .i64 y.srv,.slice y.ca y.cl y.cc,.int .i64 y.n] 24)=w1 at *
  generalize hL:w.heap.size=L at *
  have y0:w1.cell? ⟨L,0,none⟩=some (.int .i64 y.kind):=aAa HR1.out
  have y1:w1.cell? ⟨L,1,none⟩=some (.int .i64 y.srv):=aAa HR1.out
  have y2:w1.cell? ⟨L,2,none⟩=some (.slice y.ca y.cl y.cc):=aAa HR1.out
  have y3:w1.cell? ⟨L,3,none⟩=some (.int .i64 y.n):=aAa HR1.out
  go_wp2_with fail
  refine (aAt w1 H1.out).mono ?_
  rintro e w9 ⟨rfl,hw⟩
  have hw:=hw.symm
  subst hw
  clear hw
  go_wp2
  go_ret
  exact ⟨by rw [HN.out];rfl,by first | exact HW1.out | (rw [hL];exact HW1.out)⟩
theorem hasn_three {w:World} {y:EntV} (hk:y.kind=3):Calls Tryz.prog 25 #[.agg #[.int .i64 y.kind,.int .i64 y.srv,.slice y.ca y.cl y.cc,.int .i64 y.n]] w fun e w'=>e=.returned (.bool (nRt y))∧Below w.heap.size w w':=by
 have hbx:=aAc w (.cells #[.int .i64 y.kind,.int .i64 y.srv,.slice y.ca y.cl y.cc,.int .i64 y.n] 24)
 have HR1:Hid ((w.alloc (.cells #[.int .i64 y.kind,.int .i64 y.srv,.slice y.ca y.cl y.cc,.int .i64 y.n] 24)).heap[w.heap.size]?=some (.cells #[.int .i64 y.kind,.int .i64 y.srv,.slice y.ca y.cl y.cc,.int .i64 y.n] 24 (0,0))):=boxed w _
 have HW1:=hide hbx
 clear hbx
 have ek2:(y.kind == 2)=false:=by rw [hk];rfl
 have ek4:(y.kind == 4)=false:=by rw [hk];rfl
 have ek3:(y.kind == 3)=true:=by rw [hk];rfl
 have HU:Hid (nRt y=decide (1≤y.n∧y.n≤1048576)):=by
  show _=_
  unfold nRt
  rw [if_neg (by omega),if_pos hk]
 clear hk
 by_cases h1:1≤y.n∧y.n≤1048576
 ·have H1:=hide h1
  have HN:Hid (nRt y=true):=by
   show _=_
   rw [HU.out,decide_eq_true h1]
  clear h1
  go_enter Tryz.func25,Tryz.ntmps25
  go_upto_region 1 with fail
  generalize w.alloc (.cells #[.int .i64 y.kind,.int .i64 y.srv,.slice y.ca y.cl y.cc,.int .i64 y.n] 24)=w1 at *
  generalize hL:w.heap.size=L at *
  have y0:w1.cell? ⟨L,0,none⟩=some (.int .i64 y.kind):=aAa HR1.out
  have y1:w1.cell? ⟨L,1,none⟩=some (.int .i64 y.srv):=aAa HR1.out
  have y2:w1.cell? ⟨L,2,none⟩=some (.slice y.ca y.cl y.cc):=aAa HR1.out
  have y3:w1.cell? ⟨L,3,none⟩=some (.int .i64 y.n):=aAa HR1.out
  go_wp2_with fail
  refine (aAg w1 H1.out.1 H1.out.2).mono ?_
  rintro e w9 ⟨rfl,hw⟩
  have hw:=hw.symm
  subst hw
  clear hw
  go_wp2
  go_ret
  exact ⟨by rw [HN.out];rfl,by first | exact HW1.out | (rw [hL];exact HW1.out)⟩
 ·have H1:=hide h1
  have HN:Hid (nRt y=false):=by
   show _=_
   rw [HU.out,decide_eq_false h1]
  clear h1
  go_enter Tryz.func25,Tryz.ntmps25
  go_upto_region 1 with fail
  generalize w.alloc (.cells #[.int .i64 y.kind,.int .i64 y.srv,.slice y.ca y.cl y.cc,.int .i64 y.n] 24)=w1 at *
  generalize hL:w.heap.size=L at *
  have y0:w1.cell? ⟨L,0,none⟩=some (.int .i64 y.kind):=aAa HR1.out
  have y1:w1.cell? ⟨L,1,none⟩=some (.int .i64 y.srv):=aAa HR1.out
  have y2:w1.cell? ⟨L,2,none⟩=some (.slice y.ca y.cl y.cc):=aAa HR1.out
  have y3:w1.cell? ⟨L,3,none⟩=some (.int .i64 y.n):=aAa HR1.out
  go_wp2_with fail
  refine (aAt w1 H1.out).mono ?_
  rintro e w9 ⟨rfl,hw⟩
  have hw:=hw.symm
  subst hw
  clear hw
  go_wp2
  go_ret
  exact ⟨by rw [HN.out];rfl,by first | exact HW1.out | (rw [hL];exact HW1.out)⟩
theorem hasn_five {w:World} {y:EntV} (hk:y.kind=5):Calls Tryz.prog 25 #[.agg #[.int .i64 y.kind,.int .i64 y.srv,.slice y.ca y.cl y.cc,.int .i64 y.n]] w fun e w'=>e=.returned (.bool (nRt y))∧Below w.heap.size w w':=by
 have hbx:=aAc w (.cells #[.int .i64 y.kind,.int .i64 y.srv,.slice y.ca y.cl y.cc,.int .i64 y.n] 24)
 have HR1:Hid ((w.alloc (.cells #[.int .i64 y.kind,.int .i64 y.srv,.slice y.ca y.cl y.cc,.int .i64 y.n] 24)).heap[w.heap.size]?=some (.cells #[.int .i64 y.kind,.int .i64 y.srv,.slice y.ca y.cl y.cc,.int .i64 y.n] 24 (0,0))):=boxed w _
 have HW1:=hide hbx
 clear hbx
 have ek2:(y.kind == 2)=false:=by rw [hk];rfl
 have ek4:(y.kind == 4)=false:=by rw [hk];rfl
 have ek3:(y.kind == 3)=false:=by rw [hk];rfl
 have ek5:(y.kind == 5)=true:=by rw [hk];rfl
 have HU:Hid (nRt y=decide (1≤y.n∧y.n≤2)):=by
  show _=_
  unfold nRt
  rw [if_neg (by omega),if_neg (by omega),if_pos hk]
 clear hk
 by_cases h1:1≤y.n∧y.n≤2
 ·have H1:=hide h1
  have HN:Hid (nRt y=true):=by
   show _=_
   rw [HU.out,decide_eq_true h1]
  clear h1
  go_enter Tryz.func25,Tryz.ntmps25
  go_upto_region 1 with fail
  generalize w.alloc (.cells #[.int .i64 y.kind,.int .i64 y.srv,.slice y.ca y.cl y.cc,.int .i64 y.n] 24)=w1 at *
  generalize hL:w.heap.size=L at *
  have y0:w1.cell? ⟨L,0,none⟩=some (.int .i64 y.kind):=aAa HR1.out
  have y1:w1.cell? ⟨L,1,none⟩=some (.int .i64 y.srv):=aAa HR1.out
  have y2:w1.cell? ⟨L,2,none⟩=some (.slice y.ca y.cl y.cc):=aAa HR1.out
  have y3:w1.cell? ⟨L,3,none⟩=some (.int .i64 y.n):=aAa HR1.out
  go_wp2_with fail
  refine (aAg w1 H1.out.1 H1.out.2).mono ?_
  rintro e w9 ⟨rfl,hw⟩
  have hw:=hw.symm
  subst hw
  clear hw
  go_wp2
  go_ret
  exact ⟨by rw [HN.out];rfl,by first | exact HW1.out | (rw [hL];exact HW1.out)⟩
 ·have H1:=hide h1
  have HN:Hid (nRt y=false):=by
   show _=_
   rw [HU.out,decide_eq_false h1]
  clear h1
  go_enter Tryz.func25,Tryz.ntmps25
  go_upto_region 1 with fail
  generalize w.alloc (.cells #[.int .i64 y.kind,.int .i64 y.srv,.slice y.ca y.cl y.cc,.int .i64 y.n] 24)=w1 at *
  generalize hL:w.heap.size=L at *
  have y0:w1.cell? ⟨L,0,none⟩=some (.int .i64 y.kind):=aAa HR1.out
  have y1:w1.cell? ⟨L,1,none⟩=some (.int .i64 y.srv):=aAa HR1.out
  have y2:w1.cell? ⟨L,2,none⟩=some (.slice y.ca y.cl y.cc):=aAa HR1.out
  have y3:w1.cell? ⟨L,3,none⟩=some (.int .i64 y.n):=aAa HR1.out
  go_wp2_with fail
  refine (aAt w1 H1.out).mono ?_
  rintro e w9 ⟨rfl,hw⟩
  have hw:=hw.symm
  subst hw
  clear hw
  go_wp2
  go_ret
  exact ⟨by rw [HN.out];rfl,by first | exact HW1.out | (rw [hL];exact HW1.out)⟩
theorem hasn_none {w:World} {y:EntV} (hk:y.kind≠2∧y.kind≠4∧y.kind≠3∧y.kind≠5):Calls Tryz.prog 25 #[.agg #[.int .i64 y.kind,.int .i64 y.srv,.slice y.ca y.cl y.cc,.int .i64 y.n]] w fun e w'=>e=.returned (.bool (nRt y))∧Below w.heap.size w w':=by
 have hbx:=aAc w (.cells #[.int .i64 y.kind,.int .i64 y.srv,.slice y.ca y.cl y.cc,.int .i64 y.n] 24)
 have HR1:Hid ((w.alloc (.cells #[.int .i64 y.kind,.int .i64 y.srv,.slice y.ca y.cl y.cc,.int .i64 y.n] 24)).heap[w.heap.size]?=some (.cells #[.int .i64 y.kind,.int .i64 y.srv,.slice y.ca y.cl y.cc,.int .i64 y.n] 24 (0,0))):=boxed w _
 have HW1:=hide hbx
 clear hbx
 have ek2:(y.kind == 2)=false:=by simp [hk]
 have ek4:(y.kind == 4)=false:=by simp [hk]
 have ek3:(y.kind == 3)=false:=by simp [hk]
 have ek5:(y.kind == 5)=false:=by simp [hk]
 have HN:Hid (nRt y=false):=by
  show _=_
  unfold nRt
  rw [if_neg (by omega),if_neg hk.2.2.1,if_neg hk.2.2.2]
 clear hk
 go_enter Tryz.func25,Tryz.ntmps25
 go_upto_region 1 with fail
 generalize w.alloc (.cells #[.int .i64 y.kind,.int .i64 y.srv,.slice y.ca y.cl y.cc,.int .i64 y.n] 24)=w1 at *
 generalize hL:w.heap.size=L at *
 have y0:w1.cell? ⟨L,0,none⟩=some (.int .i64 y.kind):=aAa HR1.out
 have y1:w1.cell? ⟨L,1,none⟩=some (.int .i64 y.srv):=aAa HR1.out
 have y2:w1.cell? ⟨L,2,none⟩=some (.slice y.ca y.cl y.cc):=aAa HR1.out
 have y3:w1.cell? ⟨L,3,none⟩=some (.int .i64 y.n):=aAa HR1.out
 go_wp2
 go_ret
 exact ⟨by rw [HN.out];rfl,by first | exact HW1.out | (rw [hL];exact HW1.out)⟩
theorem hasn_any {w:World} (y:EntV):Calls Tryz.prog 25 #[.agg #[.int .i64 y.kind,.int .i64 y.srv,.slice y.ca y.cl y.cc,.int .i64 y.n]] w fun e w'=>e=.returned (.bool (nRt y))∧Below w.heap.size w w':=by
 by_cases h2:y.kind=2
 ·exact hasn_two h2
 ·by_cases h4:y.kind=4
  ·exact hasn_four h4
  ·by_cases h3:y.kind=3
   ·exact hasn_three h3
   ·by_cases h5:y.kind=5
    ·exact hasn_five h5
    ·exact hasn_none ⟨h2,h4,h3,h5⟩
def entRt (y:EntV):Bool:=decide (0≤y.srv∧y.srv≤3) && (if y.kind=1 then (y.n == 0) && (decide (1≤y.cmds.length∧y.cmds.length≤3) && y.cmds.all cmdRt) else decide (y.cmds.length=0) && nRt y)
theorem entright_any {w:World} {y:EntV} (h:EntP w y):Calls Tryz.prog 10 #[.agg #[.int .i64 y.kind,.int .i64 y.srv,.slice y.ca y.cl y.cc,.int .i64 y.n]] w fun e w'=>e=.returned (.bool (entRt y))∧Below w.heap.size w w':=by
 have HCL:Hid (y.cmds.length=y.cl):=h.sv.hl
 have hbx:=aAc w (.cells #[.int .i64 y.kind,.int .i64 y.srv,.slice y.ca y.cl y.cc,.int .i64 y.n] 24)
 have HR1:Hid ((w.alloc (.cells #[.int .i64 y.kind,.int .i64 y.srv,.slice y.ca y.cl y.cc,.int .i64 y.n] 24)).heap[w.heap.size]?=some (.cells #[.int .i64 y.kind,.int .i64 y.srv,.slice y.ca y.cl y.cc,.int .i64 y.n] 24 (0,0))):=boxed w _
 have HW1:=hide hbx
 have HE1:=hide (h.later hbx)
 clear hbx h
 by_cases h1:0≤y.srv∧y.srv≤3
 ·have H1:=hide h1
  have HU:Hid (entRt y=if y.kind=1 then (y.n == 0) && (decide (1≤y.cl∧y.cl≤3) && y.cmds.all cmdRt) else decide (y.cl=0) && nRt y):=by
   show _=_
   unfold entRt
   rw [decide_eq_true h1,Bool.true_and,HCL.out]
  clear h1
  by_cases hk:y.kind=1
  ·have ek:(y.kind == 1)=true:=by rw [hk];rfl
   have HV:Hid (entRt y=((y.n == 0) && (decide (1≤y.cl∧y.cl≤3) && y.cmds.all cmdRt))):=by
    show _=_
    rw [HU.out,if_pos hk]
   clear hk HU
   cases en:(y.n == 0) with
   | false =>
    have HN:Hid (entRt y=false):=by
     show _=_
     rw [HV.out,en]
     rfl
    go_enter Tryz.func10,Tryz.ntmps10
    go_upto_region 1 with fail
    generalize w.alloc (.cells #[.int .i64 y.kind,.int .i64 y.srv,.slice y.ca y.cl y.cc,.int .i64 y.n] 24)=w1 at *
    generalize hL:w.heap.size=L at *
    have y0:w1.cell? ⟨L,0,none⟩=some (.int .i64 y.kind):=aAa HR1.out
    have y1:w1.cell? ⟨L,1,none⟩=some (.int .i64 y.srv):=aAa HR1.out
    have y2:w1.cell? ⟨L,2,none⟩=some (.slice y.ca y.cl y.cc):=aAa HR1.out
    have y3:w1.cell? ⟨L,3,none⟩=some (.int .i64 y.n):=aAa HR1.out
    go_wp2_with fail
    refine (aAg w1 H1.out.1 H1.out.2).mono ?_
    rintro e w9 ⟨rfl,hw⟩
    have hw:=hw.symm
    subst hw
    clear hw
    go_wp2
    go_ret
    exact ⟨by rw [HN.out];rfl,by first | exact HW1.out | (rw [hL];exact HW1.out)⟩
   | true =>
    by_cases h3:1≤y.cl∧y.cl≤3
    ·have H3:Hid ((1:Int)≤(y.cl:Int)∧(y.cl:Int)≤3):=⟨by omega,by omega⟩
     have HCO:=hide (cmdv_has HE1.out.sv (by omega) HE1.out.cmds)
     rw [all_any] at HCO
     obtain ⟨bb,eb⟩:∃ b,y.cmds.all cmdRt=b:=⟨_,rfl⟩
     have HN:Hid (entRt y=bb):=by
      show _=_
      rw [HV.out,en,decide_eq_true h3,eb]
      rfl
     rw [eb] at HCO
     clear h3 eb
     go_enter Tryz.func10,Tryz.ntmps10
     go_upto_region 1 with fail
     generalize w.alloc (.cells #[.int .i64 y.kind,.int .i64 y.srv,.slice y.ca y.cl y.cc,.int .i64 y.n] 24)=w1 at *
     generalize hL:w.heap.size=L at *
     have y0:w1.cell? ⟨L,0,none⟩=some (.int .i64 y.kind):=aAa HR1.out
     have y1:w1.cell? ⟨L,1,none⟩=some (.int .i64 y.srv):=aAa HR1.out
     have y2:w1.cell? ⟨L,2,none⟩=some (.slice y.ca y.cl y.cc):=aAa HR1.out
     have y3:w1.cell? ⟨L,3,none⟩=some (.int .i64 y.n):=aAa HR1.out
     go_wp2_with fail
     refine (aAg w1 H1.out.1 H1.out.2).mono ?_
     rintro e w9 ⟨rfl,hw⟩
     have hw:=hw.symm
     subst hw
     clear hw
     go_wp2_with fail
     refine (aAg w1 H3.out.1 H3.out.2).mono ?_
     rintro e w9 ⟨rfl,hw⟩
     have hw:=hw.symm
     subst hw
     clear hw
     go_wp2_with fail
     refine HCO.out.mono ?_
     rintro e w2 ⟨rfl,hb⟩
     have HW2:Hid (Below L w w2):=HW1.out.trans (hb.mono (by have:=aAb HR1.out;omega))
     clear hb HCO
     cases bb with
     | true =>
      go_wp2
      go_ret
      exact ⟨by rw [HN.out];rfl,by first | exact HW2.out | (rw [hL];exact HW2.out)⟩
     | false =>
      go_wp2
      go_ret
      exact ⟨by rw [HN.out];rfl,by first | exact HW2.out | (rw [hL];exact HW2.out)⟩
    ·have H3:Hid (¬ ((1:Int)≤(y.cl:Int)∧(y.cl:Int)≤3)):=by
      show ¬ _
      omega
     have HN:Hid (entRt y=false):=by
      show _=_
      rw [HV.out,en,decide_eq_false h3]
      rfl
     clear h3
     go_enter Tryz.func10,Tryz.ntmps10
     go_upto_region 1 with fail
     generalize w.alloc (.cells #[.int .i64 y.kind,.int .i64 y.srv,.slice y.ca y.cl y.cc,.int .i64 y.n] 24)=w1 at *
     generalize hL:w.heap.size=L at *
     have y0:w1.cell? ⟨L,0,none⟩=some (.int .i64 y.kind):=aAa HR1.out
     have y1:w1.cell? ⟨L,1,none⟩=some (.int .i64 y.srv):=aAa HR1.out
     have y2:w1.cell? ⟨L,2,none⟩=some (.slice y.ca y.cl y.cc):=aAa HR1.out
     have y3:w1.cell? ⟨L,3,none⟩=some (.int .i64 y.n):=aAa HR1.out
     go_wp2_with fail
     refine (aAg w1 H1.out.1 H1.out.2).mono ?_
     rintro e w9 ⟨rfl,hw⟩
     have hw:=hw.symm
     subst hw
     clear hw
     go_wp2_with fail
     refine (aAt w1 H3.out).mono ?_
     rintro e w9 ⟨rfl,hw⟩
     have hw:=hw.symm
     subst hw
     clear hw
     go_wp2
     go_ret
     exact ⟨by rw [HN.out];rfl,by first | exact HW1.out | (rw [hL];exact HW1.out)⟩
  ·have ek:(y.kind == 1)=false:=by simp [hk]
   have HV:Hid (entRt y=(decide (y.cl=0) && nRt y)):=by
    show _=_
    rw [HU.out,if_neg hk]
   clear hk HU
   by_cases h0:y.cl=0
   ·have e0:((y.cl:Int) == 0)=true:=by rw [h0];rfl
    have HIN:=hide (hasn_any (w:=w.alloc (.cells #[.int .i64 y.kind,.int .i64 y.srv,.slice y.ca y.cl y.cc,.int .i64 y.n] 24)) y)
    obtain ⟨bb,eb⟩:∃ b,nRt y=b:=⟨_,rfl⟩
    have HN:Hid (entRt y=bb):=by
     show _=_
     rw [HV.out,decide_eq_true h0,eb]
     rfl
    rw [eb] at HIN
    clear h0 eb
    go_enter Tryz.func10,Tryz.ntmps10
    go_upto_region 1 with fail
    generalize w.alloc (.cells #[.int .i64 y.kind,.int .i64 y.srv,.slice y.ca y.cl y.cc,.int .i64 y.n] 24)=w1 at *
    generalize hL:w.heap.size=L at *
    have y0:w1.cell? ⟨L,0,none⟩=some (.int .i64 y.kind):=aAa HR1.out
    have y1:w1.cell? ⟨L,1,none⟩=some (.int .i64 y.srv):=aAa HR1.out
    have y2:w1.cell? ⟨L,2,none⟩=some (.slice y.ca y.cl y.cc):=aAa HR1.out
    have y3:w1.cell? ⟨L,3,none⟩=some (.int .i64 y.n):=aAa HR1.out
    go_wp2_with fail
    refine (aAg w1 H1.out.1 H1.out.2).mono ?_
    rintro e w9 ⟨rfl,hw⟩
    have hw:=hw.symm
    subst hw
    clear hw
    go_wp2_with fail
    refine HIN.out.mono ?_
    rintro e w2 ⟨rfl,hb⟩
    have HW2:Hid (Below L w w2):=HW1.out.trans (hb.mono (by have:=aAb HR1.out;omega))
    clear hb HIN
    cases bb with
    | true =>
     go_wp2
     go_ret
     exact ⟨by rw [HN.out];rfl,by first | exact HW2.out | (rw [hL];exact HW2.out)⟩
    | false =>
     go_wp2
     go_ret
     exact ⟨by rw [HN.out];rfl,by first | exact HW2.out | (rw [hL];exact HW2.out)⟩
   ·have e0:((y.cl:Int) == 0)=false:=by simp;omega
    have HN:Hid (entRt y=false):=by
     show _=_
     rw [HV.out,decide_eq_false h0]
     rfl
    clear h0
    go_enter Tryz.func10,Tryz.ntmps10
    go_upto_region 1 with fail
    generalize w.alloc (.cells #[.int .i64 y.kind,.int .i64 y.srv,.slice y.ca y.cl y.cc,.int .i64 y.n] 24)=w1 at *
    generalize hL:w.heap.size=L at *
    have y0:w1.cell? ⟨L,0,none⟩=some (.int .i64 y.kind):=aAa HR1.out
    have y1:w1.cell? ⟨L,1,none⟩=some (.int .i64 y.srv):=aAa HR1.out
    have y2:w1.cell? ⟨L,2,none⟩=some (.slice y.ca y.cl y.cc):=aAa HR1.out
    have y3:w1.cell? ⟨L,3,none⟩=some (.int .i64 y.n):=aAa HR1.out
    go_wp2_with fail
    refine (aAg w1 H1.out.1 H1.out.2).mono ?_
    rintro e w9 ⟨rfl,hw⟩
    have hw:=hw.symm
    subst hw
    clear hw
    go_wp2
    go_ret
    exact ⟨by rw [HN.out];rfl,by first | exact HW1.out | (rw [hL];exact HW1.out)⟩
 ·have H1:=hide h1
  have HN:Hid (entRt y=false):=by
   show _=_
   unfold entRt
   rw [decide_eq_false h1,Bool.false_and]
  clear h1
  go_enter Tryz.func10,Tryz.ntmps10
  go_upto_region 1 with fail
  generalize w.alloc (.cells #[.int .i64 y.kind,.int .i64 y.srv,.slice y.ca y.cl y.cc,.int .i64 y.n] 24)=w1 at *
  generalize hL:w.heap.size=L at *
  have y0:w1.cell? ⟨L,0,none⟩=some (.int .i64 y.kind):=aAa HR1.out
  have y1:w1.cell? ⟨L,1,none⟩=some (.int .i64 y.srv):=aAa HR1.out
  have y2:w1.cell? ⟨L,2,none⟩=some (.slice y.ca y.cl y.cc):=aAa HR1.out
  have y3:w1.cell? ⟨L,3,none⟩=some (.int .i64 y.n):=aAa HR1.out
  go_wp2_with fail
  refine (aAt w1 H1.out).mono ?_
  rintro e w9 ⟨rfl,hw⟩
  have hw:=hw.symm
  subst hw
  clear hw
  go_wp2
  go_ret
  exact ⟨by rw [HN.out];rfl,by first | exact HW1.out | (rw [hL];exact HW1.out)⟩
theorem aDl {e:EntV} (h:entRt e=true):(0≤e.srv∧e.srv≤3)∧(1≤e.kind∧e.kind≤5)∧(0≤e.n∧e.n≤2147483647)∧e.cmds.length≤3∧∀ c∈e.cmds,cmdRt c=true:=by
 unfold entRt at h
 rw [Bool.and_eq_true,decide_eq_true_eq] at h
 refine ⟨h.1,?_⟩
 have h2:=h.2
 by_cases hk:e.kind=1
 ·rw [if_pos hk,Bool.and_eq_true,Bool.and_eq_true,decide_eq_true_eq,List.all_eq_true,beq_iff_eq] at h2
  exact ⟨by omega,by omega,h2.2.1.2,h2.2.2⟩
 ·rw [if_neg hk,Bool.and_eq_true,decide_eq_true_eq] at h2
  have h0:e.cmds=[]:=List.eq_nil_of_length_eq_zero h2.1
  have hn:=h2.2
  unfold nRt at hn
  rw [h0]
  split at hn
  ·simp only [decide_eq_true_eq] at hn
   exact ⟨by omega,hn,by simp,by simp⟩
  ·split at hn
   ·simp only [decide_eq_true_eq] at hn
    exact ⟨by omega,by omega,by simp,by simp⟩
   ·split at hn
    ·simp only [decide_eq_true_eq] at hn
     exact ⟨by omega,by omega,by simp,by simp⟩
    ·cases hn
end Go.Proofs.YtmmcebojbbdfmaaGreat
