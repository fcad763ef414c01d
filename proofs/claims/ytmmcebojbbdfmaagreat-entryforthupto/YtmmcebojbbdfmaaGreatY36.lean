import Derived.Test.YtmmcebojbbdfmaaGreatY35
import Derived.Test.YtmmcebojbbdfmaaGreatY34
set_option maxRecDepth 100000
set_option maxHeartbeats 16000000
set_option linter.unusedVariables false
namespace Go.Proofs.YtmmcebojbbdfmaaGreat
open Go.RowKit _root_.Go.Proofs.Tryz
variable {a:Option Addr} {c cap len n rb:Nat} {l:List Val} {v:Value} {w w1 w2:World} {xs:List Nat} {y:OpV}
theorem isright_five (h:OpM w y) (hz:OpZ y) (hk:y.kind=5):Calls prog 80 #[.agg #[.int .i64 y.kind,.string y.nm,.string y.s.nm,.slice y.ca y.cl y.cc,.slice y.xa y.xl y.xc,.slice y.ra y.rl y.rc,.int .i64 y.key.1,.int .i64 y.key.2.1,.string y.key.2.2,.int .i64 y.col,.int .i64 y.lo.1,.int .i64 y.lo.2.1,.string y.lo.2.2,.int .i64 y.hi.1,.int .i64 y.hi.2.1,.string y.hi.2.2,.int .i64 y.lim]] w fun e w'=>e=.returned (.bool (opRt y))/\Below w.heap.size w w':=by
 have ek1:(y.kind == 1)=false:=by rw [hk];rfl
 have ek2:(y.kind == 2)=false:=by rw [hk];rfl
 have ek3:(y.kind == 3)=false:=by rw [hk];rfl
 have ek4:(y.kind == 4)=false:=by rw [hk];rfl
 have ek5:(y.kind == 5)=true:=by rw [hk];rfl
 have HU:Hid (opRt y=(isNm y.nm && (rowRt [y.key] && onlyB y (prK y)))):=by
  show _=_;unfold opRt;rw [if_neg (by omega),if_neg (by omega),if_pos (by omega)]
 clear hk;have hbx:=aAc w (.cells #[.int .i64 y.kind,.string y.nm,.string y.s.nm,.slice y.ca y.cl y.cc,.slice y.xa y.xl y.xc,.slice y.ra y.rl y.rc,.int .i64 y.key.1,.int .i64 y.key.2.1,.string y.key.2.2,.int .i64 y.col,.int .i64 y.lo.1,.int .i64 y.lo.2.1,.string y.lo.2.2,.int .i64 y.hi.1,.int .i64 y.hi.2.1,.string y.hi.2.2,.int .i64 y.lim] 75);have HR1:Hid ((w.alloc (.cells #[.int .i64 y.kind,.string y.nm,.string y.s.nm,.slice y.ca y.cl y.cc,.slice y.xa y.xl y.xc,.slice y.ra y.rl y.rc,.int .i64 y.key.1,.int .i64 y.key.2.1,.string y.key.2.2,.int .i64 y.col,.int .i64 y.lo.1,.int .i64 y.lo.2.1,.string y.lo.2.2,.int .i64 y.hi.1,.int .i64 y.hi.2.1,.string y.hi.2.2,.int .i64 y.lim] 75)).heap[w.heap.size]?=some (.cells #[.int .i64 y.kind,.string y.nm,.string y.s.nm,.slice y.ca y.cl y.cc,.slice y.xa y.xl y.xc,.slice y.ra y.rl y.rc,.int .i64 y.key.1,.int .i64 y.key.2.1,.string y.key.2.2,.int .i64 y.col,.int .i64 y.lo.1,.int .i64 y.lo.2.1,.string y.lo.2.2,.int .i64 y.hi.1,.int .i64 y.hi.2.1,.string y.hi.2.2,.int .i64 y.lim] 75 (0,0))):=boxed w _;have HW1:=zH hbx;have HM1:=zH (h.later hbx);have HZ:=zH hz;clear hbx h hz;go_enter func80,ntmps80;go_upto_region 1 with fail;generalize w.alloc (.cells #[.int .i64 y.kind,.string y.nm,.string y.s.nm,.slice y.ca y.cl y.cc,.slice y.xa y.xl y.xc,.slice y.ra y.rl y.rc,.int .i64 y.key.1,.int .i64 y.key.2.1,.string y.key.2.2,.int .i64 y.col,.int .i64 y.lo.1,.int .i64 y.lo.2.1,.string y.lo.2.2,.int .i64 y.hi.1,.int .i64 y.hi.2.1,.string y.hi.2.2,.int .i64 y.lim] 75)=w1 at *
 generalize hL:w.heap.size=L at *
 have y0:w1.cell? ⟨L,0,none⟩=some (.int .i64 y.kind):=aAa HR1.o;have y1:w1.cell? ⟨L,1,none⟩=some (.string y.nm):=aAa HR1.o;have y2:w1.cell? ⟨L,2,none⟩=some (.string y.s.nm):=aAa HR1.o;have y3:w1.cell? ⟨L,3,none⟩=some (.slice y.ca y.cl y.cc):=aAa HR1.o;have y4:w1.cell? ⟨L,4,none⟩=some (.slice y.xa y.xl y.xc):=aAa HR1.o;have y5:w1.cell? ⟨L,5,none⟩=some (.slice y.ra y.rl y.rc):=aAa HR1.o;have y6:w1.cell? ⟨L,6,none⟩=some (.int .i64 y.key.1):=aAa HR1.o;have y7:w1.cell? ⟨L,7,none⟩=some (.int .i64 y.key.2.1):=aAa HR1.o;have y8:w1.cell? ⟨L,8,none⟩=some (.string y.key.2.2):=aAa HR1.o;have y9:w1.cell? ⟨L,9,none⟩=some (.int .i64 y.col):=aAa HR1.o;have y10:w1.cell? ⟨L,10,none⟩=some (.int .i64 y.lo.1):=aAa HR1.o;have y11:w1.cell? ⟨L,11,none⟩=some (.int .i64 y.lo.2.1):=aAa HR1.o;have y12:w1.cell? ⟨L,12,none⟩=some (.string y.lo.2.2):=aAa HR1.o;have y13:w1.cell? ⟨L,13,none⟩=some (.int .i64 y.hi.1):=aAa HR1.o;have y14:w1.cell? ⟨L,14,none⟩=some (.int .i64 y.hi.2.1):=aAa HR1.o;have y15:w1.cell? ⟨L,15,none⟩=some (.string y.hi.2.2):=aAa HR1.o;have y16:w1.cell? ⟨L,16,none⟩=some (.int .i64 y.lim):=aAa HR1.o;obtain ⟨bb,eb⟩:∃ b,isNm y.nm=b:=⟨_,rfl⟩;have HCL:=zH (aCa y.nm w1);rw [eb] at HCL;go_wp2_with fail;refine HCL.o.mono ?_;rintro e w2 ⟨rfl,hb⟩;have HM2:=zH (HM1.o.later hb);have HR2:=zH ((hb.block L (aAb HR1.o)).trans HR1.o);have HW2:Hid (Below L w w2):=HW1.o.trans (hb.mono (by have:=aAb HR1.o;omega));clear hb HCL y0 y1 y2 y3 y4 y5 y6 y7 y8 y9 y10 y11 y12 y13 y14 y15 y16;have y0:w2.cell? ⟨L,0,none⟩=some (.int .i64 y.kind):=aAa HR2.o;have y1:w2.cell? ⟨L,1,none⟩=some (.string y.nm):=aAa HR2.o;have y2:w2.cell? ⟨L,2,none⟩=some (.string y.s.nm):=aAa HR2.o;have y3:w2.cell? ⟨L,3,none⟩=some (.slice y.ca y.cl y.cc):=aAa HR2.o;have y4:w2.cell? ⟨L,4,none⟩=some (.slice y.xa y.xl y.xc):=aAa HR2.o;have y5:w2.cell? ⟨L,5,none⟩=some (.slice y.ra y.rl y.rc):=aAa HR2.o;have y6:w2.cell? ⟨L,6,none⟩=some (.int .i64 y.key.1):=aAa HR2.o;have y7:w2.cell? ⟨L,7,none⟩=some (.int .i64 y.key.2.1):=aAa HR2.o;have y8:w2.cell? ⟨L,8,none⟩=some (.string y.key.2.2):=aAa HR2.o;have y9:w2.cell? ⟨L,9,none⟩=some (.int .i64 y.col):=aAa HR2.o;have y10:w2.cell? ⟨L,10,none⟩=some (.int .i64 y.lo.1):=aAa HR2.o;have y11:w2.cell? ⟨L,11,none⟩=some (.int .i64 y.lo.2.1):=aAa HR2.o;have y12:w2.cell? ⟨L,12,none⟩=some (.string y.lo.2.2):=aAa HR2.o;have y13:w2.cell? ⟨L,13,none⟩=some (.int .i64 y.hi.1):=aAa HR2.o;have y14:w2.cell? ⟨L,14,none⟩=some (.int .i64 y.hi.2.1):=aAa HR2.o;have y15:w2.cell? ⟨L,15,none⟩=some (.string y.hi.2.2):=aAa HR2.o;have y16:w2.cell? ⟨L,16,none⟩=some (.int .i64 y.lim):=aAa HR2.o
 cases bb with
 | false =>
  have HN:Hid (opRt y=false):=by
   show _=_;rw [HU.o,eb];rfl
  go_wp2;go_ret;exact ⟨by rw [HN.o];rfl,by first | exact HW2.o | (rw [hL];exact HW2.o)⟩
 | true =>
  obtain ⟨b2,e2⟩:∃ b,rowRt [y.key]=b:=⟨_,rfl⟩;have hb:=aAc w2 (.cells #[.int .i64 y.key.1,.int .i64 y.key.2.1,.string y.key.2.2] 73);have HM3:=zH (HM2.o.later hb);have HR3:=zH ((hb.block L (aAb HR2.o)).trans HR2.o);have HW3:Hid (Below L w (w2.alloc (.cells #[.int .i64 y.key.1,.int .i64 y.key.2.1,.string y.key.2.2] 73))):=HW2.o.trans (hb.mono (by have:=aAb HR2.o;omega));have HS3:=zH (sv_one w2 y.key);clear hb
  have HCL:=zH (aBj HS3.o (by
   intro x hx;simp only [List.mem_cons,List.not_mem_nil,or_false] at hx;subst hx
   exact HZ.o.key))
  rw [e2] at HCL;go_wp2_with fail;refine HCL.o.mono ?_;rintro e w4 ⟨rfl,hb⟩;have HM4:=zH (HM3.o.later hb);have HR4:=zH ((hb.block L (aAb HR3.o)).trans HR3.o);have HW4:Hid (Below L w w4):=HW3.o.trans (hb.mono (by have:=aAb HR3.o;omega));clear hb HCL y0 y1 y2 y3 y4 y5 y6 y7 y8 y9 y10 y11 y12 y13 y14 y15 y16;have y0:w4.cell? ⟨L,0,none⟩=some (.int .i64 y.kind):=aAa HR4.o;have y1:w4.cell? ⟨L,1,none⟩=some (.string y.nm):=aAa HR4.o;have y2:w4.cell? ⟨L,2,none⟩=some (.string y.s.nm):=aAa HR4.o;have y3:w4.cell? ⟨L,3,none⟩=some (.slice y.ca y.cl y.cc):=aAa HR4.o;have y4:w4.cell? ⟨L,4,none⟩=some (.slice y.xa y.xl y.xc):=aAa HR4.o;have y5:w4.cell? ⟨L,5,none⟩=some (.slice y.ra y.rl y.rc):=aAa HR4.o;have y6:w4.cell? ⟨L,6,none⟩=some (.int .i64 y.key.1):=aAa HR4.o;have y7:w4.cell? ⟨L,7,none⟩=some (.int .i64 y.key.2.1):=aAa HR4.o;have y8:w4.cell? ⟨L,8,none⟩=some (.string y.key.2.2):=aAa HR4.o;have y9:w4.cell? ⟨L,9,none⟩=some (.int .i64 y.col):=aAa HR4.o;have y10:w4.cell? ⟨L,10,none⟩=some (.int .i64 y.lo.1):=aAa HR4.o;have y11:w4.cell? ⟨L,11,none⟩=some (.int .i64 y.lo.2.1):=aAa HR4.o;have y12:w4.cell? ⟨L,12,none⟩=some (.string y.lo.2.2):=aAa HR4.o;have y13:w4.cell? ⟨L,13,none⟩=some (.int .i64 y.hi.1):=aAa HR4.o;have y14:w4.cell? ⟨L,14,none⟩=some (.int .i64 y.hi.2.1):=aAa HR4.o;have y15:w4.cell? ⟨L,15,none⟩=some (.string y.hi.2.2):=aAa HR4.o;have y16:w4.cell? ⟨L,16,none⟩=some (.int .i64 y.lim):=aAa HR4.o
  cases b2 with
  | false =>
   have HN:Hid (opRt y=false):=by
    show _=_;rw [HU.o,eb,e2];rfl
   go_wp2;go_ret;exact ⟨by rw [HN.o];rfl,by first | exact HW4.o | (rw [hL];exact HW4.o)⟩
  | true =>
   have HCL:=zH (aBd HM4.o HM4.o.prK (fun q=>by have:y.cl=0:=q;omega) (fun q=>by have:y.xl=0:=q;omega) (fun q=>by have:y.rl=0:=q;omega));obtain ⟨b9,e9⟩:∃ b,onlyB y (prK y)=b:=⟨_,rfl⟩;rw [e9] at HCL;have HN:Hid (opRt y=b9):=by
    show _=_;rw [HU.o,eb,e2,e9];rfl
   go_wp2_with fail;refine HCL.o.mono ?_;rintro e w5 ⟨rfl,hb⟩;have HW5:Hid (Below L w w5):=HW4.o.trans (hb.mono (by have:=aAb HR4.o;omega));clear hb HCL
   cases b9 with
   | false =>
    go_wp2;go_ret;exact ⟨by rw [HN.o];rfl,by first | exact HW5.o | (rw [hL];exact HW5.o)⟩
   | true =>
    go_wp2;go_ret;exact ⟨by rw [HN.o];rfl,by first | exact HW5.o | (rw [hL];exact HW5.o)⟩
theorem isright_six (h:OpM w y) (hz:OpZ y) (hk:y.kind=6):Calls prog 80 #[.agg #[.int .i64 y.kind,.string y.nm,.string y.s.nm,.slice y.ca y.cl y.cc,.slice y.xa y.xl y.xc,.slice y.ra y.rl y.rc,.int .i64 y.key.1,.int .i64 y.key.2.1,.string y.key.2.2,.int .i64 y.col,.int .i64 y.lo.1,.int .i64 y.lo.2.1,.string y.lo.2.2,.int .i64 y.hi.1,.int .i64 y.hi.2.1,.string y.hi.2.2,.int .i64 y.lim]] w fun e w'=>e=.returned (.bool (opRt y))/\Below w.heap.size w w':=by
 have ek1:(y.kind == 1)=false:=by rw [hk];rfl
 have ek2:(y.kind == 2)=false:=by rw [hk];rfl
 have ek3:(y.kind == 3)=false:=by rw [hk];rfl
 have ek4:(y.kind == 4)=false:=by rw [hk];rfl
 have ek5:(y.kind == 5)=false:=by rw [hk];rfl
 have ek6:(y.kind == 6)=true:=by rw [hk];rfl
 have HU:Hid (opRt y=(isNm y.nm && (spanB y && onlyB y (prX y)))):=by
  show _=_;unfold opRt;rw [if_neg (by omega),if_neg (by omega),if_neg (by omega),if_pos hk]
 clear hk;have hbx:=aAc w (.cells #[.int .i64 y.kind,.string y.nm,.string y.s.nm,.slice y.ca y.cl y.cc,.slice y.xa y.xl y.xc,.slice y.ra y.rl y.rc,.int .i64 y.key.1,.int .i64 y.key.2.1,.string y.key.2.2,.int .i64 y.col,.int .i64 y.lo.1,.int .i64 y.lo.2.1,.string y.lo.2.2,.int .i64 y.hi.1,.int .i64 y.hi.2.1,.string y.hi.2.2,.int .i64 y.lim] 75);have HR1:Hid ((w.alloc (.cells #[.int .i64 y.kind,.string y.nm,.string y.s.nm,.slice y.ca y.cl y.cc,.slice y.xa y.xl y.xc,.slice y.ra y.rl y.rc,.int .i64 y.key.1,.int .i64 y.key.2.1,.string y.key.2.2,.int .i64 y.col,.int .i64 y.lo.1,.int .i64 y.lo.2.1,.string y.lo.2.2,.int .i64 y.hi.1,.int .i64 y.hi.2.1,.string y.hi.2.2,.int .i64 y.lim] 75)).heap[w.heap.size]?=some (.cells #[.int .i64 y.kind,.string y.nm,.string y.s.nm,.slice y.ca y.cl y.cc,.slice y.xa y.xl y.xc,.slice y.ra y.rl y.rc,.int .i64 y.key.1,.int .i64 y.key.2.1,.string y.key.2.2,.int .i64 y.col,.int .i64 y.lo.1,.int .i64 y.lo.2.1,.string y.lo.2.2,.int .i64 y.hi.1,.int .i64 y.hi.2.1,.string y.hi.2.2,.int .i64 y.lim] 75 (0,0))):=boxed w _;have HW1:=zH hbx;have HM1:=zH (h.later hbx);have HZ:=zH hz;clear hbx h hz;go_enter func80,ntmps80;go_upto_region 1 with fail;generalize w.alloc (.cells #[.int .i64 y.kind,.string y.nm,.string y.s.nm,.slice y.ca y.cl y.cc,.slice y.xa y.xl y.xc,.slice y.ra y.rl y.rc,.int .i64 y.key.1,.int .i64 y.key.2.1,.string y.key.2.2,.int .i64 y.col,.int .i64 y.lo.1,.int .i64 y.lo.2.1,.string y.lo.2.2,.int .i64 y.hi.1,.int .i64 y.hi.2.1,.string y.hi.2.2,.int .i64 y.lim] 75)=w1 at *
 generalize hL:w.heap.size=L at *
 have y0:w1.cell? ⟨L,0,none⟩=some (.int .i64 y.kind):=aAa HR1.o;have y1:w1.cell? ⟨L,1,none⟩=some (.string y.nm):=aAa HR1.o;have y2:w1.cell? ⟨L,2,none⟩=some (.string y.s.nm):=aAa HR1.o;have y3:w1.cell? ⟨L,3,none⟩=some (.slice y.ca y.cl y.cc):=aAa HR1.o;have y4:w1.cell? ⟨L,4,none⟩=some (.slice y.xa y.xl y.xc):=aAa HR1.o;have y5:w1.cell? ⟨L,5,none⟩=some (.slice y.ra y.rl y.rc):=aAa HR1.o;have y6:w1.cell? ⟨L,6,none⟩=some (.int .i64 y.key.1):=aAa HR1.o;have y7:w1.cell? ⟨L,7,none⟩=some (.int .i64 y.key.2.1):=aAa HR1.o;have y8:w1.cell? ⟨L,8,none⟩=some (.string y.key.2.2):=aAa HR1.o;have y9:w1.cell? ⟨L,9,none⟩=some (.int .i64 y.col):=aAa HR1.o;have y10:w1.cell? ⟨L,10,none⟩=some (.int .i64 y.lo.1):=aAa HR1.o;have y11:w1.cell? ⟨L,11,none⟩=some (.int .i64 y.lo.2.1):=aAa HR1.o;have y12:w1.cell? ⟨L,12,none⟩=some (.string y.lo.2.2):=aAa HR1.o;have y13:w1.cell? ⟨L,13,none⟩=some (.int .i64 y.hi.1):=aAa HR1.o;have y14:w1.cell? ⟨L,14,none⟩=some (.int .i64 y.hi.2.1):=aAa HR1.o;have y15:w1.cell? ⟨L,15,none⟩=some (.string y.hi.2.2):=aAa HR1.o;have y16:w1.cell? ⟨L,16,none⟩=some (.int .i64 y.lim):=aAa HR1.o;obtain ⟨bb,eb⟩:∃ b,isNm y.nm=b:=⟨_,rfl⟩;have HCL:=zH (aCa y.nm w1);rw [eb] at HCL;go_wp2_with fail;refine HCL.o.mono ?_;rintro e w2 ⟨rfl,hb⟩;have HM2:=zH (HM1.o.later hb);have HR2:=zH ((hb.block L (aAb HR1.o)).trans HR1.o);have HW2:Hid (Below L w w2):=HW1.o.trans (hb.mono (by have:=aAb HR1.o;omega));clear hb HCL y0 y1 y2 y3 y4 y5 y6 y7 y8 y9 y10 y11 y12 y13 y14 y15 y16;have y0:w2.cell? ⟨L,0,none⟩=some (.int .i64 y.kind):=aAa HR2.o;have y1:w2.cell? ⟨L,1,none⟩=some (.string y.nm):=aAa HR2.o;have y2:w2.cell? ⟨L,2,none⟩=some (.string y.s.nm):=aAa HR2.o;have y3:w2.cell? ⟨L,3,none⟩=some (.slice y.ca y.cl y.cc):=aAa HR2.o;have y4:w2.cell? ⟨L,4,none⟩=some (.slice y.xa y.xl y.xc):=aAa HR2.o;have y5:w2.cell? ⟨L,5,none⟩=some (.slice y.ra y.rl y.rc):=aAa HR2.o;have y6:w2.cell? ⟨L,6,none⟩=some (.int .i64 y.key.1):=aAa HR2.o;have y7:w2.cell? ⟨L,7,none⟩=some (.int .i64 y.key.2.1):=aAa HR2.o;have y8:w2.cell? ⟨L,8,none⟩=some (.string y.key.2.2):=aAa HR2.o;have y9:w2.cell? ⟨L,9,none⟩=some (.int .i64 y.col):=aAa HR2.o;have y10:w2.cell? ⟨L,10,none⟩=some (.int .i64 y.lo.1):=aAa HR2.o;have y11:w2.cell? ⟨L,11,none⟩=some (.int .i64 y.lo.2.1):=aAa HR2.o;have y12:w2.cell? ⟨L,12,none⟩=some (.string y.lo.2.2):=aAa HR2.o;have y13:w2.cell? ⟨L,13,none⟩=some (.int .i64 y.hi.1):=aAa HR2.o;have y14:w2.cell? ⟨L,14,none⟩=some (.int .i64 y.hi.2.1):=aAa HR2.o;have y15:w2.cell? ⟨L,15,none⟩=some (.string y.hi.2.2):=aAa HR2.o;have y16:w2.cell? ⟨L,16,none⟩=some (.int .i64 y.lim):=aAa HR2.o
 cases bb with
 | false =>
  have HN:Hid (opRt y=false):=by
   show _=_;rw [HU.o,eb];rfl
  go_wp2;go_ret;exact ⟨by rw [HN.o];rfl,by first | exact HW2.o | (rw [hL];exact HW2.o)⟩
 | true =>
  obtain ⟨b2,e2⟩:∃ b,spanB y=b:=⟨_,rfl⟩;have HCL:=zH (isspan_any HM2.o HZ.o);rw [e2] at HCL;go_wp2_with fail;refine HCL.o.mono ?_;rintro e w4 ⟨rfl,hb⟩;have HM4:=zH (HM2.o.later hb);have HR4:=zH ((hb.block L (aAb HR2.o)).trans HR2.o);have HW4:Hid (Below L w w4):=HW2.o.trans (hb.mono (by have:=aAb HR2.o;omega));clear hb HCL y0 y1 y2 y3 y4 y5 y6 y7 y8 y9 y10 y11 y12 y13 y14 y15 y16;have y0:w4.cell? ⟨L,0,none⟩=some (.int .i64 y.kind):=aAa HR4.o;have y1:w4.cell? ⟨L,1,none⟩=some (.string y.nm):=aAa HR4.o;have y2:w4.cell? ⟨L,2,none⟩=some (.string y.s.nm):=aAa HR4.o;have y3:w4.cell? ⟨L,3,none⟩=some (.slice y.ca y.cl y.cc):=aAa HR4.o;have y4:w4.cell? ⟨L,4,none⟩=some (.slice y.xa y.xl y.xc):=aAa HR4.o;have y5:w4.cell? ⟨L,5,none⟩=some (.slice y.ra y.rl y.rc):=aAa HR4.o;have y6:w4.cell? ⟨L,6,none⟩=some (.int .i64 y.key.1):=aAa HR4.o;have y7:w4.cell? ⟨L,7,none⟩=some (.int .i64 y.key.2.1):=aAa HR4.o;have y8:w4.cell? ⟨L,8,none⟩=some (.string y.key.2.2):=aAa HR4.o;have y9:w4.cell? ⟨L,9,none⟩=some (.int .i64 y.col):=aAa HR4.o;have y10:w4.cell? ⟨L,10,none⟩=some (.int .i64 y.lo.1):=aAa HR4.o;have y11:w4.cell? ⟨L,11,none⟩=some (.int .i64 y.lo.2.1):=aAa HR4.o;have y12:w4.cell? ⟨L,12,none⟩=some (.string y.lo.2.2):=aAa HR4.o;have y13:w4.cell? ⟨L,13,none⟩=some (.int .i64 y.hi.1):=aAa HR4.o;have y14:w4.cell? ⟨L,14,none⟩=some (.int .i64 y.hi.2.1):=aAa HR4.o;have y15:w4.cell? ⟨L,15,none⟩=some (.string y.hi.2.2):=aAa HR4.o;have y16:w4.cell? ⟨L,16,none⟩=some (.int .i64 y.lim):=aAa HR4.o
  cases b2 with
  | false =>
   have HN:Hid (opRt y=false):=by
    show _=_;rw [HU.o,eb,e2];rfl
   go_wp2;go_ret;exact ⟨by rw [HN.o];rfl,by first | exact HW4.o | (rw [hL];exact HW4.o)⟩
  | true =>
   have HCL:=zH (aBd HM4.o HM4.o.prX (fun q=>by have:y.cl=0:=q;omega) (fun q=>by have:y.xl=0:=q;omega) (fun q=>by have:y.rl=0:=q;omega));obtain ⟨b9,e9⟩:∃ b,onlyB y (prX y)=b:=⟨_,rfl⟩;rw [e9] at HCL;have HN:Hid (opRt y=b9):=by
    show _=_;rw [HU.o,eb,e2,e9];rfl
   go_wp2_with fail;refine HCL.o.mono ?_;rintro e w5 ⟨rfl,hb⟩;have HW5:Hid (Below L w w5):=HW4.o.trans (hb.mono (by have:=aAb HR4.o;omega));clear hb HCL
   cases b9 with
   | false =>
    go_wp2;go_ret;exact ⟨by rw [HN.o];rfl,by first | exact HW5.o | (rw [hL];exact HW5.o)⟩
   | true =>
    go_wp2;go_ret;exact ⟨by rw [HN.o];rfl,by first | exact HW5.o | (rw [hL];exact HW5.o)⟩
theorem isright_none (h:OpM w y) (hz:OpZ y) (hk:y.kind≠1/\y.kind≠2/\y.kind≠3/\y.kind≠4/\y.kind≠5/\y.kind≠6):Calls prog 80 #[.agg #[.int .i64 y.kind,.string y.nm,.string y.s.nm,.slice y.ca y.cl y.cc,.slice y.xa y.xl y.xc,.slice y.ra y.rl y.rc,.int .i64 y.key.1,.int .i64 y.key.2.1,.string y.key.2.2,.int .i64 y.col,.int .i64 y.lo.1,.int .i64 y.lo.2.1,.string y.lo.2.2,.int .i64 y.hi.1,.int .i64 y.hi.2.1,.string y.hi.2.2,.int .i64 y.lim]] w fun e w'=>e=.returned (.bool (opRt y))/\Below w.heap.size w w':=by
 have ek1:(y.kind == 1)=false:=by simp [hk]
 have ek2:(y.kind == 2)=false:=by simp [hk]
 have ek3:(y.kind == 3)=false:=by simp [hk]
 have ek4:(y.kind == 4)=false:=by simp [hk]
 have ek5:(y.kind == 5)=false:=by simp [hk]
 have ek6:(y.kind == 6)=false:=by simp [hk]
 have HN:Hid (opRt y=false):=by
  show _=_;unfold opRt;rw [if_neg hk.1,if_neg (by omega),if_neg (by omega),if_neg hk.2.2.2.2.2]
 clear hk;have hbx:=aAc w (.cells #[.int .i64 y.kind,.string y.nm,.string y.s.nm,.slice y.ca y.cl y.cc,.slice y.xa y.xl y.xc,.slice y.ra y.rl y.rc,.int .i64 y.key.1,.int .i64 y.key.2.1,.string y.key.2.2,.int .i64 y.col,.int .i64 y.lo.1,.int .i64 y.lo.2.1,.string y.lo.2.2,.int .i64 y.hi.1,.int .i64 y.hi.2.1,.string y.hi.2.2,.int .i64 y.lim] 75);have HR1:Hid ((w.alloc (.cells #[.int .i64 y.kind,.string y.nm,.string y.s.nm,.slice y.ca y.cl y.cc,.slice y.xa y.xl y.xc,.slice y.ra y.rl y.rc,.int .i64 y.key.1,.int .i64 y.key.2.1,.string y.key.2.2,.int .i64 y.col,.int .i64 y.lo.1,.int .i64 y.lo.2.1,.string y.lo.2.2,.int .i64 y.hi.1,.int .i64 y.hi.2.1,.string y.hi.2.2,.int .i64 y.lim] 75)).heap[w.heap.size]?=some (.cells #[.int .i64 y.kind,.string y.nm,.string y.s.nm,.slice y.ca y.cl y.cc,.slice y.xa y.xl y.xc,.slice y.ra y.rl y.rc,.int .i64 y.key.1,.int .i64 y.key.2.1,.string y.key.2.2,.int .i64 y.col,.int .i64 y.lo.1,.int .i64 y.lo.2.1,.string y.lo.2.2,.int .i64 y.hi.1,.int .i64 y.hi.2.1,.string y.hi.2.2,.int .i64 y.lim] 75 (0,0))):=boxed w _;have HW1:=zH hbx;have HM1:=zH (h.later hbx);have HZ:=zH hz;clear hbx h hz;go_enter func80,ntmps80;go_upto_region 1 with fail;generalize w.alloc (.cells #[.int .i64 y.kind,.string y.nm,.string y.s.nm,.slice y.ca y.cl y.cc,.slice y.xa y.xl y.xc,.slice y.ra y.rl y.rc,.int .i64 y.key.1,.int .i64 y.key.2.1,.string y.key.2.2,.int .i64 y.col,.int .i64 y.lo.1,.int .i64 y.lo.2.1,.string y.lo.2.2,.int .i64 y.hi.1,.int .i64 y.hi.2.1,.string y.hi.2.2,.int .i64 y.lim] 75)=w1 at *
 generalize hL:w.heap.size=L at *
 have y0:w1.cell? ⟨L,0,none⟩=some (.int .i64 y.kind):=aAa HR1.o;have y1:w1.cell? ⟨L,1,none⟩=some (.string y.nm):=aAa HR1.o;have y2:w1.cell? ⟨L,2,none⟩=some (.string y.s.nm):=aAa HR1.o;have y3:w1.cell? ⟨L,3,none⟩=some (.slice y.ca y.cl y.cc):=aAa HR1.o;have y4:w1.cell? ⟨L,4,none⟩=some (.slice y.xa y.xl y.xc):=aAa HR1.o;have y5:w1.cell? ⟨L,5,none⟩=some (.slice y.ra y.rl y.rc):=aAa HR1.o;have y6:w1.cell? ⟨L,6,none⟩=some (.int .i64 y.key.1):=aAa HR1.o;have y7:w1.cell? ⟨L,7,none⟩=some (.int .i64 y.key.2.1):=aAa HR1.o;have y8:w1.cell? ⟨L,8,none⟩=some (.string y.key.2.2):=aAa HR1.o;have y9:w1.cell? ⟨L,9,none⟩=some (.int .i64 y.col):=aAa HR1.o;have y10:w1.cell? ⟨L,10,none⟩=some (.int .i64 y.lo.1):=aAa HR1.o;have y11:w1.cell? ⟨L,11,none⟩=some (.int .i64 y.lo.2.1):=aAa HR1.o;have y12:w1.cell? ⟨L,12,none⟩=some (.string y.lo.2.2):=aAa HR1.o;have y13:w1.cell? ⟨L,13,none⟩=some (.int .i64 y.hi.1):=aAa HR1.o;have y14:w1.cell? ⟨L,14,none⟩=some (.int .i64 y.hi.2.1):=aAa HR1.o;have y15:w1.cell? ⟨L,15,none⟩=some (.string y.hi.2.2):=aAa HR1.o;have y16:w1.cell? ⟨L,16,none⟩=some (.int .i64 y.lim):=aAa HR1.o;go_wp2;go_ret;exact ⟨by rw [HN.o];rfl,by first | exact HW1.o | (rw [hL];exact HW1.o)⟩
theorem isright_any (h:OpM w y) (hz:OpZ y):Calls prog 80 #[.agg #[.int .i64 y.kind,.string y.nm,.string y.s.nm,.slice y.ca y.cl y.cc,.slice y.xa y.xl y.xc,.slice y.ra y.rl y.rc,.int .i64 y.key.1,.int .i64 y.key.2.1,.string y.key.2.2,.int .i64 y.col,.int .i64 y.lo.1,.int .i64 y.lo.2.1,.string y.lo.2.2,.int .i64 y.hi.1,.int .i64 y.hi.2.1,.string y.hi.2.2,.int .i64 y.lim]] w fun e w'=>e=.returned (.bool (opRt y))/\Below w.heap.size w w':=by
 by_cases h1:y.kind=1
 ·exact isright_one h hz h1
 ·by_cases h2:y.kind=2
  ·exact isright_two h hz h2
  ·by_cases h3:y.kind=3
   ·exact aFz h hz h3
   ·by_cases h4:y.kind=4
    ·exact isright_four h hz h4
    ·by_cases h5:y.kind=5
     ·exact isright_five h hz h5
     ·by_cases h6:y.kind=6
      ·exact isright_six h hz h6
      ·exact isright_none h hz ⟨h1,h2,h3,h4,h5,h6⟩
abbrev OPV:=OpV
abbrev CMDV:=CmdV
theorem all_any {α:Type} (p:α->Bool) (l:List α):l.any (fun x=>!p x)=!(l.all p):=by
 induction l with
 | nil=>rfl
 | cons x l ih=>simp [List.any_cons,List.all_cons,ih,Bool.not_and]
theorem opwrong_any (h:OpP w y):Calls prog 63 #[.agg #[.int .i64 y.kind,.string y.nm,.string y.s.nm,.slice y.ca y.cl y.cc,.slice y.xa y.xl y.xc,.slice y.ra y.rl y.rc,.int .i64 y.key.1,.int .i64 y.key.2.1,.string y.key.2.2,.int .i64 y.col,.int .i64 y.lo.1,.int .i64 y.lo.2.1,.string y.lo.2.2,.int .i64 y.hi.1,.int .i64 y.hi.2.1,.string y.hi.2.2,.int .i64 y.lim]] w fun e w'=>e=.returned (.bool (!opRt y))/\Below w.heap.size w w':=by
 have hbx:=aAc w (.cells #[.int .i64 y.kind,.string y.nm,.string y.s.nm,.slice y.ca y.cl y.cc,.slice y.xa y.xl y.xc,.slice y.ra y.rl y.rc,.int .i64 y.key.1,.int .i64 y.key.2.1,.string y.key.2.2,.int .i64 y.col,.int .i64 y.lo.1,.int .i64 y.lo.2.1,.string y.lo.2.2,.int .i64 y.hi.1,.int .i64 y.hi.2.1,.string y.hi.2.2,.int .i64 y.lim] 75);have HR1:Hid ((w.alloc (.cells #[.int .i64 y.kind,.string y.nm,.string y.s.nm,.slice y.ca y.cl y.cc,.slice y.xa y.xl y.xc,.slice y.ra y.rl y.rc,.int .i64 y.key.1,.int .i64 y.key.2.1,.string y.key.2.2,.int .i64 y.col,.int .i64 y.lo.1,.int .i64 y.lo.2.1,.string y.lo.2.2,.int .i64 y.hi.1,.int .i64 y.hi.2.1,.string y.hi.2.2,.int .i64 y.lim] 75)).heap[w.heap.size]?=some (.cells #[.int .i64 y.kind,.string y.nm,.string y.s.nm,.slice y.ca y.cl y.cc,.slice y.xa y.xl y.xc,.slice y.ra y.rl y.rc,.int .i64 y.key.1,.int .i64 y.key.2.1,.string y.key.2.2,.int .i64 y.col,.int .i64 y.lo.1,.int .i64 y.lo.2.1,.string y.lo.2.2,.int .i64 y.hi.1,.int .i64 y.hi.2.1,.string y.hi.2.2,.int .i64 y.lim] 75 (0,0))):=boxed w _;have HW1:=zH hbx;have HI:=zH (isright_any (h.later hbx).m h.z);obtain ⟨bb,eb⟩:∃ b,opRt y=b:=⟨_,rfl⟩;rw [eb] at HI ⊢;clear hbx h eb;go_enter func63,ntmps63;go_upto_region 1 with fail;generalize w.alloc (.cells #[.int .i64 y.kind,.string y.nm,.string y.s.nm,.slice y.ca y.cl y.cc,.slice y.xa y.xl y.xc,.slice y.ra y.rl y.rc,.int .i64 y.key.1,.int .i64 y.key.2.1,.string y.key.2.2,.int .i64 y.col,.int .i64 y.lo.1,.int .i64 y.lo.2.1,.string y.lo.2.2,.int .i64 y.hi.1,.int .i64 y.hi.2.1,.string y.hi.2.2,.int .i64 y.lim] 75)=w1 at *
 generalize hL:w.heap.size=L at *
 have y0:w1.cell? ⟨L,0,none⟩=some (.int .i64 y.kind):=aAa HR1.o;have y1:w1.cell? ⟨L,1,none⟩=some (.string y.nm):=aAa HR1.o;have y2:w1.cell? ⟨L,2,none⟩=some (.string y.s.nm):=aAa HR1.o;have y3:w1.cell? ⟨L,3,none⟩=some (.slice y.ca y.cl y.cc):=aAa HR1.o;have y4:w1.cell? ⟨L,4,none⟩=some (.slice y.xa y.xl y.xc):=aAa HR1.o;have y5:w1.cell? ⟨L,5,none⟩=some (.slice y.ra y.rl y.rc):=aAa HR1.o;have y6:w1.cell? ⟨L,6,none⟩=some (.int .i64 y.key.1):=aAa HR1.o;have y7:w1.cell? ⟨L,7,none⟩=some (.int .i64 y.key.2.1):=aAa HR1.o;have y8:w1.cell? ⟨L,8,none⟩=some (.string y.key.2.2):=aAa HR1.o;have y9:w1.cell? ⟨L,9,none⟩=some (.int .i64 y.col):=aAa HR1.o;have y10:w1.cell? ⟨L,10,none⟩=some (.int .i64 y.lo.1):=aAa HR1.o;have y11:w1.cell? ⟨L,11,none⟩=some (.int .i64 y.lo.2.1):=aAa HR1.o;have y12:w1.cell? ⟨L,12,none⟩=some (.string y.lo.2.2):=aAa HR1.o;have y13:w1.cell? ⟨L,13,none⟩=some (.int .i64 y.hi.1):=aAa HR1.o;have y14:w1.cell? ⟨L,14,none⟩=some (.int .i64 y.hi.2.1):=aAa HR1.o;have y15:w1.cell? ⟨L,15,none⟩=some (.string y.hi.2.2):=aAa HR1.o;have y16:w1.cell? ⟨L,16,none⟩=some (.int .i64 y.lim):=aAa HR1.o;go_wp2_with fail;refine HI.o.mono ?_;rintro e w2 ⟨rfl,hb⟩;have HW2:Hid (Below L w w2):=HW1.o.trans (hb.mono (by have:=aAb HR1.o;omega));clear hb HI
 cases bb with
 | true =>
  go_wp2;go_ret;exact ⟨rfl,by first | exact HW2.o | (rw [hL];exact HW2.o)⟩
 | false =>
  go_wp2;go_ret;exact ⟨rfl,by first | exact HW2.o | (rw [hL];exact HW2.o)⟩
theorem opv_idx {l:List OPV} (h:SV fO 17 w a len cap l) (hlen:len<=1000) (hr:∀ x∈l,OpP w x) :
  Calls prog 79 #[.slice a len cap,.func (Fn.func 63) #[] #[]] w fun e w'=>∃ i:Int,e=.returned (.int .i64 i)/\(decide (0<=i)=l.any (fun x=>!opRt x))/\Below w.heap.size w w':=by
 have H:=zH h;have hx:=h.hl;have HL:=zH hx;clear h hx;have HR:=zH hr;clear hr;go_enter func79,ntmps79;go_wp2_with fail;go_loopg [8] len (fun gh s8 wx=>∃ j:Nat,j+gh=len/\s8=.int .i64 (j:Int)/\(l.take j).any (fun x=>!opRt x)=false/\Below w.heap.size w wx)
 case atStart=>exact ⟨0,by omega,rfl,by simp,Below.refl _ _⟩
 case round =>
  obtain ⟨j,hj,rfl,hno,hbr⟩:=hrel;have HNO:=zH hno;have HBR:=zH hbr;clear hno hbr;by_cases hjn:j<len
  ·have xj:(j:Int)<(len:Int):=by omega
   obtain ⟨x,hxj⟩:∃ x,l[j]?=some x:=⟨_,gE (by rw [HL.o];exact hjn)⟩;have HTK:Hid ((l.take (j+1)).any (fun x=>!opRt x)=(!opRt x)):=by
    show _=_;rw [List.take_add_one,hxj,List.any_append,HNO.o];simp
   have HYES:Hid ((!opRt x)=true->l.any (fun x=>!opRt x)=true):=fun q=>List.any_eq_true.2 ⟨x,mG hxj,q⟩
   obtain ⟨b,o,e0,hb,hcs⟩:=H.out.pl (by omega);have hcell:=fun t (ht:t<17)=>hcs j x hxj t ht
   subst e0;have y0:wr.cell? ⟨b,o+j*17,none⟩=some (.int .i64 x.kind):=(HBR.o.cell hb).trans (hcell 0 (by omega));have y1:wr.cell? ⟨b,o+j*17+1,none⟩=some (.string x.nm):=(HBR.o.cell hb).trans (hcell 1 (by omega));have y2:wr.cell? ⟨b,o+j*17+2,none⟩=some (.string x.s.nm):=(HBR.o.cell hb).trans (hcell 2 (by omega));have y3:wr.cell? ⟨b,o+j*17+3,none⟩=some (.slice x.ca x.cl x.cc):=(HBR.o.cell hb).trans (hcell 3 (by omega));have y4:wr.cell? ⟨b,o+j*17+4,none⟩=some (.slice x.xa x.xl x.xc):=(HBR.o.cell hb).trans (hcell 4 (by omega));have y5:wr.cell? ⟨b,o+j*17+5,none⟩=some (.slice x.ra x.rl x.rc):=(HBR.o.cell hb).trans (hcell 5 (by omega));have y6:wr.cell? ⟨b,o+j*17+6,none⟩=some (.int .i64 x.key.1):=(HBR.o.cell hb).trans (hcell 6 (by omega));have y7:wr.cell? ⟨b,o+j*17+7,none⟩=some (.int .i64 x.key.2.1):=(HBR.o.cell hb).trans (hcell 7 (by omega));have y8:wr.cell? ⟨b,o+j*17+8,none⟩=some (.string x.key.2.2):=(HBR.o.cell hb).trans (hcell 8 (by omega));have y9:wr.cell? ⟨b,o+j*17+9,none⟩=some (.int .i64 x.col):=(HBR.o.cell hb).trans (hcell 9 (by omega));have y10:wr.cell? ⟨b,o+j*17+10,none⟩=some (.int .i64 x.lo.1):=(HBR.o.cell hb).trans (hcell 10 (by omega));have y11:wr.cell? ⟨b,o+j*17+11,none⟩=some (.int .i64 x.lo.2.1):=(HBR.o.cell hb).trans (hcell 11 (by omega));have y12:wr.cell? ⟨b,o+j*17+12,none⟩=some (.string x.lo.2.2):=(HBR.o.cell hb).trans (hcell 12 (by omega));have y13:wr.cell? ⟨b,o+j*17+13,none⟩=some (.int .i64 x.hi.1):=(HBR.o.cell hb).trans (hcell 13 (by omega));have y14:wr.cell? ⟨b,o+j*17+14,none⟩=some (.int .i64 x.hi.2.1):=(HBR.o.cell hb).trans (hcell 14 (by omega));have y15:wr.cell? ⟨b,o+j*17+15,none⟩=some (.string x.hi.2.2):=(HBR.o.cell hb).trans (hcell 15 (by omega));have y16:wr.cell? ⟨b,o+j*17+16,none⟩=some (.int .i64 x.lim):=(HBR.o.cell hb).trans (hcell 16 (by omega));have hrx:=OpP.later (HR.o x (mG hxj)) HBR.o;have HCL:=zH (opwrong_any hrx);obtain ⟨pb,hpb⟩:∃ pb:Bool,pb=(!opRt x):=⟨_,rfl⟩;rw [<-hpb] at HTK HYES HCL;clear hcs hcell hxj hpb hrx;go_wp2_with fail;refine HCL.o.mono ?_;rintro e w1 ⟨rfl,hb1⟩;have HB1:Hid (Below w.heap.size w w1):=HBR.o.trans (hb1.mono HBR.o.size);clear hb1 HCL
   cases pb with
   | true =>
    have HY:=zH (HYES.o rfl);go_wp2_with fail;go_ret;exact ⟨(j:Int),rfl,by rw [HY.o];exact decide_eq_true (by omega),HB1.o⟩
   | false =>
    go_wp2_with fail;go_roundg (gk-1)
    case measure=>omega
    case rel=>exact ⟨j+1,by omega,rfl,HTK.o,HB1.o⟩
  ·have xj:¬ (j:Int)<(len:Int):=by omega
   have HN:Hid (l.any (fun x=>!opRt x)=false):=by
    have h9:=HNO.o;rw [List.take_of_length_le (by rw [HL.o];omega)] at h9;exact h9
   go_wp2;go_ret;exact ⟨-1,rfl,by rw [HN.o];rfl,HBR.o⟩
theorem opv_has {l:List OPV} (h:SV fO 17 w a len cap l) (hlen:len<=1000) (hr:∀ x∈l,OpP w x) :
  Calls prog 62 #[.slice a len cap,.func (Fn.func 63) #[] #[]] w fun e w'=>e=.returned (.bool (l.any (fun x=>!opRt x)))/\Below w.heap.size w w':=by
 have HI:=zH (opv_idx h hlen hr);clear h hr;generalize l.any (fun x=>!opRt x)=bb at *
 go_enter func62,ntmps62;go_wp2_with fail;refine HI.o.mono ?_;rintro e w1 ⟨i,rfl,hi,hb1⟩;have HB1:=zH hb1;have HE:=zH hi;clear hb1 HI hi;go_wp2;go_ret;exact ⟨by rw [<-HE.o];rfl,HB1.o⟩
def opsRt (l:List OpV):Bool:=decide (l.length<=3) && l.all opRt
theorem opsright_any {l:List OpV} (h:SV fO 17 w a n c l) (hr:∀ x∈l,OpP w x) :
  Calls prog 42 #[.slice a n c] w fun e w'=>e=.returned (.bool (opsRt l))/\Below w.heap.size w w':=by
 have HL:=zH h.hl;unfold opsRt;by_cases h3:n<=3
 ·have x3:(n:Int)<=3:=by omega
  have HI:=zH (opv_has h (by omega) hr);rw [all_any] at HI;rw [decide_eq_true (show l.length<=3 by rw [HL.o];exact h3),Bool.true_and];generalize l.all opRt=bb at *
  clear h hr;go_enter func42,ntmps42;go_wp2_with fail;refine HI.o.mono ?_;rintro e w1 ⟨rfl,hb1⟩;have HB1:=zH hb1;clear hb1 HI
  cases bb with
  | true =>
   go_wp2;go_ret;exact ⟨rfl,HB1.o⟩
  | false =>
   go_wp2;go_ret;exact ⟨rfl,HB1.o⟩
 ·have x3:¬ (n:Int)<=3:=by omega
  rw [decide_eq_false (show ¬ l.length<=3 by rw [HL.o];exact h3),Bool.false_and];clear h hr;go_enter func42,ntmps42;go_wp2;go_ret;exact ⟨rfl,Below.refl _ _⟩
def cmdRt (c:CmdV):Bool:=decide (0<=c.sess/\c.sess<=7) && (decide (1<=c.seq/\c.seq<=2147483647) && opsRt c.ops)
theorem cmdwrong_any {c:CmdV} (h:CmdP w c):Calls prog 24 #[.agg #[.int .i64 c.sess,.int .i64 c.seq,.slice c.oa c.on c.oc]] w fun e w'=>e=.returned (.bool (!cmdRt c))/\Below w.heap.size w w':=by
 have hbx:=aAc w (.cells #[.int .i64 c.sess,.int .i64 c.seq,.slice c.oa c.on c.oc] 46);have HR1:Hid ((w.alloc (.cells #[.int .i64 c.sess,.int .i64 c.seq,.slice c.oa c.on c.oc] 46)).heap[w.heap.size]?=some (.cells #[.int .i64 c.sess,.int .i64 c.seq,.slice c.oa c.on c.oc] 46 (0,0))):=boxed w _;have HW1:=zH hbx;have HC1:=zH (h.later hbx);clear hbx h;by_cases h1:0<=c.sess/\c.sess<=7
 ·by_cases h2:1<=c.seq/\c.seq<=2147483647
  ·have H1:=zH h1;have H2:=zH h2;have HN:Hid (cmdRt c=opsRt c.ops):=by
    show _=_;unfold cmdRt;rw [decide_eq_true h1,decide_eq_true h2];rfl
   clear h1 h2;go_enter func24,ntmps24;go_upto_region 1 with fail;generalize w.alloc (.cells #[.int .i64 c.sess,.int .i64 c.seq,.slice c.oa c.on c.oc] 46)=w1 at *
   generalize hL:w.heap.size=L at *
   have y0:w1.cell? ⟨L,0,none⟩=some (.int .i64 c.sess):=aAa HR1.o;have y1:w1.cell? ⟨L,1,none⟩=some (.int .i64 c.seq):=aAa HR1.o;have y2:w1.cell? ⟨L,2,none⟩=some (.slice c.oa c.on c.oc):=aAa HR1.o;go_wp2_with fail;refine (aAl w1 H1.o.1 H1.o.2).mono ?_;rintro e w9 ⟨rfl,hw⟩;have hw:=hw.symm;subst hw;clear hw;go_wp2_with fail;refine (aAl w1 H2.o.1 H2.o.2).mono ?_;rintro e w9 ⟨rfl,hw⟩;have hw:=hw.symm;subst hw;clear hw;have HOR:=zH (opsright_any HC1.o.sv HC1.o.ops);obtain ⟨bb,eb⟩:∃ b,opsRt c.ops=b:=⟨_,rfl⟩;rw [eb] at HOR HN;go_wp2_with fail;refine HOR.o.mono ?_;rintro e w2 ⟨rfl,hb⟩;have HW2:Hid (Below L w w2):=HW1.o.trans (hb.mono (by have:=aAb HR1.o;omega));clear hb HOR eb
   cases bb with
   | true =>
    go_wp2;go_ret;exact ⟨by rw [HN.o];rfl,by first | exact HW2.o | (rw [hL];exact HW2.o)⟩
   | false =>
    go_wp2;go_ret;exact ⟨by rw [HN.o];rfl,by first | exact HW2.o | (rw [hL];exact HW2.o)⟩
  ·have H1:=zH h1;have H2:=zH h2;have HN:Hid (cmdRt c=false):=by
    show _=_;unfold cmdRt;rw [decide_eq_false h2,Bool.false_and,Bool.and_false]
   clear h1 h2;go_enter func24,ntmps24;go_upto_region 1 with fail;generalize w.alloc (.cells #[.int .i64 c.sess,.int .i64 c.seq,.slice c.oa c.on c.oc] 46)=w1 at *
   generalize hL:w.heap.size=L at *
   have y0:w1.cell? ⟨L,0,none⟩=some (.int .i64 c.sess):=aAa HR1.o;have y1:w1.cell? ⟨L,1,none⟩=some (.int .i64 c.seq):=aAa HR1.o;have y2:w1.cell? ⟨L,2,none⟩=some (.slice c.oa c.on c.oc):=aAa HR1.o;go_wp2_with fail;refine (aAl w1 H1.o.1 H1.o.2).mono ?_;rintro e w9 ⟨rfl,hw⟩;have hw:=hw.symm;subst hw;clear hw;go_wp2_with fail;refine (aA4 w1 H2.o).mono ?_;rintro e w9 ⟨rfl,hw⟩;have hw:=hw.symm;subst hw;clear hw;go_wp2;go_ret;exact ⟨by rw [HN.o];rfl,by first | exact HW1.o | (rw [hL];exact HW1.o)⟩
 ·have H1:=zH h1;have HN:Hid (cmdRt c=false):=by
   show _=_;unfold cmdRt;rw [decide_eq_false h1,Bool.false_and]
  clear h1;go_enter func24,ntmps24;go_upto_region 1 with fail;generalize w.alloc (.cells #[.int .i64 c.sess,.int .i64 c.seq,.slice c.oa c.on c.oc] 46)=w1 at *
  generalize hL:w.heap.size=L at *
  have y0:w1.cell? ⟨L,0,none⟩=some (.int .i64 c.sess):=aAa HR1.o;have y1:w1.cell? ⟨L,1,none⟩=some (.int .i64 c.seq):=aAa HR1.o;have y2:w1.cell? ⟨L,2,none⟩=some (.slice c.oa c.on c.oc):=aAa HR1.o;go_wp2_with fail;refine (aA4 w1 H1.o).mono ?_;rintro e w9 ⟨rfl,hw⟩;have hw:=hw.symm;subst hw;clear hw;go_wp2;go_ret;exact ⟨by rw [HN.o];rfl,by first | exact HW1.o | (rw [hL];exact HW1.o)⟩
theorem cmdv_idx {l:List CMDV} (h:SV fCm 3 w a len cap l) (hlen:len<=1000) (hr:∀ x∈l,CmdP w x) :
  Calls prog 41 #[.slice a len cap,.func (Fn.func 24) #[] #[]] w fun e w'=>∃ i:Int,e=.returned (.int .i64 i)/\(decide (0<=i)=l.any (fun x=>!cmdRt x))/\Below w.heap.size w w':=by
 have H:=zH h;have hx:=h.hl;have HL:=zH hx;clear h hx;have HR:=zH hr;clear hr;go_enter func41,ntmps41;go_wp2_with fail;go_loopg [8] len (fun gh s8 wx=>∃ j:Nat,j+gh=len/\s8=.int .i64 (j:Int)/\(l.take j).any (fun x=>!cmdRt x)=false/\Below w.heap.size w wx)
 case atStart=>exact ⟨0,by omega,rfl,by simp,Below.refl _ _⟩
 case round =>
  obtain ⟨j,hj,rfl,hno,hbr⟩:=hrel;have HNO:=zH hno;have HBR:=zH hbr;clear hno hbr;by_cases hjn:j<len
  ·have xj:(j:Int)<(len:Int):=by omega
   obtain ⟨x,hxj⟩:∃ x,l[j]?=some x:=⟨_,gE (by rw [HL.o];exact hjn)⟩;have HTK:Hid ((l.take (j+1)).any (fun x=>!cmdRt x)=(!cmdRt x)):=by
    show _=_;rw [List.take_add_one,hxj,List.any_append,HNO.o];simp
   have HYES:Hid ((!cmdRt x)=true->l.any (fun x=>!cmdRt x)=true):=fun q=>List.any_eq_true.2 ⟨x,mG hxj,q⟩
   obtain ⟨b,o,e0,hb,hcs⟩:=H.out.pl (by omega);have hcell:=fun t (ht:t<3)=>hcs j x hxj t ht
   subst e0;have y0:wr.cell? ⟨b,o+j*3,none⟩=some (.int .i64 x.sess):=(HBR.o.cell hb).trans (hcell 0 (by omega));have y1:wr.cell? ⟨b,o+j*3+1,none⟩=some (.int .i64 x.seq):=(HBR.o.cell hb).trans (hcell 1 (by omega));have y2:wr.cell? ⟨b,o+j*3+2,none⟩=some (.slice x.oa x.on x.oc):=(HBR.o.cell hb).trans (hcell 2 (by omega));have hrx:=CmdP.later (HR.o x (mG hxj)) HBR.o;have HCL:=zH (cmdwrong_any hrx);obtain ⟨pb,hpb⟩:∃ pb:Bool,pb=(!cmdRt x):=⟨_,rfl⟩;rw [<-hpb] at HTK HYES HCL;clear hcs hcell hxj hpb hrx;go_wp2_with fail;refine HCL.o.mono ?_;rintro e w1 ⟨rfl,hb1⟩;have HB1:Hid (Below w.heap.size w w1):=HBR.o.trans (hb1.mono HBR.o.size);clear hb1 HCL
   cases pb with
   | true =>
    have HY:=zH (HYES.o rfl);go_wp2_with fail;go_ret;exact ⟨(j:Int),rfl,by rw [HY.o];exact decide_eq_true (by omega),HB1.o⟩
   | false =>
    go_wp2_with fail;go_roundg (gk-1)
    case measure=>omega
    case rel=>exact ⟨j+1,by omega,rfl,HTK.o,HB1.o⟩
  ·have xj:¬ (j:Int)<(len:Int):=by omega
   have HN:Hid (l.any (fun x=>!cmdRt x)=false):=by
    have h9:=HNO.o;rw [List.take_of_length_le (by rw [HL.o];omega)] at h9;exact h9
   go_wp2;go_ret;exact ⟨-1,rfl,by rw [HN.o];rfl,HBR.o⟩
theorem cmdv_has {l:List CMDV} (h:SV fCm 3 w a len cap l) (hlen:len<=1000) (hr:∀ x∈l,CmdP w x) :
  Calls prog 23 #[.slice a len cap,.func (Fn.func 24) #[] #[]] w fun e w'=>e=.returned (.bool (l.any (fun x=>!cmdRt x)))/\Below w.heap.size w w':=by
 have HI:=zH (cmdv_idx h hlen hr);clear h hr;generalize l.any (fun x=>!cmdRt x)=bb at *
 go_enter func23,ntmps23;go_wp2_with fail;refine HI.o.mono ?_;rintro e w1 ⟨i,rfl,hi,hb1⟩;have HB1:=zH hb1;have HE:=zH hi;clear hb1 HI hi;go_wp2;go_ret;exact ⟨by rw [<-HE.o];rfl,HB1.o⟩
def nRt (y:EntV):Bool :=
 if y.kind=2\/y.kind=4 then decide (0<=y.n/\y.n<=2147483647) else if y.kind=3 then decide (1<=y.n/\y.n<=1048576) else if y.kind=5 then decide (1<=y.n/\y.n<=2) else false
theorem hasn_two {y:EntV} (hk:y.kind=2):Calls prog 25 #[.agg #[.int .i64 y.kind,.int .i64 y.srv,.slice y.ca y.cl y.cc,.int .i64 y.n]] w fun e w'=>e=.returned (.bool (nRt y))/\Below w.heap.size w w':=by
 have hbx:=aAc w (.cells #[.int .i64 y.kind,.int .i64 y.srv,.slice y.ca y.cl y.cc,.int .i64 y.n] 24);have HR1:Hid ((w.alloc (.cells #[.int .i64 y.kind,.int .i64 y.srv,.slice y.ca y.cl y.cc,.int .i64 y.n] 24)).heap[w.heap.size]?=some (.cells #[.int .i64 y.kind,.int .i64 y.srv,.slice y.ca y.cl y.cc,.int .i64 y.n] 24 (0,0))):=boxed w _;have HW1:=zH hbx;clear hbx;have ek2:(y.kind == 2)=true:=by rw [hk];rfl
 have HU:Hid (nRt y=decide (0<=y.n/\y.n<=2147483647)):=by
  show _=_;unfold nRt;rw [if_pos (by omega)]
 clear hk;by_cases h1:0<=y.n/\y.n<=2147483647
 ·have H1:=zH h1;have HN:Hid (nRt y=true):=by
   show _=_;rw [HU.o,decide_eq_true h1]
  clear h1;go_enter func25,ntmps25;go_upto_region 1 with fail;generalize w.alloc (.cells #[.int .i64 y.kind,.int .i64 y.srv,.slice y.ca y.cl y.cc,.int .i64 y.n] 24)=w1 at *
  generalize hL:w.heap.size=L at *
  have y0:w1.cell? ⟨L,0,none⟩=some (.int .i64 y.kind):=aAa HR1.o;have y1:w1.cell? ⟨L,1,none⟩=some (.int .i64 y.srv):=aAa HR1.o;have y2:w1.cell? ⟨L,2,none⟩=some (.slice y.ca y.cl y.cc):=aAa HR1.o;have y3:w1.cell? ⟨L,3,none⟩=some (.int .i64 y.n):=aAa HR1.o;go_wp2_with fail;refine (aAl w1 H1.o.1 H1.o.2).mono ?_;rintro e w9 ⟨rfl,hw⟩;have hw:=hw.symm;subst hw;clear hw;go_wp2;go_ret;exact ⟨by rw [HN.o];rfl,by first | exact HW1.o | (rw [hL];exact HW1.o)⟩
 ·have H1:=zH h1;have HN:Hid (nRt y=false):=by
   show _=_;rw [HU.o,decide_eq_false h1]
  clear h1;go_enter func25,ntmps25;go_upto_region 1 with fail;generalize w.alloc (.cells #[.int .i64 y.kind,.int .i64 y.srv,.slice y.ca y.cl y.cc,.int .i64 y.n] 24)=w1 at *
  generalize hL:w.heap.size=L at *
  have y0:w1.cell? ⟨L,0,none⟩=some (.int .i64 y.kind):=aAa HR1.o;have y1:w1.cell? ⟨L,1,none⟩=some (.int .i64 y.srv):=aAa HR1.o;have y2:w1.cell? ⟨L,2,none⟩=some (.slice y.ca y.cl y.cc):=aAa HR1.o;have y3:w1.cell? ⟨L,3,none⟩=some (.int .i64 y.n):=aAa HR1.o;go_wp2_with fail;refine (aA4 w1 H1.o).mono ?_;rintro e w9 ⟨rfl,hw⟩;have hw:=hw.symm;subst hw;clear hw;go_wp2;go_ret;exact ⟨by rw [HN.o];rfl,by first | exact HW1.o | (rw [hL];exact HW1.o)⟩
theorem hasn_four {y:EntV} (hk:y.kind=4):Calls prog 25 #[.agg #[.int .i64 y.kind,.int .i64 y.srv,.slice y.ca y.cl y.cc,.int .i64 y.n]] w fun e w'=>e=.returned (.bool (nRt y))/\Below w.heap.size w w':=by
 have hbx:=aAc w (.cells #[.int .i64 y.kind,.int .i64 y.srv,.slice y.ca y.cl y.cc,.int .i64 y.n] 24);have HR1:Hid ((w.alloc (.cells #[.int .i64 y.kind,.int .i64 y.srv,.slice y.ca y.cl y.cc,.int .i64 y.n] 24)).heap[w.heap.size]?=some (.cells #[.int .i64 y.kind,.int .i64 y.srv,.slice y.ca y.cl y.cc,.int .i64 y.n] 24 (0,0))):=boxed w _;have HW1:=zH hbx;clear hbx;have ek2:(y.kind == 2)=false:=by rw [hk];rfl
 have ek4:(y.kind == 4)=true:=by rw [hk];rfl
 have HU:Hid (nRt y=decide (0<=y.n/\y.n<=2147483647)):=by
  show _=_;unfold nRt;rw [if_pos (by omega)]
 clear hk;by_cases h1:0<=y.n/\y.n<=2147483647
 ·have H1:=zH h1;have HN:Hid (nRt y=true):=by
   show _=_;rw [HU.o,decide_eq_true h1]
  clear h1;go_enter func25,ntmps25;go_upto_region 1 with fail;generalize w.alloc (.cells #[.int .i64 y.kind,.int .i64 y.srv,.slice y.ca y.cl y.cc,.int .i64 y.n] 24)=w1 at *
  generalize hL:w.heap.size=L at *
  have y0:w1.cell? ⟨L,0,none⟩=some (.int .i64 y.kind):=aAa HR1.o;have y1:w1.cell? ⟨L,1,none⟩=some (.int .i64 y.srv):=aAa HR1.o;have y2:w1.cell? ⟨L,2,none⟩=some (.slice y.ca y.cl y.cc):=aAa HR1.o;have y3:w1.cell? ⟨L,3,none⟩=some (.int .i64 y.n):=aAa HR1.o;go_wp2_with fail;refine (aAl w1 H1.o.1 H1.o.2).mono ?_;rintro e w9 ⟨rfl,hw⟩;have hw:=hw.symm;subst hw;clear hw;go_wp2;go_ret;exact ⟨by rw [HN.o];rfl,by first | exact HW1.o | (rw [hL];exact HW1.o)⟩
 ·have H1:=zH h1;have HN:Hid (nRt y=false):=by
   show _=_;rw [HU.o,decide_eq_false h1]
  clear h1;go_enter func25,ntmps25;go_upto_region 1 with fail;generalize w.alloc (.cells #[.int .i64 y.kind,.int .i64 y.srv,.slice y.ca y.cl y.cc,.int .i64 y.n] 24)=w1 at *
  generalize hL:w.heap.size=L at *
  have y0:w1.cell? ⟨L,0,none⟩=some (.int .i64 y.kind):=aAa HR1.o;have y1:w1.cell? ⟨L,1,none⟩=some (.int .i64 y.srv):=aAa HR1.o;have y2:w1.cell? ⟨L,2,none⟩=some (.slice y.ca y.cl y.cc):=aAa HR1.o;have y3:w1.cell? ⟨L,3,none⟩=some (.int .i64 y.n):=aAa HR1.o;go_wp2_with fail;refine (aA4 w1 H1.o).mono ?_;rintro e w9 ⟨rfl,hw⟩;have hw:=hw.symm;subst hw;clear hw;go_wp2;go_ret;exact ⟨by rw [HN.o];rfl,by first | exact HW1.o | (rw [hL];exact HW1.o)⟩
theorem hasn_three {y:EntV} (hk:y.kind=3):Calls prog 25 #[.agg #[.int .i64 y.kind,.int .i64 y.srv,.slice y.ca y.cl y.cc,.int .i64 y.n]] w fun e w'=>e=.returned (.bool (nRt y))/\Below w.heap.size w w':=by
 have hbx:=aAc w (.cells #[.int .i64 y.kind,.int .i64 y.srv,.slice y.ca y.cl y.cc,.int .i64 y.n] 24);have HR1:Hid ((w.alloc (.cells #[.int .i64 y.kind,.int .i64 y.srv,.slice y.ca y.cl y.cc,.int .i64 y.n] 24)).heap[w.heap.size]?=some (.cells #[.int .i64 y.kind,.int .i64 y.srv,.slice y.ca y.cl y.cc,.int .i64 y.n] 24 (0,0))):=boxed w _;have HW1:=zH hbx;clear hbx;have ek2:(y.kind == 2)=false:=by rw [hk];rfl
 have ek4:(y.kind == 4)=false:=by rw [hk];rfl
 have ek3:(y.kind == 3)=true:=by rw [hk];rfl
 have HU:Hid (nRt y=decide (1<=y.n/\y.n<=1048576)):=by
  show _=_;unfold nRt;rw [if_neg (by omega),if_pos hk]
 clear hk;by_cases h1:1<=y.n/\y.n<=1048576
 ·have H1:=zH h1;have HN:Hid (nRt y=true):=by
   show _=_;rw [HU.o,decide_eq_true h1]
  clear h1;go_enter func25,ntmps25;go_upto_region 1 with fail;generalize w.alloc (.cells #[.int .i64 y.kind,.int .i64 y.srv,.slice y.ca y.cl y.cc,.int .i64 y.n] 24)=w1 at *
  generalize hL:w.heap.size=L at *
  have y0:w1.cell? ⟨L,0,none⟩=some (.int .i64 y.kind):=aAa HR1.o;have y1:w1.cell? ⟨L,1,none⟩=some (.int .i64 y.srv):=aAa HR1.o;have y2:w1.cell? ⟨L,2,none⟩=some (.slice y.ca y.cl y.cc):=aAa HR1.o;have y3:w1.cell? ⟨L,3,none⟩=some (.int .i64 y.n):=aAa HR1.o;go_wp2_with fail;refine (aAl w1 H1.o.1 H1.o.2).mono ?_;rintro e w9 ⟨rfl,hw⟩;have hw:=hw.symm;subst hw;clear hw;go_wp2;go_ret;exact ⟨by rw [HN.o];rfl,by first | exact HW1.o | (rw [hL];exact HW1.o)⟩
 ·have H1:=zH h1;have HN:Hid (nRt y=false):=by
   show _=_;rw [HU.o,decide_eq_false h1]
  clear h1;go_enter func25,ntmps25;go_upto_region 1 with fail;generalize w.alloc (.cells #[.int .i64 y.kind,.int .i64 y.srv,.slice y.ca y.cl y.cc,.int .i64 y.n] 24)=w1 at *
  generalize hL:w.heap.size=L at *
  have y0:w1.cell? ⟨L,0,none⟩=some (.int .i64 y.kind):=aAa HR1.o;have y1:w1.cell? ⟨L,1,none⟩=some (.int .i64 y.srv):=aAa HR1.o;have y2:w1.cell? ⟨L,2,none⟩=some (.slice y.ca y.cl y.cc):=aAa HR1.o;have y3:w1.cell? ⟨L,3,none⟩=some (.int .i64 y.n):=aAa HR1.o;go_wp2_with fail;refine (aA4 w1 H1.o).mono ?_;rintro e w9 ⟨rfl,hw⟩;have hw:=hw.symm;subst hw;clear hw;go_wp2;go_ret;exact ⟨by rw [HN.o];rfl,by first | exact HW1.o | (rw [hL];exact HW1.o)⟩
theorem hasn_five {y:EntV} (hk:y.kind=5):Calls prog 25 #[.agg #[.int .i64 y.kind,.int .i64 y.srv,.slice y.ca y.cl y.cc,.int .i64 y.n]] w fun e w'=>e=.returned (.bool (nRt y))/\Below w.heap.size w w':=by
 have hbx:=aAc w (.cells #[.int .i64 y.kind,.int .i64 y.srv,.slice y.ca y.cl y.cc,.int .i64 y.n] 24);have HR1:Hid ((w.alloc (.cells #[.int .i64 y.kind,.int .i64 y.srv,.slice y.ca y.cl y.cc,.int .i64 y.n] 24)).heap[w.heap.size]?=some (.cells #[.int .i64 y.kind,.int .i64 y.srv,.slice y.ca y.cl y.cc,.int .i64 y.n] 24 (0,0))):=boxed w _;have HW1:=zH hbx;clear hbx;have ek2:(y.kind == 2)=false:=by rw [hk];rfl
 have ek4:(y.kind == 4)=false:=by rw [hk];rfl
 have ek3:(y.kind == 3)=false:=by rw [hk];rfl
 have ek5:(y.kind == 5)=true:=by rw [hk];rfl
 have HU:Hid (nRt y=decide (1<=y.n/\y.n<=2)):=by
  show _=_;unfold nRt;rw [if_neg (by omega),if_neg (by omega),if_pos hk]
 clear hk;by_cases h1:1<=y.n/\y.n<=2
 ·have H1:=zH h1;have HN:Hid (nRt y=true):=by
   show _=_;rw [HU.o,decide_eq_true h1]
  clear h1;go_enter func25,ntmps25;go_upto_region 1 with fail;generalize w.alloc (.cells #[.int .i64 y.kind,.int .i64 y.srv,.slice y.ca y.cl y.cc,.int .i64 y.n] 24)=w1 at *
  generalize hL:w.heap.size=L at *
  have y0:w1.cell? ⟨L,0,none⟩=some (.int .i64 y.kind):=aAa HR1.o;have y1:w1.cell? ⟨L,1,none⟩=some (.int .i64 y.srv):=aAa HR1.o;have y2:w1.cell? ⟨L,2,none⟩=some (.slice y.ca y.cl y.cc):=aAa HR1.o;have y3:w1.cell? ⟨L,3,none⟩=some (.int .i64 y.n):=aAa HR1.o;go_wp2_with fail;refine (aAl w1 H1.o.1 H1.o.2).mono ?_;rintro e w9 ⟨rfl,hw⟩;have hw:=hw.symm;subst hw;clear hw;go_wp2;go_ret;exact ⟨by rw [HN.o];rfl,by first | exact HW1.o | (rw [hL];exact HW1.o)⟩
 ·have H1:=zH h1;have HN:Hid (nRt y=false):=by
   show _=_;rw [HU.o,decide_eq_false h1]
  clear h1;go_enter func25,ntmps25;go_upto_region 1 with fail;generalize w.alloc (.cells #[.int .i64 y.kind,.int .i64 y.srv,.slice y.ca y.cl y.cc,.int .i64 y.n] 24)=w1 at *
  generalize hL:w.heap.size=L at *
  have y0:w1.cell? ⟨L,0,none⟩=some (.int .i64 y.kind):=aAa HR1.o;have y1:w1.cell? ⟨L,1,none⟩=some (.int .i64 y.srv):=aAa HR1.o;have y2:w1.cell? ⟨L,2,none⟩=some (.slice y.ca y.cl y.cc):=aAa HR1.o;have y3:w1.cell? ⟨L,3,none⟩=some (.int .i64 y.n):=aAa HR1.o;go_wp2_with fail;refine (aA4 w1 H1.o).mono ?_;rintro e w9 ⟨rfl,hw⟩;have hw:=hw.symm;subst hw;clear hw;go_wp2;go_ret;exact ⟨by rw [HN.o];rfl,by first | exact HW1.o | (rw [hL];exact HW1.o)⟩
theorem hasn_none {y:EntV} (hk:y.kind≠2/\y.kind≠4/\y.kind≠3/\y.kind≠5):Calls prog 25 #[.agg #[.int .i64 y.kind,.int .i64 y.srv,.slice y.ca y.cl y.cc,.int .i64 y.n]] w fun e w'=>e=.returned (.bool (nRt y))/\Below w.heap.size w w':=by
 have hbx:=aAc w (.cells #[.int .i64 y.kind,.int .i64 y.srv,.slice y.ca y.cl y.cc,.int .i64 y.n] 24);have HR1:Hid ((w.alloc (.cells #[.int .i64 y.kind,.int .i64 y.srv,.slice y.ca y.cl y.cc,.int .i64 y.n] 24)).heap[w.heap.size]?=some (.cells #[.int .i64 y.kind,.int .i64 y.srv,.slice y.ca y.cl y.cc,.int .i64 y.n] 24 (0,0))):=boxed w _;have HW1:=zH hbx;clear hbx;have ek2:(y.kind == 2)=false:=by simp [hk]
 have ek4:(y.kind == 4)=false:=by simp [hk]
 have ek3:(y.kind == 3)=false:=by simp [hk]
 have ek5:(y.kind == 5)=false:=by simp [hk]
 have HN:Hid (nRt y=false):=by
  show _=_;unfold nRt;rw [if_neg (by omega),if_neg hk.2.2.1,if_neg hk.2.2.2]
 clear hk;go_enter func25,ntmps25;go_upto_region 1 with fail;generalize w.alloc (.cells #[.int .i64 y.kind,.int .i64 y.srv,.slice y.ca y.cl y.cc,.int .i64 y.n] 24)=w1 at *
 generalize hL:w.heap.size=L at *
 have y0:w1.cell? ⟨L,0,none⟩=some (.int .i64 y.kind):=aAa HR1.o;have y1:w1.cell? ⟨L,1,none⟩=some (.int .i64 y.srv):=aAa HR1.o;have y2:w1.cell? ⟨L,2,none⟩=some (.slice y.ca y.cl y.cc):=aAa HR1.o;have y3:w1.cell? ⟨L,3,none⟩=some (.int .i64 y.n):=aAa HR1.o;go_wp2;go_ret;exact ⟨by rw [HN.o];rfl,by first | exact HW1.o | (rw [hL];exact HW1.o)⟩
theorem hasn_any (y:EntV):Calls prog 25 #[.agg #[.int .i64 y.kind,.int .i64 y.srv,.slice y.ca y.cl y.cc,.int .i64 y.n]] w fun e w'=>e=.returned (.bool (nRt y))/\Below w.heap.size w w':=by
 by_cases h2:y.kind=2
 ·exact hasn_two h2
 ·by_cases h4:y.kind=4
  ·exact hasn_four h4
  ·by_cases h3:y.kind=3
   ·exact hasn_three h3
   ·by_cases h5:y.kind=5
    ·exact hasn_five h5
    ·exact hasn_none ⟨h2,h4,h3,h5⟩
def entRt (y:EntV):Bool:=decide (0<=y.srv/\y.srv<=3) && (if y.kind=1 then (y.n == 0) && (decide (1<=y.cmds.length/\y.cmds.length<=3) && y.cmds.all cmdRt) else decide (y.cmds.length=0) && nRt y)
theorem aCr {y:EntV} (h:EntP w y):Calls prog 10 #[.agg #[.int .i64 y.kind,.int .i64 y.srv,.slice y.ca y.cl y.cc,.int .i64 y.n]] w fun e w'=>e=.returned (.bool (entRt y))/\Below w.heap.size w w':=by
 have HCL:Hid (y.cmds.length=y.cl):=h.sv.hl;have hbx:=aAc w (.cells #[.int .i64 y.kind,.int .i64 y.srv,.slice y.ca y.cl y.cc,.int .i64 y.n] 24);have HR1:Hid ((w.alloc (.cells #[.int .i64 y.kind,.int .i64 y.srv,.slice y.ca y.cl y.cc,.int .i64 y.n] 24)).heap[w.heap.size]?=some (.cells #[.int .i64 y.kind,.int .i64 y.srv,.slice y.ca y.cl y.cc,.int .i64 y.n] 24 (0,0))):=boxed w _;have HW1:=zH hbx;have HE1:=zH (h.later hbx);clear hbx h;by_cases h1:0<=y.srv/\y.srv<=3
 ·have H1:=zH h1;have HU:Hid (entRt y=if y.kind=1 then (y.n == 0) && (decide (1<=y.cl/\y.cl<=3) && y.cmds.all cmdRt) else decide (y.cl=0) && nRt y):=by
   show _=_;unfold entRt;rw [decide_eq_true h1,Bool.true_and,HCL.o]
  clear h1;by_cases hk:y.kind=1
  ·have ek:(y.kind == 1)=true:=by rw [hk];rfl
   have HV:Hid (entRt y=((y.n == 0) && (decide (1<=y.cl/\y.cl<=3) && y.cmds.all cmdRt))):=by
    show _=_;rw [HU.o,if_pos hk]
   clear hk HU
   cases en:(y.n == 0) with
   | false =>
    have HN:Hid (entRt y=false):=by
     show _=_;rw [HV.o,en];rfl
    go_enter func10,ntmps10;go_upto_region 1 with fail;generalize w.alloc (.cells #[.int .i64 y.kind,.int .i64 y.srv,.slice y.ca y.cl y.cc,.int .i64 y.n] 24)=w1 at *
    generalize hL:w.heap.size=L at *
    have y0:w1.cell? ⟨L,0,none⟩=some (.int .i64 y.kind):=aAa HR1.o;have y1:w1.cell? ⟨L,1,none⟩=some (.int .i64 y.srv):=aAa HR1.o;have y2:w1.cell? ⟨L,2,none⟩=some (.slice y.ca y.cl y.cc):=aAa HR1.o;have y3:w1.cell? ⟨L,3,none⟩=some (.int .i64 y.n):=aAa HR1.o;go_wp2_with fail;refine (aAl w1 H1.o.1 H1.o.2).mono ?_;rintro e w9 ⟨rfl,hw⟩;have hw:=hw.symm;subst hw;clear hw;go_wp2;go_ret;exact ⟨by rw [HN.o];rfl,by first | exact HW1.o | (rw [hL];exact HW1.o)⟩
   | true =>
    by_cases h3:1<=y.cl/\y.cl<=3
    ·have H3:Hid ((1:Int)<=(y.cl:Int)/\(y.cl:Int)<=3):=⟨by omega,by omega⟩;have HCO:=zH (cmdv_has HE1.o.sv (by omega) HE1.o.cmds);rw [all_any] at HCO;obtain ⟨bb,eb⟩:∃ b,y.cmds.all cmdRt=b:=⟨_,rfl⟩;have HN:Hid (entRt y=bb):=by
      show _=_;rw [HV.o,en,decide_eq_true h3,eb];rfl
     rw [eb] at HCO;clear h3 eb;go_enter func10,ntmps10;go_upto_region 1 with fail;generalize w.alloc (.cells #[.int .i64 y.kind,.int .i64 y.srv,.slice y.ca y.cl y.cc,.int .i64 y.n] 24)=w1 at *
     generalize hL:w.heap.size=L at *
     have y0:w1.cell? ⟨L,0,none⟩=some (.int .i64 y.kind):=aAa HR1.o;have y1:w1.cell? ⟨L,1,none⟩=some (.int .i64 y.srv):=aAa HR1.o;have y2:w1.cell? ⟨L,2,none⟩=some (.slice y.ca y.cl y.cc):=aAa HR1.o;have y3:w1.cell? ⟨L,3,none⟩=some (.int .i64 y.n):=aAa HR1.o;go_wp2_with fail;refine (aAl w1 H1.o.1 H1.o.2).mono ?_;rintro e w9 ⟨rfl,hw⟩;have hw:=hw.symm;subst hw;clear hw;go_wp2_with fail;refine (aAl w1 H3.o.1 H3.o.2).mono ?_;rintro e w9 ⟨rfl,hw⟩;have hw:=hw.symm;subst hw;clear hw;go_wp2_with fail;refine HCO.o.mono ?_;rintro e w2 ⟨rfl,hb⟩;have HW2:Hid (Below L w w2):=HW1.o.trans (hb.mono (by have:=aAb HR1.o;omega));clear hb HCO
     cases bb with
     | true =>
      go_wp2;go_ret;exact ⟨by rw [HN.o];rfl,by first | exact HW2.o | (rw [hL];exact HW2.o)⟩
     | false =>
      go_wp2;go_ret;exact ⟨by rw [HN.o];rfl,by first | exact HW2.o | (rw [hL];exact HW2.o)⟩
    ·have H3:Hid (¬ ((1:Int)<=(y.cl:Int)/\(y.cl:Int)<=3)):=by
      show ¬ _;omega
     have HN:Hid (entRt y=false):=by
      show _=_;rw [HV.o,en,decide_eq_false h3];rfl
     clear h3;go_enter func10,ntmps10;go_upto_region 1 with fail;generalize w.alloc (.cells #[.int .i64 y.kind,.int .i64 y.srv,.slice y.ca y.cl y.cc,.int .i64 y.n] 24)=w1 at *
     generalize hL:w.heap.size=L at *
     have y0:w1.cell? ⟨L,0,none⟩=some (.int .i64 y.kind):=aAa HR1.o;have y1:w1.cell? ⟨L,1,none⟩=some (.int .i64 y.srv):=aAa HR1.o;have y2:w1.cell? ⟨L,2,none⟩=some (.slice y.ca y.cl y.cc):=aAa HR1.o;have y3:w1.cell? ⟨L,3,none⟩=some (.int .i64 y.n):=aAa HR1.o;go_wp2_with fail;refine (aAl w1 H1.o.1 H1.o.2).mono ?_;rintro e w9 ⟨rfl,hw⟩;have hw:=hw.symm;subst hw;clear hw;go_wp2_with fail;refine (aA4 w1 H3.o).mono ?_;rintro e w9 ⟨rfl,hw⟩;have hw:=hw.symm;subst hw;clear hw;go_wp2;go_ret;exact ⟨by rw [HN.o];rfl,by first | exact HW1.o | (rw [hL];exact HW1.o)⟩
  ·have ek:(y.kind == 1)=false:=by simp [hk]
   have HV:Hid (entRt y=(decide (y.cl=0) && nRt y)):=by
    show _=_;rw [HU.o,if_neg hk]
   clear hk HU;by_cases h0:y.cl=0
   ·have e0:((y.cl:Int) == 0)=true:=by rw [h0];rfl
    have HIN:=zH (hasn_any (w:=w.alloc (.cells #[.int .i64 y.kind,.int .i64 y.srv,.slice y.ca y.cl y.cc,.int .i64 y.n] 24)) y);obtain ⟨bb,eb⟩:∃ b,nRt y=b:=⟨_,rfl⟩;have HN:Hid (entRt y=bb):=by
     show _=_;rw [HV.o,decide_eq_true h0,eb];rfl
    rw [eb] at HIN;clear h0 eb;go_enter func10,ntmps10;go_upto_region 1 with fail;generalize w.alloc (.cells #[.int .i64 y.kind,.int .i64 y.srv,.slice y.ca y.cl y.cc,.int .i64 y.n] 24)=w1 at *
    generalize hL:w.heap.size=L at *
    have y0:w1.cell? ⟨L,0,none⟩=some (.int .i64 y.kind):=aAa HR1.o;have y1:w1.cell? ⟨L,1,none⟩=some (.int .i64 y.srv):=aAa HR1.o;have y2:w1.cell? ⟨L,2,none⟩=some (.slice y.ca y.cl y.cc):=aAa HR1.o;have y3:w1.cell? ⟨L,3,none⟩=some (.int .i64 y.n):=aAa HR1.o;go_wp2_with fail;refine (aAl w1 H1.o.1 H1.o.2).mono ?_;rintro e w9 ⟨rfl,hw⟩;have hw:=hw.symm;subst hw;clear hw;go_wp2_with fail;refine HIN.o.mono ?_;rintro e w2 ⟨rfl,hb⟩;have HW2:Hid (Below L w w2):=HW1.o.trans (hb.mono (by have:=aAb HR1.o;omega));clear hb HIN
    cases bb with
    | true =>
     go_wp2;go_ret;exact ⟨by rw [HN.o];rfl,by first | exact HW2.o | (rw [hL];exact HW2.o)⟩
    | false =>
     go_wp2;go_ret;exact ⟨by rw [HN.o];rfl,by first | exact HW2.o | (rw [hL];exact HW2.o)⟩
   ·have e0:((y.cl:Int) == 0)=false:=by simp;omega
    have HN:Hid (entRt y=false):=by
     show _=_;rw [HV.o,decide_eq_false h0];rfl
    clear h0;go_enter func10,ntmps10;go_upto_region 1 with fail;generalize w.alloc (.cells #[.int .i64 y.kind,.int .i64 y.srv,.slice y.ca y.cl y.cc,.int .i64 y.n] 24)=w1 at *
    generalize hL:w.heap.size=L at *
    have y0:w1.cell? ⟨L,0,none⟩=some (.int .i64 y.kind):=aAa HR1.o;have y1:w1.cell? ⟨L,1,none⟩=some (.int .i64 y.srv):=aAa HR1.o;have y2:w1.cell? ⟨L,2,none⟩=some (.slice y.ca y.cl y.cc):=aAa HR1.o;have y3:w1.cell? ⟨L,3,none⟩=some (.int .i64 y.n):=aAa HR1.o;go_wp2_with fail;refine (aAl w1 H1.o.1 H1.o.2).mono ?_;rintro e w9 ⟨rfl,hw⟩;have hw:=hw.symm;subst hw;clear hw;go_wp2;go_ret;exact ⟨by rw [HN.o];rfl,by first | exact HW1.o | (rw [hL];exact HW1.o)⟩
 ·have H1:=zH h1;have HN:Hid (entRt y=false):=by
   show _=_;unfold entRt;rw [decide_eq_false h1,Bool.false_and]
  clear h1;go_enter func10,ntmps10;go_upto_region 1 with fail;generalize w.alloc (.cells #[.int .i64 y.kind,.int .i64 y.srv,.slice y.ca y.cl y.cc,.int .i64 y.n] 24)=w1 at *
  generalize hL:w.heap.size=L at *
  have y0:w1.cell? ⟨L,0,none⟩=some (.int .i64 y.kind):=aAa HR1.o;have y1:w1.cell? ⟨L,1,none⟩=some (.int .i64 y.srv):=aAa HR1.o;have y2:w1.cell? ⟨L,2,none⟩=some (.slice y.ca y.cl y.cc):=aAa HR1.o;have y3:w1.cell? ⟨L,3,none⟩=some (.int .i64 y.n):=aAa HR1.o;go_wp2_with fail;refine (aA4 w1 H1.o).mono ?_;rintro e w9 ⟨rfl,hw⟩;have hw:=hw.symm;subst hw;clear hw;go_wp2;go_ret;exact ⟨by rw [HN.o];rfl,by first | exact HW1.o | (rw [hL];exact HW1.o)⟩
theorem aE5 {c:CmdV} (h:cmdRt c=true):(0<=c.sess/\c.sess<=7)/\(1<=c.seq/\c.seq<=2147483647)/\c.ops.length<=3/\∀ y∈c.ops,opRt y=true:=by
 unfold cmdRt opsRt at h;simp only [Bool.and_eq_true,decide_eq_true_eq,List.all_eq_true] at h;exact ⟨h.1,h.2.1,h.2.2.1,h.2.2.2⟩
theorem aCc {e:EntV} (h:entRt e=true):(0<=e.srv/\e.srv<=3)/\(1<=e.kind/\e.kind<=5)/\(0<=e.n/\e.n<=2147483647)/\e.cmds.length<=3/\∀ c∈e.cmds,cmdRt c=true:=by
 unfold entRt at h;rw [Bool.and_eq_true,decide_eq_true_eq] at h;refine ⟨h.1,?_⟩;have h2:=h.2;by_cases hk:e.kind=1
 ·rw [if_pos hk,Bool.and_eq_true,Bool.and_eq_true,decide_eq_true_eq,List.all_eq_true,beq_iff_eq] at h2;exact ⟨by omega,by omega,h2.2.1.2,h2.2.2⟩
 ·rw [if_neg hk,Bool.and_eq_true,decide_eq_true_eq] at h2;have h0:e.cmds=[]:=List.eq_nil_of_length_eq_zero h2.1;have hn:=h2.2;unfold nRt at hn;rw [h0]
  split at hn
  ·simp only [decide_eq_true_eq] at hn;exact ⟨by omega,hn,by simp,by simp⟩
  ·split at hn
   ·simp only [decide_eq_true_eq] at hn;exact ⟨by omega,by omega,by simp,by simp⟩
   ·split at hn
    ·simp only [decide_eq_true_eq] at hn;exact ⟨by omega,by omega,by simp,by simp⟩
    ·cases hn
noncomputable def rdS (xs:List Nat):Sch:=(rp_ex xs).choose
def DsR (B:Nat) (s:Sch) (xs:List Nat) (e:Ending) (w':World):Prop:=(¬ (s.ok=true/\encS s=xs)/\e=.returned (.tuple #[.agg #[.string ⟨#[]⟩,.slice none 0 0,.slice none 0 0],.int .i64 11])) \/
 (s.ok=true/\encS s=xs/\∃ ca cc xa xc,e=.returned (.tuple #[.agg #[.string s.nm,.slice ca s.cs.length cc,.slice xa s.xs.length xc],.int .i64 0])/\SC w' ca s.cs.length cc xa s.xs.length xc s/\(∀ b o,ca=some ⟨b,o,none⟩->B<=b)/\∀ b o,xa=some ⟨b,o,none⟩->B<=b)
theorem decodeS_fn (hb:BS w a n c xs) :
  Calls prog 103 #[.slice a n c] w fun e w'=>DsR w.heap.size (rdS xs) xs e w'/\Below w.heap.size w w':=by
 obtain ⟨P0,PC,PX,hrp⟩:=(rp_ex xs).choose_spec;obtain ⟨s,hss⟩:∃ s,rdS xs=s:=⟨_,rfl⟩;have hrp:RP xs s P0 PC PX:=by rw [<-hss];exact hrp
 rw [hss];clear hss;unfold DsR;obtain ⟨N,hN⟩:∃ N,w.heap.size=N:=⟨_,rfl⟩;obtain ⟨w1,hw1⟩:∃ w1,w1=(w.alloc (.cells #[.string ⟨#[]⟩,.slice none 0 0,.slice none 0 0] 71)).alloc (.cells #[.slice a n c,.int .i64 0] 168):=⟨_,rfl⟩;have HZ1:Hid (w1.heap[N]?=some (.cells #[.string ⟨#[]⟩,.slice none 0 0,.slice none 0 0] 71 (0,0))):=by show _=_;rw [hw1,<-hN];exact heap_alloc2_old w _ _
 have HR1:Hid (RDR (N+1) a n c 0 w1):=by show _=_;rw [hw1,<-hN];exact heap_alloc2_new w _ _
 have hb1:Below w.heap.size w w1:=by rw [hw1];exact (aAc w _).trans ((aAc _ _).mono (aAc w _).size)
 have HB1:=zH (hb.later hb1 (nR _));have HW1:Hid (Below N w w1):=by show Below N w w1;rw [<-hN];exact hb1
 have HAN:Hid (∀ b o,a=some ⟨b,o,none⟩->0<n->b<N):=by
  intro b o q hpos;have:=aBe (hb.hcell _ q 0 hpos);rw [<-hN];simpa [Addr.add] using this
 have HSC:=zH (rschema_any HR1.o HB1.o hrp fun b o q hp=>by have:=HAN.o b o q hp;omega);have HE1:=zH hw1;rw [hN];clear hb hrp hb1 hw1;go_enter func103,ntmps103;go_upto_region 2 with fail;rw [<-HE1.o]
 try simp only [hN]
 go_wp2_with fail;refine HSC.o.mono ?_;rintro e w2 ⟨ca,cc,xa,xc,rfl,hsc,hf,hca,hxa⟩;have HNB:Hid ((∀ b o,ca=some ⟨b,o,none⟩->N<b)/\∀ b o,xa=some ⟨b,o,none⟩->N<b):=⟨fun b o q=>by have:=hca b o q;have:=aAb HR1.o;omega,fun b o q=>by have:=hxa b o q;have:=aAb HR1.o;omega⟩;clear hca hxa;have hbx:=aAc w2 (.cells #[.string s.nm,.slice ca s.cs.length cc,.slice xa s.xs.length xc] 71);have HV3:Hid ((w2.alloc (.cells #[.string s.nm,.slice ca s.cs.length cc,.slice xa s.xs.length xc] 71)).heap[w2.heap.size]?=some (.cells #[.string s.nm,.slice ca s.cs.length cc,.slice xa s.xs.length xc] 71 (0,0))):=boxed w2 _;have HSC3:=zH (hsc.later hbx);have HZ3:Hid ((w2.alloc (.cells #[.string s.nm,.slice ca s.cs.length cc,.slice xa s.xs.length xc] 71)).heap[N]?=some (.cells #[.string ⟨#[]⟩,.slice none 0 0,.slice none 0 0] 71 (0,0))):=(hbx.block N (by have:=aAb HZ1.o;have:=hf.bel.size;omega)).trans ((hf.oth N (aAb HZ1.o) (by omega)).trans HZ1.o);have HB3:=zH ((aAj HB1.o hf fun b o q hp=>by have:=HAN.o b o q hp;omega).later hbx (nR _));have HW3:Hid (Below N w (w2.alloc (.cells #[.string s.nm,.slice ca s.cs.length cc,.slice xa s.xs.length xc] 71))):=HW1.o.trans ((hf.bel.mono (by omega)).trans (hbx.mono (by have:=aAb HZ1.o;have:=hf.bel.size;omega)));clear hsc hf hbx HSC;go_upto_region 3 with fail;generalize (w2.alloc (.cells #[.string s.nm,.slice ca s.cs.length cc,.slice xa s.xs.length xc] 71))=w3 at *
 generalize w2.heap.size=V at *
 have y0:w3.cell? ⟨V,0,none⟩=some (.string s.nm):=aAa HV3.o;have y1:w3.cell? ⟨V,1,none⟩=some (.slice ca s.cs.length cc):=aAa HV3.o;have y2:w3.cell? ⟨V,2,none⟩=some (.slice xa s.xs.length xc):=aAa HV3.o;have HEN:=zH (encode5 HSC3.o);go_wp2_with fail;refine HEN.o.mono ?_;rintro e w4 ⟨a4,n4,c4,rfl,hx4,hb4⟩;have HX4:=zH hx4;have HB4:=zH (HB3.o.later hb4 (nR _));have HV4:=zH ((hb4.block V (aAb HV3.o)).trans HV3.o);have HZ4:=zH ((hb4.block N (aAb HZ3.o)).trans HZ3.o);have HSC4:=zH (HSC3.o.later hb4);have HW4:Hid (Below N w w4):=HW3.o.trans (hb4.mono (by have:=aAb HZ3.o;omega));clear hx4 hb4 HEN y0 y1 y2
 cases hok:s.ok with
 | false =>
  have HBAD:Hid (¬ (s.ok=true/\encS s=xs)):=by show ¬ _;rw [hok];simp
  have he:s.err=61:=by unfold Sch.err;rw [hok];rfl
  rw [he];clear he hok;have t0:w4.cell? ⟨N,0,none⟩=some (.string ⟨#[]⟩):=aAa HZ4.o;have tf0:w4.frozen? ⟨N,0,none⟩=false:=aAg HZ4.o;have t1:w4.cell? ⟨N,1,none⟩=some (.slice none 0 0):=aAa HZ4.o;have tf1:w4.frozen? ⟨N,1,none⟩=false:=aAg HZ4.o;have t2:w4.cell? ⟨N,2,none⟩=some (.slice none 0 0):=aAa HZ4.o;have tf2:w4.frozen? ⟨N,2,none⟩=false:=aAg HZ4.o;go_wp2;(try simp only [Exit.inBlock,Exit.then]);refine bodyPost_ret (aDi results103 _ _ N _ _ _ _ _ rfl (set3 HZ4.o)) rfl ?_;exact ⟨Or.inl ⟨HBAD.o,rfl⟩,((HW4.o.setCell (p:=⟨N,0,none⟩) (nR _) _).setCell (p:=⟨N,1,none⟩) (nR _) _).setCell (p:=⟨N,2,none⟩) (nR _) _⟩
 | true =>
  have he:s.err=0:=by unfold Sch.err;rw [hok];rfl
  have HOKT:=zH hok;have HEQ:=zH (aBn a4 a n4 c4 n c (encS s) xs w4 (HX4.o hok) HB4.o);rw [he];clear he hok;go_wp2_with fail;refine HEQ.o.mono ?_;rintro e w9 ⟨rfl,hw⟩;have hw:=hw.symm;subst hw;clear hw HEQ;by_cases hq:encS s=xs
  ·have HEQS:=zH hq;rw [decide_eq_true hq];clear hq;have z0:w4.cell? ⟨V,0,none⟩=some (.string s.nm):=aAa HV4.o;have z1:w4.cell? ⟨V,1,none⟩=some (.slice ca s.cs.length cc):=aAa HV4.o;have z2:w4.cell? ⟨V,2,none⟩=some (.slice xa s.xs.length xc):=aAa HV4.o;have t0:w4.cell? ⟨N,0,none⟩=some (.string ⟨#[]⟩):=aAa HZ4.o;have tf0:w4.frozen? ⟨N,0,none⟩=false:=aAg HZ4.o;have t1:w4.cell? ⟨N,1,none⟩=some (.slice none 0 0):=aAa HZ4.o;have tf1:w4.frozen? ⟨N,1,none⟩=false:=aAg HZ4.o;have t2:w4.cell? ⟨N,2,none⟩=some (.slice none 0 0):=aAa HZ4.o;have tf2:w4.frozen? ⟨N,2,none⟩=false:=aAg HZ4.o;go_wp2;(try simp only [Exit.inBlock,Exit.then]);refine bodyPost_ret (aDi results103 _ _ N _ _ _ _ _ rfl (set3 HZ4.o)) rfl ?_;have hsz:w4.heap.size<=(((w4.setCell ⟨N,0,none⟩ (.string s.nm)).setCell ⟨N,1,none⟩ (.slice ca s.cs.length cc)).setCell ⟨N,2,none⟩ (.slice xa s.xs.length xc)).heap.size:=((((Below.refl 0 w4).setCell (p:=⟨N,0,none⟩) (Nat.zero_le _) _).setCell (p:=⟨N,1,none⟩) (Nat.zero_le _) _).setCell (p:=⟨N,2,none⟩) (Nat.zero_le _) _).size;have hoth:∀ b,b≠N->(((w4.setCell ⟨N,0,none⟩ (.string s.nm)).setCell ⟨N,1,none⟩ (.slice ca s.cs.length cc)).setCell ⟨N,2,none⟩ (.slice xa s.xs.length xc)).heap[b]?=w4.heap[b]?:=fun b hb=>by
    rw [heap_setCell_other _ _ _ _ (show b≠N from hb),heap_setCell_other _ _ _ _ (show b≠N from hb),heap_setCell_other _ _ _ _ (show b≠N from hb)]
   exact ⟨Or.inr ⟨HOKT.o,HEQS.o,ca,cc,xa,xc,rfl,⟨HSC4.o.c.blk hsz fun b o e=>hoth b (by have:=HNB.o.1 b o e;omega),HSC4.o.x.blk hsz fun b o e=>hoth b (by have:=HNB.o.2 b o e;omega)⟩,fun b o q=>Nat.le_of_lt (HNB.o.1 b o q),fun b o q=>Nat.le_of_lt (HNB.o.2 b o q)⟩,((HW4.o.setCell (p:=⟨N,0,none⟩) (nR _) _).setCell (p:=⟨N,1,none⟩) (nR _) _).setCell (p:=⟨N,2,none⟩) (nR _) _⟩
  ·rw [decide_eq_false hq];have HBAD:Hid (¬ (s.ok=true/\encS s=xs)):=fun q=>hq q.2
   clear hq;have t0:w4.cell? ⟨N,0,none⟩=some (.string ⟨#[]⟩):=aAa HZ4.o;have tf0:w4.frozen? ⟨N,0,none⟩=false:=aAg HZ4.o;have t1:w4.cell? ⟨N,1,none⟩=some (.slice none 0 0):=aAa HZ4.o;have tf1:w4.frozen? ⟨N,1,none⟩=false:=aAg HZ4.o;have t2:w4.cell? ⟨N,2,none⟩=some (.slice none 0 0):=aAa HZ4.o;have tf2:w4.frozen? ⟨N,2,none⟩=false:=aAg HZ4.o;go_wp2;(try simp only [Exit.inBlock,Exit.then]);refine bodyPost_ret (aDi results103 _ _ N _ _ _ _ _ rfl (set3 HZ4.o)) rfl ?_;exact ⟨Or.inl ⟨HBAD.o,rfl⟩,((HW4.o.setCell (p:=⟨N,0,none⟩) (nR _) _).setCell (p:=⟨N,1,none⟩) (nR _) _).setCell (p:=⟨N,2,none⟩) (nR _) _⟩
open Classical in
noncomputable def dS (xs:List Nat):Sch:=if (rdS xs).ok=true/\encS (rdS xs)=xs then rdS xs else ⟨⟨#[]⟩,[],[]⟩
theorem dS_small (xs:List Nat):(dS xs).nm.size<=8/\(∀ c∈(dS xs).cs,ColP c)/\∀ x∈(dS xs).xs,IdxP x:=by
 unfold dS;split
 ·rename_i h
  obtain ⟨h1,h2,h3,h4,h5⟩:=Sch.parts h.1;refine ⟨h1,fun c hc=>?_,fun x hx=>?_⟩
  ·obtain ⟨j,hj⟩:=List.mem_iff_getElem?.1 hc;have:=h4 j c hj;exact ⟨by have:=this.nm;omega,⟨by have:=this.k0;omega,by have:=this.k1;omega⟩,by have:=this.m0;omega,by have:=this.m1;omega⟩
  ·obtain ⟨j,hj⟩:=List.mem_iff_getElem?.1 hx;have:=h5 j x hj;exact ⟨by omega,by omega⟩
 ·exact ⟨by decide,by simp,by simp⟩
theorem eschema_any {p:Int} (h:EDR rb a n c p w) (hb:BS w a n c xs) :
  Calls prog 84 #[.pointer (some ⟨rb,0,none⟩)] w fun e w'=>∃ ca cl cc xa xl xc,e=.returned (.agg #[.string (dS (rbS xs p 120)).nm,.slice ca cl cc,.slice xa xl xc])/\SC w' ca cl cc xa xl xc (dS (rbS xs p 120))/\(∀ b o,ca=some ⟨b,o,none⟩->0<cl->w.heap.size<=b)/\(∀ b o,xa=some ⟨b,o,none⟩->0<xl->w.heap.size<=b)/\EDR rb a n c (rbP xs p 120) w'/\RdF rb w w':=by
 have HRB:Hid (rb<w.heap.size):=aAb h;have hbz:=aAc w (.cells #[.string ⟨#[]⟩,.slice none 0 0,.slice none 0 0] 71);have HZ1:Hid ((w.alloc (.cells #[.string ⟨#[]⟩,.slice none 0 0,.slice none 0 0] 71)).heap[w.heap.size]?=some (.cells #[.string ⟨#[]⟩,.slice none 0 0,.slice none 0 0] 71 (0,0))):=boxed w _;have HF1:Hid (RdF rb w (w.alloc (.cells #[.string ⟨#[]⟩,.slice none 0 0,.slice none 0 0] 71))):=RdF.of hbz (by have:=HRB.o;omega);have HP:=zH (aEx (p:=p) ((hbz.block rb (aAb h)).trans h) (hb.later hbz (nR _)));obtain ⟨ys,hys⟩:∃ r,rbS xs p 120=r:=⟨_,rfl⟩;obtain ⟨rp,hrp⟩:∃ r:Nat,rbP xs p 120=r:=⟨_,rfl⟩;rw [hys,hrp] at HP;rw [hys,hrp];obtain ⟨S,hS⟩:∃ S,dS ys=S:=⟨_,rfl⟩;rw [hS];have HSS:=zH hS;clear h hb hys hrp hbz hS;go_enter func84,ntmps84;go_upto_region 1 with fail;generalize w.alloc (.cells #[.string ⟨#[]⟩,.slice none 0 0,.slice none 0 0] 71)=w1 at *
 generalize hN:w.heap.size=N at *
 go_wp2_with fail;refine HP.o.mono ?_;rintro e w2 ⟨va,vn,vc,rfl,hb2,_,hr2,hf2⟩;have HF2:=zH (HF1.o.trans hf2);have HR2:=zH hr2;have HZ2:=zH ((hf2.oth N (aAb HZ1.o) (by have:=HRB.o;omega)).trans HZ1.o);have HDS:=zH (decodeS_fn hb2);clear hb2 hr2 hf2 HP;go_wp2_with fail;refine HDS.o.mono ?_;rintro e w3 ⟨hd,hb3⟩;have HF3:Hid (RdF rb w w3):=HF2.o.trans (RdF.of hb3 (by have:=aAb HR2.o;omega));have HR3:Hid (EDR rb a n c (rp:Int) w3):=(hb3.block rb (aAb HR2.o)).trans HR2.o;have HZ3:=zH ((hb3.block N (aAb HZ2.o)).trans HZ2.o);have HNN:Hid (N<w2.heap.size):=aAb HZ2.o;have hs:∃ ca cl cc xa xl xc z,e=.returned (.tuple #[.agg #[.string (dS ys).nm,.slice ca cl cc,.slice xa xl xc],.int .i64 z])/\SC w3 ca cl cc xa xl xc (dS ys)/\(∀ b o,ca=some ⟨b,o,none⟩->0<cl->w2.heap.size<=b)/\∀ b o,xa=some ⟨b,o,none⟩->0<xl->w2.heap.size<=b:=by
  unfold dS;rcases hd with ⟨h1,h2⟩ | ⟨h1,h2,ca,cc,xa,xc,h3,h4,h5,h6⟩
  ·rw [if_neg h1];exact ⟨none,0,0,none,0,0,11,h2,⟨SV.nil _ _ _,SV.nil _ _ _⟩,(fun b o q=>by cases q),fun b o q=>by cases q⟩
  ·rw [if_pos ⟨h1,h2⟩];exact ⟨ca,_,cc,xa,_,xc,0,h3,h4,fun b o q _=>h5 b o q,fun b o q _=>h6 b o q⟩
 rw [HSS.o] at hs;obtain ⟨ca,cl,cc,xa,xl,xc,z,rfl,hsc,hca,hxa⟩:=hs;have HSC3:=zH hsc;have HCA:=zH hca;have HXA:=zH hxa;clear hd hb3 hsc hca hxa HDS;have hb4:=aAc w3 (.cells #[.string S.nm,.slice ca cl cc,.slice xa xl xc] 71);have HS4:Hid ((w3.alloc (.cells #[.string S.nm,.slice ca cl cc,.slice xa xl xc] 71)).heap[w3.heap.size]?=some (.cells #[.string S.nm,.slice ca cl cc,.slice xa xl xc] 71 (0,0))):=boxed w3 _;have HF4:Hid (RdF rb w (w3.alloc (.cells #[.string S.nm,.slice ca cl cc,.slice xa xl xc] 71))):=HF3.o.trans (RdF.of hb4 (by have:=aAb HR3.o;omega));have HR4:Hid (EDR rb a n c (rp:Int) (w3.alloc (.cells #[.string S.nm,.slice ca cl cc,.slice xa xl xc] 71))):=(hb4.block rb (aAb HR3.o)).trans HR3.o;have HZ4:=zH ((hb4.block N (aAb HZ3.o)).trans HZ3.o);have HSC4:=zH (HSC3.o.later hb4);clear hb4;go_upto_region 2 with fail;generalize w3.alloc (.cells #[.string S.nm,.slice ca cl cc,.slice xa xl xc] 71)=w4 at *
 generalize w3.heap.size=V at *
 have y0:w4.cell? ⟨V,0,none⟩=some (.string S.nm):=aAa HS4.o;have y1:w4.cell? ⟨V,1,none⟩=some (.slice ca cl cc):=aAa HS4.o;have y2:w4.cell? ⟨V,2,none⟩=some (.slice xa xl xc):=aAa HS4.o;have t0:w4.cell? ⟨N,0,none⟩=some (.string ⟨#[]⟩):=aAa HZ4.o;have tf0:w4.frozen? ⟨N,0,none⟩=false:=aAg HZ4.o;have t1:w4.cell? ⟨N,1,none⟩=some (.slice none 0 0):=aAa HZ4.o;have tf1:w4.frozen? ⟨N,1,none⟩=false:=aAg HZ4.o;have t2:w4.cell? ⟨N,2,none⟩=some (.slice none 0 0):=aAa HZ4.o;have tf2:w4.frozen? ⟨N,2,none⟩=false:=aAg HZ4.o;go_wp2;(try simp only [Exit.inBlock,Exit.then]);refine bodyPost_ret (results_cell_row results84 _ _ N _ _ _ _ rfl (set3 HZ4.o) underlying71 rfl aF0) rfl ?_;have hrb:=HRB.o;have hnn:=HNN.o;have hf2:N<=w2.heap.size:=by omega
 have hsz:w4.heap.size<=(((w4.setCell ⟨N,0,none⟩ (.string S.nm)).setCell ⟨N,1,none⟩ (.slice ca cl cc)).setCell ⟨N,2,none⟩ (.slice xa xl xc)).heap.size:=((((Below.refl 0 w4).setCell (p:=⟨N,0,none⟩) (Nat.zero_le _) _).setCell (p:=⟨N,1,none⟩) (Nat.zero_le _) _).setCell (p:=⟨N,2,none⟩) (Nat.zero_le _) _).size;have hstay:∀ {α:Type} {f:α->List Value} {k:Nat} {u:Option Addr} {m d:Nat} {l:List α},SV f k w4 u m d l->(∀ b o,u=some ⟨b,o,none⟩->0<m->w2.heap.size<=b)->SV f k (((w4.setCell ⟨N,0,none⟩ (.string S.nm)).setCell ⟨N,1,none⟩ (.slice ca cl cc)).setCell ⟨N,2,none⟩ (.slice xa xl xc)) u m d l:=by
  intro α f k u m d l hsv hu;refine ⟨hsv.hl,hsv.hc,hsv.hm,hsv.hn,fun h0=>?_⟩;obtain ⟨b,o,e,hlt,hc⟩:=hsv.pl h0;have hge:=hu b o e h0;exact ⟨b,o,e,Nat.lt_of_lt_of_le hlt hsz,fun i x hx t ht=>(World.cell?_of_block (aA6 (show b≠N by omega))).trans (hc i x hx t ht)⟩
 refine ⟨ca,cl,cc,xa,xl,xc,rfl,⟨hstay HSC4.o.c HCA.o,hstay HSC4.o.x HXA.o⟩,fun b o q h0=>by have:=HCA.o b o q h0;omega,fun b o q h0=>by have:=HXA.o b o q h0;omega,?_,?_⟩
 ·exact (aA6 (show rb≠N by omega)).trans HR4.o
 ·exact ((HF4.o.put (b:=N) (by omega) (by omega) 0 _).put (b:=N) (by omega) (by omega) 1 _).put (b:=N) (by omega) (by omega) 2 _
theorem aCt {p:Int} (h:EDR rb a n c p w) (hb:BS w a n c xs) :
  Calls prog 85 #[.pointer (some ⟨rb,0,none⟩)] w fun e w'=>e=.returned (.string (str (rbS xs p 120)))/\EDR rb a n c (rbP xs p 120) w'/\RdF rb w w':=by
 have HP:=zH (aEx h hb);obtain ⟨ys,hys⟩:∃ r,rbS xs p 120=r:=⟨_,rfl⟩;obtain ⟨rp,hrp⟩:∃ r:Nat,rbP xs p 120=r:=⟨_,rfl⟩;rw [hys,hrp] at HP;rw [hys,hrp];clear h hb hys hrp;go_enter func85,ntmps85;go_wp2_with fail;refine HP.o.mono ?_;rintro e w1 ⟨va,vn,vc,rfl,hb1,_,hr1,hf1⟩;have HR1:=zH hr1;have HF1:=zH hf1;have hcv:(convert 26 9 (.slice va vn vc)).run prog w1=.ok (.string (str ys)) w1:=run_text hb1;clear hb1 hr1 hf1 HP;go_wp2;go_ret;exact ⟨rfl,HR1.o,HF1.o⟩
theorem aFq {p:Int}:∀ x∈dR (rbS xs p 120),x.2.2.size<=480:=by
 intro x hx;unfold dR at hx
 cases ho:drow (rbS xs p 120) with
 | none=>rw [ho] at hx;cases hx
 | some l =>
  rw [ho] at hx;have hx:x∈l:=hx;obtain ⟨h1,h2⟩:=drow_some ho;have h3:=rbS_120 xs p;rw [<-h2] at h3;unfold rowB at h3;rw [lA] at h3;have h4:=kb_mem hx;have:=aEl (m:=120) (aFt h1 x hx).1 (by omega);omega
theorem dR_len (xs:List Nat) (p:Int):(dR (rbS xs p 120)).length<=1000:=by
 unfold dR
 cases ho:drow (rbS xs p 120) with
 | none=>simp
 | some l =>
  have:=(aDu (drow_some ho).1).1;show l.length<=1000;omega
theorem rdf_app {N:Nat} (h:RdF rb w w1) (hb:Below N w1 w2) (hk:∀ i,i<w1.heap.size->v.ownBlock≠some i->w2.heap[i]?=w1.heap[i]?) (hN:rb<=N) (hv:∀ i,v.ownBlock=some i->w.heap.size<=i):RdF rb w w2 :=
 ⟨h.bel.trans (hb.mono hN),fun i hi hn=>(hk i (by have:=h.bel.size;omega) (fun e=>by have:=hv i e;omega)).trans (h.oth i hi hn)⟩
theorem hd_at:∃ t,l++[((0,0,⟨#[]⟩):Val)]=l.headD (0,0,⟨#[]⟩)::t:=by
 cases l with
 | nil=>exact ⟨[],rfl⟩
 | cons x l=>exact ⟨l++[(0,0,⟨#[]⟩)],rfl⟩
theorem aC8 {p:Int} (h:EDR rb a n c p w) (hb:BS w a n c xs) :
  Calls prog 86 #[.pointer (some ⟨rb,0,none⟩)] w fun e w'=>∃ v:Val,v=(dR (rbS xs p 120)).headD (0,0,⟨#[]⟩)/\e=.returned (.agg #[.int .i64 v.1,.int .i64 v.2.1,.string v.2.2])/\ValP v/\EDR rb a n c (rbP xs p 120) w'/\RdF rb w w':=by
 have HRB:Hid (rb<w.heap.size):=aAb h;have hbz:=aAc w (.cells #[.int .i64 0,.int .i64 0,.string ⟨#[]⟩] 73);have HZ1:Hid ((w.alloc (.cells #[.int .i64 0,.int .i64 0,.string ⟨#[]⟩] 73)).heap[w.heap.size]?=some (.cells #[.int .i64 0,.int .i64 0,.string ⟨#[]⟩] 73 (0,0))):=boxed w _;have HF1:Hid (RdF rb w (w.alloc (.cells #[.int .i64 0,.int .i64 0,.string ⟨#[]⟩] 73))):=RdF.of hbz (by have:=HRB.o;omega);have HP:=zH (aEk (p:=p) ((hbz.block rb (aAb h)).trans h) (hb.later hbz (nR _)));obtain ⟨V,hV⟩:∃ V,V=(dR (rbS xs p 120)).headD (0,0,⟨#[]⟩):=⟨_,rfl⟩;have HSZ:=zH (aFq (xs:=xs) (p:=p));obtain ⟨L,hL⟩:∃ r,dR (rbS xs p 120)=r:=⟨_,rfl⟩;obtain ⟨rp,hrp⟩:∃ r:Nat,rbP xs p 120=r:=⟨_,rfl⟩;have hl3:L.length<=1000:=by rw [<-hL];exact dR_len xs p
 rw [hL,hrp] at HP;rw [hL] at hV HSZ;rw [hL,hrp];have HV:=zH hV;have HL3:=zH hl3;clear h hb hL hrp hbz hV hl3;go_enter func86,ntmps86;go_upto_region 1 with fail;generalize w.alloc (.cells #[.int .i64 0,.int .i64 0,.string ⟨#[]⟩] 73)=w1 at *
 generalize hN:w.heap.size=N at *
 go_wp2_with fail;refine HP.o.mono ?_;rintro e w2 ⟨va,vc,rfl,_,hok,hown,hr2,hf2⟩;have HVP:Hid (ValP V):=by
  show ValP V;rw [HV.o];have h1:=HSZ.o
  cases hl:L with
  | nil=>exact ⟨⟨by decide,by decide⟩,by decide⟩
  | cons x l =>
   rw [hl] at h1 hok;exact ⟨(hok x (by simp)).1,by have:=h1 x (by simp);show x.2.2.size<=_;omega⟩
 have HF2:=zH (HF1.o.trans hf2);have HR2:=zH hr2;have HZ2:=zH ((hf2.oth N (aAb HZ1.o) (by have:=HRB.o;omega)).trans HZ1.o);have HN1:Hid (N<w1.heap.size):=aAb HZ1.o;have HS12:Hid (w1.heap.size<=w2.heap.size):=hf2.bel.size;have hb3:=aAc w2 (.cells #[.int .i64 0,.int .i64 0,.string ⟨#[]⟩] 73);have HO3:=zH (aAm hown hb3);have HG3:Hid (SV fV 3 (w2.alloc (.cells #[.int .i64 0,.int .i64 0,.string ⟨#[]⟩] 73)) (some ⟨w2.heap.size,0,none⟩) 1 1 [((0,0,⟨#[]⟩):Val)]):=SV.whole aDa rfl (by omega) (boxed w2 _);have HR3:Hid (EDR rb a n c (rp:Int) (w2.alloc (.cells #[.int .i64 0,.int .i64 0,.string ⟨#[]⟩] 73))):=(hb3.block rb (aAb HR2.o)).trans HR2.o;have HZ3:=zH ((hb3.block N (aAb HZ2.o)).trans HZ2.o);have HF3:Hid (RdF rb w (w2.alloc (.cells #[.int .i64 0,.int .i64 0,.string ⟨#[]⟩] 73))):=HF2.o.trans (RdF.of hb3 (by have:=aAb HR2.o;omega));have HB3:Hid (w1.heap.size<=(w2.alloc (.cells #[.int .i64 0,.int .i64 0,.string ⟨#[]⟩] 73)).heap.size):=nT HS12.o hb3.size;clear hb3 hown hr2 hf2 HP hok;go_wp2_with (at_builtin;refine aA8 aDa (by omega) fV_one underlying62 info_val rfl (by omega) rfl (.tmp 4) (.tmp 6) rfl (B1:=w1.heap.size) (F:=L) (G:=[((0,0,⟨#[]⟩):Val)]) rfl rfl HO3.o HG3.o HB3.o (by have:=HL3.o;omega) ?_;intro v4 w4 ho4 hb4 hk4;obtain ⟨tl,htl⟩:=hd_at (l:=L);obtain ⟨a4,c4,e4,hsv4⟩:=aAo aDa ho4 rfl;have hne4:∀ i,v4.ownBlock=some i->w1.heap.size<=i:=fun i hi=>(ho4.lt i hi).1;have HO4:=zH ho4;rw [<-HV.o] at htl;rw [htl] at hsv4;obtain ⟨b4,o4,ea4,hb4lt,hc4⟩:=hsv4.pl (by simp);subst e4;subst ea4;have y0:w4.cell? ⟨b4,o4,none⟩=some (.int .i64 V.1):=hc4 0 V rfl 0 (by omega);have y1:w4.cell? ⟨b4,o4+1,none⟩=some (.int .i64 V.2.1):=hc4 0 V rfl 1 (by omega);have y2:w4.cell? ⟨b4,o4+2,none⟩=some (.string V.2.2):=hc4 0 V rfl 2 (by omega);have xl:(0:Int)<((L++[((0,0,⟨#[]⟩):Val)]).length:Int):=(by rw [htl,List.length_cons];omega);have HZ4:=zH ((hk4 N (by have:=aAb HZ3.o;omega) (fun e=>by have:=(HO3.o.lt N e).1;have:=HN1.o;omega)).trans HZ3.o);have HR4:=zH ((hk4 rb (by have:=aAb HR3.o;omega) (fun e=>by have:=(HO3.o.lt rb e).1;have:=HN1.o;have:=HRB.o;omega)).trans HR3.o);have HF4:Hid (RdF rb w w4):=rdf_app HF3.o hb4 hk4 (by have:=HN1.o;have:=HRB.o;omega) (fun i hi=>by have:=(HO3.o.lt i hi).1;have:=HN1.o;omega);have t0:w4.cell? ⟨N,0,none⟩=some (.int .i64 0):=aAa HZ4.o;have tf0:w4.frozen? ⟨N,0,none⟩=false:=aAg HZ4.o;have t1:w4.cell? ⟨N,1,none⟩=some (.int .i64 0):=aAa HZ4.o;have tf1:w4.frozen? ⟨N,1,none⟩=false:=aAg HZ4.o;have t2:w4.cell? ⟨N,2,none⟩=some (.string ⟨#[]⟩):=aAa HZ4.o;have tf2:w4.frozen? ⟨N,2,none⟩=false:=aAg HZ4.o);(try simp only [Exit.inBlock,Exit.then]);refine bodyPost_ret (results_cell_row results86 _ _ N _ _ _ _ rfl (set3 HZ4.o) underlying73 rfl (by kernel_rfl)) rfl ?_;have hrb:=HRB.o;have hnn:=HN1.o;refine ⟨V,HV.o,rfl,HVP.o,?_,?_⟩
 ·exact (aA6 (show rb≠N by omega)).trans HR4.o
 ·exact ((HF4.o.put (b:=N) (by omega) (by omega) 0 _).put (b:=N) (by omega) (by omega) 1 _).put (b:=N) (by omega) (by omega) 2 _
end Go.Proofs.YtmmcebojbbdfmaaGreat
