import Derived.Test.YtibfkdjbnaeneaaGreatZ45
set_option maxRecDepth 100000
set_option maxHeartbeats 16000000
set_option linter.unusedVariables false
namespace Go.Proofs.YtibfkdjbnaeneaaGreat
open Go.RowKit
theorem aAz (w:World) (o1 o2:Obj):Below w.heap.size w ((w.alloc o1).alloc o2):=(aAn [o1,o2] w).1
theorem lgr_w {tl tr lg at_ n c:Nat} {sl:Bool} {va:Option Addr} (w:World) (h:at_<256) :
  Calls Tryz.prog 34 #[.agg #[.int .i64 (tl:Int),.int .i64 (tr:Int),.bool false],.agg #[.int .i64 1,.int .i64 (lg:Int),.int .i64 (at_:Int),.slice va n c]] w fun e w'=>e=.returned (.int .i64 0)∧Below w.heap.size w w':=by
 have i1:¬ (256:Int)≤(at_:Int):=by omega
 have HBX:=hide (aAz w (.cells #[.int .i64 (tl:Int),.int .i64 (tr:Int),.bool false] 58) (.cells #[.int .i64 1,.int .i64 (lg:Int),.int .i64 (at_:Int),.slice va n c] 35))
 go_enter Tryz.func34,Tryz.ntmps34
 go_wp2
 go_ret
 exact ⟨rfl,HBX.out⟩
theorem lgr_wm {tl tr lg at_ n c:Nat} {sl:Bool} {va:Option Addr} (w:World) (h:256≤at_) :
  Calls Tryz.prog 34 #[.agg #[.int .i64 (tl:Int),.int .i64 (tr:Int),.bool false],.agg #[.int .i64 1,.int .i64 (lg:Int),.int .i64 (at_:Int),.slice va n c]] w fun e w'=>e=.returned (.int .i64 2)∧Below w.heap.size w w':=by
 have i1:(256:Int)≤(at_:Int):=by omega
 have HBX:=hide (aAz w (.cells #[.int .i64 (tl:Int),.int .i64 (tr:Int),.bool false] 58) (.cells #[.int .i64 1,.int .i64 (lg:Int),.int .i64 (at_:Int),.slice va n c] 35))
 go_enter Tryz.func34,Tryz.ntmps34
 go_wp2
 go_ret
 exact ⟨rfl,HBX.out⟩
theorem lgr_ws {tl tr lg at_ n c:Nat} {sl:Bool} {va:Option Addr} (w:World)  :
  Calls Tryz.prog 34 #[.agg #[.int .i64 (tl:Int),.int .i64 (tr:Int),.bool true],.agg #[.int .i64 1,.int .i64 (lg:Int),.int .i64 (at_:Int),.slice va n c]] w fun e w'=>e=.returned (.int .i64 30)∧Below w.heap.size w w':=by
 have HBX:=hide (aAz w (.cells #[.int .i64 (tl:Int),.int .i64 (tr:Int),.bool true] 58) (.cells #[.int .i64 1,.int .i64 (lg:Int),.int .i64 (at_:Int),.slice va n c] 35))
 go_enter Tryz.func34,Tryz.ntmps34
 go_wp2
 go_ret
 exact ⟨rfl,HBX.out⟩
theorem lgr_f {tl tr lg at_ n c:Nat} {sl:Bool} {va:Option Addr} (w:World) (h:at_<256) :
  Calls Tryz.prog 34 #[.agg #[.int .i64 (tl:Int),.int .i64 (tr:Int),.bool true],.agg #[.int .i64 2,.int .i64 (lg:Int),.int .i64 (at_:Int),.slice va n c]] w fun e w'=>e=.returned (.int .i64 0)∧Below w.heap.size w w':=by
 have i1:¬ (256:Int)≤(at_:Int):=by omega
 have HBX:=hide (aAz w (.cells #[.int .i64 (tl:Int),.int .i64 (tr:Int),.bool true] 58) (.cells #[.int .i64 2,.int .i64 (lg:Int),.int .i64 (at_:Int),.slice va n c] 35))
 go_enter Tryz.func34,Tryz.ntmps34
 go_wp2
 go_ret
 exact ⟨rfl,HBX.out⟩
theorem lgr_s {tl tr lg at_ n c:Nat} {sl:Bool} {va:Option Addr} (w:World)  :
  Calls Tryz.prog 34 #[.agg #[.int .i64 (tl:Int),.int .i64 (tr:Int),.bool sl],.agg #[.int .i64 3,.int .i64 (lg:Int),.int .i64 (at_:Int),.slice va n c]] w fun e w'=>e=.returned (.int .i64 0)∧Below w.heap.size w w':=by
 have HBX:=hide (aAz w (.cells #[.int .i64 (tl:Int),.int .i64 (tr:Int),.bool sl] 58) (.cells #[.int .i64 3,.int .i64 (lg:Int),.int .i64 (at_:Int),.slice va n c] 35))
 go_enter Tryz.func34,Tryz.ntmps34
 go_wp2
 go_ret
 exact ⟨rfl,HBX.out⟩
theorem lgr_r {tl tr lg at_ n c:Nat} {sl:Bool} {va:Option Addr} (w:World) (h:tr≤at_) (h2:at_<tl) :
  Calls Tryz.prog 34 #[.agg #[.int .i64 (tl:Int),.int .i64 (tr:Int),.bool sl],.agg #[.int .i64 5,.int .i64 (lg:Int),.int .i64 (at_:Int),.slice va n c]] w fun e w'=>e=.returned (.int .i64 0)∧Below w.heap.size w w':=by
 have i1:¬ (at_:Int)<(tr:Int):=by omega
 have i2:¬ (at_:Int)=(tl:Int):=by omega
 have i3:¬ (tl:Int)<(at_:Int):=by omega
 have HBX:=hide (aAz w (.cells #[.int .i64 (tl:Int),.int .i64 (tr:Int),.bool sl] 58) (.cells #[.int .i64 5,.int .i64 (lg:Int),.int .i64 (at_:Int),.slice va n c] 35))
 go_enter Tryz.func34,Tryz.ntmps34
 go_wp2
 go_ret
 exact ⟨rfl,HBX.out⟩
theorem lgr_rn {tl tr lg at_ n c:Nat} {sl:Bool} {va:Option Addr} (w:World) (h:tr≤at_) (h2:at_=tl) :
  Calls Tryz.prog 34 #[.agg #[.int .i64 (tl:Int),.int .i64 (tr:Int),.bool sl],.agg #[.int .i64 5,.int .i64 (lg:Int),.int .i64 (at_:Int),.slice va n c]] w fun e w'=>e=.returned (.int .i64 4)∧Below w.heap.size w w':=by
 have i1:¬ (at_:Int)<(tr:Int):=by omega
 have d2:decide ((at_:Int)=(tl:Int))=true:=by rw [decide_eq_true_eq];omega
 have d3:((at_:Int) == (tl:Int))=true:=by rw [beq_iff_eq];omega
 clear h2
 have HBX:=hide (aAz w (.cells #[.int .i64 (tl:Int),.int .i64 (tr:Int),.bool sl] 58) (.cells #[.int .i64 5,.int .i64 (lg:Int),.int .i64 (at_:Int),.slice va n c] 35))
 go_enter Tryz.func34,Tryz.ntmps34
 go_wp2
 go_ret
 exact ⟨rfl,HBX.out⟩
theorem aE1:(Tryz.prog.info? 58).map (·.size)=some 3:=by kernel_rfl
theorem lgb_w {tl tr lg at_ n c:Nat} {sl:Bool} {va:Option Addr} (w:World) (h:at_=tl) (h63:tl≤1000) :
  Calls Tryz.prog 36 #[.agg #[.int .i64 (tl:Int),.int .i64 (tr:Int),.bool sl],.agg #[.int .i64 1,.int .i64 (lg:Int),.int .i64 (at_:Int),.slice va n c]] w fun e w'=>e=.returned (.agg #[.int .i64 ((tl:Int)+1),.int .i64 (tr:Int),.bool sl])∧Below w.heap.size w w':=by
 have d2:decide ((at_:Int)=(tl:Int))=true:=by rw [decide_eq_true_eq];omega
 have d3:((at_:Int) == (tl:Int))=true:=by rw [beq_iff_eq];omega
 clear h
 have q0:=aAf [Obj.cells #[.int .i64 (tl:Int),.int .i64 (tr:Int),.bool sl] 58,Obj.cells #[.int .i64 1,.int .i64 (lg:Int),.int .i64 (at_:Int),.slice va n c] 35,Obj.cells #[.int .i64 0,.int .i64 0,.bool false] 58] w 0 _ rfl
 have q1:=aAf [Obj.cells #[.int .i64 (tl:Int),.int .i64 (tr:Int),.bool sl] 58,Obj.cells #[.int .i64 1,.int .i64 (lg:Int),.int .i64 (at_:Int),.slice va n c] 35,Obj.cells #[.int .i64 0,.int .i64 0,.bool false] 58] w 1 _ rfl
 have q2:=aAf [Obj.cells #[.int .i64 (tl:Int),.int .i64 (tr:Int),.bool sl] 58,Obj.cells #[.int .i64 1,.int .i64 (lg:Int),.int .i64 (at_:Int),.slice va n c] 35,Obj.cells #[.int .i64 0,.int .i64 0,.bool false] 58] w 2 _ rfl
 have qb:=(aAn [Obj.cells #[.int .i64 (tl:Int),.int .i64 (tr:Int),.bool sl] 58,Obj.cells #[.int .i64 1,.int .i64 (lg:Int),.int .i64 (at_:Int),.slice va n c] 35,Obj.cells #[.int .i64 0,.int .i64 0,.bool false] 58] w).1
 have HQ0:Hid ((((w.alloc (.cells #[.int .i64 (tl:Int),.int .i64 (tr:Int),.bool sl] 58)).alloc (.cells #[.int .i64 1,.int .i64 (lg:Int),.int .i64 (at_:Int),.slice va n c] 35)).alloc (.cells #[.int .i64 0,.int .i64 0,.bool false] 58)).heap[w.heap.size]?=some (.cells #[.int .i64 (tl:Int),.int .i64 (tr:Int),.bool sl] 58 (0,0))):=q0
 have HQ1:Hid ((((w.alloc (.cells #[.int .i64 (tl:Int),.int .i64 (tr:Int),.bool sl] 58)).alloc (.cells #[.int .i64 1,.int .i64 (lg:Int),.int .i64 (at_:Int),.slice va n c] 35)).alloc (.cells #[.int .i64 0,.int .i64 0,.bool false] 58)).heap[w.heap.size+1]?=some (.cells #[.int .i64 1,.int .i64 (lg:Int),.int .i64 (at_:Int),.slice va n c] 35 (0,0))):=q1
 have HQ2:Hid ((((w.alloc (.cells #[.int .i64 (tl:Int),.int .i64 (tr:Int),.bool sl] 58)).alloc (.cells #[.int .i64 1,.int .i64 (lg:Int),.int .i64 (at_:Int),.slice va n c] 35)).alloc (.cells #[.int .i64 0,.int .i64 0,.bool false] 58)).heap[w.heap.size+1+1]?=some (.cells #[.int .i64 0,.int .i64 0,.bool false] 58 (0,0))):=q2
 have HB1:Hid (Below w.heap.size w (((w.alloc (.cells #[.int .i64 (tl:Int),.int .i64 (tr:Int),.bool sl] 58)).alloc (.cells #[.int .i64 1,.int .i64 (lg:Int),.int .i64 (at_:Int),.slice va n c] 35)).alloc (.cells #[.int .i64 0,.int .i64 0,.bool false] 58))):=qb
 clear q0 q1 q2 qb
 go_enter Tryz.func36,Tryz.ntmps36
 go_upto_region 1 with fail
 generalize (((w.alloc (.cells #[.int .i64 (tl:Int),.int .i64 (tr:Int),.bool sl] 58)).alloc (.cells #[.int .i64 1,.int .i64 (lg:Int),.int .i64 (at_:Int),.slice va n c] 35)).alloc (.cells #[.int .i64 0,.int .i64 0,.bool false] 58))=w1 at *
 generalize hn0:w.heap.size=n0 at *
 generalize hn1:n0+1=n1 at *
 generalize hn2:n1+1=n2 at *
 have x0:w1.cell? ⟨n0,0,none⟩=some (.int .i64 (tl:Int)):=aAa HQ0.out
 have xf0:w1.frozen? ⟨n0,0,none⟩=false:=aAb HQ0.out
 have x1:w1.cell? ⟨n0,1,none⟩=some (.int .i64 (tr:Int)):=aAa HQ0.out
 have xf1:w1.frozen? ⟨n0,1,none⟩=false:=aAb HQ0.out
 have x2:w1.cell? ⟨n0,2,none⟩=some (.bool sl):=aAa HQ0.out
 have xf2:w1.frozen? ⟨n0,2,none⟩=false:=aAb HQ0.out
 have y0:w1.cell? ⟨n1,0,none⟩=some (.int .i64 1):=aAa HQ1.out
 have yf0:w1.frozen? ⟨n1,0,none⟩=false:=aAb HQ1.out
 have y1:w1.cell? ⟨n1,1,none⟩=some (.int .i64 (lg:Int)):=aAa HQ1.out
 have yf1:w1.frozen? ⟨n1,1,none⟩=false:=aAb HQ1.out
 have y2:w1.cell? ⟨n1,2,none⟩=some (.int .i64 (at_:Int)):=aAa HQ1.out
 have yf2:w1.frozen? ⟨n1,2,none⟩=false:=aAb HQ1.out
 have y3:w1.cell? ⟨n1,3,none⟩=some (.slice va n c):=aAa HQ1.out
 have yf3:w1.frozen? ⟨n1,3,none⟩=false:=aAb HQ1.out
 go_upto_region 10 with fail
 have HR0:Hid ((w1.setCell ⟨n0,0,none⟩ (.int .i64 ((tl:Int)+1))).heap[n0]?=some (.cells #[.int .i64 ((tl:Int)+1),.int .i64 (tr:Int),.bool sl] 58 (0,0))):=heap_setCell_same _ _ _ _ _ _ HQ0.out
 have HR2:Hid ((w1.setCell ⟨n0,0,none⟩ (.int .i64 ((tl:Int)+1))).heap[n2]?=some (.cells #[.int .i64 0,.int .i64 0,.bool false] 58 (0,0))):=by show _=_;rw [heap_setCell_other _ _ _ _ (by show n2≠n0;omega)];exact HQ2.out
 have HB2:Hid (Below n0 w (w1.setCell ⟨n0,0,none⟩ (.int .i64 ((tl:Int)+1)))):=HB1.out.setCell (p:=⟨n0,0,none⟩) (nR _) _
 clear x0 x1 x2 xf0 xf1 xf2 y0 y1 y2 y3 yf0 yf1 yf2 yf3
 generalize w1.setCell ⟨n0,0,none⟩ (.int .i64 ((tl:Int)+1))=w2 at *
 have x0:w2.cell? ⟨n0,0,none⟩=some (.int .i64 ((tl:Int)+1)):=aAa HR0.out
 have xf0:w2.frozen? ⟨n0,0,none⟩=false:=aAb HR0.out
 have x1:w2.cell? ⟨n0,1,none⟩=some (.int .i64 (tr:Int)):=aAa HR0.out
 have xf1:w2.frozen? ⟨n0,1,none⟩=false:=aAb HR0.out
 have x2:w2.cell? ⟨n0,2,none⟩=some (.bool sl):=aAa HR0.out
 have xf2:w2.frozen? ⟨n0,2,none⟩=false:=aAb HR0.out
 have z0:w2.cell? ⟨n2,0,none⟩=some (.int .i64 0):=aAa HR2.out
 have zf0:w2.frozen? ⟨n2,0,none⟩=false:=aAb HR2.out
 have z1:w2.cell? ⟨n2,1,none⟩=some (.int .i64 0):=aAa HR2.out
 have zf1:w2.frozen? ⟨n2,1,none⟩=false:=aAb HR2.out
 have z2:w2.cell? ⟨n2,2,none⟩=some (.bool false):=aAa HR2.out
 have zf2:w2.frozen? ⟨n2,2,none⟩=false:=aAb HR2.out
 go_wp2
 (try simp only [Exit.inBlock,Exit.then])
 have HBF:=hide (bel3 (b0:=(.int .i64 ((tl:Int)+1))) (b1:=(.int .i64 (tr:Int))) (b2:=(.bool sl)) HB2.out (show n0≤n2 by omega))
 refine bodyPost_ret (results_cell_row Tryz.results36 _ _ n2 _ _ _ _ rfl (set3 HR2.out) Tryz.underlying58 rfl aE1) rfl ?_
 exact ⟨by rfl,by rw [hn0];exact HBF.out⟩
theorem lgb_wn {tl tr lg at_ n c:Nat} {sl:Bool} {va:Option Addr} (w:World) (h:at_≠tl) :
  Calls Tryz.prog 36 #[.agg #[.int .i64 (tl:Int),.int .i64 (tr:Int),.bool sl],.agg #[.int .i64 1,.int .i64 (lg:Int),.int .i64 (at_:Int),.slice va n c]] w fun e w'=>e=.returned (.agg #[.int .i64 (tl:Int),.int .i64 (tr:Int),.bool sl])∧Below w.heap.size w w':=by
 have i1:¬ (at_:Int)=(tl:Int):=by omega
 have q0:=aAf [Obj.cells #[.int .i64 (tl:Int),.int .i64 (tr:Int),.bool sl] 58,Obj.cells #[.int .i64 1,.int .i64 (lg:Int),.int .i64 (at_:Int),.slice va n c] 35,Obj.cells #[.int .i64 0,.int .i64 0,.bool false] 58] w 0 _ rfl
 have q1:=aAf [Obj.cells #[.int .i64 (tl:Int),.int .i64 (tr:Int),.bool sl] 58,Obj.cells #[.int .i64 1,.int .i64 (lg:Int),.int .i64 (at_:Int),.slice va n c] 35,Obj.cells #[.int .i64 0,.int .i64 0,.bool false] 58] w 1 _ rfl
 have q2:=aAf [Obj.cells #[.int .i64 (tl:Int),.int .i64 (tr:Int),.bool sl] 58,Obj.cells #[.int .i64 1,.int .i64 (lg:Int),.int .i64 (at_:Int),.slice va n c] 35,Obj.cells #[.int .i64 0,.int .i64 0,.bool false] 58] w 2 _ rfl
 have qb:=(aAn [Obj.cells #[.int .i64 (tl:Int),.int .i64 (tr:Int),.bool sl] 58,Obj.cells #[.int .i64 1,.int .i64 (lg:Int),.int .i64 (at_:Int),.slice va n c] 35,Obj.cells #[.int .i64 0,.int .i64 0,.bool false] 58] w).1
 have HQ0:Hid ((((w.alloc (.cells #[.int .i64 (tl:Int),.int .i64 (tr:Int),.bool sl] 58)).alloc (.cells #[.int .i64 1,.int .i64 (lg:Int),.int .i64 (at_:Int),.slice va n c] 35)).alloc (.cells #[.int .i64 0,.int .i64 0,.bool false] 58)).heap[w.heap.size]?=some (.cells #[.int .i64 (tl:Int),.int .i64 (tr:Int),.bool sl] 58 (0,0))):=q0
 have HQ1:Hid ((((w.alloc (.cells #[.int .i64 (tl:Int),.int .i64 (tr:Int),.bool sl] 58)).alloc (.cells #[.int .i64 1,.int .i64 (lg:Int),.int .i64 (at_:Int),.slice va n c] 35)).alloc (.cells #[.int .i64 0,.int .i64 0,.bool false] 58)).heap[w.heap.size+1]?=some (.cells #[.int .i64 1,.int .i64 (lg:Int),.int .i64 (at_:Int),.slice va n c] 35 (0,0))):=q1
 have HQ2:Hid ((((w.alloc (.cells #[.int .i64 (tl:Int),.int .i64 (tr:Int),.bool sl] 58)).alloc (.cells #[.int .i64 1,.int .i64 (lg:Int),.int .i64 (at_:Int),.slice va n c] 35)).alloc (.cells #[.int .i64 0,.int .i64 0,.bool false] 58)).heap[w.heap.size+1+1]?=some (.cells #[.int .i64 0,.int .i64 0,.bool false] 58 (0,0))):=q2
 have HB1:Hid (Below w.heap.size w (((w.alloc (.cells #[.int .i64 (tl:Int),.int .i64 (tr:Int),.bool sl] 58)).alloc (.cells #[.int .i64 1,.int .i64 (lg:Int),.int .i64 (at_:Int),.slice va n c] 35)).alloc (.cells #[.int .i64 0,.int .i64 0,.bool false] 58))):=qb
 clear q0 q1 q2 qb
 go_enter Tryz.func36,Tryz.ntmps36
 go_upto_region 1 with fail
 generalize (((w.alloc (.cells #[.int .i64 (tl:Int),.int .i64 (tr:Int),.bool sl] 58)).alloc (.cells #[.int .i64 1,.int .i64 (lg:Int),.int .i64 (at_:Int),.slice va n c] 35)).alloc (.cells #[.int .i64 0,.int .i64 0,.bool false] 58))=w1 at *
 generalize hn0:w.heap.size=n0 at *
 generalize hn1:n0+1=n1 at *
 generalize hn2:n1+1=n2 at *
 have x0:w1.cell? ⟨n0,0,none⟩=some (.int .i64 (tl:Int)):=aAa HQ0.out
 have xf0:w1.frozen? ⟨n0,0,none⟩=false:=aAb HQ0.out
 have x1:w1.cell? ⟨n0,1,none⟩=some (.int .i64 (tr:Int)):=aAa HQ0.out
 have xf1:w1.frozen? ⟨n0,1,none⟩=false:=aAb HQ0.out
 have x2:w1.cell? ⟨n0,2,none⟩=some (.bool sl):=aAa HQ0.out
 have xf2:w1.frozen? ⟨n0,2,none⟩=false:=aAb HQ0.out
 have y0:w1.cell? ⟨n1,0,none⟩=some (.int .i64 1):=aAa HQ1.out
 have yf0:w1.frozen? ⟨n1,0,none⟩=false:=aAb HQ1.out
 have y1:w1.cell? ⟨n1,1,none⟩=some (.int .i64 (lg:Int)):=aAa HQ1.out
 have yf1:w1.frozen? ⟨n1,1,none⟩=false:=aAb HQ1.out
 have y2:w1.cell? ⟨n1,2,none⟩=some (.int .i64 (at_:Int)):=aAa HQ1.out
 have yf2:w1.frozen? ⟨n1,2,none⟩=false:=aAb HQ1.out
 have y3:w1.cell? ⟨n1,3,none⟩=some (.slice va n c):=aAa HQ1.out
 have yf3:w1.frozen? ⟨n1,3,none⟩=false:=aAb HQ1.out
 go_upto_region 10 with fail
 have HR0:=HQ0
 have HR2:=HQ2
 have HB2:=HB1
 clear x0 x1 x2 xf0 xf1 xf2 y0 y1 y2 y3 yf0 yf1 yf2 yf3
 generalize w1=w2 at *
 have x0:w2.cell? ⟨n0,0,none⟩=some (.int .i64 (tl:Int)):=aAa HR0.out
 have xf0:w2.frozen? ⟨n0,0,none⟩=false:=aAb HR0.out
 have x1:w2.cell? ⟨n0,1,none⟩=some (.int .i64 (tr:Int)):=aAa HR0.out
 have xf1:w2.frozen? ⟨n0,1,none⟩=false:=aAb HR0.out
 have x2:w2.cell? ⟨n0,2,none⟩=some (.bool sl):=aAa HR0.out
 have xf2:w2.frozen? ⟨n0,2,none⟩=false:=aAb HR0.out
 have z0:w2.cell? ⟨n2,0,none⟩=some (.int .i64 0):=aAa HR2.out
 have zf0:w2.frozen? ⟨n2,0,none⟩=false:=aAb HR2.out
 have z1:w2.cell? ⟨n2,1,none⟩=some (.int .i64 0):=aAa HR2.out
 have zf1:w2.frozen? ⟨n2,1,none⟩=false:=aAb HR2.out
 have z2:w2.cell? ⟨n2,2,none⟩=some (.bool false):=aAa HR2.out
 have zf2:w2.frozen? ⟨n2,2,none⟩=false:=aAb HR2.out
 go_wp2
 (try simp only [Exit.inBlock,Exit.then])
 have HBF:=hide (bel3 (b0:=(.int .i64 (tl:Int))) (b1:=(.int .i64 (tr:Int))) (b2:=(.bool sl)) HB2.out (show n0≤n2 by omega))
 refine bodyPost_ret (results_cell_row Tryz.results36 _ _ n2 _ _ _ _ rfl (set3 HR2.out) Tryz.underlying58 rfl aE1) rfl ?_
 exact ⟨by rfl,by rw [hn0];exact HBF.out⟩
theorem lgb_f {tl tr lg at_ n c:Nat} {sl:Bool} {va:Option Addr} (w:World) (h:at_=tl) (h63:tl≤1000) :
  Calls Tryz.prog 36 #[.agg #[.int .i64 (tl:Int),.int .i64 (tr:Int),.bool sl],.agg #[.int .i64 2,.int .i64 (lg:Int),.int .i64 (at_:Int),.slice va n c]] w fun e w'=>e=.returned (.agg #[.int .i64 ((tl:Int)+1),.int .i64 (tr:Int),.bool sl])∧Below w.heap.size w w':=by
 have d2:decide ((at_:Int)=(tl:Int))=true:=by rw [decide_eq_true_eq];omega
 have d3:((at_:Int) == (tl:Int))=true:=by rw [beq_iff_eq];omega
 clear h
 have q0:=aAf [Obj.cells #[.int .i64 (tl:Int),.int .i64 (tr:Int),.bool sl] 58,Obj.cells #[.int .i64 2,.int .i64 (lg:Int),.int .i64 (at_:Int),.slice va n c] 35,Obj.cells #[.int .i64 0,.int .i64 0,.bool false] 58] w 0 _ rfl
 have q1:=aAf [Obj.cells #[.int .i64 (tl:Int),.int .i64 (tr:Int),.bool sl] 58,Obj.cells #[.int .i64 2,.int .i64 (lg:Int),.int .i64 (at_:Int),.slice va n c] 35,Obj.cells #[.int .i64 0,.int .i64 0,.bool false] 58] w 1 _ rfl
 have q2:=aAf [Obj.cells #[.int .i64 (tl:Int),.int .i64 (tr:Int),.bool sl] 58,Obj.cells #[.int .i64 2,.int .i64 (lg:Int),.int .i64 (at_:Int),.slice va n c] 35,Obj.cells #[.int .i64 0,.int .i64 0,.bool false] 58] w 2 _ rfl
 have qb:=(aAn [Obj.cells #[.int .i64 (tl:Int),.int .i64 (tr:Int),.bool sl] 58,Obj.cells #[.int .i64 2,.int .i64 (lg:Int),.int .i64 (at_:Int),.slice va n c] 35,Obj.cells #[.int .i64 0,.int .i64 0,.bool false] 58] w).1
 have HQ0:Hid ((((w.alloc (.cells #[.int .i64 (tl:Int),.int .i64 (tr:Int),.bool sl] 58)).alloc (.cells #[.int .i64 2,.int .i64 (lg:Int),.int .i64 (at_:Int),.slice va n c] 35)).alloc (.cells #[.int .i64 0,.int .i64 0,.bool false] 58)).heap[w.heap.size]?=some (.cells #[.int .i64 (tl:Int),.int .i64 (tr:Int),.bool sl] 58 (0,0))):=q0
 have HQ1:Hid ((((w.alloc (.cells #[.int .i64 (tl:Int),.int .i64 (tr:Int),.bool sl] 58)).alloc (.cells #[.int .i64 2,.int .i64 (lg:Int),.int .i64 (at_:Int),.slice va n c] 35)).alloc (.cells #[.int .i64 0,.int .i64 0,.bool false] 58)).heap[w.heap.size+1]?=some (.cells #[.int .i64 2,.int .i64 (lg:Int),.int .i64 (at_:Int),.slice va n c] 35 (0,0))):=q1
 have HQ2:Hid ((((w.alloc (.cells #[.int .i64 (tl:Int),.int .i64 (tr:Int),.bool sl] 58)).alloc (.cells #[.int .i64 2,.int .i64 (lg:Int),.int .i64 (at_:Int),.slice va n c] 35)).alloc (.cells #[.int .i64 0,.int .i64 0,.bool false] 58)).heap[w.heap.size+1+1]?=some (.cells #[.int .i64 0,.int .i64 0,.bool false] 58 (0,0))):=q2
 have HB1:Hid (Below w.heap.size w (((w.alloc (.cells #[.int .i64 (tl:Int),.int .i64 (tr:Int),.bool sl] 58)).alloc (.cells #[.int .i64 2,.int .i64 (lg:Int),.int .i64 (at_:Int),.slice va n c] 35)).alloc (.cells #[.int .i64 0,.int .i64 0,.bool false] 58))):=qb
 clear q0 q1 q2 qb
 go_enter Tryz.func36,Tryz.ntmps36
 go_upto_region 1 with fail
 generalize (((w.alloc (.cells #[.int .i64 (tl:Int),.int .i64 (tr:Int),.bool sl] 58)).alloc (.cells #[.int .i64 2,.int .i64 (lg:Int),.int .i64 (at_:Int),.slice va n c] 35)).alloc (.cells #[.int .i64 0,.int .i64 0,.bool false] 58))=w1 at *
 generalize hn0:w.heap.size=n0 at *
 generalize hn1:n0+1=n1 at *
 generalize hn2:n1+1=n2 at *
 have x0:w1.cell? ⟨n0,0,none⟩=some (.int .i64 (tl:Int)):=aAa HQ0.out
 have xf0:w1.frozen? ⟨n0,0,none⟩=false:=aAb HQ0.out
 have x1:w1.cell? ⟨n0,1,none⟩=some (.int .i64 (tr:Int)):=aAa HQ0.out
 have xf1:w1.frozen? ⟨n0,1,none⟩=false:=aAb HQ0.out
 have x2:w1.cell? ⟨n0,2,none⟩=some (.bool sl):=aAa HQ0.out
 have xf2:w1.frozen? ⟨n0,2,none⟩=false:=aAb HQ0.out
 have y0:w1.cell? ⟨n1,0,none⟩=some (.int .i64 2):=aAa HQ1.out
 have yf0:w1.frozen? ⟨n1,0,none⟩=false:=aAb HQ1.out
 have y1:w1.cell? ⟨n1,1,none⟩=some (.int .i64 (lg:Int)):=aAa HQ1.out
 have yf1:w1.frozen? ⟨n1,1,none⟩=false:=aAb HQ1.out
 have y2:w1.cell? ⟨n1,2,none⟩=some (.int .i64 (at_:Int)):=aAa HQ1.out
 have yf2:w1.frozen? ⟨n1,2,none⟩=false:=aAb HQ1.out
 have y3:w1.cell? ⟨n1,3,none⟩=some (.slice va n c):=aAa HQ1.out
 have yf3:w1.frozen? ⟨n1,3,none⟩=false:=aAb HQ1.out
 go_upto_region 10 with fail
 have HR0:Hid ((w1.setCell ⟨n0,0,none⟩ (.int .i64 ((tl:Int)+1))).heap[n0]?=some (.cells #[.int .i64 ((tl:Int)+1),.int .i64 (tr:Int),.bool sl] 58 (0,0))):=heap_setCell_same _ _ _ _ _ _ HQ0.out
 have HR2:Hid ((w1.setCell ⟨n0,0,none⟩ (.int .i64 ((tl:Int)+1))).heap[n2]?=some (.cells #[.int .i64 0,.int .i64 0,.bool false] 58 (0,0))):=by show _=_;rw [heap_setCell_other _ _ _ _ (by show n2≠n0;omega)];exact HQ2.out
 have HB2:Hid (Below n0 w (w1.setCell ⟨n0,0,none⟩ (.int .i64 ((tl:Int)+1)))):=HB1.out.setCell (p:=⟨n0,0,none⟩) (nR _) _
 clear x0 x1 x2 xf0 xf1 xf2 y0 y1 y2 y3 yf0 yf1 yf2 yf3
 generalize w1.setCell ⟨n0,0,none⟩ (.int .i64 ((tl:Int)+1))=w2 at *
 have x0:w2.cell? ⟨n0,0,none⟩=some (.int .i64 ((tl:Int)+1)):=aAa HR0.out
 have xf0:w2.frozen? ⟨n0,0,none⟩=false:=aAb HR0.out
 have x1:w2.cell? ⟨n0,1,none⟩=some (.int .i64 (tr:Int)):=aAa HR0.out
 have xf1:w2.frozen? ⟨n0,1,none⟩=false:=aAb HR0.out
 have x2:w2.cell? ⟨n0,2,none⟩=some (.bool sl):=aAa HR0.out
 have xf2:w2.frozen? ⟨n0,2,none⟩=false:=aAb HR0.out
 have z0:w2.cell? ⟨n2,0,none⟩=some (.int .i64 0):=aAa HR2.out
 have zf0:w2.frozen? ⟨n2,0,none⟩=false:=aAb HR2.out
 have z1:w2.cell? ⟨n2,1,none⟩=some (.int .i64 0):=aAa HR2.out
 have zf1:w2.frozen? ⟨n2,1,none⟩=false:=aAb HR2.out
 have z2:w2.cell? ⟨n2,2,none⟩=some (.bool false):=aAa HR2.out
 have zf2:w2.frozen? ⟨n2,2,none⟩=false:=aAb HR2.out
 go_wp2
 (try simp only [Exit.inBlock,Exit.then])
 have HBF:=hide (bel3 (b0:=(.int .i64 ((tl:Int)+1))) (b1:=(.int .i64 (tr:Int))) (b2:=(.bool sl)) HB2.out (show n0≤n2 by omega))
 refine bodyPost_ret (results_cell_row Tryz.results36 _ _ n2 _ _ _ _ rfl (set3 HR2.out) Tryz.underlying58 rfl aE1) rfl ?_
 exact ⟨by rfl,by rw [hn0];exact HBF.out⟩
theorem lgb_fn {tl tr lg at_ n c:Nat} {sl:Bool} {va:Option Addr} (w:World) (h:at_≠tl) :
  Calls Tryz.prog 36 #[.agg #[.int .i64 (tl:Int),.int .i64 (tr:Int),.bool sl],.agg #[.int .i64 2,.int .i64 (lg:Int),.int .i64 (at_:Int),.slice va n c]] w fun e w'=>e=.returned (.agg #[.int .i64 (tl:Int),.int .i64 (tr:Int),.bool sl])∧Below w.heap.size w w':=by
 have i1:¬ (at_:Int)=(tl:Int):=by omega
 have q0:=aAf [Obj.cells #[.int .i64 (tl:Int),.int .i64 (tr:Int),.bool sl] 58,Obj.cells #[.int .i64 2,.int .i64 (lg:Int),.int .i64 (at_:Int),.slice va n c] 35,Obj.cells #[.int .i64 0,.int .i64 0,.bool false] 58] w 0 _ rfl
 have q1:=aAf [Obj.cells #[.int .i64 (tl:Int),.int .i64 (tr:Int),.bool sl] 58,Obj.cells #[.int .i64 2,.int .i64 (lg:Int),.int .i64 (at_:Int),.slice va n c] 35,Obj.cells #[.int .i64 0,.int .i64 0,.bool false] 58] w 1 _ rfl
 have q2:=aAf [Obj.cells #[.int .i64 (tl:Int),.int .i64 (tr:Int),.bool sl] 58,Obj.cells #[.int .i64 2,.int .i64 (lg:Int),.int .i64 (at_:Int),.slice va n c] 35,Obj.cells #[.int .i64 0,.int .i64 0,.bool false] 58] w 2 _ rfl
 have qb:=(aAn [Obj.cells #[.int .i64 (tl:Int),.int .i64 (tr:Int),.bool sl] 58,Obj.cells #[.int .i64 2,.int .i64 (lg:Int),.int .i64 (at_:Int),.slice va n c] 35,Obj.cells #[.int .i64 0,.int .i64 0,.bool false] 58] w).1
 have HQ0:Hid ((((w.alloc (.cells #[.int .i64 (tl:Int),.int .i64 (tr:Int),.bool sl] 58)).alloc (.cells #[.int .i64 2,.int .i64 (lg:Int),.int .i64 (at_:Int),.slice va n c] 35)).alloc (.cells #[.int .i64 0,.int .i64 0,.bool false] 58)).heap[w.heap.size]?=some (.cells #[.int .i64 (tl:Int),.int .i64 (tr:Int),.bool sl] 58 (0,0))):=q0
 have HQ1:Hid ((((w.alloc (.cells #[.int .i64 (tl:Int),.int .i64 (tr:Int),.bool sl] 58)).alloc (.cells #[.int .i64 2,.int .i64 (lg:Int),.int .i64 (at_:Int),.slice va n c] 35)).alloc (.cells #[.int .i64 0,.int .i64 0,.bool false] 58)).heap[w.heap.size+1]?=some (.cells #[.int .i64 2,.int .i64 (lg:Int),.int .i64 (at_:Int),.slice va n c] 35 (0,0))):=q1
 have HQ2:Hid ((((w.alloc (.cells #[.int .i64 (tl:Int),.int .i64 (tr:Int),.bool sl] 58)).alloc (.cells #[.int .i64 2,.int .i64 (lg:Int),.int .i64 (at_:Int),.slice va n c] 35)).alloc (.cells #[.int .i64 0,.int .i64 0,.bool false] 58)).heap[w.heap.size+1+1]?=some (.cells #[.int .i64 0,.int .i64 0,.bool false] 58 (0,0))):=q2
 have HB1:Hid (Below w.heap.size w (((w.alloc (.cells #[.int .i64 (tl:Int),.int .i64 (tr:Int),.bool sl] 58)).alloc (.cells #[.int .i64 2,.int .i64 (lg:Int),.int .i64 (at_:Int),.slice va n c] 35)).alloc (.cells #[.int .i64 0,.int .i64 0,.bool false] 58))):=qb
 clear q0 q1 q2 qb
 go_enter Tryz.func36,Tryz.ntmps36
 go_upto_region 1 with fail
 generalize (((w.alloc (.cells #[.int .i64 (tl:Int),.int .i64 (tr:Int),.bool sl] 58)).alloc (.cells #[.int .i64 2,.int .i64 (lg:Int),.int .i64 (at_:Int),.slice va n c] 35)).alloc (.cells #[.int .i64 0,.int .i64 0,.bool false] 58))=w1 at *
 generalize hn0:w.heap.size=n0 at *
 generalize hn1:n0+1=n1 at *
 generalize hn2:n1+1=n2 at *
 have x0:w1.cell? ⟨n0,0,none⟩=some (.int .i64 (tl:Int)):=aAa HQ0.out
 have xf0:w1.frozen? ⟨n0,0,none⟩=false:=aAb HQ0.out
 have x1:w1.cell? ⟨n0,1,none⟩=some (.int .i64 (tr:Int)):=aAa HQ0.out
 have xf1:w1.frozen? ⟨n0,1,none⟩=false:=aAb HQ0.out
 have x2:w1.cell? ⟨n0,2,none⟩=some (.bool sl):=aAa HQ0.out
 have xf2:w1.frozen? ⟨n0,2,none⟩=false:=aAb HQ0.out
 have y0:w1.cell? ⟨n1,0,none⟩=some (.int .i64 2):=aAa HQ1.out
 have yf0:w1.frozen? ⟨n1,0,none⟩=false:=aAb HQ1.out
 have y1:w1.cell? ⟨n1,1,none⟩=some (.int .i64 (lg:Int)):=aAa HQ1.out
 have yf1:w1.frozen? ⟨n1,1,none⟩=false:=aAb HQ1.out
 have y2:w1.cell? ⟨n1,2,none⟩=some (.int .i64 (at_:Int)):=aAa HQ1.out
 have yf2:w1.frozen? ⟨n1,2,none⟩=false:=aAb HQ1.out
 have y3:w1.cell? ⟨n1,3,none⟩=some (.slice va n c):=aAa HQ1.out
 have yf3:w1.frozen? ⟨n1,3,none⟩=false:=aAb HQ1.out
 go_upto_region 10 with fail
 have HR0:=HQ0
 have HR2:=HQ2
 have HB2:=HB1
 clear x0 x1 x2 xf0 xf1 xf2 y0 y1 y2 y3 yf0 yf1 yf2 yf3
 generalize w1=w2 at *
 have x0:w2.cell? ⟨n0,0,none⟩=some (.int .i64 (tl:Int)):=aAa HR0.out
 have xf0:w2.frozen? ⟨n0,0,none⟩=false:=aAb HR0.out
 have x1:w2.cell? ⟨n0,1,none⟩=some (.int .i64 (tr:Int)):=aAa HR0.out
 have xf1:w2.frozen? ⟨n0,1,none⟩=false:=aAb HR0.out
 have x2:w2.cell? ⟨n0,2,none⟩=some (.bool sl):=aAa HR0.out
 have xf2:w2.frozen? ⟨n0,2,none⟩=false:=aAb HR0.out
 have z0:w2.cell? ⟨n2,0,none⟩=some (.int .i64 0):=aAa HR2.out
 have zf0:w2.frozen? ⟨n2,0,none⟩=false:=aAb HR2.out
 have z1:w2.cell? ⟨n2,1,none⟩=some (.int .i64 0):=aAa HR2.out
 have zf1:w2.frozen? ⟨n2,1,none⟩=false:=aAb HR2.out
 have z2:w2.cell? ⟨n2,2,none⟩=some (.bool false):=aAa HR2.out
 have zf2:w2.frozen? ⟨n2,2,none⟩=false:=aAb HR2.out
 go_wp2
 (try simp only [Exit.inBlock,Exit.then])
 have HBF:=hide (bel3 (b0:=(.int .i64 (tl:Int))) (b1:=(.int .i64 (tr:Int))) (b2:=(.bool sl)) HB2.out (show n0≤n2 by omega))
 refine bodyPost_ret (results_cell_row Tryz.results36 _ _ n2 _ _ _ _ rfl (set3 HR2.out) Tryz.underlying58 rfl aE1) rfl ?_
 exact ⟨by rfl,by rw [hn0];exact HBF.out⟩
theorem lgb_s {tl tr lg at_ n c:Nat} {sl:Bool} {va:Option Addr} (w:World)  :
  Calls Tryz.prog 36 #[.agg #[.int .i64 (tl:Int),.int .i64 (tr:Int),.bool sl],.agg #[.int .i64 3,.int .i64 (lg:Int),.int .i64 (at_:Int),.slice va n c]] w fun e w'=>e=.returned (.agg #[.int .i64 (tl:Int),.int .i64 (tr:Int),.bool true])∧Below w.heap.size w w':=by
 have q0:=aAf [Obj.cells #[.int .i64 (tl:Int),.int .i64 (tr:Int),.bool sl] 58,Obj.cells #[.int .i64 3,.int .i64 (lg:Int),.int .i64 (at_:Int),.slice va n c] 35,Obj.cells #[.int .i64 0,.int .i64 0,.bool false] 58] w 0 _ rfl
 have q1:=aAf [Obj.cells #[.int .i64 (tl:Int),.int .i64 (tr:Int),.bool sl] 58,Obj.cells #[.int .i64 3,.int .i64 (lg:Int),.int .i64 (at_:Int),.slice va n c] 35,Obj.cells #[.int .i64 0,.int .i64 0,.bool false] 58] w 1 _ rfl
 have q2:=aAf [Obj.cells #[.int .i64 (tl:Int),.int .i64 (tr:Int),.bool sl] 58,Obj.cells #[.int .i64 3,.int .i64 (lg:Int),.int .i64 (at_:Int),.slice va n c] 35,Obj.cells #[.int .i64 0,.int .i64 0,.bool false] 58] w 2 _ rfl
 have qb:=(aAn [Obj.cells #[.int .i64 (tl:Int),.int .i64 (tr:Int),.bool sl] 58,Obj.cells #[.int .i64 3,.int .i64 (lg:Int),.int .i64 (at_:Int),.slice va n c] 35,Obj.cells #[.int .i64 0,.int .i64 0,.bool false] 58] w).1
 have HQ0:Hid ((((w.alloc (.cells #[.int .i64 (tl:Int),.int .i64 (tr:Int),.bool sl] 58)).alloc (.cells #[.int .i64 3,.int .i64 (lg:Int),.int .i64 (at_:Int),.slice va n c] 35)).alloc (.cells #[.int .i64 0,.int .i64 0,.bool false] 58)).heap[w.heap.size]?=some (.cells #[.int .i64 (tl:Int),.int .i64 (tr:Int),.bool sl] 58 (0,0))):=q0
 have HQ1:Hid ((((w.alloc (.cells #[.int .i64 (tl:Int),.int .i64 (tr:Int),.bool sl] 58)).alloc (.cells #[.int .i64 3,.int .i64 (lg:Int),.int .i64 (at_:Int),.slice va n c] 35)).alloc (.cells #[.int .i64 0,.int .i64 0,.bool false] 58)).heap[w.heap.size+1]?=some (.cells #[.int .i64 3,.int .i64 (lg:Int),.int .i64 (at_:Int),.slice va n c] 35 (0,0))):=q1
 have HQ2:Hid ((((w.alloc (.cells #[.int .i64 (tl:Int),.int .i64 (tr:Int),.bool sl] 58)).alloc (.cells #[.int .i64 3,.int .i64 (lg:Int),.int .i64 (at_:Int),.slice va n c] 35)).alloc (.cells #[.int .i64 0,.int .i64 0,.bool false] 58)).heap[w.heap.size+1+1]?=some (.cells #[.int .i64 0,.int .i64 0,.bool false] 58 (0,0))):=q2
 have HB1:Hid (Below w.heap.size w (((w.alloc (.cells #[.int .i64 (tl:Int),.int .i64 (tr:Int),.bool sl] 58)).alloc (.cells #[.int .i64 3,.int .i64 (lg:Int),.int .i64 (at_:Int),.slice va n c] 35)).alloc (.cells #[.int .i64 0,.int .i64 0,.bool false] 58))):=qb
 clear q0 q1 q2 qb
 go_enter Tryz.func36,Tryz.ntmps36
 go_upto_region 1 with fail
 generalize (((w.alloc (.cells #[.int .i64 (tl:Int),.int .i64 (tr:Int),.bool sl] 58)).alloc (.cells #[.int .i64 3,.int .i64 (lg:Int),.int .i64 (at_:Int),.slice va n c] 35)).alloc (.cells #[.int .i64 0,.int .i64 0,.bool false] 58))=w1 at *
 generalize hn0:w.heap.size=n0 at *
 generalize hn1:n0+1=n1 at *
 generalize hn2:n1+1=n2 at *
 have x0:w1.cell? ⟨n0,0,none⟩=some (.int .i64 (tl:Int)):=aAa HQ0.out
 have xf0:w1.frozen? ⟨n0,0,none⟩=false:=aAb HQ0.out
 have x1:w1.cell? ⟨n0,1,none⟩=some (.int .i64 (tr:Int)):=aAa HQ0.out
 have xf1:w1.frozen? ⟨n0,1,none⟩=false:=aAb HQ0.out
 have x2:w1.cell? ⟨n0,2,none⟩=some (.bool sl):=aAa HQ0.out
 have xf2:w1.frozen? ⟨n0,2,none⟩=false:=aAb HQ0.out
 have y0:w1.cell? ⟨n1,0,none⟩=some (.int .i64 3):=aAa HQ1.out
 have yf0:w1.frozen? ⟨n1,0,none⟩=false:=aAb HQ1.out
 have y1:w1.cell? ⟨n1,1,none⟩=some (.int .i64 (lg:Int)):=aAa HQ1.out
 have yf1:w1.frozen? ⟨n1,1,none⟩=false:=aAb HQ1.out
 have y2:w1.cell? ⟨n1,2,none⟩=some (.int .i64 (at_:Int)):=aAa HQ1.out
 have yf2:w1.frozen? ⟨n1,2,none⟩=false:=aAb HQ1.out
 have y3:w1.cell? ⟨n1,3,none⟩=some (.slice va n c):=aAa HQ1.out
 have yf3:w1.frozen? ⟨n1,3,none⟩=false:=aAb HQ1.out
 go_upto_region 10 with fail
 have HR0:Hid ((w1.setCell ⟨n0,2,none⟩ (.bool true)).heap[n0]?=some (.cells #[.int .i64 (tl:Int),.int .i64 (tr:Int),.bool true] 58 (0,0))):=heap_setCell_same _ _ _ _ _ _ HQ0.out
 have HR2:Hid ((w1.setCell ⟨n0,2,none⟩ (.bool true)).heap[n2]?=some (.cells #[.int .i64 0,.int .i64 0,.bool false] 58 (0,0))):=by show _=_;rw [heap_setCell_other _ _ _ _ (by show n2≠n0;omega)];exact HQ2.out
 have HB2:Hid (Below n0 w (w1.setCell ⟨n0,2,none⟩ (.bool true))):=HB1.out.setCell (p:=⟨n0,2,none⟩) (nR _) _
 clear x0 x1 x2 xf0 xf1 xf2 y0 y1 y2 y3 yf0 yf1 yf2 yf3
 generalize w1.setCell ⟨n0,2,none⟩ (.bool true)=w2 at *
 have x0:w2.cell? ⟨n0,0,none⟩=some (.int .i64 (tl:Int)):=aAa HR0.out
 have xf0:w2.frozen? ⟨n0,0,none⟩=false:=aAb HR0.out
 have x1:w2.cell? ⟨n0,1,none⟩=some (.int .i64 (tr:Int)):=aAa HR0.out
 have xf1:w2.frozen? ⟨n0,1,none⟩=false:=aAb HR0.out
 have x2:w2.cell? ⟨n0,2,none⟩=some (.bool true):=aAa HR0.out
 have xf2:w2.frozen? ⟨n0,2,none⟩=false:=aAb HR0.out
 have z0:w2.cell? ⟨n2,0,none⟩=some (.int .i64 0):=aAa HR2.out
 have zf0:w2.frozen? ⟨n2,0,none⟩=false:=aAb HR2.out
 have z1:w2.cell? ⟨n2,1,none⟩=some (.int .i64 0):=aAa HR2.out
 have zf1:w2.frozen? ⟨n2,1,none⟩=false:=aAb HR2.out
 have z2:w2.cell? ⟨n2,2,none⟩=some (.bool false):=aAa HR2.out
 have zf2:w2.frozen? ⟨n2,2,none⟩=false:=aAb HR2.out
 go_wp2
 (try simp only [Exit.inBlock,Exit.then])
 have HBF:=hide (bel3 (b0:=(.int .i64 (tl:Int))) (b1:=(.int .i64 (tr:Int))) (b2:=(.bool true)) HB2.out (show n0≤n2 by omega))
 refine bodyPost_ret (results_cell_row Tryz.results36 _ _ n2 _ _ _ _ rfl (set3 HR2.out) Tryz.underlying58 rfl aE1) rfl ?_
 exact ⟨by rfl,by rw [hn0];exact HBF.out⟩
theorem aEm {B lg at_:Nat} (hv:lg<256) (ha:at_<256) (w:World):Calls Tryz.prog 58 #[.int .i64 (lg:Int),.int .i64 (at_:Int)] w fun e w'=>∃ a c,e=.returned (.slice a 2 c)∧BK B w' a 2 c [lg,at_]∧Below w.heap.size w w':=by
 have ew:IntKind.u8.wrap (lg:Int)=(lg:Int):=by rw [IntKind.wrap_u8];omega
 have ea:IntKind.u8.wrap (at_:Int)=(at_:Int):=by rw [IntKind.wrap_u8];omega
 obtain ⟨a,c,e1,hk⟩:=BK.owned (B:=B) (xs:=[lg,at_]) (own_two w lg at_) (by simp) (by intro n hn;simp at hn;omega)
 simp only [Value.slice.injEq] at e1
 obtain ⟨rfl,hz,rfl⟩:=e1
 clear hz
 have HK:=hide hk
 have HBX:=hide (aAc w (.cells #[.int .u8 (lg:Int),.int .u8 (at_:Int)] 5))
 clear hk
 go_enter Tryz.func58,Tryz.ntmps58
 go_wp2
 go_ret
 exact ⟨_,_,rfl,HK.out,HBX.out⟩
theorem markKey_any {B v:Nat} (hv:v<256) (w:World):Calls Tryz.prog 67 #[.int .i64 (v:Int)] w fun e w'=>∃ a c,e=.returned (.slice a 1 c)∧BK B w' a 1 c [v]∧Below w.heap.size w w':=by
 have ew:IntKind.u8.wrap (v:Int)=(v:Int):=by rw [IntKind.wrap_u8];omega
 obtain ⟨a,c,e1,hk⟩:=BK.owned (B:=B) (xs:=[v]) (aGc w v) (by simp) (by intro n hn;simp at hn;omega)
 simp only [Value.slice.injEq] at e1
 obtain ⟨rfl,hz,rfl⟩:=e1
 clear hz
 have HK:=hide hk
 have HBX:=hide (aAc w (.cells #[.int .u8 (v:Int)] 5))
 clear hk
 go_enter Tryz.func67,Tryz.ntmps67
 go_wp2
 go_ret
 exact ⟨_,_,rfl,HK.out,HBX.out⟩
theorem nlaid_any {ka va:Option Addr} {kn kc vn vc:Nat} (w:World):Calls Tryz.prog 66 #[.slice ka kn kc,.slice va vn vc] w fun e w'=>e=.returned (.agg #[.int .i64 0,.slice ka kn kc,.slice va vn vc,.bool false])∧Below w.heap.size w w':=by
 have HN1:Hid ((w.alloc (.cells #[.int .i64 0,.slice none 0 0,.slice none 0 0,.bool false] 103)).heap[w.heap.size]?=some (.cells #[.int .i64 0,.slice none 0 0,.slice none 0 0,.bool false] 103 (0,0))):=heap_alloc_new w _
 have HB1:=hide (aAc w (.cells #[.int .i64 0,.slice none 0 0,.slice none 0 0,.bool false] 103))
 go_enter Tryz.func66,Tryz.ntmps66
 go_upto_region 1 with fail
 generalize w.alloc (.cells #[.int .i64 0,.slice none 0 0,.slice none 0 0,.bool false] 103)=w1 at *
 generalize hn0:w.heap.size=n0 at *
 have z0:w1.cell? ⟨n0,0,none⟩=some (.int .i64 0):=aAa HN1.out
 have zf0:w1.frozen? ⟨n0,0,none⟩=false:=aAb HN1.out
 have z1:w1.cell? ⟨n0,1,none⟩=some (.slice none 0 0):=aAa HN1.out
 have zf1:w1.frozen? ⟨n0,1,none⟩=false:=aAb HN1.out
 have z2:w1.cell? ⟨n0,2,none⟩=some (.slice none 0 0):=aAa HN1.out
 have zf2:w1.frozen? ⟨n0,2,none⟩=false:=aAb HN1.out
 have z3:w1.cell? ⟨n0,3,none⟩=some (.bool false):=aAa HN1.out
 have zf3:w1.frozen? ⟨n0,3,none⟩=false:=aAb HN1.out
 go_wp2
 (try simp only [Exit.inBlock,Exit.then])
 have HBF:=hide (bel4 (b0:=.int .i64 0) (b1:=.slice ka kn kc) (b2:=.slice va vn vc) (b3:=.bool false) HB1.out (nR n0))
 refine bodyPost_ret (results_cell_row Tryz.results66 _ _ n0 _ _ _ _ rfl (set4 HN1.out) Tryz.underlying103 rfl info_change) rfl ?_
 exact ⟨rfl,by rw [hn0];exact HBF.out⟩
def chC0 (kv:List (Value×Value)):List Value:=kv.flatMap fun x=>[.int .i64 0,x.1,x.2,.bool false]
theorem chC0_get:∀ {kv:List (Value×Value)} {i:Nat} {x:Value×Value},kv[i]?=some x→(chC0 kv)[i*4]?=some (.int .i64 0)∧(chC0 kv)[i*4+1]?=some x.1∧(chC0 kv)[i*4+2]?=some x.2∧(chC0 kv)[i*4+3]?=some (.bool false)
 | [],i,x,h=>by simp at h
 | y::kv,0,x,h=>by
  simp only [List.getElem?_cons_zero,oI] at h
  subst h
  exact ⟨rfl,rfl,rfl,rfl⟩
 | y::kv,i+1,x,h=>by
  have e:=chC0_get (kv:=kv) (i:=i) (x:=x) (by simpa using h)
  have f:∀ j,(chC0 (y::kv))[j+4]?=(chC0 kv)[j]?:=fun j=>rfl
  refine ⟨?_,?_,?_,?_⟩
  ·rw [show (i+1)*4=i*4+4 by omega,f];exact e.1
  ·rw [show (i+1)*4+1=i*4+1+4 by omega,f];exact e.2.1
  ·rw [show (i+1)*4+2=i*4+2+4 by omega,f];exact e.2.2.1
  ·rw [show (i+1)*4+3=i*4+3+4 by omega,f];exact e.2.2.2
def CHV0 (B:Nat) (w:World) (v:Value) (cl:List It):Prop:=∃ (kv:List (Value×Value)) (g cap:Nat),v=.slice (some ⟨g,0,none⟩) cl.length cap∧kv.length=cl.length∧w.heap[g]?=some (.cells (chC0 kv).toArray 103 (0,0))∧∀ (i:Nat) it x,cl[i]?=some it→kv[i]?=some x→KV B w x.1 it.1∧KV B w x.2 it.2
theorem CHV0.stay {B:Nat} {w w':World} {v:Value} {cl:List It} (h:CHV0 B w v cl) (f:FT B w w') (hk:∀ (k:Nat) (cs:Array Value),w.heap[k]?=some (.cells cs 103 (0,0))→w'.heap[k]?=some (.cells cs 103 (0,0))):CHV0 B w' v cl:=by
 obtain ⟨kv,g,cap,h1,h2,h3,h4⟩:=h
 exact ⟨kv,g,cap,h1,h2,hk g _ h3,fun i it x e1 e2=>⟨(h4 i it x e1 e2).1.ft f,(h4 i it x e1 e2).2.ft f⟩⟩
theorem CHV0.later {B:Nat} {w w':World} {v:Value} {cl:List It} (h:CHV0 B w v cl) (hb:Below w.heap.size w w') (hB:B≤w.heap.size):CHV0 B w' v cl :=
 h.stay (FT.of hb hB) fun k cs e=>(hb.block k (lO e)).trans e
theorem CHV0.at {B:Nat} {w:World} {v:Value} {cl:List It} (h:CHV0 B w v cl) {j:Nat} {it:It} (hj:cl[j]?=some it):∃ g cap ka kc va vc,v=.slice (some ⟨g,0,none⟩) cl.length cap∧w.cell? ⟨g,j*4,none⟩=some (.int .i64 0)∧w.cell? ⟨g,j*4+1,none⟩=some (.slice ka it.1.length kc)∧w.cell? ⟨g,j*4+2,none⟩=some (.slice va it.2.length vc)∧w.cell? ⟨g,j*4+3,none⟩=some (.bool false)∧BK B w ka it.1.length kc it.1∧BK B w va it.2.length vc it.2:=by
 obtain ⟨kv,g,cap,h1,h2,h3,h4⟩:=h
 have hlt:=(lL hj)
 obtain ⟨x,hx⟩:∃ x,kv[j]?=some x:=⟨_,gE (by omega)⟩
 obtain ⟨⟨ka,kc,e1,b1⟩,⟨va,vc,e2,b2⟩⟩:=h4 j it x hj hx
 obtain ⟨p0,p1,p2,p3⟩:=chC0_get hx
 have get:∀ i u,(chC0 kv)[i]?=some u→w.cell? ⟨g,i,none⟩=some u:=fun i u hi=>by
  rw [aAa h3,List.getElem?_toArray]
  exact hi
 exact ⟨g,cap,ka,kc,va,vc,h1,get _ _ p0,by rw [←e1];exact get _ _ p1,by rw [←e2];exact get _ _ p2,get _ _ p3,b1,b2⟩
theorem aEy (w:World):Calls Tryz.prog 53 #[.int .i64 0] w fun e w'=>e=.returned (.bool true)∧w'=w:=by
 go_enter Tryz.func53,Tryz.ntmps53
 go_wp2
 go_ret
 exact ⟨rfl,rfl⟩
theorem isWrong_no0 {ka va:Option Addr} {kn kc vn vc:Nat} (w:World) (h0:0<kn) :
  Calls Tryz.prog 87 #[.agg #[.int .i64 0,.slice ka kn kc,.slice va vn vc,.bool false]] w fun e w'=>e=.returned (.bool false)∧Below w.heap.size w w':=by
 have zb:((kn:Int) == 0)=false:=by simp;omega
 have HBX:=hide (aAc w (.cells #[.int .i64 0,.slice ka kn kc,.slice va vn vc,.bool false] 103))
 have HIS:=hide (fun w=>aEy w)
 go_enter Tryz.func87,Tryz.ntmps87
 go_wp2_with fail
 refine (HIS.out _).mono ?_
 rintro e w1 ⟨rfl,hw⟩
 have hw:=hw.symm
 subst hw
 go_wp2
 go_ret
 refine ⟨?_,HBX.out⟩
 first | rfl | (show Ending.returned (.bool ((kn:Int) == 0))=_;rw [zb])
theorem isLong_no0 {ka va:Option Addr} {kn kc vn vc:Nat} (w:World) (h0:kn≤60) (h1:vn≤1800) :
  Calls Tryz.prog 88 #[.agg #[.int .i64 0,.slice ka kn kc,.slice va vn vc,.bool false]] w fun e w'=>e=.returned (.bool false)∧Below w.heap.size w w':=by
 have z0:¬ (60:Int)<(kn:Int):=by omega
 have z1:¬ (1800:Int)<(vn:Int):=by omega
 have HBX:=hide (aAc w (.cells #[.int .i64 0,.slice ka kn kc,.slice va vn vc,.bool false] 103))
 go_enter Tryz.func88,Tryz.ntmps88
 go_wp2
 go_ret
 exact ⟨rfl,HBX.out⟩
theorem aGi {B K:Nat} {w:World} {v:Value} {cl:List It} (hv:CHV0 B w v cl) (hB:B≤w.heap.size) (hl:cl.length≤1000) (hcf:∀ (a:Value) (ww:World),(callFunc K #[a]).run Tryz.prog ww=.ok (.enter K #[a]) ww)
  (hK:∀ (it:It) (ka va:Option Addr) (kc vc:Nat) (ww:World),it∈cl→Calls Tryz.prog K #[.agg #[.int .i64 0,.slice ka it.1.length kc,.slice va it.2.length vc,.bool false]] ww fun e w'=>e=.returned (.bool false)∧Below ww.heap.size ww w') :
  Calls Tryz.prog 107 #[v,.func (Fn.func K) #[] #[]] w fun e w'=>e=.returned (.int .i64 (-1))∧Below w.heap.size w w':=by
 obtain ⟨g,cap,hform⟩:∃ g cap,v=.slice (some ⟨g,0,none⟩) cl.length cap:=by
  obtain ⟨kv,g,cap,h1,_⟩:=hv
  exact ⟨g,cap,h1⟩
 subst hform
 have HV:=hide hv
 have HK:=hide hK
 have HCF:=hide hcf
 clear hv hK hcf
 generalize hN:cl.length=M at *
 go_enter Tryz.func107,Tryz.ntmps107
 go_wp2_with fail
 go_loopw [8] (fun i wx=>∃ j:Nat,j≤M∧i=.int .i64 j∧Below w.heap.size w wx) (fun i _=>M-(intOf i).toNat)
 case atStart=>exact ⟨0,by omega,rfl,Below.refl _ _⟩
 case round =>
  obtain ⟨j,hj,rfl,hb⟩:=hrel
  have HB:=hide hb
  by_cases hjn:j<M
  ·have xj:(j:Int)<(M:Int):=by omega
   obtain ⟨it,hit⟩:∃ it,cl[j]?=some it:=⟨_,gE (by omega)⟩
   obtain ⟨g',cap',ka,kc,va,vc,f1,q1,q2,q3,q4,q5,q6⟩:=(HV.out.later hb hB).at hit
   rw [hN] at f1
   simp only [Value.slice.injEq,oI,Addr.mk.injEq] at f1
   obtain ⟨⟨rfl,_,_⟩,_,rfl⟩:=f1
   have HC:=hide (HK.out it ka va kc vc wr (mG hit))
   have hcf1:=HCF.out (.agg #[.int .i64 0,.slice ka it.1.length kc,.slice va it.2.length vc,.bool false]) wr
   generalize it.1.length=kn at *
   generalize it.2.length=vn at *
   clear hb hit q5 q6
   go_wp2_with fail
   refine HC.out.mono ?_
   rintro e w1 ⟨rfl,hb1⟩
   have HB1:=hide (HB.out.trans (hb1.mono HB.out.size))
   clear hb1 HC
   go_wp2_with fail
   go_roundw
   case rel=>exact ⟨j+1,by omega,by go_num,HB1.out⟩
   case measure=>simp [intOf];omega
  ·have xj:¬ (j:Int)<(M:Int):=by omega
   clear hb
   go_wp2
   go_ret
   exact ⟨rfl,HB.out⟩
theorem aCb {B K:Nat} {w:World} {v:Value} {cl:List It} (hv:CHV0 B w v cl) (hB:B≤w.heap.size) (hl:cl.length≤1000) (hcf:∀ (a:Value) (ww:World),(callFunc K #[a]).run Tryz.prog ww=.ok (.enter K #[a]) ww)
  (hK:∀ (it:It) (ka va:Option Addr) (kc vc:Nat) (ww:World),it∈cl→Calls Tryz.prog K #[.agg #[.int .i64 0,.slice ka it.1.length kc,.slice va it.2.length vc,.bool false]] ww fun e w'=>e=.returned (.bool false)∧Below ww.heap.size ww w') :
  Calls Tryz.prog 86 #[v,.func (Fn.func K) #[] #[]] w fun e w'=>e=.returned (.bool false)∧Below w.heap.size w w':=by
 have HI:=hide (aGi hv hB hl hcf hK)
 obtain ⟨g,cap,hform⟩:∃ g cap,v=.slice (some ⟨g,0,none⟩) cl.length cap:=by
  obtain ⟨kv,g,cap,h1,_⟩:=hv
  exact ⟨g,cap,h1⟩
 subst hform
 clear hv hcf hK
 go_enter Tryz.func86,Tryz.ntmps86
 go_wp2_with fail
 refine HI.out.mono ?_
 rintro e w1 ⟨rfl,hb1⟩
 have HB1:=hide hb1
 clear hb1
 go_wp2
 go_ret
 exact ⟨rfl,HB1.out⟩
theorem LS.refusal0 [Gd] {B p q g ls N c u:Nat} {l:List It} {W w:World} {v:Value} {cl:List It} (h:LS B p q g ls N c u l W w) (hv:CHV0 B w v cl) (hl:cl.length≤1000) (hok:∀ x∈cl,0<x.1.length∧x.1.length≤60∧x.2.length≤1800) :
  Calls Tryz.prog 52 #[.pointer (some ⟨ls,0,none⟩),.bool true,v] w fun e w'=>e=.returned (.int .i64 0)∧Below w.heap.size w w':=by
 have HD:=hide h.dead
 have HBW:=hide h.bw
 have HV:=hide hv
 have HOK:=hide hok
 obtain ⟨gv,cap,hform⟩:∃ g cap,v=.slice (some ⟨g,0,none⟩) cl.length cap:=by
  obtain ⟨kv,g,cap,h1,_⟩:=hv
  exact ⟨g,cap,h1⟩
 subst hform
 clear h hv hok
 go_enter Tryz.func52,Tryz.ntmps52
 go_wp2_with fail
 refine HD.out.mono ?_
 rintro e w1 ⟨rfl,hb1⟩
 have HB1:=hide hb1
 have HV1:=hide (HV.out.later hb1 HBW.out)
 have HBW1:Hid (B≤w1.heap.size):=nT HBW.out hb1.size
 have HC1:=hide (aCb (K:=87) HV1.out HBW1.out hl (fun a ww=>by rfl) (fun it ka va kc vc ww hm=>isWrong_no0 ww (HOK.out it hm).1))
 clear hb1
 go_wp2_with fail
 refine HC1.out.mono ?_
 rintro e w2 ⟨rfl,hb2⟩
 have HB2:=hide (HB1.out.trans (hb2.mono HB1.out.size))
 have HV2:=hide (HV1.out.later hb2 HBW1.out)
 have HBW2:Hid (B≤w2.heap.size):=nT HBW1.out hb2.size
 have HC2:=hide (aCb (K:=88) HV2.out HBW2.out hl (fun a ww=>by rfl) (fun it ka va kc vc ww hm=>isLong_no0 ww (HOK.out it hm).2.1 (HOK.out it hm).2.2))
 clear hb2 HC1
 go_wp2_with fail
 refine HC2.out.mono ?_
 rintro e w3 ⟨rfl,hb3⟩
 have HB3:=hide (HB2.out.trans (hb3.mono HB2.out.size))
 clear hb3 HC2
 go_wp2
 go_ret
 exact ⟨rfl,HB3.out⟩
theorem treeKey_0 {B:Nat} {w:World} {a:Option Addr} {n c:Nat} {xs:List Nat} (h:BS w a n c xs) (hn:n≤10000) :
  Calls Tryz.prog 55 #[.int .i64 0,.slice a n c] w fun e w'=>∃ b d,e=.returned (.slice b (n+1) d)∧BK B w' b (n+1) d (0::xs)∧Below w.heap.size w w':=aB4 (sp:=0) (by decide) h hn
theorem CHV0.one {B g:Nat} {w:World} {kv vv:Value} {it:It} (h:w.heap[g]?=some (.cells #[.int .i64 0,kv,vv,.bool false] 103 (0,0))) (hk:KV B w kv it.1) (hv:KV B w vv it.2):CHV0 B w (.slice (some ⟨g,0,none⟩) 1 1) [it]:=by
 refine ⟨[(kv,vv)],g,1,rfl,rfl,h,fun i it' x h1 h2=>?_⟩
 have:i=0:=by
  have:=(lL h1)
  simp at this
  omega
 subst this
 simp at h1 h2
 subst h1 h2
 exact ⟨hk,hv⟩
theorem LS.Get0 [Gd] {B p q g ls N c u:Nat} {l:List It} {W w:World} (h:LS B p q g ls N c u l W w) {ka:Option Addr} {kn kc:Nat} {key:List Nat} (hk:BK B w ka kn kc key) (h0:0<kn) (h6:kn≤60) :
  Calls Tryz.prog 62 #[.pointer (some ⟨ls,0,none⟩),.int .i64 0,.slice ka kn kc] w fun e w'=>GtT B (valL l (0::key)) w e w':=by
 have hkl:=hk.len
 obtain ⟨x1,hx1⟩:∃ x,x=w.alloc (.cells #[.int .i64 0,.slice ka kn kc,.slice none 0 0,.bool false] 103):=⟨_,rfl⟩
 obtain ⟨x2,hx2⟩:∃ x,x=x1.alloc (.cells #[.int .i64 0,.slice ka kn kc,.slice none 0 0,.bool false] 103):=⟨_,rfl⟩
 have b1:Below w.heap.size w x1:=by rw [hx1];exact aAc w _
 have b2:Below x1.heap.size x1 x2:=by rw [hx2];exact aAc x1 _
 have HB2:Hid (Below w.heap.size w x2):=b1.trans (b2.mono b1.size)
 have hs1:x1.heap.size=w.heap.size+1:=by rw [hx1];exact Array.size_push _
 have hnew:x2.heap[w.heap.size+1]?=some (.cells #[.int .i64 0,.slice ka kn kc,.slice none 0 0,.bool false] 103 (0,0)):=by rw [←hs1,hx2];exact heap_alloc_new x1 _
 have hL2:=h.later HB2.out
 have HRF:=hide (hL2.refusal0 (CHV0.one (it:=(key,[])) hnew ⟨ka,kc,by rw [hkl],by rw [hkl];exact hk.later HB2.out h.bw⟩ (kv_nil _ _)) (by simp) (by intro x hx;simp only [List.mem_singleton] at hx;subst hx;exact ⟨by rw [hkl];exact h0,by rw [hkl];exact h6,by simp⟩))
 have HL:=hide hL2
 have HK:=hide (hk.later HB2.out h.bw)
 rw [hx2,hx1] at HRF
 clear h hk b1 b2 hs1 hnew hL2
 go_enter Tryz.func62,Tryz.ntmps62
 go_wp2_with fail
 refine HRF.out.mono ?_
 rintro e w3 ⟨rfl,hb3⟩
 rw [←hx1,←hx2] at hb3
 have HL3:=hide (HL.out.later hb3)
 have HK3:=hide (HK.out.later hb3 HL.out.bw)
 have HB3:=hide (HB2.out.trans (hb3.mono HB2.out.size))
 clear hb3 HRF hx1 hx2 HB2
 have HX0:Hid ((fun wx=>wx.cell? ⟨ls,0,none⟩=some (.pointer (some ⟨g,0,none⟩))) w3.drew):=HL3.out.cell0
 have HLD:=hide (HL3.out.later (Below.refl _ _).drew)
 have HKD:=hide (HK3.out.later (Below.refl _ _).drew HL3.out.bw)
 have HBD:Hid (Below w.heap.size w w3.drew):=HB3.out.drew
 go_upto_region 5 with fail
 have HTK:=hide (treeKey_0 (B:=B) HKD.out.1 (by omega))
 refine wp_region_noPanic ?_
 refine wp_region_held_drew (S:=fun wx=>wx.cell? ⟨ls,0,none⟩=some (.pointer (some ⟨g,0,none⟩))) (by kernel_rfl) HX0.out (fun hHeld=>?_)
 refine wpAnyH_tk 0 22 ?_
 refine wpAnyH_tk 1 23 ?_
 refine wpAnyH_tk 2 24 ?_
 refine wpAnyH_tk 3 25 ?_
 refine wpAnyH_tk 4 26 ?_
 refine wpAnyH_tk 5 27 ?_
 refine wpAnyH_cm 6 ?_;intro K hK
 go_simp
 refine HTK.out.mono ?_
 rintro e w5 ⟨tb,td,rfl,hk5,hb5⟩
 have HL5:=hide (HLD.out.later hb5)
 have HB5:=hide (HBD.out.trans (hb5.mono HBD.out.size))
 have HGT:=hide (HL5.out.kx.Get hk5 (by omega) (by omega))
 have HX5:Hid ((fun wx=>wx.cell? ⟨ls,0,none⟩=some (.pointer (some ⟨g,0,none⟩))) w5):=HL5.out.cell0
 clear hk5 hb5 hHeld
 refine hK.out _ _ HX5.out (fun hHeld=>?_)
 clear hK K
 try simp only [Act.put,siT,scZ,scS]
 refine wpAnyH_cm 7 ?_;intro K hK
 go_simp
 refine HGT.out.mono ?_
 rintro e w6 ⟨v,isb,rfl,hv6,hb6⟩
 obtain ⟨va,vn,vc,hva⟩:=hv6.form
 subst hva
 have HL6:=hide (HL5.out.later hb6)
 have HB6:=hide (HB5.out.trans (hb6.mono HB5.out.size))
 have HV6:=hide hv6
 have HX6:Hid ((fun wx=>wx.cell? ⟨ls,0,none⟩=some (.pointer (some ⟨g,0,none⟩))) w6):=HL6.out.cell0
 clear hv6 hb6 hHeld
 refine hK.out _ _ HX6.out (fun hHeld=>?_)
 clear hK K
 try simp only [Act.put,siT,scZ,scS]
 refine wpAnyH_tk 8 30 ?_
 refine wpAnyH_tk 9 31 ?_
 refine wpAnyH_tk 10 32 ?_
 refine wpAnyH_tk 11 6 ?_
 refine wpAnyH_tk 12 7 ?_
 refine wpAnyH_tk 13 8 ?_
 refine wpAnyH_done (by kernel_rfl) ?_ _
 refine NoPanic.normal ?_
 clear hHeld
 go_wp2
 go_ret3
 exact ⟨_,isb,rfl,HV6.out,HB6.out⟩
theorem LS.putOrTake0 [Gd] {B p q g ls N c u:Nat} {l:List It} {W w:World} (hg0:Gd.g=none) (h:LS B p q g ls N c u l W w) (hu:u+20≤N) (hu2:u≤3000) (hl:l.length<90) (it:It) (hit:ItOk it) {ka va:Option Addr} {kn kc vn vc:Nat} (hkn:it.1.length=kn) (hvn:it.2.length=vn) (hk:BK B w ka kn kc it.1) (hv:BK B w va vn vc it.2) {xa:Option Addr} {xn xc:Nat} :
  Calls Tryz.prog 113 #[.pointer (some ⟨ls,0,none⟩),.slice ka kn kc,.agg #[.int .i64 0,.slice xa xn xc,.slice va vn vc,.bool false]] w fun e w'=>e=.returned (.int .i64 0)∧ChF B g w w'∧LS B p q g ls N c (u+9) (putL l it) W w':=by
 have HBX:=hide (aAc w (.cells #[.int .i64 0,.slice xa xn xc,.slice va vn vc,.bool false] 103))
 have HNW:Hid ((w.alloc (.cells #[.int .i64 0,.slice xa xn xc,.slice va vn vc,.bool false] 103)).heap[w.heap.size]?=some (.cells #[.int .i64 0,.slice xa xn xc,.slice va vn vc,.bool false] 103 (0,0))):=heap_alloc_new w _
 have HL1:=hide (h.later HBX.out)
 have HK1:=hide (hk.later HBX.out h.bw)
 have HV1:=hide (hv.later HBX.out h.bw)
 have HBW:=hide h.bw
 have HIT:=hide hit
 clear h hk hv hit
 go_enter Tryz.func113,Tryz.ntmps113
 go_upto_region 1 with fail
 generalize hcb:w.heap.size=cb at *
 generalize w.alloc (.cells #[.int .i64 0,.slice xa xn xc,.slice va vn vc,.bool false] 103)=w1 at *
 have r3:w1.cell? ⟨cb,3,none⟩=some (.bool false):=aAa HNW.out
 have hd:Below w1.heap.size w1 w1.drew:=(Below.refl _ _).drew
 have HLD:=hide (HL1.out.later hd)
 have HPU:=hide (HLD.out.kx.Put hg0 hu hu2 hl it HIT.out hkn hvn (HK1.out.later hd HL1.out.bw) (HV1.out.later hd HL1.out.bw))
 have HX0:Hid ((fun wx=>wx.cell? ⟨ls,0,none⟩=some (.pointer (some ⟨g,0,none⟩))∧wx.cell? ⟨cb,2,none⟩=some (.slice va vn vc)) w1.drew):=⟨HLD.out.cell0,aAa HNW.out⟩
 have HBD:Hid (Below cb w w1.drew):=HBX.out.drew
 have HNW2:Hid (w1.drew.heap[cb]?=some (.cells #[.int .i64 0,.slice xa xn xc,.slice va vn vc,.bool false] 103 (0,0))):=HNW.out
 clear hd
 go_upto_region 2 with fail
 have HN2:Hid (w1.drew.heap[cb]?=some (.cells #[.int .i64 0,.slice xa xn xc,.slice va vn vc,.bool false] 103 (0,0))):=HNW2.out
 have HXC:Hid (∀ w3,ChF B g w1.drew w3→w3.cell? ⟨cb,2,none⟩=some (.slice va vn vc)):=fun w3 hc=>by
  obtain ⟨cg,hg⟩:=HLD.out.kx.blk
  refine aAa (hc.2 _ _ _ _ HN2.out (by decide) (fun q9=>?_))
  have h9:=HN2.out
  rw [q9,hg] at h9
  simp only [oI,cI] at h9
  exact absurd h9.2.1 (by decide)
 refine wp_region_noPanic ?_
 refine wp_region_held_drew (S:=fun wx=>wx.cell? ⟨ls,0,none⟩=some (.pointer (some ⟨g,0,none⟩))∧wx.cell? ⟨cb,2,none⟩=some (.slice va vn vc)) (by kernel_rfl) HX0.out (fun hHeld=>?_)
 refine wpAnyH_tk 0 12 ?_
 refine wpAnyH_tk 1 13 ?_
 refine wpAnyH_tk 2 14 ?_
 refine wpAnyH_tk 3 15 ?_
 refine wpAnyH_tk 4 16 ?_
 refine wpAnyH_tk 5 17 ?_
 refine wpAnyH_tk 6 18 ?_
 refine wpAnyH_tk 7 19 ?_
 refine wpAnyH_cm 8 ?_;intro K hK
 go_simp
 refine HPU.out.mono ?_
 rintro e w3 ⟨rfl,hc3,hx3⟩
 have HL3:=hide (HLD.out.ch hc3 hx3)
 have HC3:=hide hc3
 have HX3:Hid ((fun wx=>wx.cell? ⟨ls,0,none⟩=some (.pointer (some ⟨g,0,none⟩))∧wx.cell? ⟨cb,2,none⟩=some (.slice va vn vc)) w3):=⟨HL3.out.cell0,HXC.out w3 hc3⟩
 clear hc3 hx3 hHeld
 refine hK.out _ _ HX3.out (fun hHeld=>?_)
 clear hK K
 try simp only [Act.put,siT,scZ,scS]
 refine wpAnyH_tk 9 6 ?_
 refine wpAnyH_done (by kernel_rfl) ?_ _
 refine NoPanic.normal ?_
 clear hHeld
 go_wp2
 go_ret
 refine ⟨rfl,⟨(HBD.out.mono HBW.out).trans HC3.out.1,fun k cs t fz e n1 n2=>HC3.out.2 k cs t fz ((HBD.out.block k (by have:=(lO e);omega)).trans e) n1 n2⟩,HL3.out⟩
theorem LS.layOne0 [Gd] {B p q g ls N c u fb:Nat} {l:List It} {W w:World} (hg0:Gd.g=none) (h:LS B p q g ls N c u l W w) (hu:u+20≤N) (hu2:u≤3000) (hl:l.length<90) (it:It) (hit:ItOk (0::it.1,it.2)) {xa va:Option Addr} {xn xc vn vc:Nat} (hxn:it.1.length=xn) (hvn:it.2.length=vn) (hk:BK B w xa xn xc it.1) (hv:BK B w va vn vc it.2) {cf:Array Value} (hBf:B≤fb) (hf:w.heap[fb]?=some (.cells cf 77 (0,0))) (hF:FGV cf) :
  Calls Tryz.prog 93 #[.pointer (some ⟨ls,0,none⟩),.agg #[.int .i64 0,.slice xa xn xc,.slice va vn vc,.bool false],.pointer (some ⟨fb,0,none⟩)] w fun e w'=>e=.returned (.int .i64 0)∧LyF B g fb w w'∧LS B p q g ls N c (u+9) (putL l (0::it.1,it.2)) W w'∧∃ cf',w'.heap[fb]?=some (.cells cf' 77 (0,0))∧FGV cf':=by
 have h6:xn≤63:=by
  have h9:(0::it.1).length≤64:=hit.k1
  simp at h9
  omega
 have HBX:=hide (aAc w (.cells #[.int .i64 0,.slice xa xn xc,.slice va vn vc,.bool false] 103))
 have HNW:Hid ((w.alloc (.cells #[.int .i64 0,.slice xa xn xc,.slice va vn vc,.bool false] 103)).heap[w.heap.size]?=some (.cells #[.int .i64 0,.slice xa xn xc,.slice va vn vc,.bool false] 103 (0,0))):=heap_alloc_new w _
 have HL1:=hide (h.later HBX.out)
 have HK1:=hide (hk.later HBX.out h.bw)
 have HV1:=hide (hv.later HBX.out h.bw)
 have HF1:=hide ((HBX.out.block fb (lO hf)).trans hf)
 have HFV:=hide hF
 have HBW:=hide h.bw
 have HIT:=hide hit
 clear h hk hv hit hf hF
 go_enter Tryz.func93,Tryz.ntmps93
 go_upto_region 1 with fail
 generalize hcb:w.heap.size=cb at *
 generalize w.alloc (.cells #[.int .i64 0,.slice xa xn xc,.slice va vn vc,.bool false] 103)=w1 at *
 have r0:w1.cell? ⟨ls,0,none⟩=some (.pointer (some ⟨g,0,none⟩)):=HL1.out.cell0
 have HLE:=hide HL1.out.kx.Len
 go_wp2_with fail
 refine HLE.out.mono ?_
 rintro e w9 ⟨rfl,hw⟩
 have hw:=hw.symm
 subst hw
 have hd:Below w1.heap.size w1 w1.drew:=(Below.refl _ _).drew
 have HLD:=hide (HL1.out.later hd)
 have HNWD:Hid (w1.drew.heap[cb]?=some (.cells #[.int .i64 0,.slice xa xn xc,.slice va vn vc,.bool false] 103 (0,0))):=HNW.out
 have HFD:Hid (w1.drew.heap[fb]?=some (.cells cf 77 (0,0))):=HF1.out
 have HVD:=hide (HV1.out.later hd HL1.out.bw)
 have HTK:=hide (treeKey_0 (B:=B) (HK1.out.later hd HL1.out.bw).1 (by omega))
 have HX0:Hid ((fun wx=>wx.cell? ⟨ls,0,none⟩=some (.pointer (some ⟨g,0,none⟩))∧wx.cell? ⟨cb,0,none⟩=some (.int .i64 0)∧wx.cell? ⟨cb,1,none⟩=some (.slice xa xn xc)∧wx.cell? ⟨cb,2,none⟩=some (.slice va vn vc)∧wx.cell? ⟨cb,3,none⟩=some (.bool false)) w1.drew):=⟨HLD.out.cell0,aAa HNW.out,aAa HNW.out,aAa HNW.out,aAa HNW.out⟩
 have HBD:Hid (Below cb w w1.drew):=HBX.out.drew
 clear hd r0 HLE
 go_upto_region 2 with fail
 refine wp_region_noPanic ?_
 refine wp_region_held_drew (S:=fun wx=>wx.cell? ⟨ls,0,none⟩=some (.pointer (some ⟨g,0,none⟩))∧wx.cell? ⟨cb,0,none⟩=some (.int .i64 0)∧wx.cell? ⟨cb,1,none⟩=some (.slice xa xn xc)∧wx.cell? ⟨cb,2,none⟩=some (.slice va vn vc)∧wx.cell? ⟨cb,3,none⟩=some (.bool false)) (by kernel_rfl) HX0.out (fun hHeld=>?_)
 refine wpAnyH_tk 0 14 ?_
 refine wpAnyH_tk 1 15 ?_
 refine wpAnyH_tk 2 16 ?_
 refine wpAnyH_tk 3 17 ?_
 refine wpAnyH_tk 4 18 ?_
 refine wpAnyH_tk 5 19 ?_
 refine wpAnyH_tk 6 20 ?_
 refine wpAnyH_tk 8 22 ?_
 refine wpAnyH_cm 7 ?_;intro K hK
 go_simp
 refine HTK.out.mono ?_
 rintro e w3 ⟨tb,td,rfl,hk3,hb3⟩
 have HL3:=hide (HLD.out.later hb3)
 have HNW3:Hid (w3.heap[cb]?=some (.cells #[.int .i64 0,.slice xa xn xc,.slice va vn vc,.bool false] 103 (0,0))):=(hb3.block cb (lO HNWD.out)).trans HNWD.out
 have HF3:Hid (w3.heap[fb]?=some (.cells cf 77 (0,0))):=(hb3.block fb (lO HFD.out)).trans HFD.out
 have HB3:Hid (Below cb w w3):=HBD.out.trans (hb3.mono (by rw [←hcb];exact HBD.out.size))
 have HPT:=hide (HL3.out.putOrTake0 hg0 hu hu2 hl (0::it.1,it.2) HIT.out (by show (0::it.1).length=xn+1;simp [hxn]) hvn hk3 (HVD.out.later hb3 HLD.out.bw) (xa:=xa) (xn:=xn) (xc:=xc))
 have HX3:Hid ((fun wx=>wx.cell? ⟨ls,0,none⟩=some (.pointer (some ⟨g,0,none⟩))∧wx.cell? ⟨cb,0,none⟩=some (.int .i64 0)∧wx.cell? ⟨cb,1,none⟩=some (.slice xa xn xc)∧wx.cell? ⟨cb,2,none⟩=some (.slice va vn vc)∧wx.cell? ⟨cb,3,none⟩=some (.bool false)) w3):=⟨HL3.out.cell0,aAa HNW3.out,aAa HNW3.out,aAa HNW3.out,aAa HNW3.out⟩
 clear hk3 hb3 hHeld
 refine hK.out _ _ HX3.out (fun hHeld=>?_)
 clear hK K
 try simp only [Act.put,siT,scZ,scS]
 refine wpAnyH_cm 9 ?_;intro K hK
 go_simp
 refine HPT.out.mono ?_
 rintro e w4 ⟨rfl,hc4,hl4⟩
 obtain ⟨cg,hg⟩:=HL3.out.kx.blk
 have HL4:=hide hl4
 have HC4:=hide hc4
 have HNW4:Hid (w4.heap[cb]?=some (.cells #[.int .i64 0,.slice xa xn xc,.slice va vn vc,.bool false] 103 (0,0))):=hc4.2 _ _ _ _ HNW3.out (by decide) (aAk HNW3.out hg (by decide))
 have HF4:Hid (w4.heap[fb]?=some (.cells cf 77 (0,0))):=hc4.2 _ _ _ _ HF3.out (by decide) (aAk HF3.out hg (by decide))
 have HX4:Hid ((fun wx=>wx.cell? ⟨ls,0,none⟩=some (.pointer (some ⟨g,0,none⟩))∧wx.cell? ⟨cb,0,none⟩=some (.int .i64 0)∧wx.cell? ⟨cb,1,none⟩=some (.slice xa xn xc)∧wx.cell? ⟨cb,2,none⟩=some (.slice va vn vc)∧wx.cell? ⟨cb,3,none⟩=some (.bool false)) w4):=⟨HL4.out.cell0,aAa HNW4.out,aAa HNW4.out,aAa HNW4.out,aAa HNW4.out⟩
 clear hc4 hl4 hg hHeld
 refine hK.out _ _ HX4.out (fun hHeld=>?_)
 clear hK K
 try simp only [Act.put,siT,scZ,scS]
 refine wpAnyH_tk 10 8 ?_
 refine wpAnyH_done (by kernel_rfl) ?_ _
 refine NoPanic.normal ?_
 clear hHeld HX0 HX3 HX4 HTK HPT
 obtain ⟨n16,hn16⟩:=HFV.out.cp 1 (by decide) (by decide)
 have hd:Below w4.heap.size w4 w4.drew:=(Below.refl _ _).drew
 have HLX:=hide (HL4.out.later hd)
 have HFX:Hid (w4.drew.heap[fb]?=some (.cells cf 77 (0,0))):=HF4.out
 have HNX:Hid (w4.drew.heap[cb]?=some (.cells #[.int .i64 0,.slice xa xn xc,.slice va vn vc,.bool false] 103 (0,0))):=HNW4.out
 have HLE:=hide HLX.out.kx.Len
 have HX0:Hid ((fun wx=>wx.cell? ⟨ls,0,none⟩=some (.pointer (some ⟨g,0,none⟩))∧wx.cell? ⟨cb,0,none⟩=some (.int .i64 0)) w4.drew):=⟨HLX.out.cell0,aAa HNX.out⟩
 have HBX4:Hid (LyF B g fb w w4.drew):=(LyF.of (by rw [hcb];exact HB3.out) (by rw [hcb];exact HBW.out)).trans ((LyF.ch HC4.out).trans (LyF.of hd HL4.out.bw))
 clear hd
 go_upto_region 3 with fail
 have y16:w4.drew.cell? ⟨fb,1,none⟩=some (.int .i64 n16):=(aAa HFX.out).trans hn16
 have z16:w4.drew.frozen? ⟨fb,1,none⟩=false:=aAb HFX.out
 clear hn16
 generalize (putL l (0::it.1,it.2)).length=ln5 at *
 generalize l.length=ln0 at *
 refine wp_region_noPanic ?_
 refine wp_region_held_drew (S:=fun wx=>wx.cell? ⟨ls,0,none⟩=some (.pointer (some ⟨g,0,none⟩))∧wx.cell? ⟨cb,0,none⟩=some (.int .i64 0)) (by kernel_rfl) HX0.out (fun hHeld=>?_)
 refine wpAnyH_tk 0 24 ?_
 refine wpAnyH_tk 1 25 ?_
 refine wpAnyH_tk 2 26 ?_
 refine wpAnyH_tk 3 27 ?_
 refine wpAnyH_tk 4 28 ?_
 refine wpAnyH_tk 5 29 ?_
 refine wpAnyH_tk 6 30 ?_
 refine wpAnyH_tk 8 32 ?_
 refine wpAnyH_tk 9 33 ?_
 refine wpAnyH_tk 10 34 ?_
 refine wpAnyH_tk 11 35 ?_
 refine wpAnyH_tk 13 37 ?_
 refine wpAnyH_tk 16 40 ?_
 refine wpAnyH_tk 17 41 ?_
 refine aAs (i:=7) (j:=12) (by kernel_rfl) (by kernel_rfl) (by kernel_rfl) ?ba ?bb
 case ba =>
  intro o ho K hK
  simp only [List.getElem?_toArray,List.getElem?_cons_succ,List.getElem?_cons_zero,oI] at ho
  subst ho
  go_simp
  refine hK.out _ _ hHeld (fun hHeld=>?_)
  clear hK K
  try simp only [Act.put,siT,scZ,scS]
  refine wpAnyH_cm 12 ?_;intro K hK
  go_simp
  refine HLE.out.mono ?_
  rintro e w9 ⟨rfl,hw⟩
  have hw:=hw.symm
  subst hw
  refine hK.out _ _ hHeld (fun hHeld=>?_)
  clear hK K
  try simp only [Act.put,siT,scZ,scS]
  refine wpAnyH_tk 14 38 ?_
  refine wpAnyH_tk 15 39 ?_
  refine wpAnyH_tk 18 42 ?_
  refine wpAnyH_cm 19 ?_;intro K hK
  go_simp
  have HXS:Hid (∀ x,(fun wx=>wx.cell? ⟨ls,0,none⟩=some (.pointer (some ⟨g,0,none⟩))∧wx.cell? ⟨cb,0,none⟩=some (.int .i64 0)) (w4.drew.setCell ⟨fb,1,none⟩ x)):=fun x=>by
   have hlx:=HLX.out.fig (o:=1) (x:=x) HFX.out hBf
   refine ⟨hlx.cell0,(World.cell?_of_block (heap_setCell_other _ _ _ _ ?_)).trans HX0.out.2⟩
   exact aAk HNX.out HFX.out (by decide)
  clear hHeld
  refine hK.out _ _ (HXS.out _) (fun hHeld=>?_)
  clear hK K
  try simp only [Act.put,siT,scZ,scS]
  refine wpAnyH_done (by kernel_rfl) ?_ _
  refine NoPanic.normal ?_
  clear hHeld y16 z16
  go_wp2
  go_ret
  exact ⟨rfl,HBX4.out.trans (LyF.set hBf),HLX.out.fig HFX.out hBf,_,heap_setCell_same _ _ _ _ _ _ HFX.out,HFV.out.set (by decide) _⟩
 case bb =>
  intro o ho K hK
  simp only [List.getElem?_toArray,List.getElem?_cons_succ,List.getElem?_cons_zero,oI] at ho
  subst ho
  go_simp
  refine HLE.out.mono ?_
  rintro e w9 ⟨rfl,hw⟩
  have hw:=hw.symm
  subst hw
  refine hK.out _ _ hHeld (fun hHeld=>?_)
  clear hK K
  try simp only [Act.put,siT,scZ,scS]
  refine wpAnyH_tk 14 38 ?_
  refine wpAnyH_cm 7 ?_;intro K hK
  go_simp
  refine hK.out _ _ hHeld (fun hHeld=>?_)
  clear hK K
  try simp only [Act.put,siT,scZ,scS]
  refine wpAnyH_tk 15 39 ?_
  refine wpAnyH_tk 18 42 ?_
  refine wpAnyH_cm 19 ?_;intro K hK
  go_simp
  have HXS:Hid (∀ x,(fun wx=>wx.cell? ⟨ls,0,none⟩=some (.pointer (some ⟨g,0,none⟩))∧wx.cell? ⟨cb,0,none⟩=some (.int .i64 0)) (w4.drew.setCell ⟨fb,1,none⟩ x)):=fun x=>by
   have hlx:=HLX.out.fig (o:=1) (x:=x) HFX.out hBf
   refine ⟨hlx.cell0,(World.cell?_of_block (heap_setCell_other _ _ _ _ ?_)).trans HX0.out.2⟩
   exact aAk HNX.out HFX.out (by decide)
  clear hHeld
  refine hK.out _ _ (HXS.out _) (fun hHeld=>?_)
  clear hK K
  try simp only [Act.put,siT,scZ,scS]
  refine wpAnyH_done (by kernel_rfl) ?_ _
  refine NoPanic.normal ?_
  clear hHeld y16 z16
  go_wp2
  go_ret
  exact ⟨rfl,HBX4.out.trans (LyF.set hBf),HLX.out.fig HFX.out hBf,_,heap_setCell_same _ _ _ _ _ _ HFX.out,HFV.out.set (by decide) _⟩
def apL0 (l:List It) (cl:List It):List It:=cl.foldl (fun l x=>putL l (0::x.1,x.2)) l
theorem apL0_succ {l cl:List It} {j:Nat} {x:It} (h:cl[j]?=some x):apL0 l (cl.take (j+1))=putL (apL0 l (cl.take j)) (0::x.1,x.2):=by
 unfold apL0
 rw [List.take_add_one,h,List.foldl_append]
 rfl
theorem aEf (l:List It):∀ cl:List It,(apL0 l cl).length≤l.length+cl.length:=by
 intro cl
 induction cl generalizing l with
 | nil=>exact nR _
 | cons x cl ih =>
  have h1:=ih (putL l (0::x.1,x.2))
  have h2:=aEa l (0::x.1,x.2)
  show (apL0 (putL l (0::x.1,x.2)) cl).length≤_
  rw [List.length_cons]
  split at h2<;>omega
theorem LS.lay0 [Gd] {B p q g ls N c u fb:Nat} {l cl:List It} {v:Value} {W w:World} (hg0:Gd.g=none) (h:LS B p q g ls N c u l W w) (hu:u+9*cl.length+11≤N) (hu2:u≤2000) (hl:l.length+cl.length<90) (hv:CHV0 B w v cl) (hok:∀ x∈cl,ItOk (0::x.1,x.2)) {cf:Array Value} (hBf:B≤fb) (hf:w.heap[fb]?=some (.cells cf 77 (0,0))) (hF:FGV cf) :
  Calls Tryz.prog 65 #[.pointer (some ⟨ls,0,none⟩),.int .i64 0,v,.pointer (some ⟨fb,0,none⟩)] w fun e w'=>e=.returned (.int .i64 0)∧LyF B g fb w w'∧LS B p q g ls N c (u+9*cl.length) (apL0 l cl) W w'∧∃ cf',w'.heap[fb]?=some (.cells cf' 77 (0,0))∧FGV cf':=by
 obtain ⟨gv,cap,hform⟩:∃ g cap,v=.slice (some ⟨g,0,none⟩) cl.length cap:=by
  obtain ⟨kv,g,cap,h1,_⟩:=hv
  exact ⟨g,cap,h1⟩
 subst hform
 have HL0:=hide h
 have HV0:=hide hv
 have HOK:=hide hok
 have HF0:Hid (∃ cf',w.heap[fb]?=some (.cells cf' 77 (0,0))∧FGV cf'):=⟨cf,hf,hF⟩
 clear h hv hok hf hF
 generalize hM:cl.length=M at *
 go_enter Tryz.func65,Tryz.ntmps65
 go_wp2_with fail
 go_loopw [14] (fun i wx=>∃ j:Nat,j≤M∧i=.int .i64 j∧LyF B g fb w wx∧LS B p q g ls N c (u+9*j) (apL0 l (cl.take j)) W wx∧CHV0 B wx (.slice (some ⟨gv,0,none⟩) M cap) cl∧∃ cf',wx.heap[fb]?=some (.cells cf' 77 (0,0))∧FGV cf') (fun i _=>M-(intOf i).toNat)
 case atStart=>exact ⟨0,by omega,rfl,LyF.refl _ _ _ _,HL0.out,HV0.out,HF0.out⟩
 case round =>
  obtain ⟨j,hj,rfl,a1,a2,a3,cf1,a4,a5⟩:=hrel
  have HA1:=hide a1
  have HA2:=hide a2
  have HA3:=hide a3
  have HA4:=hide a4
  have HA5:=hide a5
  clear a1 a2 a3 a4 a5
  by_cases hjn:j<M
  ·have xj:(j:Int)<(M:Int):=by omega
   obtain ⟨it,hit⟩:∃ it,cl[j]?=some it:=⟨_,gE (by omega)⟩
   obtain ⟨g',cap',ka,kc,va,vc,f1,q1,q2,q3,q4,q5,q6⟩:=HA3.out.at hit
   rw [hM] at f1
   simp only [Value.slice.injEq,oI,Addr.mk.injEq] at f1
   obtain ⟨⟨rfl,_,_⟩,_,rfl⟩:=f1
   have HSU:=hide (apL0_succ (l:=l) hit)
   have hll:=aEf l (cl.take j)
   have htl:(cl.take j).length≤j:=List.length_take_le _ _
   obtain ⟨x1,hx1⟩:∃ x,x=wr.alloc (.cells #[.int .i64 0,.slice ka it.1.length kc,.slice va it.2.length vc,.bool false] 103):=⟨_,rfl⟩
   have hb1:Below wr.heap.size wr x1:=by rw [hx1];exact aAc wr _
   have hL1:=HA2.out.later hb1
   have hf1:=(hb1.block fb (lO HA4.out)).trans HA4.out
   have HLO:=hide (hL1.layOne0 hg0 (by omega) (by omega) (by omega) it (HOK.out it (mG hit)) rfl rfl (q5.later hb1 HA2.out.bw) (q6.later hb1 HA2.out.bw) hBf hf1 HA5.out)
   have HL1:=hide hL1
   have HF1:=hide hf1
   have HB1:=hide hb1
   have HV1:=hide (HA3.out.later hb1 HA2.out.bw)
   rw [hx1] at HLO
   generalize it.1.length=kn at *
   generalize it.2.length=vn at *
   clear hit q5 q6 hb1 hL1 hf1 hll htl
   go_wp2_with fail
   refine HLO.out.mono ?_
   rintro e w2 ⟨rfl,b1,b2,cf2,b3,b4⟩
   rw [←hx1] at b1
   have HC2:Hid (LyF B g fb w w2):=HA1.out.trans ((LyF.of HB1.out HA2.out.bw).trans b1)
   have HL2:Hid (LS B p q g ls N c (u+9*(j+1)) (apL0 l (cl.take (j+1))) W w2):=by rw [HSU.out];exact b2
   obtain ⟨cg,hg⟩:=HL1.out.kx.blk
   have HV2:Hid (CHV0 B w2 (.slice (some ⟨gv,0,none⟩) M cap) cl):=HV1.out.stay (LyF.ft HL1.out b1 HF1.out) fun k cs e=>b1.2 k cs _ _ e (by decide) (aAk e hg (by decide)) (aAk e HF1.out (by decide))
   have HF2:Hid (∃ cf',w2.heap[fb]?=some (.cells cf' 77 (0,0))∧FGV cf'):=⟨cf2,b3,b4⟩
   clear b1 b2 b3 b4 hg HLO hx1
   go_wp2_with fail
   go_roundw
   case rel=>exact ⟨j+1,by omega,by go_num,HC2.out,HL2.out,HV2.out,HF2.out⟩
   case measure=>simp [intOf];omega
  ·have xj:¬ (j:Int)<(M:Int):=by omega
   have r0:wr.cell? ⟨fb,0,none⟩=some (.int .i64 0):=(aAa HA4.out).trans HA5.out.c0
   have hjm:j=M:=by omega
   subst hjm
   have htk:cl.take cl.length=cl:=List.take_length
   rw [hM] at htk
   rw [htk] at HA2
   clear htk
   go_wp2
   go_ret
   exact ⟨rfl,HA1.out,HA2.out,cf1,HA4.out,HA5.out⟩
theorem LS.apply10 [Gd] {B p q g ls N c u fb x1 x2 x3 t1 t2 t3:Nat} {l cl:List It} {v:Value} {W w:World} (hg0:Gd.g=none) (h:LS B p q g ls N c u l W w) (hu:u+9*cl.length+11≤N) (hu2:u≤2000) (hl:l.length+cl.length<90) (hv:CHV0 B w v cl) (hok:∀ x∈cl,ItOk (0::x.1,x.2)) {cf:Array Value} (hBf:B≤fb) (hf:w.heap[fb]?=some (.cells cf 77 (0,0))) (hF:FGV cf)
  (hx1:w.heap[x1]?=some (.cells #[.pointer (some ⟨ls,0,none⟩)] t1 (0,0))) (hx2:w.heap[x2]?=some (.cells #[.int .i64 0] t2 (0,0))) (hx3:w.heap[x3]?=some (.cells #[v] t3 (0,0))) :
  Calls Tryz.prog 64 #[.pointer (some ⟨fb,0,none⟩),.pointer (some ⟨x1,0,none⟩),.pointer (some ⟨x2,0,none⟩),.pointer (some ⟨x3,0,none⟩)] w fun e w'=>e=.returned (.int .i64 0)∧LyF B g fb w w'∧LS B p q g ls N c (u+9*cl.length) (apL0 l cl) W w'∧∃ cf',w'.heap[fb]?=some (.cells cf' 77 (0,0))∧FGV cf':=by
 have HLY:=hide (h.lay0 hg0 hu hu2 hl hv hok hBf hf hF)
 obtain ⟨gv,cap,hform⟩:∃ g cap,v=.slice (some ⟨g,0,none⟩) cl.length cap:=by
  obtain ⟨kv,g,cap,h1,_⟩:=hv
  exact ⟨g,cap,h1⟩
 subst hform
 have r1:w.cell? ⟨x1,0,none⟩=some (.pointer (some ⟨ls,0,none⟩)):=aAa hx1
 have r2:w.cell? ⟨x2,0,none⟩=some (.int .i64 0):=aAa hx2
 have r3:w.cell? ⟨x3,0,none⟩=some (.slice (some ⟨gv,0,none⟩) cl.length cap):=aAa hx3
 clear h hv hok hf hF hx1 hx2 hx3
 generalize cl.length=M at *
 go_enter Tryz.func64,Tryz.ntmps64
 go_wp2_with fail
 refine HLY.out.mono ?_
 rintro e w1 ⟨rfl,h1⟩
 have H1:=hide h1
 clear h1
 go_wp2
 go_ret
 exact ⟨rfl,H1.out⟩
theorem LS.atOnce0 [Gd] {B p q g ls N c u x1 x2 x3 t1 t2 t3:Nat} {l cl:List It} {v:Value} {W w:World} (hg0:Gd.g=none) (h:LS B p q g ls N c u l W w) (hN:3≤N) (hc9:c<900) (hu:u+9*cl.length+11≤N) (hu2:u≤2000) (hl:l.length+cl.length<90) (hv:CHV0 B w v cl) (hok:∀ x∈cl,ItOk (0::x.1,x.2))
  (hx1:w.heap[x1]?=some (.cells #[.pointer (some ⟨ls,0,none⟩)] t1 (0,0))) (hx2:w.heap[x2]?=some (.cells #[.int .i64 0] t2 (0,0))) (hx3:w.heap[x3]?=some (.cells #[v] t3 (0,0))) :
  Calls Tryz.prog 63 #[.pointer (some ⟨ls,0,none⟩),.func (Fn.func 64) #[] #[.pointer (some ⟨x1,0,none⟩),.pointer (some ⟨x2,0,none⟩),.pointer (some ⟨x3,0,none⟩)]] w fun e w'=>e=.returned (.int .i64 0)∧LyF B g ls w w'∧LS B p q g ls N (c+1) (apL0 l cl).length (apL0 l cl) W w':=by
 have lt:∀ {k:Nat} {o:Obj} {ww:World},ww.heap[k]?=some o→k<ww.heap.size:=fun e=>(lO e)
 have hz:∀ ww,(zeroValue 77).run Tryz.prog ww=.ok (.agg z17) ww:=fun ww=>by kernel_rfl
 obtain ⟨cs,h1,h2⟩:=h.lv
 have hcut:=h2.cut
 have hst:=fun (ww:World) (o:Nat) (hh:ww.heap[o]?=some (.cells z17 77 (0,0)))=>by
  have:=aA0 (o:=0) hh (show 0+(cutF cs).size≤17 by rw [hcut.sz];decide) hcut.one
  rw [aBs (show (cutF cs).size=17 from hcut.sz)] at this
  exact this
 have HLD:=hide (aDh (w:=w) (g:=ls) (o:=2) (ty:=77) (cs:=cutF cs) (fun j v hv=>(aAa h1).trans (cutF_get hv)) Tryz.underlying77 rfl (by rw [hcut.sz];exact aB8))
 have xa:(w.alloc (.cells z17 77)).heap[w.heap.size]?=some (.cells z17 77 (0,0)):=heap_alloc_new w _
 have hst1:=hst _ _ xa
 have HY:=hide (setRow_heap _ _ _ (cutF cs) _ _ xa)
 have HB1:Hid (Below w.heap.size w ((w.alloc (.cells z17 77)).setRow w.heap.size (cutF cs))):=below_setRow (aAc w _) (nR _) (cutF cs)
 have HCU:=hide hcut
 have hzs:(cutF cs).size=17:=hcut.sz
 have H0:=hide h
 have HV0:=hide hv
 have HOK:=hide hok
 have HX1:=hide hx1
 have HX2:=hide hx2
 have HX3:=hide hx3
 clear h h1 h2 hcut hst xa hv hok hx1 hx2 hx3
 go_enter Tryz.func63,Tryz.ntmps63
 go_upto_region 2 with (refine wpList_load_row rfl (.tmp 9) 77 rfl rfl HLD.out ?_)
 generalize ((w.alloc (.cells z17 77)).setRow w.heap.size (cutF cs))=w1 at *
 have HN0:Hid (B≤w.heap.size):=H0.out.bw
 generalize hfb:w.heap.size=fb at *
 clear hst1 HLD
 have HL1:=hide (H0.out.later (by rw [hfb];exact HB1.out))
 have HV1:=hide (HV0.out.later (by rw [hfb];exact HB1.out) (by rw [hfb];exact HN0.out))
 have bl:∀ {k:Nat} {o:Obj},w.heap[k]?=some o→w1.heap[k]?=some o:=fun e=>(HB1.out.block _ (by have:=lt e;omega)).trans e
 have HAP:=hide (HL1.out.apply10 hg0 hu hu2 hl HV1.out HOK.out HN0.out HY.out HCU.out (bl HX1.out) (bl HX2.out) (bl HX3.out))
 have hcf:(callFunc 64 #[.pointer (some ⟨fb,0,none⟩),.pointer (some ⟨x1,0,none⟩),.pointer (some ⟨x2,0,none⟩),.pointer (some ⟨x3,0,none⟩)]).run Tryz.prog w1=.ok (.enter 64 #[.pointer (some ⟨fb,0,none⟩),.pointer (some ⟨x1,0,none⟩),.pointer (some ⟨x2,0,none⟩),.pointer (some ⟨x3,0,none⟩)]) w1:=by rfl
 clear bl
 go_wp2_with fail
 refine HAP.out.mono ?_
 rintro e w2 ⟨rfl,b1,b2,cf2,b3,b4⟩
 have HC2:=hide b1
 have HL2:=hide b2
 have HF2:=hide b3
 have HG2:=hide b4
 have r0:w2.cell? ⟨ls,0,none⟩=some (.pointer (some ⟨g,0,none⟩)):=b2.cell0
 have HCM:=hide (b2.kx.commit hN hc9)
 clear b1 b2 b3 b4 HAP hcf
 go_wp2_with fail
 refine HCM.out.mono ?_
 rintro e w3 ⟨rfl,hc3,hx3⟩
 obtain ⟨cg,hg⟩:=HL2.out.kx.blk
 have HL3:=hide (HL2.out.ch hc3 hx3)
 have HF3:=hide (hc3.2 _ _ _ _ HF2.out (by decide) (aAk HF2.out hg (by decide)))
 have HC3:=hide hc3
 obtain ⟨cs3,k1,k2⟩:=HL3.out.lv
 have HK1:=hide k1
 have HK2:=hide k2
 have HLD3:=hide (run_loadVar_row (P:=Tryz.prog) w3 fb 77 77 cf2 (0,0) _ HF3.out Tryz.underlying77 rfl (by rw [HG2.out.sz];exact aB8))
 have hst3:=aA0 (o:=2) k1 (show 2+cf2.size≤cs3.size by rw [HG2.out.sz,k2.sz];decide) HG2.out.one
 have hzc:cf2.size=17:=HG2.out.sz
 have HLF:=hide (HL3.out.row k1 (k2.put HG2.out))
 have HCF:Hid (LyF B g ls w (w3.setRow ls (spl cs3 2 cf2))):=by
  have hxr:Ex B [ls] w3 (w3.setRow ls (spl cs3 2 cf2)):=Ex.row HL3.out.bl _
  refine ⟨(HB1.out.mono HN0.out).trans (HC2.out.1.trans (HC3.out.1.trans hxr.1)),fun k c0 t fz e n1 n2 n3=>?_⟩
  have hkl:=lt e
  have e1:=(HB1.out.block k (by omega)).trans e
  have e2:=HC2.out.2 k c0 t fz e1 n1 n2 (by omega)
  have e3:=HC3.out.2 k c0 t fz e2 n1 n2
  rw [hxr.2 k (lt e3) (by simpa using n3),e3]
 clear hc3 hx3 hg k1 k2 r0 HCM
 go_wp2_with (refine wpList_load_row rfl (.tmp 5) 77 rfl rfl HLD3.out ?_)
 go_ret
 exact ⟨rfl,HCF.out,HLF.out⟩
theorem ItOk.of0 {x:It} (h1:x.1.length≤60) (h2:x.2.length≤1800) (h3:∀ n∈x.1,n<256) (h4:∀ n∈x.2,n<256):ItOk (0::x.1,x.2):=by
 refine ⟨(fun q=>by cases q),?_,h2,fun n hn=>?_,h4⟩
 ·show (0::x.1).length≤64
  rw [List.length_cons];omega
 ·rcases List.mem_cons.1 hn with rfl | q
  ·decide
  ·exact h3 n q
theorem LS.Apply0 [Gd] {B p q g ls N c u:Nat} {l cl:List It} {v:Value} {W w:World} (hg0:Gd.g=none) (h:LS B p q g ls N c u l W w) (hN:3≤N) (hc9:c<900) (hu:u+9*cl.length+11≤N) (hu2:u≤2000) (hl:l.length+cl.length<90) (hv:CHV0 B w v cl) (hok:∀ x∈cl,0<x.1.length∧x.1.length≤60∧x.2.length≤1800∧(∀ n∈x.1,n<256)∧∀ n∈x.2,n<256) :
  Calls Tryz.prog 37 #[.pointer (some ⟨ls,0,none⟩),.int .i64 0,v] w fun e w'=>e=.returned (.int .i64 0)∧LyF B g ls w w'∧LS B p q g ls N (c+1) (apL0 l cl).length (apL0 l cl) W w':=by
 have lt:∀ {k:Nat} {o:Obj} {ww:World},ww.heap[k]?=some o→k<ww.heap.size:=fun e=>(lO e)
 have hmf:∀ (fn:Fn) (first cap:Array Value) (w:World),(Instr.makeFunc fn first cap).run Tryz.prog w=.ok (.func fn first cap) w:=fun _ _ _ _=>rfl
 have HIT:Hid (∀ x∈cl,ItOk (0::x.1,x.2)):=fun x hx=>ItOk.of0 (hok x hx).2.1 (hok x hx).2.2.1 (hok x hx).2.2.2.1 (hok x hx).2.2.2.2
 have HRK:Hid (∀ x∈cl,0<x.1.length∧x.1.length≤60∧x.2.length≤1800):=fun x hx=>⟨(hok x hx).1,(hok x hx).2.1,(hok x hx).2.2.1⟩
 obtain ⟨gv,cap,hform⟩:∃ g cap,v=.slice (some ⟨g,0,none⟩) cl.length cap:=by
  obtain ⟨kv,g,cap,h1,_⟩:=hv
  exact ⟨g,cap,h1⟩
 subst hform
 generalize hM:cl.length=M at *
 have q0:=aAf [Obj.cells #[.pointer (some ⟨ls,0,none⟩)] 51,Obj.cells #[.int .i64 0] 3,Obj.cells #[.slice (some ⟨gv,0,none⟩) M cap] 113] w 0 _ rfl
 have q1:=aAf [Obj.cells #[.pointer (some ⟨ls,0,none⟩)] 51,Obj.cells #[.int .i64 0] 3,Obj.cells #[.slice (some ⟨gv,0,none⟩) M cap] 113] w 1 _ rfl
 have q2:=aAf [Obj.cells #[.pointer (some ⟨ls,0,none⟩)] 51,Obj.cells #[.int .i64 0] 3,Obj.cells #[.slice (some ⟨gv,0,none⟩) M cap] 113] w 2 _ rfl
 have qb:=(aAn [Obj.cells #[.pointer (some ⟨ls,0,none⟩)] 51,Obj.cells #[.int .i64 0] 3,Obj.cells #[.slice (some ⟨gv,0,none⟩) M cap] 113] w).1
 have HQ:Hid ((((w.alloc (.cells #[.pointer (some ⟨ls,0,none⟩)] 51)).alloc (.cells #[.int .i64 0] 3)).alloc (.cells #[.slice (some ⟨gv,0,none⟩) M cap] 113)).heap[w.heap.size]?=some (.cells #[.pointer (some ⟨ls,0,none⟩)] 51 (0,0))∧(((w.alloc (.cells #[.pointer (some ⟨ls,0,none⟩)] 51)).alloc (.cells #[.int .i64 0] 3)).alloc (.cells #[.slice (some ⟨gv,0,none⟩) M cap] 113)).heap[w.heap.size+1]?=some (.cells #[.int .i64 0] 3 (0,0))∧(((w.alloc (.cells #[.pointer (some ⟨ls,0,none⟩)] 51)).alloc (.cells #[.int .i64 0] 3)).alloc (.cells #[.slice (some ⟨gv,0,none⟩) M cap] 113)).heap[w.heap.size+2]?=some (.cells #[.slice (some ⟨gv,0,none⟩) M cap] 113 (0,0))∧Below w.heap.size w (((w.alloc (.cells #[.pointer (some ⟨ls,0,none⟩)] 51)).alloc (.cells #[.int .i64 0] 3)).alloc (.cells #[.slice (some ⟨gv,0,none⟩) M cap] 113))):=⟨q0,q1,q2,qb⟩
 have H0:=hide h
 have HV0:=hide hv
 have HN0:Hid (B≤w.heap.size):=h.bw
 clear h hv hok q0 q1 q2 qb
 go_enter Tryz.func37,Tryz.ntmps37
 go_upto_region 1 with fail
 generalize (((w.alloc (.cells #[.pointer (some ⟨ls,0,none⟩)] 51)).alloc (.cells #[.int .i64 0] 3)).alloc (.cells #[.slice (some ⟨gv,0,none⟩) M cap] 113))=w1 at *
 obtain ⟨hx1,hx2,hx3,hb1⟩:=HQ.out
 generalize hx1n:w.heap.size=x1 at *
 generalize hx2n:x1+1=x2 at *
 have e3:x1+2=x2+1:=by omega
 rw [e3] at hx3
 clear e3
 generalize hx3n:x2+1=x3 at *
 have hd:Below x1 w w1.drew:=hb1.drew
 have HLD:=hide (H0.out.later (by rw [hx1n];exact hd))
 have HVD:=hide (HV0.out.later (by rw [hx1n];exact hd) (by rw [hx1n];exact HN0.out))
 have HRF:=hide (HLD.out.refusal0 HVD.out (by omega) HRK.out)
 obtain ⟨cs,k1,k2⟩:=HLD.out.lv
 have HX0:Hid ((fun wx=>wx.cell? ⟨x1,0,none⟩=some (.pointer (some ⟨ls,0,none⟩))∧wx.cell? ⟨x2,0,none⟩=some (.int .i64 0)∧wx.cell? ⟨x3,0,none⟩=some (.slice (some ⟨gv,0,none⟩) M cap)∧wx.cell? ⟨ls,2,none⟩=some (.int .i64 0)) w1.drew):=⟨aAa hx1,aAa hx2,aAa hx3,(aAa k1).trans k2.c2⟩
 have HY1:Hid (w1.drew.heap[x1]?=some (.cells #[.pointer (some ⟨ls,0,none⟩)] 51 (0,0))):=hx1
 have HY2:Hid (w1.drew.heap[x2]?=some (.cells #[.int .i64 0] 3 (0,0))):=hx2
 have HY3:Hid (w1.drew.heap[x3]?=some (.cells #[.slice (some ⟨gv,0,none⟩) M cap] 113 (0,0))):=hx3
 have HBD:=hide hd
 clear hx1 hx2 hx3 hb1 hd k1 k2 HQ
 refine wp_region_noPanic ?_
 refine wp_region_held_drew (S:=fun wx=>wx.cell? ⟨x1,0,none⟩=some (.pointer (some ⟨ls,0,none⟩))∧wx.cell? ⟨x2,0,none⟩=some (.int .i64 0)∧wx.cell? ⟨x3,0,none⟩=some (.slice (some ⟨gv,0,none⟩) M cap)∧wx.cell? ⟨ls,2,none⟩=some (.int .i64 0)) (by kernel_rfl) HX0.out (fun hHeld=>?_)
 refine wpAnyH_tk 0 8 ?_
 refine wpAnyH_tk 1 9 ?_
 refine wpAnyH_tk 2 10 ?_
 refine wpAnyH_tk 3 11 ?_
 refine wpAnyH_tk 4 12 ?_
 refine wpAnyH_tk 5 13 ?_
 refine wpAnyH_tk 6 14 ?_
 refine wpAnyH_tk 7 15 ?_
 refine wpAnyH_tk 8 16 ?_
 refine wpAnyH_cm 9 ?_;intro K hK
 go_simp
 refine HRF.out.mono ?_
 rintro e w3 ⟨rfl,hb3⟩
 have HL3:=hide (HLD.out.later hb3)
 have HV3:=hide (HVD.out.later hb3 HLD.out.bw)
 have HZ1:=hide ((hb3.block x1 (lt HY1.out)).trans HY1.out)
 have HZ2:=hide ((hb3.block x2 (lt HY2.out)).trans HY2.out)
 have HZ3:=hide ((hb3.block x3 (lt HY3.out)).trans HY3.out)
 have HB3:Hid (Below x1 w w3):=HBD.out.trans (hb3.mono (by have:=HBD.out.size;omega))
 obtain ⟨cs3,k1,k2⟩:=HL3.out.lv
 have HX3:Hid ((fun wx=>wx.cell? ⟨x1,0,none⟩=some (.pointer (some ⟨ls,0,none⟩))∧wx.cell? ⟨x2,0,none⟩=some (.int .i64 0)∧wx.cell? ⟨x3,0,none⟩=some (.slice (some ⟨gv,0,none⟩) M cap)∧wx.cell? ⟨ls,2,none⟩=some (.int .i64 0)) w3):=⟨aAa HZ1.out,aAa HZ2.out,aAa HZ3.out,(aAa k1).trans k2.c2⟩
 clear hb3 k1 k2 hHeld
 refine hK.out _ _ HX3.out (fun hHeld=>?_)
 clear hK K
 try simp only [Act.put,siT,scZ,scS]
 refine wpAnyH_tk 10 7 ?_
 refine wpAnyH_done (by kernel_rfl) ?_ _
 refine NoPanic.normal ?_
 clear hHeld HX0 HRF
 have r1:w3.cell? ⟨x1,0,none⟩=some (.pointer (some ⟨ls,0,none⟩)):=HX3.out.1
 have HAO:=hide (HL3.out.atOnce0 hg0 hN hc9 (by rw [hM];exact hu) hu2 (by rw [hM];exact hl) HV3.out HIT.out HZ1.out HZ2.out HZ3.out)
 go_wp2_with fail
 refine HAO.out.mono ?_
 rintro e w4 ⟨rfl,b1,b2⟩
 have HF4:=hide b1
 have HL4:=hide b2
 clear b1 b2 HAO r1
 go_wp2
 go_ret
 refine ⟨rfl,⟨(HB3.out.mono HN0.out).trans HF4.out.1,fun k c0 t fz e n1 n2 n3=>?_⟩,HL4.out⟩
 have hkl:=lt e
 exact HF4.out.2 k c0 t fz ((HB3.out.block k (by omega)).trans e) n1 n2 n3
end Go.Proofs.YtibfkdjbnaeneaaGreat
