/- EntryReplies holds for every reply of bulk at most 1048576 (all values and letters of the argument counted together): replies are written and read as they were, in at most 1,790 bytes, and what may not be is refused as the document says. -/
import Derived.Test.YtmmcebojbbdfmaaGreatZ36
import Derived.Test.YtmmcebojbbdfmaaGreatZ34
import Derived.Defers
import Derived.Recover
set_option maxRecDepth 100000
set_option maxHeartbeats 16000000
set_option linter.unusedVariables false
namespace Go.Proofs.YtmmcebojbbdfmaaGreat
open Go.RowKit
theorem ir4 {w:World} {x y z u:Nat} (hx:x<9223372036854775808) (hy:y<9223372036854775808) (hz:z<9223372036854775808) (hu:u<9223372036854775808):IR (w.alloc (.cells #[.int .i64 (x:Int),.int .i64 (y:Int),.int .i64 (z:Int),.int .i64 (u:Int)] 3)) (some ⟨w.heap.size,0,none⟩) 4 4 [x,y,z,u]:=by
 refine ⟨SV.whole (f:=fI) (fun _=>rfl) rfl (by omega) (boxed w _),fun b o e=>?_,?_⟩
 ·simp only [oI,Addr.mk.injEq] at e
  obtain ⟨rfl,_,_⟩:=e
  exact ⟨_,_,boxed w _⟩
 ·intro v hv
  simp only [List.mem_cons,List.not_mem_nil,or_false] at hv
  rcases hv with rfl | rfl | rfl | rfl<;>assumption
theorem al4 (w:World) (A B C D:Obj):((((w.alloc A).alloc B).alloc C).alloc D).heap[w.heap.size]?=some A∧((((w.alloc A).alloc B).alloc C).alloc D).heap[w.heap.size+1]?=some B∧((((w.alloc A).alloc B).alloc C).alloc D).heap[w.heap.size+1+1]?=some C∧((((w.alloc A).alloc B).alloc C).alloc D).heap[w.heap.size+1+1+1]?=some D∧Below w.heap.size w ((((w.alloc A).alloc B).alloc C).alloc D):=by
 have h1:=aAc w A
 have h2:=aAc (w.alloc A) B
 have h3:=aAc ((w.alloc A).alloc B) C
 have h4:=aAc (((w.alloc A).alloc B).alloc C) D
 have s1:(w.alloc A).heap.size=w.heap.size+1:=by simp
 have s2:((w.alloc A).alloc B).heap.size=w.heap.size+1+1:=by simp
 have s3:(((w.alloc A).alloc B).alloc C).heap.size=w.heap.size+1+1+1:=by simp
 rw [s1] at h2
 rw [s2] at h3
 rw [s3] at h4
 refine ⟨?_,?_,?_,?_,?_⟩
 ·rw [h4.block _ (by omega),h3.block _ (by omega),h2.block _ (by omega)]
  exact boxed w A
 ·rw [h4.block _ (by omega),h3.block _ (by omega),←s1]
  exact boxed _ B
 ·rw [h4.block _ (by omega),←s2]
  exact boxed _ C
 ·rw [←s3]
  exact boxed _ D
 ·exact h1.trans ((h2.mono (by omega)).trans ((h3.mono (by omega)).trans (h4.mono (by omega))))
theorem ld_idle (p q:Addr) (w:World) :
  CallsD Tryz.prog 37 #[.pointer (some p),.pointer (some q)] .returning w fun e u' w'=>e=.returned (.tuple #[])∧u'=.returning∧w'=w:=by
 refine callsD_of_wpS Tryz.func37 rfl fun c₀ cs hu=>?_
 apply wpS_seq
 apply wpS_region
 simp [wpOpsS,go_sem,recoverD,hu,Tryz.ntmps37,Exit.thenS]
 refine wpS_cond (t:=false) (by simp [Act.eval,Array.replicate]) ?_
 simp only [Bool.false_eq_true,if_false]
 refine wpS_of_wp (wp_skip ?_)
 cases c₀
 simp_all [bodyPostS,results,Tryz.results37]
def encB (k s n c:Nat):List Nat:=encW k++(encW s++(encW n++encW c))
theorem laid_bare {y:EntV} {w:World} {kn sn nn:Nat} (hk:y.kind=(kn:Int)) (hs:y.srv=(sn:Int)) (hn:y.n=(nn:Int)) (hb:kn<9223372036854775808∧sn<9223372036854775808∧nn<9223372036854775808) (hc:y.cl=0) :
  Calls Tryz.prog 19 #[.agg #[.int .i64 y.kind,.int .i64 y.srv,.slice y.ca y.cl y.cc,.int .i64 y.n]] w fun e w'=>∃ v,e=.returned (.tuple #[v,.int .i64 0])∧OB w.heap.size w' v (encB kn sn nn 0)∧Below w.heap.size w w':=by
 have hmf:∀ (fn:Fn) (first cap:Array Value) (w:World),(Instr.makeFunc fn first cap).run Tryz.prog w=.ok (.func fn first cap) w:=fun _ _ _ _=>rfl
 rw [hk,hs,hn,hc]
 obtain ⟨L,hL⟩:∃ L,w.heap.size=L:=⟨_,rfl⟩
 obtain ⟨w1,hw1⟩:∃ w1,w1=(((w.alloc (.cells #[.int .i64 (kn:Int),.int .i64 (sn:Int),.slice y.ca 0 y.cc,.int .i64 (nn:Int)] 24)).alloc (.cells #[.slice none 0 0] 26)).alloc (.cells #[.int .i64 0] 27)).alloc (.cells #[.slice none 0 0] 60):=⟨_,rfl⟩
 have HA:=hide (al4 w (.cells #[.int .i64 (kn:Int),.int .i64 (sn:Int),.slice y.ca 0 y.cc,.int .i64 (nn:Int)] 24) (.cells #[.slice none 0 0] 26) (.cells #[.int .i64 0] 27) (.cells #[.slice none 0 0] 60))
 rw [←hw1,hL] at HA
 have HW1:Hid (WR L (L+1+1+1) [] w1):=⟨⟨_,HA.out.2.2.2.1,aEe _ _ _ _⟩,by omega⟩
 have HIR:=hide (ir4 (w:=w1) (x:=kn) (y:=sn) (z:=nn) (u:=0) hb.1 hb.2.1 hb.2.2 (by omega))
 have hb3:=aAc w1 (.cells #[.int .i64 (kn:Int),.int .i64 (sn:Int),.int .i64 (nn:Int),.int .i64 ((0:Nat):Int)] 3)
 have HNM:=hide (aDb (HW1.out.later hb3) HIR.out (by decide))
 have HS3:Hid (L+1+1+1<w1.heap.size):=by show L+1+1+1<_;have:=aAb HA.out.2.2.2.1;omega
 have HF3:Hid (WrF L (L+1+1+1) w1 (w1.alloc (.cells #[.int .i64 (kn:Int),.int .i64 (sn:Int),.int .i64 (nn:Int),.int .i64 ((0:Nat):Int)] 3))):=WrF.of hb3 (by have:=HS3.out;omega)
 have HE1:=hide hw1
 rw [hL]
 clear hb3 hw1 hk hs hn hb hc
 go_enter_defers Tryz.func19,Tryz.ntmps19
 go_upto_region 3 with fail
 rw [←HE1.out]
 try simp only [hL]
 clear HE1
 have HZ1:=hide HA.out.1
 have HQ2:=hide HA.out.2.1
 have HQ3:=hide HA.out.2.2.1
 have HBW:Hid (Below L w w1):=HA.out.2.2.2.2
 clear HA
 have y0:w1.cell? ⟨L,0,none⟩=some (.int .i64 (kn:Int)):=aAa HZ1.out
 have y1:w1.cell? ⟨L,1,none⟩=some (.int .i64 (sn:Int)):=aAa HZ1.out
 have y2:w1.cell? ⟨L,2,none⟩=some (.slice y.ca 0 y.cc):=aAa HZ1.out
 have y3:w1.cell? ⟨L,3,none⟩=some (.int .i64 (nn:Int)):=aAa HZ1.out
 go_wp2_with fail
 refine HNM.out.mono ?_
 rintro e w2 ⟨rfl,hw,hf⟩
 have hf2:=HF3.out.trans hf
 have HW2:=hide hw
 have HB2:Hid (Below L w w2):=HBW.out.trans hf2.bel
 have HZ2:=hide (hf2.oth L _ _ _ (by omega) (by decide) HZ1.out)
 have HQ2':=hide (hf2.oth (L+1) _ _ _ (by omega) (by decide) HQ2.out)
 have HQ3':=hide (hf2.oth (L+1+1) _ _ _ (by omega) (by decide) HQ3.out)
 clear hw hf hf2 HNM y0 y1 y2 y3 HW1 HZ1 HQ2 HQ3 HIR HF3 HS3
 have y2:w2.cell? ⟨L,2,none⟩=some (.slice y.ca 0 y.cc):=aAa HZ2.out
 obtain ⟨v9,h91,h92⟩:=HW2.out.cell
 have HV9:=hide h92
 obtain ⟨a9,c9,e9⟩:=OB.form h92
 have HP:Hid ([]++[kn,sn,nn,0].flatMap encW=encB kn sn nn 0):=by show _=_;unfold encB;simp
 rw [HP.out] at HV9
 obtain ⟨m9,hm9⟩:∃ m,([]++[kn,sn,nn,0].flatMap encW).length=m:=⟨_,rfl⟩
 rw [hm9] at e9
 subst e9
 have z0:w2.cell? ⟨L+1+1+1,0,none⟩=some (.slice a9 m9 c9):=aAa h91
 have t0:w2.cell? ⟨L+1,0,none⟩=some (.slice none 0 0):=aAa HQ2'.out
 have tf0:w2.frozen? ⟨L+1,0,none⟩=false:=aAj HQ2'.out
 have t1:w2.cell? ⟨L+1+1,0,none⟩=some (.int .i64 0):=aAa HQ3'.out
 have tf1:w2.frozen? ⟨L+1+1,0,none⟩=false:=aAj HQ3'.out
 clear h92 hm9
 have q0:¬ (0:Int)<0:=by omega
 go_wp2_with fail
 clear y2 z0 t0 tf0 t1 tf1
 have HZ91:=hide h91
 go_loopg [24] 0 (fun gh s24 wx=>s24=.int .i64 0∧wx=w2)
 case atStart=>exact ⟨rfl,rfl⟩
 case round =>
 obtain ⟨rfl,hww⟩:=hrel
 have hww:=hww.symm
 subst hww
 have z0:w2.cell? ⟨L+1+1+1,0,none⟩=some (.slice a9 m9 c9):=aAa HZ91.out
 have t0:w2.cell? ⟨L+1,0,none⟩=some (.slice none 0 0):=aAa HQ2'.out
 have tf0:w2.frozen? ⟨L+1,0,none⟩=false:=aAj HQ2'.out
 have t1:w2.cell? ⟨L+1+1,0,none⟩=some (.int .i64 0):=aAa HQ3'.out
 have tf1:w2.frozen? ⟨L+1+1,0,none⟩=false:=aAj HQ3'.out
 go_wp2
 obtain ⟨w3,hw3⟩:∃ w3,w3=(w2.setCell ⟨L+1,0,none⟩ (.slice a9 m9 c9)).setCell ⟨L+1+1,0,none⟩ (.int .i64 0):=⟨_,rfl⟩
 have h1:w3.heap[L+1]?=some (.cells #[.slice a9 m9 c9] 26 (0,0)):=by
  rw [hw3,heap_setCell_other _ _ _ _ (show L+1≠L+1+1 by omega),heap_setCell_same _ _ _ _ _ _ HQ2'.out]
  rfl
 have h2:w3.heap[L+1+1]?=some (.cells #[.int .i64 0] 27 (0,0)):=by
  rw [hw3]
  have h3:(w2.setCell ⟨L+1,0,none⟩ (.slice a9 m9 c9)).heap[L+1+1]?=some (.cells #[.int .i64 0] 27 (0,0)):=(heap_setCell_other _ _ _ _ (show L+1+1≠L+1 by omega)).trans HQ3'.out
  rw [heap_setCell_same _ _ _ _ _ _ h3]
  rfl
 have hob:OB L w3 (.slice a9 m9 c9) (encB kn sn nn 0):=by
  rw [hw3]
  exact ownsRow_setCell_other (ownsRow_setCell_other HV9.out (OB.ne HV9.out HQ2'.out (by decide)) _) (OB.ne HV9.out HQ3'.out (by decide)) _
 have hbl:Below L w w3:=by
  rw [hw3]
  exact (HB2.out.setCell (p:=⟨L+1,0,none⟩) (show L≤L+1 by omega) _).setCell (p:=⟨L+1+1,0,none⟩) (show L≤L+1+1 by omega) _
 rw [←hw3]
 have c1:w3.cell? ⟨L+1,0,none⟩=some (.slice a9 m9 c9):=aAa h1
 have c2:w3.cell? ⟨L+1+1,0,none⟩=some (.int .i64 0):=aAa h2
 refine leaves_cons (f:=37) (args:=#[.pointer (some ⟨L+1,0,none⟩),.pointer (some ⟨L+1+1,0,none⟩)]) (by simp) (by simp [go_sem]) ?_
 refine (ld_idle ⟨L+1,0,none⟩ ⟨L+1+1,0,none⟩ _).mono ?_
 rintro e u' w'' ⟨rfl,rfl,rfl⟩
 simp only [Leaves,settle,results,Tryz.results19]
 exact ⟨.tuple #[.slice a9 m9 c9,.int .i64 0],by simp [go_sem,c1,c2],_,rfl,hob,hbl⟩
def stN (xs:List Nat) (q:Nat):Nat×Nat:=(0,q)
def blT (_:CmdV):List Nat:=[]
def cmT (_:World) (_:CmdV):Prop:=True
def ctT (_:CmdV):Nat:=0
def okT (_:CmdV):Prop:=True
theorem no_stay:Stay blT cmT:=fun _ _ _ _ _ _=>trivial
theorem set4 {w:World} {g:Nat} {a0 a1 a2 a3 b0 b1 b2 b3:Value} {t:TypeId} (h:w.heap[g]?=some (.cells #[a0,a1,a2,a3] t (0,0))):((((w.setCell ⟨g,0,none⟩ b0).setCell ⟨g,1,none⟩ b1).setCell ⟨g,2,none⟩ b2).setCell ⟨g,3,none⟩ b3).heap[g]?=some (.cells #[b0,b1,b2,b3] t (0,0)):=by
 have h0:=heap_setCell_same _ g 0 _ _ b0 h
 have h1:=heap_setCell_same _ g 1 _ _ b1 h0
 have h2:=heap_setCell_same _ g 2 _ _ b2 h1
 have h3:=heap_setCell_same _ g 3 _ _ b3 h2
 exact h3
theorem set_oth4 {w:World} {g i j k l b:Nat} {u v x y:Value} (h:b≠g):((((w.setCell ⟨g,i,none⟩ u).setCell ⟨g,j,none⟩ v).setCell ⟨g,k,none⟩ x).setCell ⟨g,l,none⟩ y).heap[b]?=w.heap[b]?:=by
 rw [heap_setCell_other _ _ _ _ (show b≠g from h),heap_setCell_other _ _ _ _ (show b≠g from h),heap_setCell_other _ _ _ _ (show b≠g from h),heap_setCell_other _ _ _ _ (show b≠g from h)]
theorem encB_lt (k s n c:Nat):∀ x∈encB k s n c,x<256:=by
 intro x hx
 unfold encB at hx
 simp only [List.mem_append] at hx
 rcases hx with h | h | h | h<;>exact aCy _ x h
theorem encB_len {k s n c:Nat} (hk:k<9223372036854775808) (hs:s<9223372036854775808) (hn:n<9223372036854775808) (hc:c<9223372036854775808):(encB k s n c).length≤36:=by
 unfold encB
 simp only [lA]
 have:=aAo k hk
 have:=aAo s hs
 have:=aAo n hn
 have:=aAo c hc
 omega
theorem sv_zero {α:Type} {f:α→List Value} {k:Nat} (w:World) (a:Option Addr) (c:Nat) (h:c≤9223372036854775807∧(a=none→c=0)):SV f k w a 0 c []:=⟨rfl,Nat.zero_le _,h.1,h.2,fun q=>absurd q (Nat.lt_irrefl _)⟩
theorem rentry_bare {rb n c p:Nat} {a:Option Addr} {xs:List Nat} {w:World} (h:EDR rb a n c (p:Int) w) (hb:BS w a n c xs) (har:∀ b o,a=some ⟨b,o,none⟩→0<n→b≠rb) (h0:min (ruN xs (ruP xs (ruP xs (ruP xs (p:Int):Int):Int):Int)) 3=0) :
  Calls Tryz.prog 29 #[.pointer (some ⟨rb,0,none⟩)] w fun e w'=>∃ (va:Option Addr) (vc:Nat) (ls:List CmdV),e=.returned (.agg #[.int .i64 (ruN xs (p:Int):Int),.int .i64 (ruN xs (ruP xs (p:Int):Int):Int),.slice va ls.length vc,.int .i64 (ruN xs (ruP xs (ruP xs (p:Int):Int):Int):Int)])∧SV fCm 3 w' va ls.length vc ls∧(∀ x∈ls,cmT w' x)∧ls.map ctT=rowsA (stN xs) (ruP xs (ruP xs (ruP xs (ruP xs (p:Int):Int):Int):Int)) (min (ruN xs (ruP xs (ruP xs (ruP xs (p:Int):Int):Int):Int)) 3)∧(∀ x∈ls,okT x)∧(∀ b∈oblk va,w.heap.size≤b∧b<w'.heap.size)∧(∀ x∈ls,∀ b∈blT x,w.heap.size≤b∧b<w'.heap.size)∧EDR rb a n c ((posA (stN xs) (ruP xs (ruP xs (ruP xs (ruP xs (p:Int):Int):Int):Int)) (min (ruN xs (ruP xs (ruP xs (ruP xs (p:Int):Int):Int):Int)) 3):Nat):Int) w'∧RdF rb w w':=by
 have HC0':=hide h0
 clear h0
 have HRB:Hid (rb<w.heap.size):=aAb h
 have HAR:=hide har
 have HAN:Hid (∀ b o,a=some ⟨b,o,none⟩→0<n→b<w.heap.size∧b≠rb):=by
  intro b o q hpos
  have:=aBv (hb.hcell _ q 0 hpos)
  exact ⟨by simpa [Addr.add] using this,har b o q hpos⟩
 obtain ⟨h0,hh0⟩:∃ k,ruN xs (p:Int)=k:=⟨_,rfl⟩
 obtain ⟨q0,hq0⟩:∃ k,ruP xs (p:Int)=k:=⟨_,rfl⟩
 rw [hh0,hq0]
 obtain ⟨h1,hh1⟩:∃ k,ruN xs (q0:Int)=k:=⟨_,rfl⟩
 obtain ⟨q1,hq1⟩:∃ k,ruP xs (q0:Int)=k:=⟨_,rfl⟩
 rw [hh1,hq1]
 obtain ⟨h2,hh2⟩:∃ k,ruN xs (q1:Int)=k:=⟨_,rfl⟩
 obtain ⟨q2,hq2⟩:∃ k,ruP xs (q1:Int)=k:=⟨_,rfl⟩
 rw [hh2,hq2]
 obtain ⟨cn,hcn⟩:∃ k,min (ruN xs (q2:Int)) 3=k:=⟨_,rfl⟩
 obtain ⟨q9,hq9⟩:∃ k,ruP xs (q2:Int)=k:=⟨_,rfl⟩
 rw [hcn,hq9]
 have HCN:Hid (cn≤3):=by show _≤_;rw [←hcn];exact Nat.min_le_right _ _
 have hbz:=aAc w (.cells #[.int .i64 0,.int .i64 0,.slice none 0 0,.int .i64 0] 24)
 have HZ1:Hid ((w.alloc (.cells #[.int .i64 0,.int .i64 0,.slice none 0 0,.int .i64 0] 24)).heap[w.heap.size]?=some (.cells #[.int .i64 0,.int .i64 0,.slice none 0 0,.int .i64 0] 24 (0,0))):=boxed w _
 have HR1:Hid (EDR rb a n c (p:Int) (w.alloc (.cells #[.int .i64 0,.int .i64 0,.slice none 0 0,.int .i64 0] 24))):=(hbz.block rb (aAb h)).trans h
 have HB1:=hide (hb.later hbz (nR _))
 have HF1:Hid (RdF rb w (w.alloc (.cells #[.int .i64 0,.int .i64 0,.slice none 0 0,.int .i64 0] 24))):=RdF.of hbz (by have:=HRB.out;omega)
 have HC0:Hid (cn=0):=by show _=_;have:=HC0'.out;simp only [hq0,hq1,hq2] at this;omega
 have HCE:=hide hcn
 have HP9:=hide hq9
 have HH0:Hid (ruN xs (p:Int)=h0∧ruP xs (p:Int)=q0):=⟨hh0,hq0⟩
 have HH1:Hid (ruN xs (q0:Int)=h1∧ruP xs (q0:Int)=q1):=⟨hh1,hq1⟩
 have HH2:Hid (ruN xs (q1:Int)=h2∧ruP xs (q1:Int)=q2):=⟨hh2,hq2⟩
 clear h hb har hbz hcn hq9 hh0 hq0 hh1 hq1 hh2 hq2
 go_enter Tryz.func29,Tryz.ntmps29
 go_upto_region 1 with fail
 generalize w.alloc (.cells #[.int .i64 0,.int .i64 0,.slice none 0 0,.int .i64 0] 24)=w1 at *
 generalize hN:w.heap.size=N at *
 have HC0:=hide (aB5 HR1.out HB1.out)
 go_wp2_with fail
 refine HC0.out.mono ?_
 rintro e wh0 ⟨rfl,hr,hf⟩
 rw [HH0.out.1]
 rw [HH0.out.2] at hr
 have HF2:=hide (HF1.out.trans hf)
 have HR2:=hide hr
 have HB2:=hide (aB9 HB1.out hf HAR.out)
 have HZ2:=hide ((hf.oth N (aAb HZ1.out) (by have:=HRB.out;omega)).trans HZ1.out)
 clear hr hf HC0 HR1 HB1 HZ1
 have HC1:=hide (aB5 HR2.out HB2.out)
 go_wp2_with fail
 refine HC1.out.mono ?_
 rintro e wh1 ⟨rfl,hr,hf⟩
 rw [HH1.out.1]
 rw [HH1.out.2] at hr
 have HF3:=hide (HF2.out.trans hf)
 have HR3:=hide hr
 have HB3:=hide (aB9 HB2.out hf HAR.out)
 have HZ3:=hide ((hf.oth N (aAb HZ2.out) (by have:=HRB.out;omega)).trans HZ2.out)
 clear hr hf HC1 HR2 HB2 HZ2
 have HC2:=hide (aB5 HR3.out HB3.out)
 go_wp2_with fail
 refine HC2.out.mono ?_
 rintro e wh2 ⟨rfl,hr,hf⟩
 rw [HH2.out.1]
 rw [HH2.out.2] at hr
 have HF4:=hide (HF3.out.trans hf)
 have HR4:=hide hr
 have HB4:=hide (aB9 HB3.out hf HAR.out)
 have HZ4:=hide ((hf.oth N (aAb HZ3.out) (by have:=HRB.out;omega)).trans HZ3.out)
 clear hr hf HC2 HR3 HB3 HZ3
 have hb3:=aAc wh2 (.cells #[.int .i64 (h0:Int),.int .i64 (h1:Int),.slice none 0 0,.int .i64 (h2:Int)] 24)
 have HS3:Hid ((wh2.alloc (.cells #[.int .i64 (h0:Int),.int .i64 (h1:Int),.slice none 0 0,.int .i64 (h2:Int)] 24)).heap[wh2.heap.size]?=some (.cells #[.int .i64 (h0:Int),.int .i64 (h1:Int),.slice none 0 0,.int .i64 (h2:Int)] 24 (0,0))):=boxed wh2 _
 have HRs:Hid (EDR rb a n c (q2:Int) (wh2.alloc (.cells #[.int .i64 (h0:Int),.int .i64 (h1:Int),.slice none 0 0,.int .i64 (h2:Int)] 24))):=(hb3.block rb (aAb HR4.out)).trans HR4.out
 have HZs:=hide ((hb3.block N (aAb HZ4.out)).trans HZ4.out)
 have HBs:=hide (HB4.out.later hb3 (nR _))
 have HFs:=hide (HF4.out.trans (RdF.of hb3 (by have:=aAb HR4.out;omega)))
 have HNS:Hid (N<wh2.heap.size∧rb<wh2.heap.size):=⟨aAb HZ4.out,aAb HR4.out⟩
 clear hb3
 go_upto_region 2 with fail
 generalize wh2.alloc (.cells #[.int .i64 (h0:Int),.int .i64 (h1:Int),.slice none 0 0,.int .i64 (h2:Int)] 24)=w3 at *
 generalize wh2.heap.size=S0 at *
 have HCs:=hide (aD6 (m0:=3) HRs.out HBs.out)
 go_wp2_with fail
 refine HCs.out.mono ?_
 rintro e w4 ⟨rfl,hr4,hf4⟩
 rw [HP9.out] at hr4
 rw [HCE.out]
 have HI4:Hid (RI fCm 3 46 blT cmT ctT okT 24 (fun v=>#[.int .i64 (h0:Int),.int .i64 (h1:Int),v,.int .i64 (h2:Int)]) #[.int .i64 0,.int .i64 0,.slice none 0 0,.int .i64 0] rb N S0 n c a xs w q9 [] (.slice none 0 0) [] w4):=by
  refine ⟨hr4,(hf4.oth S0 (aAb HS3.out) (by have:=HNS.out;omega)).trans HS3.out,OwnR.nil _ _ _ _ _ _ _,(hf4.oth N (aAb HZs.out) (by have:=HRB.out;omega)).trans HZs.out,rfl,HFs.out.trans hf4,aB9 HBs.out hf4 HAR.out,by simp,by simp,⟨by rw [hN];exact HRB.out,Nat.le_of_eq hN,HNS.out.1⟩,fun b o q hp=>by rw [hN];exact HAN.out b o q hp⟩
 clear hr4 hf4 HCs HRs HBs HS3 HZs HFs HCE
 go_wp2_with fail
 go_loopg [13] cn (fun gh sx wx=>∃ (j:Nat) (v:Value) (ls:List CmdV),j+gh=cn∧sx=.int .i64 (j:Int)∧RI fCm 3 46 blT cmT ctT okT 24 (fun v=>#[.int .i64 (h0:Int),.int .i64 (h1:Int),v,.int .i64 (h2:Int)]) #[.int .i64 0,.int .i64 0,.slice none 0 0,.int .i64 0] rb N S0 n c a xs w (posA (stN xs) q9 j) (rowsA (stN xs) q9 j) v ls wx)
 case atStart=>exact ⟨0,_,[],by omega,rfl,HI4.out⟩
 case round =>
  obtain ⟨j,v,ls,hj,rfl,hri⟩:=hrel
  have HI:=hide hri
  clear hri
  by_cases hjn:j<cn
  ·exact absurd hjn (by have:=HC0.out;omega)
  ·have xj:¬ (j:Int)<(cn:Int):=by omega
   have ex:j=cn:=by omega
   subst ex
   obtain ⟨a9,c9,e9,_⟩:=aBj fCm_len HI.out.ow.own rfl
   obtain ⟨m9,hm9⟩:∃ m,ls.length=m:=⟨_,rfl⟩
   rw [hm9] at e9
   subst e9
   have HML:=hide hm9
   clear hm9
   have y0:wr.cell? ⟨S0,0,none⟩=some (.int .i64 (h0:Int)):=aAa HI.out.sb
   have t0:wr.cell? ⟨N,0,none⟩=some (.int .i64 0):=aAa HI.out.zb
   have tf0:wr.frozen? ⟨N,0,none⟩=false:=aAj HI.out.zb
   have y1:wr.cell? ⟨S0,1,none⟩=some (.int .i64 (h1:Int)):=aAa HI.out.sb
   have t1:wr.cell? ⟨N,1,none⟩=some (.int .i64 0):=aAa HI.out.zb
   have tf1:wr.frozen? ⟨N,1,none⟩=false:=aAj HI.out.zb
   have y2:wr.cell? ⟨S0,2,none⟩=some (.slice a9 m9 c9):=aAa HI.out.sb
   have t2:wr.cell? ⟨N,2,none⟩=some (.slice none 0 0):=aAa HI.out.zb
   have tf2:wr.frozen? ⟨N,2,none⟩=false:=aAj HI.out.zb
   have y3:wr.cell? ⟨S0,3,none⟩=some (.int .i64 (h2:Int)):=aAa HI.out.sb
   have t3:wr.cell? ⟨N,3,none⟩=some (.int .i64 0):=aAa HI.out.zb
   have tf3:wr.frozen? ⟨N,3,none⟩=false:=aAj HI.out.zb
   go_wp2
   (try simp only [Exit.inBlock,Exit.then])
   refine bodyPost_ret (results_cell_row Tryz.results29 _ _ N _ _ _ _ rfl (set4 HI.out.zb) Tryz.underlying24 rfl (by kernel_rfl)) rfl ?_
   have hlt:=HI.out.lt
   have hne:∀ i,i≠N→((((wr.setCell ⟨N,0,none⟩ (.int .i64 (h0:Int))).setCell ⟨N,1,none⟩ (.int .i64 (h1:Int))).setCell ⟨N,2,none⟩ (.slice a9 m9 c9)).setCell ⟨N,3,none⟩ (.int .i64 (h2:Int))).heap[i]?=wr.heap[i]?:=fun i hi=>set_oth4 (show i≠N from hi)
   have hsz:wr.heap.size≤((((wr.setCell ⟨N,0,none⟩ (.int .i64 (h0:Int))).setCell ⟨N,1,none⟩ (.int .i64 (h1:Int))).setCell ⟨N,2,none⟩ (.slice a9 m9 c9)).setCell ⟨N,3,none⟩ (.int .i64 (h2:Int))).heap.size:=(((((Below.refl 0 wr).setCell (p:=⟨N,0,none⟩) (Nat.zero_le _) _).setCell (p:=⟨N,1,none⟩) (Nat.zero_le _) _).setCell (p:=⟨N,2,none⟩) (Nat.zero_le _) _).setCell (p:=⟨N,3,none⟩) (Nat.zero_le _) _).size
   have hown:=HI.out.ow.keep (w':=((((wr.setCell ⟨N,0,none⟩ (.int .i64 (h0:Int))).setCell ⟨N,1,none⟩ (.int .i64 (h1:Int))).setCell ⟨N,2,none⟩ (.slice a9 m9 c9)).setCell ⟨N,3,none⟩ (.int .i64 (h2:Int)))) no_stay hsz (aCe HI.out.ow.own fun g e=>hne g (by have:=HI.out.ow.own.lt g e;omega)) (fun i hi ⟨y,hy,hb1⟩=>hne i (by have:=HI.out.new y hy i hb1;omega))
   obtain ⟨a8,c8,e8,hsv⟩:=aBj fCm_len hown.own rfl
   rw [HML.out] at e8
   simp only [Value.slice.injEq,true_and] at e8
   obtain ⟨rfl,rfl⟩:=e8
   refine ⟨a9,c9,ls,by rw [HML.out],hsv,hown.mem,HI.out.ct_,HI.out.ok,fun b hb1=>?_,fun y hy b hb1=>⟨by have:=HI.out.new y hy b hb1;omega,(hown.ap y hy b hb1).2⟩,?_,?_⟩
   ·cases a9 with
    | none=>cases hb1
    | some ad =>
     obtain rfl:b=ad.block:=by simpa [oblk] using hb1
     have:=hown.own.lt ad.block rfl
     omega
   ·exact (hne rb (by omega)).trans HI.out.rd
   ·exact ((((HI.out.fr.put (b:=N) (by omega) (by omega) 0 _).put (b:=N) (by omega) (by omega) 1 _).put (b:=N) (by omega) (by omega) 2 _).put (b:=N) (by omega) (by omega) 3 _)
theorem aBt {w:World} {y:EntV} (h:EntP w y) (hc:y.cl=0) :
  Calls Tryz.prog 7 #[.agg #[.int .i64 y.kind,.int .i64 y.srv,.slice y.ca y.cl y.cc,.int .i64 y.n]] w fun e w'=>EncP (entRt y) (encB y.kind.toNat y.srv.toNat y.n.toNat 0) w.heap.size e w'∧Below w.heap.size w w':=by
 have hbx:=aAc w (.cells #[.int .i64 y.kind,.int .i64 y.srv,.slice y.ca y.cl y.cc,.int .i64 y.n] 24)
 have HR1:Hid ((w.alloc (.cells #[.int .i64 y.kind,.int .i64 y.srv,.slice y.ca y.cl y.cc,.int .i64 y.n] 24)).heap[w.heap.size]?=some (.cells #[.int .i64 y.kind,.int .i64 y.srv,.slice y.ca y.cl y.cc,.int .i64 y.n] 24 (0,0))):=boxed w _
 have HW1:=hide hbx
 have HE1:=hide (h.later hbx)
 have HC:=hide hc
 clear h hbx hc
 go_enter Tryz.func7,Tryz.ntmps7
 go_upto_region 1 with fail
 generalize w.alloc (.cells #[.int .i64 y.kind,.int .i64 y.srv,.slice y.ca y.cl y.cc,.int .i64 y.n] 24)=w1 at *
 generalize hL:w.heap.size=L at *
 have y0:w1.cell? ⟨L,0,none⟩=some (.int .i64 y.kind):=aAa HR1.out
 have y1:w1.cell? ⟨L,1,none⟩=some (.int .i64 y.srv):=aAa HR1.out
 have y2:w1.cell? ⟨L,2,none⟩=some (.slice y.ca y.cl y.cc):=aAa HR1.out
 have y3:w1.cell? ⟨L,3,none⟩=some (.int .i64 y.n):=aAa HR1.out
 have HRT:=hide (entright_any HE1.out)
 obtain ⟨bb,eb⟩:∃ b,entRt y=b:=⟨_,rfl⟩
 have HEB:=hide eb
 rw [eb] at HRT
 clear eb
 go_wp2_with fail
 refine HRT.out.mono ?_
 rintro e w2 ⟨rfl,hb⟩
 have HR2:=hide ((hb.block L (aAb HR1.out)).trans HR1.out)
 have HW2:Hid (Below L w w2):=HW1.out.trans (hb.mono (by have:=aAb HR1.out;omega))
 clear hb HRT y0 y1 y2 y3
 cases bb with
 | false =>
  go_wp2
  go_ret2
  exact ⟨by rw [HEB.out];exact EncP.no,by first | exact HW2.out | (rw [hL];exact HW2.out)⟩
 | true =>
  have y0:w2.cell? ⟨L,0,none⟩=some (.int .i64 y.kind):=aAa HR2.out
  have y1:w2.cell? ⟨L,1,none⟩=some (.int .i64 y.srv):=aAa HR2.out
  have y2:w2.cell? ⟨L,2,none⟩=some (.slice y.ca y.cl y.cc):=aAa HR2.out
  have y3:w2.cell? ⟨L,3,none⟩=some (.int .i64 y.n):=aAa HR2.out
  obtain ⟨p1,p2,p3,_⟩:=aDl HEB.out
  have HLD:=hide (laid_bare (y:=y) (w:=w2) (kn:=y.kind.toNat) (sn:=y.srv.toNat) (nn:=y.n.toNat) (by omega) (by omega) (by omega) ⟨by omega,by omega,by omega⟩ HC.out)
  clear p1 p2 p3
  go_wp2_with fail
  refine HLD.out.mono ?_
  rintro e w3 ⟨v,rfl,hob,hb⟩
  obtain ⟨a5,c5,e5⟩:=hob.form
  have HOB:=hide hob
  obtain ⟨m5,hm5⟩:∃ m,(encB y.kind.toNat y.srv.toNat y.n.toNat 0).length=m:=⟨_,rfl⟩
  rw [hm5] at e5
  subst e5
  have HM5:=hide hm5
  have HW3:Hid (Below L w w3):=HW2.out.trans (hb.mono (by have:=aAb HR2.out;omega))
  clear hob hb HLD hm5
  go_wp2
  go_ret2
  refine ⟨?_,by first | exact HW3.out | (rw [hL];exact HW3.out)⟩
  rw [HEB.out]
  have h9:=aC9 HOB.out (show L≤w2.heap.size by have:=aAb HR2.out;omega)
  exact EncP.yes (by first | exact h9 | (rw [hL];exact h9))
theorem encode_bare {w:World} {y:EntV} (h:EntP w y) (hc:y.cl=0) :
  Calls Tryz.prog 7 #[.agg #[.int .i64 y.kind,.int .i64 y.srv,.slice y.ca y.cl y.cc,.int .i64 y.n]] w fun e w'=>∃ ax nx cx,e=.returned (.tuple #[.slice ax nx cx,.int .i64 (if entRt y=true then 0 else 1)])∧(entRt y=true→BS w' ax nx cx (encB y.kind.toNat y.srv.toNat y.n.toNat 0))∧(entRt y=false→nx=0)∧Below w.heap.size w w':=by
 refine (aBt h hc).mono ?_
 rintro e w' ⟨h1,h2⟩
 unfold EncP at h1
 cases hok:entRt y with
 | true =>
  rw [hok,if_pos rfl] at h1
  obtain ⟨v,rfl,ho⟩:=h1
  obtain ⟨a,c,rfl⟩:=ho.form
  obtain ⟨p1,p2,p3,_⟩:=aDl hok
  have hl:=encB_len (k:=y.kind.toNat) (s:=y.srv.toNat) (n:=y.n.toNat) (c:=0) (by omega) (by omega) (by omega) (by omega)
  exact ⟨a,_,c,rfl,fun _=>OB.bs ho (encB_lt _ _ _ _) (by omega),(fun q=>by cases q),h2⟩
 | false =>
  rw [hok,if_neg (by decide)] at h1
  exact ⟨none,0,0,h1,(fun q=>by cases q),fun _=>rfl,h2⟩
def bareE (k s n:Nat):EntV:=⟨(k:Int),(s:Int),none,0,0,[],(n:Int)⟩
def DeR (xs:List Nat) (k s n:Nat) (e:Ending):Prop:=(entRt (bareE k s n)=true∧encB k s n 0=xs∧∃ va vc,e=.returned (.tuple #[.agg #[.int .i64 (k:Int),.int .i64 (s:Int),.slice va 0 vc,.int .i64 (n:Int)],.int .i64 0])) ∨
 (¬ (entRt (bareE k s n)=true∧encB k s n 0=xs)∧e=.returned (.tuple #[.agg #[.int .i64 0,.int .i64 0,.slice none 0 0,.int .i64 0],.int .i64 11]))
theorem aDq {n c:Nat} {a:Option Addr} {xs:List Nat} {w:World} {kn sn nn q0 q1 q2:Nat} (hb:BS w a n c xs) (h1:ruN xs ((0:Nat):Int)=kn∧ruP xs ((0:Nat):Int)=q0) (h2:ruN xs (q0:Int)=sn∧ruP xs (q0:Int)=q1) (h3:ruN xs (q1:Int)=nn∧ruP xs (q1:Int)=q2) (h4:ruN xs (q2:Int)=0) (hlt:kn<9223372036854775808∧sn<9223372036854775808∧nn<9223372036854775808) :
  Calls Tryz.prog 13 #[.slice a n c] w fun e w'=>DeR xs kn sn nn e∧Below w.heap.size w w':=by
 obtain ⟨N,hN⟩:∃ N,w.heap.size=N:=⟨_,rfl⟩
 obtain ⟨w1,hw1⟩:∃ w1,w1=(w.alloc (.cells #[.int .i64 0,.int .i64 0,.slice none 0 0,.int .i64 0] 24)).alloc (.cells #[.slice a n c,.int .i64 0] 56):=⟨_,rfl⟩
 have HZ1:Hid (w1.heap[N]?=some (.cells #[.int .i64 0,.int .i64 0,.slice none 0 0,.int .i64 0] 24 (0,0))):=by show _=_;rw [hw1,←hN];exact heap_alloc2_old w _ _
 have HR1:Hid (EDR (N+1) a n c ((0:Nat):Int) w1):=by show _=_;rw [hw1,←hN];exact heap_alloc2_new w _ _
 have hb1:Below w.heap.size w w1:=by rw [hw1];exact (aAc w _).trans ((aAc _ _).mono (aAc w _).size)
 have HB1:=hide (hb.later hb1 (nR _))
 have HW1:Hid (Below N w w1):=by show Below N w w1;rw [←hN];exact hb1
 have HAN:Hid (∀ b o,a=some ⟨b,o,none⟩→0<n→b<N):=by
  intro b o q hpos
  have:=aBv (hb.hcell _ q 0 hpos)
  rw [←hN]
  simpa [Addr.add] using this
 have HSC:=hide (rentry_bare (p:=0) HR1.out HB1.out (fun b o q hp=>by have:=HAN.out b o q hp;omega) (by rw [h1.2,h2.2,h3.2,h4];rfl))
 rw [h1.1,h1.2,h2.1,h2.2,h3.1,h3.2,h4] at HSC
 have HE1:=hide hw1
 have HLT:=hide hlt
 rw [hN]
 clear hb hb1 hw1 h1 h2 h3 h4 hlt
 go_enter Tryz.func13,Tryz.ntmps13
 go_upto_region 2 with fail
 rw [←HE1.out]
 try simp only [hN]
 go_wp2_with fail
 refine HSC.out.mono ?_
 rintro e w2 ⟨va,vc,ls,rfl,hsv,_,hct,_,_,_,_,hf⟩
 have HVC:Hid (vc≤9223372036854775807∧(va=none→vc=0)):=⟨hsv.hm,hsv.hn⟩
 have hl0:ls.length=0:=by
  have:=congrArg List.length hct
  simpa [rowsA] using this
 rw [hl0]
 clear hsv hct hl0 HSC
 have hbx:=aAc w2 (.cells #[.int .i64 (kn:Int),.int .i64 (sn:Int),.slice va 0 vc,.int .i64 (nn:Int)] 24)
 have HV3:Hid ((w2.alloc (.cells #[.int .i64 (kn:Int),.int .i64 (sn:Int),.slice va 0 vc,.int .i64 (nn:Int)] 24)).heap[w2.heap.size]?=some (.cells #[.int .i64 (kn:Int),.int .i64 (sn:Int),.slice va 0 vc,.int .i64 (nn:Int)] 24 (0,0))):=boxed w2 _
 have HZ3:Hid ((w2.alloc (.cells #[.int .i64 (kn:Int),.int .i64 (sn:Int),.slice va 0 vc,.int .i64 (nn:Int)] 24)).heap[N]?=some (.cells #[.int .i64 0,.int .i64 0,.slice none 0 0,.int .i64 0] 24 (0,0))):=(hbx.block N (by have:=aAb HZ1.out;have:=hf.bel.size;omega)).trans ((hf.oth N (aAb HZ1.out) (by omega)).trans HZ1.out)
 have HB3:=hide ((aB9 HB1.out hf fun b o q hp=>by have:=HAN.out b o q hp;omega).later hbx (nR _))
 have HW3:Hid (Below N w (w2.alloc (.cells #[.int .i64 (kn:Int),.int .i64 (sn:Int),.slice va 0 vc,.int .i64 (nn:Int)] 24))):=HW1.out.trans ((hf.bel.mono (by omega)).trans (hbx.mono (by have:=aAb HZ1.out;have:=hf.bel.size;omega)))
 clear hf hbx
 go_upto_region 3 with fail
 generalize (w2.alloc (.cells #[.int .i64 (kn:Int),.int .i64 (sn:Int),.slice va 0 vc,.int .i64 (nn:Int)] 24))=w3 at *
 generalize w2.heap.size=V at *
 have y0:w3.cell? ⟨V,0,none⟩=some (.int .i64 (kn:Int)):=aAa HV3.out
 have y1:w3.cell? ⟨V,1,none⟩=some (.int .i64 (sn:Int)):=aAa HV3.out
 have y2:w3.cell? ⟨V,2,none⟩=some (.slice va 0 vc):=aAa HV3.out
 have y3:w3.cell? ⟨V,3,none⟩=some (.int .i64 (nn:Int)):=aAa HV3.out
 have HEP:Hid (EntP w3 ⟨(kn:Int),(sn:Int),va,0,vc,[],(nn:Int)⟩):=⟨by have:=HLT.out;dsimp only;omega,by have:=HLT.out;dsimp only;omega,by have:=HLT.out;dsimp only;omega,sv_zero _ va vc HVC.out,by simp⟩
 have HEN:=hide (encode_bare HEP.out rfl)
 have HRE:Hid (entRt ⟨(kn:Int),(sn:Int),va,0,vc,[],(nn:Int)⟩=entRt (bareE kn sn nn)):=rfl
 dsimp only at HEN
 rw [HRE.out,Int.toNat_natCast,Int.toNat_natCast,Int.toNat_natCast] at HEN
 go_wp2_with fail
 refine HEN.out.mono ?_
 rintro e w4 ⟨a4,n4,c4,rfl,hx4,_,hb4⟩
 have HX4:=hide hx4
 have HB4:=hide (HB3.out.later hb4 (nR _))
 have HV4:=hide ((hb4.block V (aAb HV3.out)).trans HV3.out)
 have HZ4:=hide ((hb4.block N (aAb HZ3.out)).trans HZ3.out)
 have HW4:Hid (Below N w w4):=HW3.out.trans (hb4.mono (by have:=aAb HZ3.out;omega))
 clear hx4 hb4 HEN y0 y1 y2 y3 HEP HRE
 have t0:w4.cell? ⟨N,0,none⟩=some (.int .i64 0):=aAa HZ4.out
 have tf0:w4.frozen? ⟨N,0,none⟩=false:=aAj HZ4.out
 have t1:w4.cell? ⟨N,1,none⟩=some (.int .i64 0):=aAa HZ4.out
 have tf1:w4.frozen? ⟨N,1,none⟩=false:=aAj HZ4.out
 have t2:w4.cell? ⟨N,2,none⟩=some (.slice none 0 0):=aAa HZ4.out
 have tf2:w4.frozen? ⟨N,2,none⟩=false:=aAj HZ4.out
 have t3:w4.cell? ⟨N,3,none⟩=some (.int .i64 0):=aAa HZ4.out
 have tf3:w4.frozen? ⟨N,3,none⟩=false:=aAj HZ4.out
 cases hok:entRt (bareE kn sn nn) with
 | false =>
  rw [if_neg (by decide)]
  have HNQ:Hid (¬ (entRt (bareE kn sn nn)=true∧encB kn sn nn 0=xs)):=by
   show ¬ _
   rw [hok]
   simp
  clear hok
  go_wp2
  (try simp only [Exit.inBlock,Exit.then])
  refine bodyPost_ret (aAu Tryz.results13 _ _ N _ _ _ _ rfl (set4 HZ4.out) Tryz.underlying24 rfl (by kernel_rfl)) rfl ?_
  exact ⟨Or.inr ⟨HNQ.out,rfl⟩,(((HW4.out.setCell (p:=⟨N,0,none⟩) (nR _) _).setCell (p:=⟨N,1,none⟩) (nR _) _).setCell (p:=⟨N,2,none⟩) (nR _) _).setCell (p:=⟨N,3,none⟩) (nR _) _⟩
 | true =>
  rw [if_pos rfl]
  have HEQ:=hide (aB7 a4 a n4 c4 n c (encB kn sn nn 0) xs w4 (HX4.out hok) HB4.out)
  have HOKT:=hide hok
  clear hok
  go_wp2_with fail
  refine HEQ.out.mono ?_
  rintro e w9 ⟨rfl,hw⟩
  have hw:=hw.symm
  subst hw
  clear hw HEQ
  by_cases hq:encB kn sn nn 0=xs
  ·have HEQS:=hide hq
   rw [decide_eq_true hq]
   clear hq
   have z0:w4.cell? ⟨V,0,none⟩=some (.int .i64 (kn:Int)):=aAa HV4.out
   have z1:w4.cell? ⟨V,1,none⟩=some (.int .i64 (sn:Int)):=aAa HV4.out
   have z2:w4.cell? ⟨V,2,none⟩=some (.slice va 0 vc):=aAa HV4.out
   have z3:w4.cell? ⟨V,3,none⟩=some (.int .i64 (nn:Int)):=aAa HV4.out
   go_wp2
   (try simp only [Exit.inBlock,Exit.then])
   refine bodyPost_ret (aAu Tryz.results13 _ _ N _ _ _ _ rfl (set4 HZ4.out) Tryz.underlying24 rfl (by kernel_rfl)) rfl ?_
   exact ⟨Or.inl ⟨HOKT.out,HEQS.out,va,vc,rfl⟩,(((HW4.out.setCell (p:=⟨N,0,none⟩) (nR _) _).setCell (p:=⟨N,1,none⟩) (nR _) _).setCell (p:=⟨N,2,none⟩) (nR _) _).setCell (p:=⟨N,3,none⟩) (nR _) _⟩
  ·rw [decide_eq_false hq]
   have HNQ:Hid (¬ (entRt (bareE kn sn nn)=true∧encB kn sn nn 0=xs)):=fun q=>hq q.2
   clear hq
   go_wp2
   (try simp only [Exit.inBlock,Exit.then])
   refine bodyPost_ret (aAu Tryz.results13 _ _ N _ _ _ _ rfl (set4 HZ4.out) Tryz.underlying24 rfl (by kernel_rfl)) rfl ?_
   exact ⟨Or.inr ⟨HNQ.out,rfl⟩,(((HW4.out.setCell (p:=⟨N,0,none⟩) (nR _) _).setCell (p:=⟨N,1,none⟩) (nR _) _).setCell (p:=⟨N,2,none⟩) (nR _) _).setCell (p:=⟨N,3,none⟩) (nR _) _⟩
theorem same17_bare (k s n:Int) (a b:Option Addr) (c d:Nat) (w:World):Calls Tryz.prog 12 #[.agg #[.int .i64 k,.int .i64 s,.slice a 0 c,.int .i64 n],.agg #[.int .i64 k,.int .i64 s,.slice b 0 d,.int .i64 n]] w fun e w'=>e=.returned (.bool true)∧Below w.heap.size w w':=by
 obtain ⟨L,hL⟩:∃ L,w.heap.size=L:=⟨_,rfl⟩
 obtain ⟨w1,hw1⟩:∃ w1,w1=(w.alloc (.cells #[.int .i64 k,.int .i64 s,.slice a 0 c,.int .i64 n] 24)).alloc (.cells #[.int .i64 k,.int .i64 s,.slice b 0 d,.int .i64 n] 24):=⟨_,rfl⟩
 have HA1:Hid (w1.heap[L]?=some (.cells #[.int .i64 k,.int .i64 s,.slice a 0 c,.int .i64 n] 24 (0,0))):=by show _=_;rw [hw1,←hL];exact heap_alloc2_old w _ _
 have HB1:Hid (w1.heap[L+1]?=some (.cells #[.int .i64 k,.int .i64 s,.slice b 0 d,.int .i64 n] 24 (0,0))):=by show _=_;rw [hw1,←hL];exact heap_alloc2_new w _ _
 have hb1:Below w.heap.size w w1:=by rw [hw1];exact (aAc w _).trans ((aAc _ _).mono (aAc w _).size)
 have HW1:Hid (Below L w w1):=by show Below L w w1;rw [←hL];exact hb1
 have HE1:=hide hw1
 have kk:(k != k)=false:=by simp
 have ss:(s != s)=false:=by simp
 have nn:(n != n)=false:=by simp
 have q0:¬ (0:Int)<0:=by omega
 rw [hL]
 clear hb1 hw1
 go_enter Tryz.func12,Tryz.ntmps12
 go_upto_region 1 with fail
 rw [←HE1.out]
 try simp only [hL]
 have y0:w1.cell? ⟨L,0,none⟩=some (.int .i64 k):=aAa HA1.out
 have y1:w1.cell? ⟨L,1,none⟩=some (.int .i64 s):=aAa HA1.out
 have y2:w1.cell? ⟨L,2,none⟩=some (.slice a 0 c):=aAa HA1.out
 have y3:w1.cell? ⟨L,3,none⟩=some (.int .i64 n):=aAa HA1.out
 have z0:w1.cell? ⟨(L+1),0,none⟩=some (.int .i64 k):=aAa HB1.out
 have z1:w1.cell? ⟨(L+1),1,none⟩=some (.int .i64 s):=aAa HB1.out
 have z2:w1.cell? ⟨(L+1),2,none⟩=some (.slice b 0 d):=aAa HB1.out
 have z3:w1.cell? ⟨(L+1),3,none⟩=some (.int .i64 n):=aAa HB1.out
 clear HE1
 go_wp2_with fail
 go_loopg [5] 0 (fun gh sx wx=>sx=.int .i64 0∧wx=w1)
 case atStart=>exact ⟨rfl,rfl⟩
 case round =>
 obtain ⟨rfl,hww⟩:=hrel
 have hww:=hww.symm
 subst hww
 have y2:w1.cell? ⟨L,2,none⟩=some (.slice a 0 c):=aAa HA1.out
 go_wp2
 go_ret
 exact ⟨rfl,HW1.out⟩
theorem own_oneT {y:World} {B:Nat} {u:Value} (hB:B≤y.heap.size):(y.alloc (.cells #[u] 5)).ownsRow B 5 1 (.slice (some ⟨y.heap.size,0,none⟩) 1 1) 1 [u] :=
 ⟨rfl,Or.inr ⟨y.heap.size,1,#[u],rfl,hB,boxed y _,by omega,by unfold maxLen;omega,rfl,rfl⟩⟩
theorem ent_2270:entRt ⟨2,2,none,0,0,[],7⟩=true:=by decide +kernel
theorem ent_0:entRt ⟨0,0,none,0,0,[],0⟩=false:=by decide +kernel
theorem bare_2270:entRt (bareE 2 2 7)=true:=by decide +kernel
theorem aEi:encB 2 2 7 0=[2,2,7,0]:=by decide +kernel
theorem rp_410:rpOk 4 1 []=true:=by decide +kernel
theorem enc_410:encR 4 1 []=[4,1,0]:=by decide +kernel
theorem told17 (w:World):Calls Tryz.prog 9 #[] w fun e w'=>e=.returned (.bool true)∧Below w.heap.size w w':=by
 obtain ⟨L,hL⟩:∃ L,w.heap.size=L:=⟨_,rfl⟩
 have hbx:=aAc w (.cells #[.int .i64 2,.int .i64 2,.slice none 0 0,.int .i64 7] 24)
 have HX1:Hid ((w.alloc (.cells #[.int .i64 2,.int .i64 2,.slice none 0 0,.int .i64 7] 24)).heap[w.heap.size]?=some (.cells #[.int .i64 2,.int .i64 2,.slice none 0 0,.int .i64 7] 24 (0,0))):=boxed w _
 have HW1:Hid (Below L w (w.alloc (.cells #[.int .i64 2,.int .i64 2,.slice none 0 0,.int .i64 7] 24))):=by show Below L w _;rw [←hL];exact hbx
 rw [hL] at HX1
 clear hbx
 rw [hL]
 go_enter Tryz.func9,Tryz.ntmps9
 go_upto_region 2 with fail
 try simp only [hL]
 clear hL
 generalize w.alloc (.cells #[.int .i64 2,.int .i64 2,.slice none 0 0,.int .i64 7] 24)=w1 at *
 have y0:w1.cell? ⟨L,0,none⟩=some (.int .i64 2):=aAa HX1.out
 have y1:w1.cell? ⟨L,1,none⟩=some (.int .i64 2):=aAa HX1.out
 have y2:w1.cell? ⟨L,2,none⟩=some (.slice none 0 0):=aAa HX1.out
 have y3:w1.cell? ⟨L,3,none⟩=some (.int .i64 7):=aAa HX1.out
 have HEP:Hid (EntP w1 ⟨2,2,none,0,0,[],7⟩):=⟨by dsimp only;omega,by dsimp only;omega,by dsimp only;omega,SV.nil _ _ _,by simp⟩
 have HEN:=hide (aBt HEP.out rfl)
 rw [ent_2270] at HEN
 dsimp only at HEN
 have e2:encB (2:Int).toNat (2:Int).toNat (7:Int).toNat 0=[2,2,7,0]:=aEi
 rw [e2] at HEN
 clear e2 HEP
 go_wp2_with fail
 refine HEN.out.mono ?_
 rintro e w2 ⟨he,hb⟩
 unfold EncP at he
 rw [if_pos rfl] at he
 obtain ⟨v,rfl,hob⟩:=he
 obtain ⟨a2,c2,e2⟩:=hob.form
 subst e2
 have HOB2:=hide hob
 have HX2:=hide ((hb.block L (aAb HX1.out)).trans HX1.out)
 have HW2:Hid (Below L w w2):=HW1.out.trans (hb.mono (by have:=aAb HX1.out;omega))
 have HB12:Hid (w1.heap.size≤w2.heap.size):=hb.size
 clear hob hb HEN y0 y1 y2 y3
 have HLL:Hid (L<w1.heap.size):=aAb HX1.out
 have HD:=hide (aDq (kn:=2) (sn:=2) (nn:=7) (q0:=1) (q1:=2) (q2:=3) (OB.bs HOB2.out (by intro x hx;simp at hx;omega) (by decide)) (by decide +kernel) (by decide +kernel) (by decide +kernel) (by decide +kernel) (by omega))
 have HLN:Hid (([2,2,7,0]:List Nat).length=4):=rfl
 go_wp2_with fail
 refine HD.out.mono ?_
 rintro e w3 ⟨hd,hb⟩
 obtain ⟨va,vc,rfl⟩:∃ va vc,e=.returned (.tuple #[.agg #[.int .i64 ((2:Nat):Int),.int .i64 ((2:Nat):Int),.slice va 0 vc,.int .i64 ((7:Nat):Int)],.int .i64 0]):=by
  rcases hd with ⟨_,_,h⟩ | ⟨h,_⟩
  ·exact h
  ·exact absurd ⟨bare_2270,aEi⟩ h
 have HX3:=hide ((hb.block L (aAb HX2.out)).trans HX2.out)
 have HOB3:=hide (HOB2.out.later hb)
 have HW3:Hid (Below L w w3):=HW2.out.trans (hb.mono (by have:=aAb HX2.out;omega))
 have HB13:Hid (w1.heap.size≤w3.heap.size):=nT HB12.out hb.size
 clear hd hb HD HX2 HOB2
 have hb4:=aAc w3 (.cells #[.int .i64 2,.int .i64 2,.slice va 0 vc,.int .i64 7] 24)
 have HY4:Hid ((w3.alloc (.cells #[.int .i64 2,.int .i64 2,.slice va 0 vc,.int .i64 7] 24)).heap[w3.heap.size]?=some (.cells #[.int .i64 2,.int .i64 2,.slice va 0 vc,.int .i64 7] 24 (0,0))):=boxed w3 _
 have HX4:=hide ((hb4.block L (aAb HX3.out)).trans HX3.out)
 have HOB4:=hide (HOB3.out.later hb4)
 have HW4:Hid (Below L w (w3.alloc (.cells #[.int .i64 2,.int .i64 2,.slice va 0 vc,.int .i64 7] 24))):=HW3.out.trans (hb4.mono (by have:=aAb HX3.out;omega))
 have HB14:Hid (w1.heap.size≤(w3.alloc (.cells #[.int .i64 2,.int .i64 2,.slice va 0 vc,.int .i64 7] 24)).heap.size):=nT HB13.out hb4.size
 have HL13:Hid (w1.heap.size≤w3.heap.size):=HB13.out
 clear hb4 HX3 HOB3 HW3
 go_upto_region 4 with fail
 generalize w3.alloc (.cells #[.int .i64 2,.int .i64 2,.slice va 0 vc,.int .i64 7] 24)=w4 at *
 generalize w3.heap.size=Y at *
 have hb5:=aAc w4 (.cells #[.int .u8 0] 5)
 have HG5:Hid (OB Y (w4.alloc (.cells #[.int .u8 0] 5)) (.slice (some ⟨w4.heap.size,0,none⟩) 1 1) [0]):=own_oneT (by have:=aAb HY4.out;omega)
 have HX5:=hide ((hb5.block L (aAb HX4.out)).trans HX4.out)
 have HY5:=hide ((hb5.block Y (aAb HY4.out)).trans HY4.out)
 have HOB5:=hide (HOB4.out.later hb5)
 have HW5:Hid (Below L w (w4.alloc (.cells #[.int .u8 0] 5))):=HW4.out.trans (hb5.mono (by have:=aAb HX4.out;omega))
 have HB15:Hid (w1.heap.size≤(w4.alloc (.cells #[.int .u8 0] 5)).heap.size):=nT HB14.out hb5.size
 clear hb5
 go_wp2_with (at_builtin;refine aCi rfl (.tmp 26) (.tmp 27) rfl rfl rfl HOB5.out HG5.out HB15.out (by decide) ?_;intro v6 w6 ho6 hb6 hk6;obtain ⟨a6,c6,e6⟩:=OB.form ho6;have e7:([2,2,7,0]++[0]:List Nat).length=5:=rfl;rw [e7] at e6;subst e6;have HO6:=hide ho6;have HB6:=hide hb6;have HK6:=hide hk6;clear ho6 hb6 hk6 e7)
 have HX6:=hide ((HK6.out L (aAb HX5.out) (HOB5.out.ne HX5.out (by decide))).trans HX5.out)
 have HY6:=hide ((HK6.out Y (aAb HY5.out) (HOB5.out.ne HY5.out (by decide))).trans HY5.out)
 have HW6:Hid (Below L w w6):=HW5.out.trans (HB6.out.mono (by have:=HLL.out;omega))
 clear HK6 HB6 HOB5 HG5 HX5 HY5 HW5 HX4 HY4 HOB4 HW4
 have HD:=hide (aDq (kn:=2) (sn:=2) (nn:=7) (q0:=1) (q1:=2) (q2:=3) (OB.bs HO6.out (by intro x hx;simp at hx;omega) (by decide)) (by decide +kernel) (by decide +kernel) (by decide +kernel) (by decide +kernel) (by omega))
 clear HB15 HB14
 go_wp2_with fail
 refine HD.out.mono ?_
 rintro e w7 ⟨hd,hb⟩
 have he:e=.returned (.tuple #[.agg #[.int .i64 0,.int .i64 0,.slice none 0 0,.int .i64 0],.int .i64 11]):=by
  rcases hd with ⟨_,h,_⟩ | ⟨_,h⟩
  ·rw [aEi] at h
   exact absurd h (by decide)
  ·exact h
 subst he
 have HX7:=hide ((hb.block L (aAb HX6.out)).trans HX6.out)
 have HY7:=hide ((hb.block Y (aAb HY6.out)).trans HY6.out)
 have HW7:Hid (Below L w w7):=HW6.out.trans (hb.mono (by have:=aAb HX6.out;omega))
 clear hd hb HD HX6 HY6 HO6 HW6
 have hb8:=aAc w7 (.cells #[.int .i64 0,.int .i64 0,.slice none 0 0,.int .i64 0] 24)
 have HX8:=hide ((hb8.block L (aAb HX7.out)).trans HX7.out)
 have HY8:=hide ((hb8.block Y (aAb HY7.out)).trans HY7.out)
 have HW8:Hid (Below L w (w7.alloc (.cells #[.int .i64 0,.int .i64 0,.slice none 0 0,.int .i64 0] 24))):=HW7.out.trans (hb8.mono (by have:=aAb HX7.out;omega))
 clear hb8 HX7 HY7 HW7
 go_upto_region 5 with fail
 generalize w7.alloc (.cells #[.int .i64 0,.int .i64 0,.slice none 0 0,.int .i64 0] 24)=w8 at *
 have HEP:Hid (EntP w8 ⟨0,0,none,0,0,[],0⟩):=⟨by dsimp only;omega,by dsimp only;omega,by dsimp only;omega,SV.nil _ _ _,by simp⟩
 have HEN:=hide (aBt HEP.out rfl)
 rw [ent_0] at HEN
 clear HEP
 go_wp2_with fail
 refine HEN.out.mono ?_
 rintro e w9 ⟨he,hb⟩
 unfold EncP at he
 rw [if_neg (by decide)] at he
 subst he
 have HX9:=hide ((hb.block L (aAb HX8.out)).trans HX8.out)
 have HY9:=hide ((hb.block Y (aAb HY8.out)).trans HY8.out)
 have HW9:Hid (Below L w w9):=HW8.out.trans (hb.mono (by have:=aAb HX8.out;omega))
 clear hb HEN HX8 HY8 HW8
 have HRN:Hid (Rws w9 none 0 0 []):=⟨SV.nil _ _ _,by simp⟩
 have HEN:=hide (aBe (er:=4) (at_:=1) HRN.out (by simp))
 rw [rp_410,enc_410] at HEN
 go_wp2_with fail
 refine HEN.out.mono ?_
 rintro e w10 ⟨a10,n10,c10,rfl,hbs,_,hb⟩
 have HBS:=hide (hbs (by first | rfl | trivial))
 have HX10:=hide ((hb.block L (aAb HX9.out)).trans HX9.out)
 have HY10:=hide ((hb.block Y (aAb HY9.out)).trans HY9.out)
 have HW10:Hid (Below L w w10):=HW9.out.trans (hb.mono (by have:=aAb HX9.out;omega))
 rw [if_pos (by first | rfl | trivial)]
 clear hbs hb HEN HX9 HY9 HW9 HRN
 have HDR:=hide (aBu HBS.out)
 go_wp2_with fail
 refine HDR.out.mono ?_
 rintro e w11 ⟨hd,hb⟩
 obtain ⟨ra,rc,rs,hmap,_,hor⟩:=hd
 have hrs:rs=[]:=by
  have h1:rpRows [4,1,0]=[]:=by decide +kernel
  rw [h1] at hmap
  exact List.map_eq_nil_iff.1 hmap
 subst hrs
 have h4:rpE [4,1,0]=4:=by decide +kernel
 have h1:rpA [4,1,0]=1:=by decide +kernel
 rw [h4,h1] at hor
 obtain rfl:e=.returned (.tuple #[.agg #[.int .i64 4,.int .i64 1,.slice ra 0 rc],.int .i64 0]):=by
  rcases hor with ⟨_,_,h,_⟩ | ⟨h,_⟩
  ·exact h
  ·exact absurd ⟨rp_410,enc_410⟩ h
 have HX11:=hide ((hb.block L (aAb HX10.out)).trans HX10.out)
 have HY11:=hide ((hb.block Y (aAb HY10.out)).trans HY10.out)
 have HW11:Hid (Below L w w11):=HW10.out.trans (hb.mono (by have:=aAb HX10.out;omega))
 clear hb HDR hmap hor h4 h1 HX10 HY10 HW10 HBS
 have hb12:=aAc w11 (.cells #[.int .i64 4,.int .i64 1,.slice ra 0 rc] 37)
 have HR12:Hid ((w11.alloc (.cells #[.int .i64 4,.int .i64 1,.slice ra 0 rc] 37)).heap[w11.heap.size]?=some (.cells #[.int .i64 4,.int .i64 1,.slice ra 0 rc] 37 (0,0))):=boxed w11 _
 have HX12:=hide ((hb12.block L (aAb HX11.out)).trans HX11.out)
 have HY12:=hide ((hb12.block Y (aAb HY11.out)).trans HY11.out)
 have HW12:Hid (Below L w (w11.alloc (.cells #[.int .i64 4,.int .i64 1,.slice ra 0 rc] 37))):=HW11.out.trans (hb12.mono (by have:=aAb HX11.out;omega))
 clear hb12 HX11 HY11 HW11
 go_upto_region 8 with fail
 generalize w11.alloc (.cells #[.int .i64 4,.int .i64 1,.slice ra 0 rc] 37)=w12 at *
 generalize w11.heap.size=R at *
 have y0:w12.cell? ⟨L,0,none⟩=some (.int .i64 2):=aAa HX12.out
 have y1:w12.cell? ⟨L,1,none⟩=some (.int .i64 2):=aAa HX12.out
 have y2:w12.cell? ⟨L,2,none⟩=some (.slice none 0 0):=aAa HX12.out
 have y3:w12.cell? ⟨L,3,none⟩=some (.int .i64 7):=aAa HX12.out
 have z0:w12.cell? ⟨Y,0,none⟩=some (.int .i64 2):=aAa HY12.out
 have z1:w12.cell? ⟨Y,1,none⟩=some (.int .i64 2):=aAa HY12.out
 have z2:w12.cell? ⟨Y,2,none⟩=some (.slice va 0 vc):=aAa HY12.out
 have z3:w12.cell? ⟨Y,3,none⟩=some (.int .i64 7):=aAa HY12.out
 have HSA:=hide (same17_bare 2 2 7 none va 0 vc w12)
 go_wp2_with fail
 refine HSA.out.mono ?_
 rintro e w13 ⟨rfl,hb⟩
 have HR13:=hide ((hb.block R (aAb HR12.out)).trans HR12.out)
 have HW13:Hid (Below L w w13):=HW12.out.trans (hb.mono (by have:=aAb HX12.out;omega))
 clear hb HSA y0 y1 y2 y3 z0 z1 z2 z3
 have r0:w13.cell? ⟨R,0,none⟩=some (.int .i64 4):=aAa HR13.out
 have r1:w13.cell? ⟨R,1,none⟩=some (.int .i64 1):=aAa HR13.out
 go_wp2
 go_ret
 exact ⟨rfl,HW13.out⟩
theorem aC2 {w:World} {er at_:Int} {ra:Option Addr} {rl rc:Nat} {rs:List RwV} (h:Rws w ra rl rc rs) (hv:∀ x∈rs,∀ y∈x.l,ValP y) :
  Calls Tryz.prog 15 #[.agg #[.int .i64 er,.int .i64 at_,.slice ra rl rc]] w fun e w'=>e=.returned (.bool (rpOk er at_ rs))∧Below w.heap.size w w':=by
 have hbx:=aAc w (.cells #[.int .i64 er,.int .i64 at_,.slice ra rl rc] 37)
 have HR1:Hid ((w.alloc (.cells #[.int .i64 er,.int .i64 at_,.slice ra rl rc] 37)).heap[w.heap.size]?=some (.cells #[.int .i64 er,.int .i64 at_,.slice ra rl rc] 37 (0,0))):=boxed w _
 have HW1:=hide hbx
 have HS1:=hide (h.later hbx)
 have HRL:Hid (rs.length=rl):=h.sv.hl
 have HV:=hide hv
 clear h hbx hv
 by_cases a1:er<0
 ·have q1:=hide a1
  have HN:Hid (rpOk er at_ rs=false):=by
   show _=_
   unfold rpOk rpHd
   rw [decide_eq_false (show ¬ (0≤er∧er≤65536) by omega)]
   simp
  go_enter Tryz.func15,Tryz.ntmps15
  go_upto_region 1 with fail
  generalize w.alloc (.cells #[.int .i64 er,.int .i64 at_,.slice ra rl rc] 37)=w1 at *
  generalize hL:w.heap.size=L at *
  have y0:w1.cell? ⟨L,0,none⟩=some (.int .i64 er):=aAa HR1.out
  have y1:w1.cell? ⟨L,1,none⟩=some (.int .i64 at_):=aAa HR1.out
  have y2:w1.cell? ⟨L,2,none⟩=some (.slice ra rl rc):=aAa HR1.out
  go_wp2
  go_ret
  exact ⟨by rw [HN.out];rfl,by first | exact HW1.out | (rw [hL];exact HW1.out)⟩
 ·by_cases a2:(65536:Int)<er
  ·have HN:Hid (rpOk er at_ rs=false):=by
    show _=_
    unfold rpOk rpHd
    rw [decide_eq_false (show ¬ (0≤er∧er≤65536) by omega)]
    simp
   go_enter Tryz.func15,Tryz.ntmps15
   go_upto_region 1 with fail
   generalize w.alloc (.cells #[.int .i64 er,.int .i64 at_,.slice ra rl rc] 37)=w1 at *
   generalize hL:w.heap.size=L at *
   have y0:w1.cell? ⟨L,0,none⟩=some (.int .i64 er):=aAa HR1.out
   have y1:w1.cell? ⟨L,1,none⟩=some (.int .i64 at_):=aAa HR1.out
   have y2:w1.cell? ⟨L,2,none⟩=some (.slice ra rl rc):=aAa HR1.out
   go_wp2
   go_ret
   exact ⟨by rw [HN.out];rfl,by first | exact HW1.out | (rw [hL];exact HW1.out)⟩
  ·by_cases a3:at_<0
   ·have HN:Hid (rpOk er at_ rs=false):=by
     show _=_
     unfold rpOk rpHd
     rw [decide_eq_false (show ¬ (0≤at_∧at_≤2) by omega)]
     simp
    go_enter Tryz.func15,Tryz.ntmps15
    go_upto_region 1 with fail
    generalize w.alloc (.cells #[.int .i64 er,.int .i64 at_,.slice ra rl rc] 37)=w1 at *
    generalize hL:w.heap.size=L at *
    have y0:w1.cell? ⟨L,0,none⟩=some (.int .i64 er):=aAa HR1.out
    have y1:w1.cell? ⟨L,1,none⟩=some (.int .i64 at_):=aAa HR1.out
    have y2:w1.cell? ⟨L,2,none⟩=some (.slice ra rl rc):=aAa HR1.out
    go_wp2
    go_ret
    exact ⟨by rw [HN.out];rfl,by first | exact HW1.out | (rw [hL];exact HW1.out)⟩
   ·by_cases a4:(2:Int)<at_
    ·have HN:Hid (rpOk er at_ rs=false):=by
      show _=_
      unfold rpOk rpHd
      rw [decide_eq_false (show ¬ (0≤at_∧at_≤2) by omega)]
      simp
     go_enter Tryz.func15,Tryz.ntmps15
     go_upto_region 1 with fail
     generalize w.alloc (.cells #[.int .i64 er,.int .i64 at_,.slice ra rl rc] 37)=w1 at *
     generalize hL:w.heap.size=L at *
     have y0:w1.cell? ⟨L,0,none⟩=some (.int .i64 er):=aAa HR1.out
     have y1:w1.cell? ⟨L,1,none⟩=some (.int .i64 at_):=aAa HR1.out
     have y2:w1.cell? ⟨L,2,none⟩=some (.slice ra rl rc):=aAa HR1.out
     go_wp2
     go_ret
     exact ⟨by rw [HN.out];rfl,by first | exact HW1.out | (rw [hL];exact HW1.out)⟩
    ·by_cases h3:12<rl
     ·have a5:(12:Int)<(rl:Int):=by omega
      have HN:Hid (rpOk er at_ rs=false):=by
       show _=_
       unfold rpOk rpHd
       rw [HRL.out,decide_eq_false (show ¬ rl≤12 by omega)]
       simp
      go_enter Tryz.func15,Tryz.ntmps15
      go_upto_region 1 with fail
      generalize w.alloc (.cells #[.int .i64 er,.int .i64 at_,.slice ra rl rc] 37)=w1 at *
      generalize hL:w.heap.size=L at *
      have y0:w1.cell? ⟨L,0,none⟩=some (.int .i64 er):=aAa HR1.out
      have y1:w1.cell? ⟨L,1,none⟩=some (.int .i64 at_):=aAa HR1.out
      have y2:w1.cell? ⟨L,2,none⟩=some (.slice ra rl rc):=aAa HR1.out
      go_wp2
      go_ret
      exact ⟨by rw [HN.out];rfl,by first | exact HW1.out | (rw [hL];exact HW1.out)⟩
     ·have a5:¬ (12:Int)<(rl:Int):=by omega
      have HH:Hid (rpHd er at_ rs.length=true):=by
       show _=_
       unfold rpHd
       rw [decide_eq_true (show 0≤er∧er≤65536 by omega),decide_eq_true (show 0≤at_∧at_≤2 by omega),HRL.out,decide_eq_true (show rl≤12 by omega)]
       rfl
      go_enter Tryz.func15,Tryz.ntmps15
      go_upto_region 1 with fail
      generalize w.alloc (.cells #[.int .i64 er,.int .i64 at_,.slice ra rl rc] 37)=w1 at *
      generalize hL:w.heap.size=L at *
      have y0:w1.cell? ⟨L,0,none⟩=some (.int .i64 er):=aAa HR1.out
      have y1:w1.cell? ⟨L,1,none⟩=some (.int .i64 at_):=aAa HR1.out
      have y2:w1.cell? ⟨L,2,none⟩=some (.slice ra rl rc):=aAa HR1.out
      go_wp2_with fail
      clear y0 y1 y2
      go_loopg [3] rl (fun gh s3 wx=>∃ j:Nat,j+gh=rl∧s3=.int .i64 (j:Int)∧(∀ x∈rs.take j,rowE x.l=0)∧Below w1.heap.size w1 wx)
      case atStart=>exact ⟨0,by omega,rfl,by simp,Below.refl _ _⟩
      case round =>
       obtain ⟨j,hj,rfl,hall,hb⟩:=hrel
       have HAL:=hide hall
       have HBJ:=hide hb
       have HSJ:=hide (HS1.out.later hb)
       have HRJ:=hide ((hb.block L (aAb HR1.out)).trans HR1.out)
       have HWJ:Hid (Below L w wr):=HW1.out.trans (hb.mono (by have:=aAb HR1.out;omega))
       clear hall hb
       have y2:wr.cell? ⟨L,2,none⟩=some (.slice ra rl rc):=aAa HRJ.out
       by_cases hjn:j<rl
       ·have xj:(j:Int)<(rl:Int):=by omega
        have xj4:(j:Int)<1000000:=by omega
        obtain ⟨x,hx⟩:∃ x,rs[j]?=some x:=⟨_,gE (by rw [HRL.out];exact hjn)⟩
        have HX:=hide hx
        obtain ⟨b,o,ea,hb,hcc⟩:=HSJ.out.sv.pl (by omega)
        have z0:wr.cell? ⟨b,o+j,none⟩=some (.slice x.a x.n x.c):=by have:=hcc j x hx 0 (by omega);simpa [fR] using this
        have HRR:=hide (rowright_any (HSJ.out.mem x (mG hx)) (fun y hy=>(HV.out x (mG hx) y hy).2))
        subst ea
        clear hcc hx hb
        go_wp2_with fail
        refine HRR.out.mono ?_
        rintro e w5 ⟨rfl,hb5⟩
        have HB5:Hid (Below w1.heap.size w1 w5):=HBJ.out.trans (hb5.mono HBJ.out.size)
        have HW5:Hid (Below L w w5):=HWJ.out.trans (hb5.mono (by have:=aAb HRJ.out;omega))
        clear z0 y2 hb5 HRR
        by_cases hz:rowE x.l=0
        ·have HZ:=hide hz
         rw [hz]
         clear hz
         have HTK:Hid (rs.take (j+1)=rs.take j++[x]):=by show _=_;rw [List.take_add_one,HX.out];rfl
         go_wp2
         go_roundg (gk-1)
         case measure=>omega
         case rel =>
          refine ⟨j+1,by omega,rfl,?_,HB5.out⟩
          intro y hy
          rw [HTK.out] at hy
          rcases List.mem_append.1 hy with hy | hy
          ·exact HAL.out y hy
          ·obtain rfl:y=x:=by simpa using hy
           exact HZ.out
        ·have dz:(rowE x.l != 0)=true:=by simp [hz]
         have HN:Hid (rpOk er at_ rs=false):=by
          show _=_
          unfold rpOk
          have:rs.all (fun x=>decide (rowE x.l=0))=false:=by
           rw [Bool.eq_false_iff]
           intro q
           have:=List.all_eq_true.1 q x (mG HX.out)
           simp at this
           exact hz this
          rw [this]
          simp
         clear hz
         go_wp2
         go_ret
         exact ⟨by rw [HN.out];rfl,by first | exact HW5.out | (rw [hL];exact HW5.out)⟩
       ·have xj:¬ (j:Int)<(rl:Int):=by omega
        have ex:j=rl:=by omega
        have HRX:Hid (rs.take j=rs):=by show _=_;rw [ex];exact List.take_of_length_le (by rw [HRL.out];omega)
        have HN:Hid (rpOk er at_ rs=true):=by
         show _=_
         unfold rpOk
         rw [HH.out,Bool.true_and,List.all_eq_true]
         intro y hy
         have:=HAL.out y (by rw [HRX.out];exact hy)
         simpa using this
        go_wp2
        go_ret
        exact ⟨by rw [HN.out];rfl,by first | exact HWJ.out | (rw [hL];exact HWJ.out)⟩
theorem refrows_same {w:World} {a a':Option Addr} {n c k:Nat} {rs rs':List RwV} (h:Rws w a n c rs) (h':Rws w a' n k rs') (he:rs.map RwV.l=rs'.map RwV.l) (hn:n≤1000) (hr:∀ r∈rs,r.l.length≤1000) :
  Calls Tryz.prog 36 #[.slice a n c,.slice a' n k] w fun e w'=>e=.returned (.bool true)∧Below w.heap.size w w':=by
 have hc9:(n:Int)≤9223372036854775807:=by omega
 have hnn:((n:Int) != (n:Int))=false:=by simp
 have H1:=hide h
 have H1':=hide h'
 have HE:=hide he
 have HR:=hide hr
 have HLN:Hid (rs.length=n∧rs'.length=n):=⟨h.sv.hl,h'.sv.hl⟩
 clear h h' hr he
 go_enter Tryz.func36,Tryz.ntmps36
 go_wp2_with fail
 go_loopg [5] n (fun gh s5 wx=>∃ j:Nat,j+gh=n∧s5=.int .i64 (j:Int)∧Below w.heap.size w wx)
 case atStart=>exact ⟨0,by omega,rfl,Below.refl _ _⟩
 case round =>
  obtain ⟨j,hj,rfl,hbr⟩:=hrel
  have HBR:=hide hbr
  clear hbr
  by_cases hjn:j<n
  ·have xj:(j:Int)<(n:Int):=by omega
   have x0:(0:Int)≤(j:Int):=by omega
   obtain ⟨e1,he1⟩:∃ e,rs[j]?=some e:=⟨_,gE (by rw [HLN.out.1];exact hjn)⟩
   obtain ⟨e2,he2⟩:∃ e,rs'[j]?=some e:=⟨_,gE (by rw [HLN.out.2];exact hjn)⟩
   have hee:e1.l=e2.l:=by
    have h1:(rs.map RwV.l)[j]?=some e1.l:=by rw [List.getElem?_map,he1];rfl
    have h2:(rs'.map RwV.l)[j]?=some e2.l:=by rw [List.getElem?_map,he2];rfl
    rw [HE.out,h2] at h1
    exact (Option.some.inj h1).symm
   obtain ⟨b,o,q1,hb,hcs⟩:=H1.out.sv.pl (by omega)
   obtain ⟨b',o',q1',hb',hcs'⟩:=H1'.out.sv.pl (by omega)
   subst q1 q1'
   have c1:wr.cell? ⟨b,o+j,none⟩=some (.slice e1.a e1.n e1.c):=(HBR.out.cell (p:=⟨b,o+j,none⟩) hb).trans (by have:=hcs j e1 he1 0 (by omega);rw [Nat.mul_one,Nat.add_zero] at this;exact this)
   have c2:wr.cell? ⟨b',o'+j,none⟩=some (.slice e2.a e2.n e2.c):=(HBR.out.cell (p:=⟨b',o'+j,none⟩) hb').trans (by have:=hcs' j e2 he2 0 (by omega);rw [Nat.mul_one,Nat.add_zero] at this;exact this)
   have HBD:Hid (Below w.heap.size w wr.drew):=HBR.out.drew
   have HLT:Hid (b<wr.drew.heap.size∧b'<wr.drew.heap.size):=⟨Nat.lt_of_lt_of_le hb HBD.out.size,Nat.lt_of_lt_of_le hb' HBD.out.size⟩
   have HX0:Hid ((fun wx:World=>wx.cell? ⟨b,o+j,none⟩=some (.slice e1.a e1.n e1.c)∧wx.cell? ⟨b',o'+j,none⟩=some (.slice e2.a e2.n e2.c)) wr.drew):=⟨c1,c2⟩
   have HS1:Hid (SV fV 3 wr.drew e1.a e1.n e1.c e1.l):=SV.later (H1.out.mem e1 (mG he1)) HBD.out
   have HS2:Hid (SV fV 3 wr.drew e2.a e2.n e2.c e2.l):=SV.later (H1'.out.mem e2 (mG he2)) HBD.out
   have HCT:Hid (Calls Tryz.prog 46 #[.slice e1.a e1.n e1.c,.slice e2.a e2.n e2.c] wr.drew fun e w'=>e=.returned (.bool true)∧Below wr.drew.heap.size wr.drew w'):=(refsame2_any HS1.out HS2.out (by rw [←HS1.out.hl];exact HR.out e1 (mG he1))).mono fun e w' hh=>⟨hh.1.trans (by rw [decide_eq_true hee]),hh.2⟩
   clear c1 c2 hcs hcs' he1 he2 hee hb hb' HS1 HS2
   go_upto_region 6 with fail
   refine wp_region_noPanic ?_
   refine wp_region_held_drew (S:=fun wx=>wx.cell? ⟨b,o+j,none⟩=some (.slice e1.a e1.n e1.c)∧wx.cell? ⟨b',o'+j,none⟩=some (.slice e2.a e2.n e2.c)) (by kernel_rfl) HX0.out (fun hHeld=>?_)
   generalize wr.drew=wd at *
   refine aAe 0 17 ?_
   refine aAe 1 18 ?_
   refine aAe 2 19 ?_
   refine aAe 3 20 ?_
   refine aAe 4 21 ?_
   refine aAe 5 22 ?_
   refine aAe 6 23 ?_
   refine aAe 7 24 ?_
   refine aAf 8 ?_;intro K hK
   go_simp
   refine HCT.out.mono ?_
   rintro e w9 ⟨rfl,hb9⟩
   have HB9:Hid (Below w.heap.size w w9):=HBD.out.trans (hb9.mono HBD.out.size)
   have HC9:Hid ((fun wx:World=>wx.cell? ⟨b,o+j,none⟩=some (.slice e1.a e1.n e1.c)∧wx.cell? ⟨b',o'+j,none⟩=some (.slice e2.a e2.n e2.c)) w9):=⟨(hb9.cell HLT.out.1).trans HX0.out.1,(hb9.cell HLT.out.2).trans HX0.out.2⟩
   clear hb9 hHeld
   refine hK.out _ _ HC9.out (fun hHeld=>?_)
   clear hK K
   try simp only [Act.put,siT,scZ,scS]
   refine aAe 9 26 ?_
   refine wpAnyH_done (by kernel_rfl) ?_ _
   refine NoPanic.normal ?_
   clear hHeld
   go_wp2
   go_roundg (gk-1)
   case measure=>omega
   case rel=>exact ⟨j+1,by omega,rfl,HB9.out⟩
  ·have ej:j=n:=by omega
   subst ej
   have xj:¬ (j:Int)<(j:Int):=by omega
   go_wp2
   go_ret
   exact ⟨rfl,HBR.out⟩
theorem aDt {w:World} {er at_:Int} {ra qa:Option Addr} {n rc qc:Nat} {rs rs':List RwV} (h:Rws w ra n rc rs) (h':Rws w qa n qc rs') (he:rs.map RwV.l=rs'.map RwV.l) (hn:n≤1000) (hr:∀ r∈rs,r.l.length≤1000) :
  Calls Tryz.prog 17 #[.agg #[.int .i64 er,.int .i64 at_,.slice ra n rc],.agg #[.int .i64 er,.int .i64 at_,.slice qa n qc]] w fun e w'=>e=.returned (.bool true)∧Below w.heap.size w w':=by
 obtain ⟨L,hL⟩:∃ L,w.heap.size=L:=⟨_,rfl⟩
 obtain ⟨w1,hw1⟩:∃ w1,w1=(w.alloc (.cells #[.int .i64 er,.int .i64 at_,.slice ra n rc] 37)).alloc (.cells #[.int .i64 er,.int .i64 at_,.slice qa n qc] 37):=⟨_,rfl⟩
 have HA1:Hid (w1.heap[L]?=some (.cells #[.int .i64 er,.int .i64 at_,.slice ra n rc] 37 (0,0))):=by show _=_;rw [hw1,←hL];exact heap_alloc2_old w _ _
 have HB1:Hid (w1.heap[L+1]?=some (.cells #[.int .i64 er,.int .i64 at_,.slice qa n qc] 37 (0,0))):=by show _=_;rw [hw1,←hL];exact heap_alloc2_new w _ _
 have hb1:Below w.heap.size w w1:=by rw [hw1];exact (aAc w _).trans ((aAc _ _).mono (aAc w _).size)
 have HW1:Hid (Below L w w1):=by show Below L w w1;rw [←hL];exact hb1
 have HSR:=hide (refrows_same (h.later hb1) (h'.later hb1) he hn hr)
 have HE1:=hide hw1
 have kk:(er == er)=true:=by simp
 have ss:(at_ == at_)=true:=by simp
 rw [hL]
 clear h h' he hr hb1 hw1
 go_enter Tryz.func17,Tryz.ntmps17
 go_upto_region 1 with fail
 rw [←HE1.out]
 try simp only [hL]
 have y0:w1.cell? ⟨L,0,none⟩=some (.int .i64 er):=aAa HA1.out
 have y1:w1.cell? ⟨L,1,none⟩=some (.int .i64 at_):=aAa HA1.out
 have y2:w1.cell? ⟨L,2,none⟩=some (.slice ra n rc):=aAa HA1.out
 have z0:w1.cell? ⟨L+1,0,none⟩=some (.int .i64 er):=aAa HB1.out
 have z1:w1.cell? ⟨L+1,1,none⟩=some (.int .i64 at_):=aAa HB1.out
 have z2:w1.cell? ⟨L+1,2,none⟩=some (.slice qa n qc):=aAa HB1.out
 clear HE1
 go_wp2_with fail
 refine HSR.out.mono ?_
 rintro e w2 ⟨rfl,hb⟩
 have HW2:Hid (Below L w w2):=HW1.out.trans (hb.mono (by have:=aAb HA1.out;omega))
 clear hb HSR
 go_wp2
 go_ret
 exact ⟨rfl,HW2.out⟩
theorem aCx (er at_:Int) (ra:Option Addr) (rl rc:Nat) (rs:List RwV) (W:World) (h:Rws W ra rl rc rs) (hv:∀ x∈rs,∀ y∈x.l,ValP y) :
  Calls Tryz.prog 4 #[.agg #[.int .i64 er,.int .i64 at_,.slice ra rl rc]] W fun e W'=>e=.returned (.bool true)∧Below W.heap.size W W':=by
 have hbx:=aAc W (.cells #[.int .i64 er,.int .i64 at_,.slice ra rl rc] 37)
 have HR1:Hid ((W.alloc (.cells #[.int .i64 er,.int .i64 at_,.slice ra rl rc] 37)).heap[W.heap.size]?=some (.cells #[.int .i64 er,.int .i64 at_,.slice ra rl rc] 37 (0,0))):=boxed W _
 have HW1:=hide hbx
 have HS1:=hide (h.later hbx)
 have HRL:Hid (rs.length=rl):=h.sv.hl
 have HV:=hide hv
 clear h hbx hv
 go_enter Tryz.func4,Tryz.ntmps4
 go_upto_region 1 with fail
 generalize W.alloc (.cells #[.int .i64 er,.int .i64 at_,.slice ra rl rc] 37)=w1 at *
 generalize hL:W.heap.size=L at *
 have y0:w1.cell? ⟨L,0,none⟩=some (.int .i64 er):=aAa HR1.out
 have y1:w1.cell? ⟨L,1,none⟩=some (.int .i64 at_):=aAa HR1.out
 have y2:w1.cell? ⟨L,2,none⟩=some (.slice ra rl rc):=aAa HR1.out
 cases hok:rpOk er at_ rs with
 | false =>
  have HEN:=hide (aBe (er:=er) (at_:=at_) HS1.out (fun x hx y hy=>(HV.out x hx y hy).q))
  rw [hok,if_neg (by decide)] at HEN
  go_wp2_with fail
  refine HEN.out.mono ?_
  rintro e w2 ⟨a2,n2,c2,rfl,hyes,hno,hb⟩
  have HY2:=hide hyes
  have HN2:=hide hno
  have HR2:=hide ((hb.block L (aAb HR1.out)).trans HR1.out)
  have HS2:=hide (HS1.out.later hb)
  have HW2:Hid (Below L W w2):=HW1.out.trans (hb.mono (by have:=aAb HR1.out;omega))
  clear hyes hno hb HEN y0 y1 y2
  have y0:w2.cell? ⟨L,0,none⟩=some (.int .i64 er):=aAa HR2.out
  have y1:w2.cell? ⟨L,1,none⟩=some (.int .i64 at_):=aAa HR2.out
  have y2:w2.cell? ⟨L,2,none⟩=some (.slice ra rl rc):=aAa HR2.out
  have HRR:=hide (aC2 (er:=er) (at_:=at_) HS2.out HV.out)
  rw [hok] at HRR
  go_wp2_with fail
  refine HRR.out.mono ?_
  rintro e w3 ⟨rfl,hb⟩
  have HBB3:Hid (Below w2.heap.size w2 w3):=hb
  have HR3:=hide ((hb.block L (aAb HR2.out)).trans HR2.out)
  have HS3:=hide (HS2.out.later hb)
  have HW3:Hid (Below L W w3):=HW2.out.trans (hb.mono (by have:=aAb HR2.out;omega))
  clear hb HRR y0 y1 y2
  have HT:=hide (told17 w3)
  go_wp2_with fail
  refine HT.out.mono ?_
  rintro e w4 ⟨rfl,hb⟩
  have HBB4:Hid (Below w2.heap.size w2 w4):=HBB3.out.trans (hb.mono HBB3.out.size)
  have HR4:=hide ((hb.block L (aAb HR3.out)).trans HR3.out)
  have HS4:=hide (HS3.out.later hb)
  have HW4:Hid (Below L W w4):=HW3.out.trans (hb.mono (by have:=aAb HR3.out;omega))
  clear hb HT
  have HZ:Hid (n2=0):=HN2.out trivial
  rw [HZ.out]
  clear hok
  go_wp2
  go_ret
  exact ⟨rfl,by first | exact HW4.out | (rw [hL];exact HW4.out)⟩
 | true =>
  have HEN:=hide (aBe (er:=er) (at_:=at_) HS1.out (fun x hx y hy=>(HV.out x hx y hy).q))
  rw [hok,if_pos rfl] at HEN
  go_wp2_with fail
  refine HEN.out.mono ?_
  rintro e w2 ⟨a2,n2,c2,rfl,hyes,hno,hb⟩
  have HY2:=hide hyes
  have HN2:=hide hno
  have HR2:=hide ((hb.block L (aAb HR1.out)).trans HR1.out)
  have HS2:=hide (HS1.out.later hb)
  have HW2:Hid (Below L W w2):=HW1.out.trans (hb.mono (by have:=aAb HR1.out;omega))
  clear hyes hno hb HEN y0 y1 y2
  have y0:w2.cell? ⟨L,0,none⟩=some (.int .i64 er):=aAa HR2.out
  have y1:w2.cell? ⟨L,1,none⟩=some (.int .i64 at_):=aAa HR2.out
  have y2:w2.cell? ⟨L,2,none⟩=some (.slice ra rl rc):=aAa HR2.out
  have HRR:=hide (aC2 (er:=er) (at_:=at_) HS2.out HV.out)
  rw [hok] at HRR
  go_wp2_with fail
  refine HRR.out.mono ?_
  rintro e w3 ⟨rfl,hb⟩
  have HBB3:Hid (Below w2.heap.size w2 w3):=hb
  have HR3:=hide ((hb.block L (aAb HR2.out)).trans HR2.out)
  have HS3:=hide (HS2.out.later hb)
  have HW3:Hid (Below L W w3):=HW2.out.trans (hb.mono (by have:=aAb HR2.out;omega))
  clear hb HRR y0 y1 y2
  have HT:=hide (told17 w3)
  go_wp2_with fail
  refine HT.out.mono ?_
  rintro e w4 ⟨rfl,hb⟩
  have HBB4:Hid (Below w2.heap.size w2 w4):=HBB3.out.trans (hb.mono HBB3.out.size)
  have HR4:=hide ((hb.block L (aAb HR3.out)).trans HR3.out)
  have HS4:=hide (HS3.out.later hb)
  have HW4:Hid (Below L W w4):=HW3.out.trans (hb.mono (by have:=aAb HR3.out;omega))
  clear hb HT
  have HPT:=hide (aD1 hok)
  have hbs:=HY2.out trivial
  have HLN:Hid (n2≤1600):=by
   show _≤_
   have h1:=encR_len hok
   have h2:=hbs.hlen
   omega
  have HBS:=hide (hbs.later HBB4.out (nR _))
  have HOKR:=hide hok
  have HDR:=hide (aBu HBS.out)
  clear hok hbs
  go_wp2_with fail
  refine HDR.out.mono ?_
  rintro e w5 ⟨hd,hb⟩
  obtain ⟨en,hen⟩:∃ k:Nat,er=(k:Int):=⟨er.toNat,by have:=HPT.out.1;omega⟩
  obtain ⟨an,han⟩:∃ k:Nat,at_=(k:Int):=⟨at_.toNat,by have:=HPT.out.2.1;omega⟩
  subst hen han
  have hxs:encR (en:Int) (an:Int) rs=encW en++(encW an++encW (rs.map RwV.l).length)++(rs.map RwV.l).flatMap (fun l=>pt (rowB l)):=by
   unfold encR
   rw [List.length_map,List.flatMap_map]
   rfl
  have hbk:=rp_back (er:=en) (an:=an) (ls:=rs.map RwV.l) (by have:=HPT.out.1;omega) (by have:=HPT.out.2.1;omega) (by rw [List.length_map];exact HPT.out.2.2.1) (by
   intro l hl
   obtain ⟨x,hx,rfl⟩:=List.mem_map.1 hl
   exact ⟨HPT.out.2.2.2 x hx,fun y hy=>(HV.out x hx y hy).1⟩) hxs
  obtain ⟨qa,qc,qs,hmap,hqok,hor⟩:=hd
  rw [hbk.1,hbk.2.1] at hor
  rw [hbk.2.2] at hmap
  have hsame:rpOk (en:Int) (an:Int) qs=rpOk (en:Int) (an:Int) rs∧encR (en:Int) (an:Int) qs=encR (en:Int) (an:Int) rs:=by
   have hl:qs.length=rs.length:=by
    have:=congrArg List.length hmap
    simpa using this
   constructor
   ·unfold rpOk
    rw [hl]
    have e1:∀ l:List RwV,l.all (fun x=>decide (rowE x.l=0))=(l.map RwV.l).all (fun x=>decide (rowE x=0)):=fun l=>by rw [List.all_map];rfl
    rw [e1,e1,hmap]
   ·unfold encR
    rw [hl]
    have e1:∀ l:List RwV,l.flatMap encRow=(l.map RwV.l).flatMap (fun x=>pt (rowB x)):=fun l=>by rw [List.flatMap_map];rfl
    rw [e1,e1,hmap]
  obtain ⟨rfl,hrw⟩:e=.returned (.tuple #[.agg #[.int .i64 (en:Int),.int .i64 (an:Int),.slice qa qs.length qc],.int .i64 0])∧Rws w5 qa qs.length qc qs:=by
   rcases hor with ⟨_,_,h1,h2⟩ | ⟨h1,_⟩
   ·exact ⟨h1,h2⟩
   ·exact absurd ⟨hsame.1.trans HOKR.out,hsame.2⟩ h1
  have hql:qs.length=rl:=by
   have:=congrArg List.length hmap
   have h2:=HRL.out
   simp at this
   omega
  rw [hql] at hrw
  rw [hql]
  have HQ5:=hide hrw
  have HMP:=hide hmap
  have HR5:=hide ((hb.block L (aAb HR4.out)).trans HR4.out)
  have HS5:=hide (HS4.out.later hb)
  have HW5:Hid (Below L W w5):=HW4.out.trans (hb.mono (by have:=aAb HR4.out;omega))
  clear hb hor hmap hqok hsame hrw hql hbk hxs HDR
  have hb6:=aAc w5 (.cells #[.int .i64 (en:Int),.int .i64 (an:Int),.slice qa rl qc] 37)
  have HT6:Hid ((w5.alloc (.cells #[.int .i64 (en:Int),.int .i64 (an:Int),.slice qa rl qc] 37)).heap[w5.heap.size]?=some (.cells #[.int .i64 (en:Int),.int .i64 (an:Int),.slice qa rl qc] 37 (0,0))):=boxed w5 _
  have HR6:=hide ((hb6.block L (aAb HR5.out)).trans HR5.out)
  have HS6:=hide (HS5.out.later hb6)
  have HQ6:=hide (HQ5.out.later hb6)
  have HW6:Hid (Below L W (w5.alloc (.cells #[.int .i64 (en:Int),.int .i64 (an:Int),.slice qa rl qc] 37))):=HW5.out.trans (hb6.mono (by have:=aAb HR5.out;omega))
  clear hb6
  go_upto_region 8 with fail
  generalize w5.alloc (.cells #[.int .i64 (en:Int),.int .i64 (an:Int),.slice qa rl qc] 37)=w6 at *
  generalize w5.heap.size=T at *
  have y0:w6.cell? ⟨L,0,none⟩=some (.int .i64 (en:Int)):=aAa HR6.out
  have y1:w6.cell? ⟨L,1,none⟩=some (.int .i64 (an:Int)):=aAa HR6.out
  have y2:w6.cell? ⟨L,2,none⟩=some (.slice ra rl rc):=aAa HR6.out
  have z0:w6.cell? ⟨T,0,none⟩=some (.int .i64 (en:Int)):=aAa HT6.out
  have z1:w6.cell? ⟨T,1,none⟩=some (.int .i64 (an:Int)):=aAa HT6.out
  have z2:w6.cell? ⟨T,2,none⟩=some (.slice qa rl qc):=aAa HT6.out
  have HSM:=hide (aDt (er:=(en:Int)) (at_:=(an:Int)) HQ6.out HS6.out HMP.out (by have:=HPT.out.2.2.1;have:=HRL.out;omega) (by
   intro r hr
   have h1:r.l∈qs.map RwV.l:=List.mem_map.2 ⟨r,hr,rfl⟩
   rw [HMP.out] at h1
   obtain ⟨x,hx,e⟩:=List.mem_map.1 h1
   have h2:=(aBq (HPT.out.2.2.2 x hx)).1
   rw [←e]
   omega))
  have xl:(n2:Int)≤1790:=by have:=HLN.out;omega
  go_wp2_with fail
  refine HSM.out.mono ?_
  rintro e w7 ⟨rfl,hb⟩
  have HW7:Hid (Below L W w7):=HW6.out.trans (hb.mono (by have:=aAb HR6.out;omega))
  clear hb HSM
  go_wp2
  go_ret
  exact ⟨rfl,by first | exact HW7.out | (rw [hL];exact HW7.out)⟩
end Go.Proofs.YtmmcebojbbdfmaaGreat
namespace Go.Proofs.YtmmcebojbbdfmaaGreat
open Go.ChangeShapes Go.WideShapes Go.ChangeAt Go.RowKit
set_option linter.unusedVariables false
theorem aBs (H:Type) (enc:TypeId×Value→H) (W:World) (base:Nat) (args:Array Value) (ds gs:List (DataW H)) (before:List MemPlace)
  (hval0:∀ (j:Nat) t v,Tryz.f4.params[j]?=some t→args[j]?=some v→Value.okWide Tryz.prog W .any base t v)
  (hW:DataW.Whole enc Tryz.prog Tryz.f4.params.toList Rows.entryRepliesSpec.vars false W args.toList ds gs before) (hk:Rows.uptoSmall H (ds++gs)=true) :
  Calls Tryz.prog 4 args W fun e W'=>∃ v,e=.returned v∧Rows.entryRepliesSpec.post enc Tryz.prog Tryz.f4 false true false false W args v W':=by
 have hval:∀ (j:Nat) t v,Tryz.f4.params[j]?=some t→args[j]?=some v→Value.okWide Tryz.prog W .any base t v:=hval0
 have hW':=hW
 obtain ⟨p,q,hA0,hV,rfl,hfz,hnd⟩:=hW
 have hA:DataW.TrodAll enc Tryz.prog W 0 (fun _=>true) true Tryz.f4.params.toList args.toList ds p:=hA0
 rw [Tryz.params4] at hA hval
 obtain ⟨v0,vs0,d0,ds0,p0,q0,hargs,rfl,rfl,h0,r0⟩:=trodAll_cons hA
 obtain ⟨rfl,rfl,rfl⟩:=trodAll_nil r0
 obtain rfl:args=#[v0]:=by cases args;simp_all
 obtain ⟨rfl,rfl⟩:=trodVars_none hV
 have k0:=h0
 have lt0:∀ x∈p0,x.block<W.heap.size:=by obtain ⟨m,hm⟩:=k0;exact DataW.trod_lt m _ _ _ hm
 obtain ⟨er0,at0,a0,l0,c0,xs0,rfl,w0,z0⟩:=open_rep (j:=0) hk rfl (hval 0 37 v0 rfl rfl) h0
 clear hA0 hval0
 refine (aCx er0 at0 a0 l0 c0 xs0 W w0 z0).mono fun e W' ⟨he,bel⟩=>?_
 subst he
 exact ⟨_,rfl,_,_,_,[],_,[],hW',trodAll_mk1 (shut_bool Tryz.underlying4 _),(trodAll_cons_mk (Below.trod laidOut (by kernel_rfl) (of_decide_eq_true (by kernel_rfl)) k0 bel lt0) trodAll_mk0),rfl,bel.frame _,fun h=>by cases h⟩
theorem aCf (os:Os) (started:os.Started) (H:Type) (enc:TypeId×Value→H) (F:Stop.Interp) :
  ReturnsInHanded {} Tryz.checked os 4 .any ((Rows.OpenSpec.upto Rows.entryRepliesSpec).pre6 enc Tryz.prog Tryz.f4 Rows.entryRepliesUptoRow.domain false) (((Rows.OpenSpec.upto Rows.entryRepliesSpec).at F).post enc Tryz.prog Tryz.f4 false true false false):=by
 refine returnsInHanded_of_cond (C:=Tryz.checked) (s:=Rows.OpenSpec.upto Rows.entryRepliesSpec) (k:=Rows.uptoSmall) rfl own started (by kernel_rfl) Tryz.func4
  (OpenSpec.witness (enc:=enc) (C:=Tryz.checked) (s:=Rows.OpenSpec.upto Rows.entryRepliesSpec) (k:=Rows.uptoSmall) rfl false ⟨#[],#[.agg #[.int .i64 0,.int .i64 0,.slice none 0 0]],[]⟩ 8 (by kernel_rfl) (by kernel_rfl) (by kernel_rfl)
   (x:=([.agg [.lit (.int .i64 0),.lit (.int .i64 0),.nil]],[],[])) (by kernel_rfl) rfl (by kernel_rfl)) ?_
 intro W base args ds gs before hval hW _ hk _
 exact aBs H enc W base args ds gs before hval hW hk
theorem entryRepliesUpto_holds:Rows.EntryRepliesUptoSaid :=
 OpenClaim.holds_of_cond 4 Tryz.f4 rfl rfl rfl rfl rfl rfl rfl ⟨rfl,rfl,rfl,rfl,rfl⟩ rfl rfl rfl rfl rfl (by kernel_rfl) Tryz.func4 (by kernel_rfl)
  (of_decide_eq_true (by kernel_rfl)) (by unfold Func.isWrapper;first | (rw [if_pos (by decide +kernel)];kernel_rfl) | (rw [if_neg (by decide +kernel)];exact ⟨rfl,rfl⟩))
  (fun os started H enc _ F=>aCf os started H enc F)
#print axioms entryRepliesUpto_holds
end Go.Proofs.YtmmcebojbbdfmaaGreat
