import Derived.Test.YthimmblpmijnlaaGreatZ44
set_option maxRecDepth 100000
set_option maxHeartbeats 16000000
set_option linter.unusedVariables false
namespace Go.Proofs.YthimmblpmijnlaaGreat
open Go.RowKit
theorem RgF.fp [Gd] {B x1 x2 x3:Nat} {w w':World} (f:Fp B w w'):RgF B x1 x2 x3 w w':=⟨f.bel,fun k cs t fz e nt _ _ _=>f.tree e nt,f.gd⟩
def KpN (w w':World):Prop:=∀ (k:Nat) (cs:Array Value) (t:TypeId) (fz:Nat×Nat),w.heap[k]?=some (Obj.cells cs t fz)→NT t→w'.heap[k]?=some (Obj.cells cs t fz)
def Fg0 (ls:Nat) (w:World):Prop:=∃ cs,w.heap[ls]?=some (.cells cs 104 (0,0))∧∀ i,i<17→cs[2+i]?=some (.int .i64 0)
theorem fig_build {base cf:Array Value} (hf:FGV cf) (b1:base.size=19) (hz:cf=z17) {i:Nat} (hi:i<17):(Array.foldl (fun (cs:Array Value) (x:Value×Nat)=>cs.setIfInBounds (2+x.2) x.1) base cf.zipIdx 0 17)[2+i]?=some (.int .i64 0):=by
 obtain ⟨i1,i2⟩:=aCt (base:=base) (vs:=cf) (o:=2) (n:=17) hf.sz (by rw [b1];decide)
 rw [i2,if_pos (by omega),show 2+i-2=i by omega,hz]
 unfold z17
 rw [List.getElem?_toArray,List.getElem?_replicate,if_pos hi]
theorem lopen_new0 [Gd] {B p n:Nat} {s:DS} {W w:World} (hs:s=DS.new n) (hD:DI B p s w) (hB:B≤w.heap.size) (hW:Below B W w) (h3:3≤n) (h4:n≤4096) :
  Calls Tryz.prog 31 #[.pointer (some ⟨p,0,none⟩)] w fun e w'=>∃ q g ls,e=.returned (.tuple #[.pointer (some ⟨ls,0,none⟩),.int .i64 0])∧LS B p q g ls n 0 0 [] W w'∧Fg0 ls w'∧(w.heap.size≤g∧w.heap.size≤ls)∧∀ x1 x2 x3,RgF B x1 x2 x3 w w':=by
 have lt:∀ {k:Nat} {o:Obj} {ww:World},ww.heap[k]?=some o→k<ww.heap.size:=fun e=>(lO e)
 obtain ⟨zf,hzf⟩:∃ x,x=z17:=⟨_,rfl⟩
 have hz:∀ ww,(zeroValue 100).run Tryz.prog ww=.ok (.agg zf) ww:=fun ww=>by rw [hzf];kernel_rfl
 have HFG:Hid (FGV zf):=by show FGV zf;rw [hzf];exact z17_ok
 have hzz:zf.size=17:=HFG.out.sz
 have HZF:=hide hzf
 clear hzf
 have hf:=new_facts n s hs
 have HL0:Hid (lastH (rdH (pad (s.show 0)) s.n) (rdH (pad (s.show 1)) s.n)=some (0,0)):=by
  show _=_
  rw [hf.2.2.2.2.2.1,hf.2.2.2.2.2.2,rdH_zero]
  exact lastH_zero
 have HF:=hide hf
 have HBW:=hide hB
 have HWW:=hide hW
 have HOP:=hide (Open_none (num:=0) hD hB HF.out.1 HF.out.2.1 (by rw [HF.out.2.2.1];decide) (by rw [HF.out.2.2.2.1];exact h3) (by rw [HF.out.2.2.2.1];exact h4) HL0.out (by decide))
 clear hs hf hD hB hW
 go_enter Tryz.func31,Tryz.ntmps31
 go_wp2_with fail
 refine HOP.out.mono ?_
 rintro e w2 ⟨q,g,st0,rfl,hgB,hM,r0,r1,r2,r3,hF⟩
 have HFP:=hide hF
 have HGG:=hide hgB
 have hO:OpT B p g n w2:=⟨q,s,_,st0,hM,Or.inl ⟨r0,r1,r2,rfl,r3⟩,r1,HF.out.2.2.2.1,HF.out.2.2.2.2.1,by show cntF (newSt s.n)=_;rw [newSt_cnt s.n (by rw [HF.out.2.2.2.1];omega),HF.out.2.2.2.1],rfl,HF.out.2.2.2.2.2.1,HF.out.2.2.2.2.2.2⟩
 obtain ⟨q',s',t',st',left',hTI,_⟩:=hO.ti (by omega) (HWW.out.trans hF.bel)
 have hkx:KX B p q' g n 0 0 [] W w2:=⟨st',s',t',st',left',hTI⟩
 have HK2:=hide hkx
 have HCO:=hide (counted_zero hkx)
 rw [←HZF.out] at HCO
 clear hgB hM r0 r1 r2 r3 hF hO hTI hkx HOP
 go_wp2_with fail
 refine HCO.out.mono ?_
 rintro e w3 ⟨rfl,hb3⟩
 have HK3:=hide (HK2.out.later hb3)
 have x1:(w3.alloc (.cells zf 100)).heap[w3.heap.size]?=some (.cells zf 100 (0,0)):=heap_alloc_new w3 _
 have hst:=aA4 (o:=0) x1 (show 0+zf.size≤zf.size by omega) HFG.out.one
 rw [aB0 (show zf.size=zf.size from rfl)] at hst
 have HY:=hide (setRow_heap _ _ _ zf _ _ x1)
 have HB4:Hid (Below w3.heap.size w3 ((w3.alloc (.cells zf 100)).setRow w3.heap.size zf)):=below_setRow (aAc w3 _) (nR _) zf
 have HR4:Hid (∀ x1 x2 x3,RgF B x1 x2 x3 w ((w3.alloc (.cells zf 100)).setRow w3.heap.size zf)):=fun x1 x2 x3=>((RgF.fp HFP.out).trans (RgF.of hb3 HK2.out.bw)).trans (RgF.of HB4.out HK3.out.bw)
 clear hb3 HCO x1
 go_upto_region 5 with fail
 generalize ((w3.alloc (.cells zf 100)).setRow w3.heap.size zf)=w4 at *
 have HK4:=hide (HK3.out.later HB4.out)
 generalize w3.heap.size=n3 at *
 clear hst
 have HLD:=hide (run_loadVar_row (P:=Tryz.prog) w4 n3 100 100 zf (0,0) _ HY.out Tryz.underlying100 rfl (by rw [hzz];exact aDl))
 go_wp2_with (refine wpList_load_row rfl (.tmp 6) 100 rfl rfl HLD.out ?_)
 go_ret2
 exact ⟨q',g,w4.heap.size,rfl,⟨HK4.out.later (aAc w4 _),HK4.out.bw,_,heap_alloc_new w4 _,lv_build HFG.out rfl rfl rfl⟩,⟨_,heap_alloc_new w4 _,fun i hi=>fig_build HFG.out rfl HZF.out hi⟩,⟨HGG.out,(HR4.out 0 0 0).1.size⟩,fun x1 x2 x3=>(HR4.out x1 x2 x3).trans (RgF.of (aAc w4 _) HK4.out.bw)⟩
theorem new_reg0 [Gd] {B p q g ls N:Nat} {W w:World} (h:LS B p q g ls N 0 0 [] W w) :
  Calls Tryz.prog 32 #[.pointer (some ⟨ls,0,none⟩)] w fun e w'=>∃ rg,e=.returned (.tuple #[.pointer (some ⟨rg,0,none⟩),.int .i64 0])∧RGM B p q g ls rg N 0 0 [] W w'∧KpN w w'∧w.heap.size≤rg∧RgF B rg rg rg w w':=by
 have HD:=hide h.dead
 have H:=hide h
 clear h
 go_enter Tryz.func32,Tryz.ntmps32
 go_wp2_with fail
 refine HD.out.mono ?_
 rintro e w1 ⟨rfl,hb1⟩
 have lt:∀ {k:Nat} {o:Obj} {ww:World},ww.heap[k]?=some o→k<ww.heap.size:=fun e=>(lO e)
 have H1:=hide (H.out.later hb1)
 have HNW:Hid ((w1.alloc (.cells #[.pointer (some ⟨ls,0,none⟩),.nilIface,.nilIface,.nilIface,.nilIface,.nilIface,.nilIface,.nilIface,.nilIface,.nilIface,.nilIface,.nilIface,.nilIface,.nilIface,.nilIface,.nilIface,.nilIface,.nilIface] 109)).heap[w1.heap.size]?=some (.cells #[.pointer (some ⟨ls,0,none⟩),.nilIface,.nilIface,.nilIface,.nilIface,.nilIface,.nilIface,.nilIface,.nilIface,.nilIface,.nilIface,.nilIface,.nilIface,.nilIface,.nilIface,.nilIface,.nilIface,.nilIface] 109 (0,0))):=heap_alloc_new w1 _
 have HG0:Hid (RGM B p q g ls w1.heap.size N 0 0 [] W (w1.alloc (.cells #[.pointer (some ⟨ls,0,none⟩),.nilIface,.nilIface,.nilIface,.nilIface,.nilIface,.nilIface,.nilIface,.nilIface,.nilIface,.nilIface,.nilIface,.nilIface,.nilIface,.nilIface,.nilIface,.nilIface,.nilIface] 109))):=⟨H1.out.later (aAc w1 _),H1.out.bw,_,HNW.out,rfl,rfl⟩
 have HKP:Hid (∀ (k:Nat) (cs:Array Value) (t:TypeId) (fz:Nat×Nat),w.heap[k]?=some (Obj.cells cs t fz)→(w1.alloc (.cells #[.pointer (some ⟨ls,0,none⟩),.nilIface,.nilIface,.nilIface,.nilIface,.nilIface,.nilIface,.nilIface,.nilIface,.nilIface,.nilIface,.nilIface,.nilIface,.nilIface,.nilIface,.nilIface,.nilIface,.nilIface] 109)).heap[k]?=some (Obj.cells cs t fz)∧k≠w1.heap.size):=fun k cs t fz e=>by
  have e1:=(hb1.block k (lt e)).trans e
  exact ⟨((aAc w1 _).block k (lt e1)).trans e1,Nat.ne_of_lt (lt e1)⟩
 have HB02:=hide (hb1.trans ((aAc w1 (.cells #[.pointer (some ⟨ls,0,none⟩),.nilIface,.nilIface,.nilIface,.nilIface,.nilIface,.nilIface,.nilIface,.nilIface,.nilIface,.nilIface,.nilIface,.nilIface,.nilIface,.nilIface,.nilIface,.nilIface,.nilIface] 109)).mono hb1.size))
 have HSZ:=hide hb1.size
 have HBW0:=hide H.out.bw
 clear hb1 HD HNW
 go_upto_region 6 with fail
 generalize w1.alloc (.cells #[.pointer (some ⟨ls,0,none⟩),.nilIface,.nilIface,.nilIface,.nilIface,.nilIface,.nilIface,.nilIface,.nilIface,.nilIface,.nilIface,.nilIface,.nilIface,.nilIface,.nilIface,.nilIface,.nilIface,.nilIface] 109)=w2 at *
 generalize w1.heap.size=rg at *
 go_wp2_with fail
 go_loopw [15] (fun i wx=>∃ j:Nat,j≤17∧i=.int .i64 j∧RGM B p q g ls rg N 0 0 [] W wx∧RgF B rg rg rg w2 wx) (fun i _=>17-(intOf i).toNat)
 case atStart=>exact ⟨0,by omega,rfl,HG0.out,RgF.of (Below.refl _ _) HG0.out.bw⟩
 case round =>
  obtain ⟨j,hj,rfl,hG,hFF⟩:=hrel
  have HG:=hide hG
  have HFF:=hide hFF
  clear hG hFF HG0
  by_cases hjn:j<17
  ·have i1:(j:Int)<17:=by omega
   have HLK:=hide (HG.out.look RL.nil (v:=j) (by omega))
   go_wp2_with fail
   refine HLK.out.mono ?_
   rintro e w3 ⟨rv,rfl,hr3,h3,hf3⟩
   have H3:=hide h3
   have HF3:=hide (HFF.out.trans (hf3 rg rg))
   obtain ⟨ty,pv,hform,_⟩:=hr3.pr
   subst hform
   clear hr3 h3 hf3 HLK
   go_wp2_with fail
   go_roundw
   case rel=>exact ⟨j+1,by omega,by go_num,H3.out,HF3.out⟩
   case measure=>simp [intOf];omega
  ·have i1:¬ (j:Int)<17:=by omega
   go_wp2
   go_ret2
   exact ⟨rg,rfl,HG.out,fun k cs t fz e hn=>HFF.out.2 k cs t fz (HKP.out k cs t fz e).1 hn (HKP.out k cs t fz e).2 (HKP.out k cs t fz e).2 (HKP.out k cs t fz e).2,HSZ.out,(RgF.of HB02.out HBW0.out).trans HFF.out⟩
theorem aGr {K:Nat} (w:World) :
  Calls Tryz.prog 129 #[.slice none 0 0,.func (Fn.func K) #[] #[]] w fun e w'=>e=.returned (.int .i64 (-1))∧Below w.heap.size w w':=by
 go_enter Tryz.func129,Tryz.ntmps129
 go_wp2_with fail
 go_loopw [8] (fun i wx=>i=.int .i64 0∧Below w.heap.size w wx) (fun _ _=>0)
 case atStart=>exact ⟨rfl,Below.refl _ _⟩
 case round =>
  obtain ⟨rfl,hb⟩:=hrel
  have HB:=hide hb
  clear hb
  go_wp2
  go_ret
  exact ⟨rfl,HB.out⟩
theorem aCf {K:Nat} (w:World) :
  Calls Tryz.prog 108 #[.slice none 0 0,.func (Fn.func K) #[] #[]] w fun e w'=>e=.returned (.bool false)∧Below w.heap.size w w':=by
 have HI:=hide (aGr (K:=K) w)
 go_enter Tryz.func108,Tryz.ntmps108
 go_wp2_with fail
 refine HI.out.mono ?_
 rintro e w1 ⟨rfl,hb1⟩
 have HB1:=hide hb1
 clear hb1
 go_wp2
 go_ret
 exact ⟨rfl,HB1.out⟩
theorem LS.refusal_nil [Gd] {B p q g ls N c u:Nat} {l:List It} {W w:World} (h:LS B p q g ls N c u l W w) :
  Calls Tryz.prog 73 #[.pointer (some ⟨ls,0,none⟩),.bool true,.slice none 0 0] w fun e w'=>e=.returned (.int .i64 0)∧Below w.heap.size w w':=by
 have HD:=hide h.dead
 clear h
 go_enter Tryz.func73,Tryz.ntmps73
 go_wp2_with fail
 refine HD.out.mono ?_
 rintro e w1 ⟨rfl,hb1⟩
 have HB1:=hide hb1
 have HC1:=hide (aCf (K:=109) w1)
 clear hb1 HD
 go_wp2_with fail
 refine HC1.out.mono ?_
 rintro e w2 ⟨rfl,hb2⟩
 have HB2:=hide (HB1.out.trans (hb2.mono HB1.out.size))
 have HC2:=hide (aCf (K:=110) w2)
 clear hb2 HC1
 go_wp2_with fail
 refine HC2.out.mono ?_
 rintro e w3 ⟨rfl,hb3⟩
 have HB3:=hide (HB2.out.trans (hb3.mono HB2.out.size))
 clear hb3 HC2
 go_wp2
 go_ret
 exact ⟨rfl,HB3.out⟩
theorem LS.len0 {ls:Nat} {w:World} (hz:Fg0 ls w) :
  Calls Tryz.prog 45 #[.pointer (some ⟨ls,0,none⟩),.int .i64 0] w fun e w'=>e=.returned (.int .i64 0)∧w'=w:=by
 obtain ⟨cs,h1,h2⟩:=hz
 have x3:w.cell? ⟨ls,3,none⟩=some (.int .i64 0):=(aAa h1).trans (h2 1 (by decide))
 have HIS:=hide (aE2 w)
 clear h1 h2
 go_enter Tryz.func45,Tryz.ntmps45
 go_wp2_with fail
 refine HIS.out.mono ?_
 rintro e w1 ⟨rfl,hw⟩
 have hw:=hw.symm
 subst hw
 go_wp2
 go_ret
 exact ⟨rfl,rfl⟩
theorem treeEnd_0 {B:Nat} (w:World):Calls Tryz.prog 77 #[.int .i64 0,.slice none 0 0] w fun e w'=>∃ b d,e=.returned (.slice b 1 d)∧BK B w' b 1 d [1]∧Below w.heap.size w w':=by
 have HT:Hid (Calls Tryz.prog 76 #[.int .i64 1,.slice none 0 0] w fun e w'=>∃ b d,e=.returned (.slice b (0+1) d)∧BK B w' b (0+1) d (1::[])∧Below w.heap.size w w'):=aB8 (sp:=1) (by decide) (BK.nil B w).1 (by omega)
 go_enter Tryz.func77,Tryz.ntmps77
 go_wp2_with fail
 refine HT.out.mono ?_
 rintro e w1 ⟨b,d,rfl,hk,hb⟩
 have HK:=hide hk
 have HB:=hide hb
 clear hk hb HT
 go_wp2
 go_ret
 exact ⟨b,d,rfl,HK.out,HB.out⟩
theorem LS.pairs0 [Gd] {B p q g ls N c u ln lc hn hc:Nat} {la ha:Option Addr} {l:List It} {W w:World} (hl1:ln≤64) (hl2:hn≤64) (h:LS B p q g ls N c u l W w) :
  Calls Tryz.prog 75 #[.pointer (some ⟨ls,0,none⟩),.slice la ln lc,.slice ha hn hc,.int .i64 0] w fun e w'=>e=.returned (.tuple #[.slice none 0 0,.int .i64 0])∧Below w.heap.size w w':=by
 have x0:=h.cell0
 have HR:=hide (Range_most0 (la:=la) (lc:=lc) (ha:=ha) (hc:=hc) hl1 hl2 h.kx)
 clear h
 go_enter Tryz.func75,Tryz.ntmps75
 go_wp2_with fail
 refine HR.out.mono ?_
 rintro e w1 ⟨rfl,hb1⟩
 have HB1:=hide hb1
 clear hb1 HR x0
 go_wp2_with fail
 go_loopw [32] (fun i wx=>i=.int .i64 0∧wx=w1) (fun _ _=>0)
 case atStart=>exact ⟨rfl,rfl⟩
 case round =>
  obtain ⟨rfl,rfl⟩:=hrel
  go_wp2
  go_ret2
  exact ⟨rfl,HB1.out⟩
theorem LS.Range0 [Gd] {B p q g ls N c u:Nat} {l:List It} {W w:World} (h:LS B p q g ls N c u l W w) :
  Calls Tryz.prog 44 #[.pointer (some ⟨ls,0,none⟩),.int .i64 0,.slice none 0 0,.slice none 0 0,.int .i64 0] w fun e w'=>e=.returned (.tuple #[.slice none 0 0,.int .i64 0])∧Below w.heap.size w w':=by
 have HIS:=hide (aE2 w)
 have HRF:=hide h.refusal_nil
 have HL:=hide h
 clear h
 go_enter Tryz.func44,Tryz.ntmps44
 go_wp2_with fail
 refine HIS.out.mono ?_
 rintro e w1 ⟨rfl,hw⟩
 have hw:=hw.symm
 subst hw
 clear HIS
 go_wp2_with fail
 refine HRF.out.mono ?_
 rintro e w2 ⟨rfl,hb2⟩
 have HB2:=hide hb2
 have HL2:=hide (HL.out.later hb2)
 have HTK:Hid (Calls Tryz.prog 76 #[.int .i64 0,.slice none 0 0] w2 fun e w'=>∃ b d,e=.returned (.slice b (0+1) d)∧BK B w' b (0+1) d (0::[])∧Below w2.heap.size w2 w'):=aB8 (sp:=0) (by decide) (BK.nil B w2).1 (by omega)
 clear hb2 HRF
 go_wp2_with fail
 refine HTK.out.mono ?_
 rintro e w3 ⟨kb,kd,rfl,hk3,hb3⟩
 have HB3:=hide (HB2.out.trans (hb3.mono HB2.out.size))
 have HL3:=hide (HL2.out.later hb3)
 have HTE:=hide (treeEnd_0 (B:=B) w3)
 clear hk3 hb3 HTK
 go_wp2_with fail
 refine HTE.out.mono ?_
 rintro e w4 ⟨eb,ed,rfl,hk4,hb4⟩
 have HB4:=hide (HB3.out.trans (hb4.mono HB3.out.size))
 have HPS:=hide ((HL3.out.later hb4).pairs0 (la:=kb) (lc:=kd) (ha:=eb) (hc:=ed) (show 1≤64 by decide) (show 1≤64 by decide))
 clear hk4 hb4 HTE
 go_wp2_with fail
 refine HPS.out.mono ?_
 rintro e w5 ⟨rfl,hb5⟩
 have HB5:=hide (HB4.out.trans (hb5.mono HB4.out.size))
 clear hb5 HPS
 go_wp2
 go_ret2
 exact ⟨rfl,HB5.out⟩
def z51:Array Value:=((List.replicate 17 [Value.int .i64 0,Value.int .i64 0,Value.bool false]).flatten).toArray
theorem z51_sz:z51.size=51:=rfl
theorem z51_one:∀ v∈z51.toList,v.oneCell'=true:=by
 intro v hv
 have h:v∈(List.replicate 17 [Value.int .i64 0,Value.int .i64 0,Value.bool false]).flatten:=hv
 rw [List.mem_flatten] at h
 obtain ⟨l,hl,hv⟩:=h
 rw [List.mem_replicate] at hl
 rw [hl.2] at hv
 simp only [List.mem_cons,List.not_mem_nil,or_false] at hv
 rcases hv with rfl | rfl | rfl<;>rfl
theorem z51_at:∀ j,j≤16→z51[j*3]?=some (.int .i64 0)∧z51[j*3+1]?=some (.int .i64 0)∧z51[j*3+2]?=some (.bool false):=by
 intro j hj
 have h:j=0∨j=1∨j=2∨j=3∨j=4∨j=5∨j=6∨j=7∨j=8∨j=9∨j=10∨j=11∨j=12∨j=13∨j=14∨j=15∨j=16:=by omega
 rcases h with rfl | rfl | rfl | rfl | rfl | rfl | rfl | rfl | rfl | rfl | rfl | rfl | rfl | rfl | rfl | rfl | rfl<;>exact ⟨rfl,rfl,rfl⟩
theorem aGo:(Tryz.prog.info? 85).map (·.size)=some 51:=by kernel_rfl
theorem results_lgs {fn:Func} {p u:Tmp} (h:fn.results=#[.cell p 85,.tmp u]) (tmps:Array Value) (w:World) (g:Nat) (cs:Array Value)
  (hp:tmps.getD p undef=.pointer (some ⟨g,0,none⟩)) (hg:w.heap[g]?=some (.cells cs 85 (0,0))) (hz:cs.size=51) :
  (results fn tmps).run Tryz.prog w=.ok (.tuple #[.agg cs,tmps.getD u undef]) w:=by
 have hi:(Tryz.prog.info? 85).map (·.size)=some cs.size:=by rw [hz];exact aGo
 rw [results_cell_tmp h,hp]
 simp only [asAddr,Sem.run_pure,Result.andThen_ok,run_loadVar_row w g 85 85 cs (0,0) _ hg Tryz.underlying85 rfl hi]
theorem Fg0.later {ls:Nat} {w w':World} (h:Fg0 ls w) (hb:Below w.heap.size w w'):Fg0 ls w':=by
 obtain ⟨cs,h1,h2⟩:=h
 exact ⟨cs,(hb.block ls (lO h1)).trans h1,h2⟩
theorem nread_zero [Gd] {B p q g ls N c u:Nat} {l:List It} {W w:World} (h:LS B p q g ls N c u l W w) (hz0:Fg0 ls w) :
  Calls Tryz.prog 33 #[.pointer (some ⟨ls,0,none⟩)] w fun e w'=>e=.returned (.tuple #[.agg z51,.int .i64 0])∧Below w.heap.size w w':=by
 have lt:∀ {k:Nat} {o:Obj} {ww:World},ww.heap[k]?=some o→k<ww.heap.size:=fun e=>(lO e)
 have hz:∀ ww,(zeroValue 85).run Tryz.prog ww=.ok (.agg z51) ww:=fun ww=>by kernel_rfl
 have hzz:z51.size=51:=z51_sz
 have HB1:=hide (aAc w (.cells z51 85))
 have HN1:Hid ((w.alloc (.cells z51 85)).heap[w.heap.size]?=some (.cells z51 85 (0,0))):=heap_alloc_new w _
 have H1:=hide (h.later HB1.out)
 have HLE:=hide (LS.len0 (hz0.later HB1.out))
 have HRA:=hide H1.out.Range0
 clear h hz0
 go_enter Tryz.func33,Tryz.ntmps33
 go_wp2_with fail
 refine HLE.out.mono ?_
 rintro e w9 ⟨rfl,rfl⟩
 go_wp2_with fail
 refine HRA.out.mono ?_
 rintro e w2 ⟨rfl,hb2⟩
 have HN2:=hide ((hb2.block _ (lt HN1.out)).trans HN1.out)
 have HB2:=hide (HB1.out.trans (hb2.mono HB1.out.size))
 clear hb2 HLE HRA
 generalize hn0:w.heap.size=n0 at *
 go_wp2_with fail
 go_loopw [21] (fun i wx=>i=.int .i64 0∧wx=w2) (fun _ _=>0)
 case atStart=>exact ⟨rfl,rfl⟩
 case round =>
  obtain ⟨rfl,rfl⟩:=hrel
  have HLD:=hide (run_loadVar_row (P:=Tryz.prog) wr n0 85 85 z51 (0,0) _ HN2.out Tryz.underlying85 rfl (by rw [hzz];exact aGo))
  have hst:=aA4 (o:=0) HN2.out (show 0+z51.size≤51 by rw [hzz];decide) z51_one
  rw [aB0 (show z51.size=z51.size from rfl)] at hst
  have HY:=hide (setRow_heap _ _ _ z51 _ _ HN2.out)
  have HBF:Hid (Below n0 w (wr.setRow n0 z51)):=below_setRow HB2.out (nR n0) z51
  go_wp2_with (refine wpList_load_row rfl (.tmp 2) 85 rfl rfl HLD.out ?_)
  (try simp only [Exit.inBlock,Exit.then])
  exact bodyPost_ret (results_lgs rfl _ _ n0 z51 rfl HY.out hzz) rfl ⟨rfl,by rw [hn0];exact HBF.out⟩
theorem nd_build {ls rg:Nat} {base zf:Array Value} (hz:zf=z51) (b1:base.size=53) (b2:base[0]?=some (.pointer (some ⟨ls,0,none⟩))) (b3:base[1]?=some (.pointer (some ⟨rg,0,none⟩))):NDV (Array.foldl (fun (cs:Array Value) (x:Value×Nat)=>cs.setIfInBounds (2+x.2) x.1) base zf.zipIdx 0 51) ls rg (fun _=>(0,0,false)):=by
 obtain ⟨i1,i2⟩:=aCt (base:=base) (vs:=zf) (o:=2) (n:=51) (by rw [hz];rfl) (by rw [b1];decide)
 refine ⟨i1.trans b1,?_,?_,fun j hj=>?_⟩
 ·rw [i2,if_neg (by omega)];exact b2
 ·rw [i2,if_neg (by omega)];exact b3
 ·have h:=z51_at j hj
  rw [←hz] at h
  refine ⟨?_,?_,?_⟩
  ·rw [i2,if_pos (by omega),show 2+j*3-2=j*3 by omega];exact h.1
  ·rw [i2,if_pos (by omega),show 2+j*3+1-2=j*3+1 by omega];exact h.2.1
  ·rw [i2,if_pos (by omega),show 2+j*3+2-2=j*3+2 by omega];exact h.2.2
theorem nopen_new [Gd] {B p n:Nat} {s:DS} {W w:World} (hs:s=DS.new n) (hD:DI B p s w) (hB:B≤w.heap.size) (hW:Below B W w) (h3:3≤n) (h4:n≤4096) :
  Calls Tryz.prog 24 #[.pointer (some ⟨p,0,none⟩)] w fun e w'=>∃ q g ls rg nd,e=.returned (.tuple #[.pointer (some ⟨nd,0,none⟩),.int .i64 0])∧NDM B p q g ls rg nd n 0 0 [] (fun _=>(0,0,false)) W w'∧(w.heap.size≤g∧w.heap.size≤ls∧w.heap.size≤nd)∧∃ x,w.heap.size≤x∧RgF B x x x w w'∧w.heap.size≤rg∧B≤rg∧∃ cs,w'.heap[rg]?=some (.cells cs 109 (0,0))∧cs.size=18∧cs[0]?=some (.pointer (some ⟨ls,0,none⟩)):=by
 have lt:∀ {k:Nat} {o:Obj} {ww:World},ww.heap[k]?=some o→k<ww.heap.size:=fun e=>(lO e)
 obtain ⟨zf,hzf⟩:∃ x,x=z51:=⟨_,rfl⟩
 have hz:∀ ww,(zeroValue 85).run Tryz.prog ww=.ok (.agg zf) ww:=fun ww=>by rw [hzf];kernel_rfl
 have hzz:zf.size=51:=by rw [hzf];rfl
 have HZF:=hide hzf
 have HZO:Hid (∀ v∈zf.toList,v.oneCell'=true):=by show ∀ v∈zf.toList,_;rw [hzf];exact z51_one
 have HOP:=hide (lopen_new0 hs hD hB hW h3 h4)
 clear hs hD hB hW hzf
 go_enter Tryz.func24,Tryz.ntmps24
 go_wp2_with fail
 refine HOP.out.mono ?_
 rintro e w1 ⟨q,g,ls,rfl,h1,hf1,hgl,hr1⟩
 have HGL:=hide hgl
 have HR1:=hide hr1
 clear hgl hr1
 have HNR:=hide (new_reg0 h1)
 have HF1:=hide hf1
 clear h1 hf1 HOP
 go_wp2_with fail
 refine HNR.out.mono ?_
 rintro e w2 ⟨rg,rfl,h2,hk2,hrg,hr2⟩
 have HRG:Hid (w.heap.size≤rg):=nT (HR1.out 0 0 0).1.size hrg
 have HR2:=hide ((HR1.out rg rg rg).trans hr2)
 clear hrg hr2
 obtain ⟨cs1,q1,q2⟩:=HF1.out
 have hf2:Fg0 ls w2:=⟨cs1,hk2 _ _ _ _ q1 (by decide),q2⟩
 have H2:=hide h2.s
 have HV2:=hide h2.v
 have HVB:=hide h2.b
 have HRD:=hide (nread_zero h2.s hf2)
 rw [←HZF.out] at HRD
 clear h2 hk2 hf2 q1 q2 HNR HF1
 go_wp2_with fail
 refine HRD.out.mono ?_
 rintro e w3 ⟨rfl,hb3⟩
 have HK3:=hide (H2.out.later hb3)
 have HV3:Hid (∃ cs,w3.heap[rg]?=some (.cells cs 109 (0,0))∧cs.size=18∧cs[0]?=some (.pointer (some ⟨ls,0,none⟩))):=by
  obtain ⟨cs,v1,v2⟩:=HV2.out
  exact ⟨cs,(hb3.block rg (lt v1)).trans v1,v2⟩
 clear HV2
 have x1:(w3.alloc (.cells zf 85)).heap[w3.heap.size]?=some (.cells zf 85 (0,0)):=heap_alloc_new w3 _
 have hst:=aA4 (o:=0) x1 (show 0+zf.size≤zf.size by omega) HZO.out
 rw [aB0 (show zf.size=zf.size from rfl)] at hst
 have HY:=hide (setRow_heap _ _ _ zf _ _ x1)
 have HB4:Hid (Below w3.heap.size w3 ((w3.alloc (.cells zf 85)).setRow w3.heap.size zf)):=below_setRow (aAc w3 _) (nR _) zf
 have HR4:Hid (RgF B rg rg rg w ((w3.alloc (.cells zf 85)).setRow w3.heap.size zf)):=(HR2.out.trans (RgF.of hb3 H2.out.bw)).trans (RgF.of HB4.out HK3.out.bw)
 clear hb3 HRD x1
 go_upto_region 8 with fail
 generalize ((w3.alloc (.cells zf 85)).setRow w3.heap.size zf)=w4 at *
 have HK4:=hide (HK3.out.later HB4.out)
 have HV4:Hid (∃ cs,w4.heap[rg]?=some (.cells cs 109 (0,0))∧cs.size=18∧cs[0]?=some (.pointer (some ⟨ls,0,none⟩))):=by
  obtain ⟨cs,v1,v2⟩:=HV3.out
  exact ⟨cs,(HB4.out.block rg (lt v1)).trans v1,v2⟩
 clear HV3
 generalize w3.heap.size=n3 at *
 clear hst
 have HLD:=hide (run_loadVar_row (P:=Tryz.prog) w4 n3 85 85 zf (0,0) _ HY.out Tryz.underlying85 rfl (by rw [hzz];exact aGo))
 go_wp2_with (refine wpList_load_row rfl (.tmp 7) 85 rfl rfl HLD.out ?_)
 go_ret2
 exact ⟨q,g,ls,rg,w4.heap.size,rfl,⟨HK4.out.later (aAc w4 _),HK4.out.bw,_,heap_alloc_new w4 _,nd_build HZF.out rfl rfl rfl⟩,⟨HGL.out.1,HGL.out.2,HR4.out.1.size⟩,rg,HRG.out,HR4.out.trans (RgF.of (aAc w4 _) HK4.out.bw),HRG.out,HVB.out,by
  obtain ⟨cs,v1,v2⟩:=HV4.out
  exact ⟨cs,((aAc w4 _).block rg (lt v1)).trans v1,v2⟩⟩
end Go.Proofs.YthimmblpmijnlaaGreat
