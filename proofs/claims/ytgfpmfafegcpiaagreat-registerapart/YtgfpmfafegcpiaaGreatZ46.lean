import Derived.Test.YtgfpmfafegcpiaaGreatZ45
set_option maxRecDepth 100000
set_option maxHeartbeats 16000000
set_option linter.unusedVariables false
namespace Go.Proofs.YtgfpmfafegcpiaaGreat
open Go.RowKit
theorem pairs_zero [Gd] {B p q g N c u r:Nat} {l:List It} {W w:World} (h:KX B p q g N c u l W w) (hr:w.heap[r]?=some (.cells #[.slice none 0 0,.slice none 0 0,.int .i64 0,.slice none 0 0] 154 (0,0))) :
  Calls Tryz.prog 68 #[.pointer (some ⟨g,0,none⟩),.pointer (some ⟨g,2,none⟩),.pointer (some ⟨r,0,none⟩)] w fun e w'=>e=.returned (.tuple #[.slice none 0 0,.int .i64 0])∧Below w.heap.size w w':=by
 have lt:∀ {k:Nat} {o:Obj} {ww:World},ww.heap[k]?=some o→k<ww.heap.size:=fun e=>(lO e)
 have q0:=aAf [Obj.cells #[.pointer (some ⟨g,0,none⟩)] 73,Obj.cells #[.pointer (some ⟨g,2,none⟩)] 151,Obj.cells #[.pointer (some ⟨r,0,none⟩)] 152] w 0 _ rfl
 have q2:=aAf [Obj.cells #[.pointer (some ⟨g,0,none⟩)] 73,Obj.cells #[.pointer (some ⟨g,2,none⟩)] 151,Obj.cells #[.pointer (some ⟨r,0,none⟩)] 152] w 2 _ rfl
 have qb:=(aAm [Obj.cells #[.pointer (some ⟨g,0,none⟩)] 73,Obj.cells #[.pointer (some ⟨g,2,none⟩)] 151,Obj.cells #[.pointer (some ⟨r,0,none⟩)] 152] w).1
 have HQ0:Hid ((((w.alloc (.cells #[.pointer (some ⟨g,0,none⟩)] 73)).alloc (.cells #[.pointer (some ⟨g,2,none⟩)] 151)).alloc (.cells #[.pointer (some ⟨r,0,none⟩)] 152)).heap[w.heap.size]?=some (.cells #[.pointer (some ⟨g,0,none⟩)] 73 (0,0))):=q0
 have HQ2:Hid ((((w.alloc (.cells #[.pointer (some ⟨g,0,none⟩)] 73)).alloc (.cells #[.pointer (some ⟨g,2,none⟩)] 151)).alloc (.cells #[.pointer (some ⟨r,0,none⟩)] 152)).heap[w.heap.size+1+1]?=some (.cells #[.pointer (some ⟨r,0,none⟩)] 152 (0,0))):=q2
 have HB1:Hid (Below w.heap.size w (((w.alloc (.cells #[.pointer (some ⟨g,0,none⟩)] 73)).alloc (.cells #[.pointer (some ⟨g,2,none⟩)] 151)).alloc (.cells #[.pointer (some ⟨r,0,none⟩)] 152))):=qb
 have H1:=hide (h.later HB1.out)
 have HR1:=hide ((HB1.out.block r (lt hr)).trans hr)
 have HD:=hide H1.out.dead
 have y0:(((w.alloc (.cells #[.pointer (some ⟨g,0,none⟩)] 73)).alloc (.cells #[.pointer (some ⟨g,2,none⟩)] 151)).alloc (.cells #[.pointer (some ⟨r,0,none⟩)] 152)).cell? ⟨w.heap.size,0,none⟩=some (.pointer (some ⟨g,0,none⟩)):=aAa HQ0.out
 clear h hr q0 q2 qb
 go_enter Tryz.func68,Tryz.ntmps68
 go_wp2_with fail
 refine HD.out.mono ?_
 rintro e w2 ⟨rfl,hb2⟩
 have HN2:=hide ((hb2.block _ (lt HQ2.out)).trans HQ2.out)
 have HR2:=hide ((hb2.block r (lt HR1.out)).trans HR1.out)
 have HB2:Hid (Below w.heap.size w w2):=HB1.out.trans (hb2.mono HB1.out.size)
 clear hb2 HD y0
 generalize hn2:w.heap.size+1+1=n2 at *
 have x0:w2.cell? ⟨n2,0,none⟩=some (.pointer (some ⟨r,0,none⟩)):=aAa HN2.out
 have x1:w2.cell? ⟨r,0,none⟩=some (.slice none 0 0):=aAa HR2.out
 have x2:w2.cell? ⟨r,1,none⟩=some (.slice none 0 0):=aAa HR2.out
 have x3:w2.cell? ⟨r,2,none⟩=some (.int .i64 0):=aAa HR2.out
 have HX0:Hid ((fun wx=>wx.cell? ⟨n2,0,none⟩=some (.pointer (some ⟨r,0,none⟩))∧wx.cell? ⟨r,2,none⟩=some (.int .i64 0)) w2.drew):=⟨x0,x3⟩
 have d1:decide ((0:Int)=0)=true:=rfl
 go_upto_region 7 with fail
 refine wp_region_noPanic ?_
 refine wp_region_held_drew (S:=fun wx=>wx.cell? ⟨n2,0,none⟩=some (.pointer (some ⟨r,0,none⟩))∧wx.cell? ⟨r,2,none⟩=some (.int .i64 0)) (by kernel_rfl) HX0.out (fun hHeld=>?_)
 refine wpAnyH_tk 0 34 ?_
 refine wpAnyH_tk 1 35 ?_
 refine wpAnyH_tk 2 36 ?_
 refine wpAnyH_tk 3 37 ?_
 refine wpAnyH_tk 4 38 ?_
 refine wpAnyH_tk 5 39 ?_
 refine aAe (i:=6) (d:=40) (v:=undef) (by kernel_rfl) (by kernel_rfl) (by kernel_rfl) (by kernel_rfl) (fun _ _ _ h=>h) ?hya6 (by assumption) ?resta6
 case hya6 =>
  intro oi ho
  simp only [List.getElem?_toArray,List.getElem?_cons_succ,List.getElem?_cons_zero,oI] at ho
  subst ho
  exact Or.inr ⟨by rfl,rfl⟩
 try simp only [Act.put,siT,scZ,scS]
 refine aAe (i:=7) (d:=41) (v:=undef) (by kernel_rfl) (by kernel_rfl) (by kernel_rfl) (by kernel_rfl) (fun _ _ _ h=>h) ?hya7 (by assumption) ?resta7
 case hya7 =>
  intro oi ho
  simp only [List.getElem?_toArray,List.getElem?_cons_succ,List.getElem?_cons_zero,oI] at ho
  subst ho
  exact Or.inr ⟨by rfl,rfl⟩
 try simp only [Act.put,siT,scZ,scS]
 refine aAe (i:=8) (d:=42) (v:=undef) (by kernel_rfl) (by kernel_rfl) (by kernel_rfl) (by kernel_rfl) (fun _ _ _ h=>h) ?hya8 (by assumption) ?resta8
 case hya8 =>
  intro oi ho
  simp only [List.getElem?_toArray,List.getElem?_cons_succ,List.getElem?_cons_zero,oI] at ho
  subst ho
  exact Or.inr ⟨by rfl,rfl⟩
 try simp only [Act.put,siT,scZ,scS]
 refine aAe (i:=9) (d:=43) (v:=undef) (by kernel_rfl) (by kernel_rfl) (by kernel_rfl) (by kernel_rfl) (fun _ _ _ h=>h) ?hya9 (by assumption) ?resta9
 case hya9 =>
  intro oi ho
  simp only [List.getElem?_toArray,List.getElem?_cons_succ,List.getElem?_cons_zero,oI] at ho
  subst ho
  exact Or.inr ⟨by rfl,rfl⟩
 try simp only [Act.put,siT,scZ,scS]
 refine aAe (i:=10) (d:=44) (v:=undef) (by kernel_rfl) (by kernel_rfl) (by kernel_rfl) (by kernel_rfl) (fun _ _ _ h=>h) ?hya10 (by assumption) ?resta10
 case hya10 =>
  intro oi ho
  simp only [List.getElem?_toArray,List.getElem?_cons_succ,List.getElem?_cons_zero,oI] at ho
  subst ho
  exact Or.inr ⟨by rfl,rfl⟩
 try simp only [Act.put,siT,scZ,scS]
 refine wpAnyH_tk 11 45 ?_
 refine wpAnyH_tk 12 46 ?_
 refine aAe (i:=13) (d:=47) (v:=undef) (by kernel_rfl) (by kernel_rfl) (by kernel_rfl) (by kernel_rfl) (fun _ _ _ h=>h) ?hya13 (by assumption) ?resta13
 case hya13 =>
  intro oi ho
  simp only [List.getElem?_toArray,List.getElem?_cons_succ,List.getElem?_cons_zero,oI] at ho
  subst ho
  exact Or.inr ⟨by rfl,rfl⟩
 try simp only [Act.put,siT,scZ,scS]
 refine aAe (i:=14) (d:=48) (v:=undef) (by kernel_rfl) (by kernel_rfl) (by kernel_rfl) (by kernel_rfl) (fun _ _ _ h=>h) ?hya14 (by assumption) ?resta14
 case hya14 =>
  intro oi ho
  simp only [List.getElem?_toArray,List.getElem?_cons_succ,List.getElem?_cons_zero,oI] at ho
  subst ho
  exact Or.inr ⟨by rfl,rfl⟩
 try simp only [Act.put,siT,scZ,scS]
 refine aAe (i:=15) (d:=49) (v:=undef) (by kernel_rfl) (by kernel_rfl) (by kernel_rfl) (by kernel_rfl) (fun _ _ _ h=>h) ?hya15 (by assumption) ?resta15
 case hya15 =>
  intro oi ho
  simp only [List.getElem?_toArray,List.getElem?_cons_succ,List.getElem?_cons_zero,oI] at ho
  subst ho
  exact Or.inr ⟨by rfl,rfl⟩
 try simp only [Act.put,siT,scZ,scS]
 refine aAe (i:=16) (d:=50) (v:=undef) (by kernel_rfl) (by kernel_rfl) (by kernel_rfl) (by kernel_rfl) (fun _ _ _ h=>h) ?hya16 (by assumption) ?resta16
 case hya16 =>
  intro oi ho
  simp only [List.getElem?_toArray,List.getElem?_cons_succ,List.getElem?_cons_zero,oI] at ho
  subst ho
  exact Or.inr ⟨by rfl,rfl⟩
 try simp only [Act.put,siT,scZ,scS]
 refine aAe (i:=17) (d:=51) (v:=undef) (by kernel_rfl) (by kernel_rfl) (by kernel_rfl) (by kernel_rfl) (fun _ _ _ h=>h) ?hya17 (by assumption) ?resta17
 case hya17 =>
  intro oi ho
  simp only [List.getElem?_toArray,List.getElem?_cons_succ,List.getElem?_cons_zero,oI] at ho
  subst ho
  exact Or.inr ⟨by rfl,rfl⟩
 try simp only [Act.put,siT,scZ,scS]
 refine aAe (i:=18) (d:=52) (v:=undef) (by kernel_rfl) (by kernel_rfl) (by kernel_rfl) (by kernel_rfl) (fun _ _ _ h=>h) ?hya18 (by assumption) ?resta18
 case hya18 =>
  intro oi ho
  simp only [List.getElem?_toArray,List.getElem?_cons_succ,List.getElem?_cons_zero,oI] at ho
  subst ho
  exact Or.inr ⟨by rfl,rfl⟩
 try simp only [Act.put,siT,scZ,scS]
 refine wpAnyH_tk 19 53 ?_
 refine wpAnyH_tk 20 33 ?_
 refine wpAnyH_done (by kernel_rfl) ?_ _
 refine NoPanic.normal ?_
 clear hHeld
 go_wp2
 go_ret2
 exact ⟨rfl,HB2.out.drew⟩
theorem Range_zero [Gd] {B p q g N c u:Nat} {l:List It} {W w:World} (h:KX B p q g N c u l W w) :
  Calls Tryz.prog 41 #[.pointer (some ⟨g,0,none⟩),.slice none 0 0,.slice none 0 0,.int .i64 0] w fun e w'=>e=.returned (.tuple #[.slice none 0 0,.int .i64 0])∧Below w.heap.size w w':=by
 have HB1:=hide (aAb w (.cells #[.slice none 0 0,.slice none 0 0,.int .i64 0,.slice none 0 0] 154))
 have HP:=hide (pairs_zero (h.later HB1.out) (heap_alloc_new w _))
 clear h
 go_enter Tryz.func41,Tryz.ntmps41
 go_wp2_with fail
 refine HP.out.mono ?_
 rintro e w2 ⟨rfl,hb2⟩
 have HB2:=hide (HB1.out.trans (hb2.mono HB1.out.size))
 clear hb2
 go_wp2
 go_ret2
 exact ⟨rfl,HB2.out⟩
theorem results_fig {fn:Func} {p u:Tmp} (h:fn.results=#[.cell p 78,.tmp u]) (tmps:Array Value) (w:World) (g:Nat) (cs:Array Value)
  (hp:tmps.getD p undef=.pointer (some ⟨g,0,none⟩)) (hg:w.heap[g]?=some (.cells cs 78 (0,0))) (hz:cs.size=17) :
  (results fn tmps).run Tryz.prog w=.ok (.tuple #[.agg cs,tmps.getD u undef]) w:=by
 have hi:(Tryz.prog.info? 78).map (·.size)=some cs.size:=by rw [hz];exact aDt
 rw [results_cell_tmp h,hp]
 simp only [asAddr,Sem.run_pure,Result.andThen_ok,run_loadVar_row w g 78 78 cs (0,0) _ hg Tryz.underlying78 rfl hi]
theorem z17_ok:FGV z17:=by
 refine ⟨rfl,rfl,fun i h1 h2=>⟨0,?_⟩⟩
 unfold z17
 rw [List.getElem?_toArray,List.getElem?_replicate,if_pos h2]
theorem counted_zero [Gd] {B p q g N c u:Nat} {W w:World} (h:KX B p q g N c u [] W w) :
  Calls Tryz.prog 26 #[.pointer (some ⟨g,0,none⟩)] w fun e w'=>e=.returned (.tuple #[.agg z17,.int .i64 0])∧Below w.heap.size w w':=by
 have lt:∀ {k:Nat} {o:Obj} {ww:World},ww.heap[k]?=some o→k<ww.heap.size:=fun e=>(lO e)
 have hz:∀ ww,(zeroValue 78).run Tryz.prog ww=.ok (.agg z17) ww:=fun ww=>by kernel_rfl
 have hzz:z17.size=17:=rfl
 have HB1:=hide (aAb w (.cells z17 78))
 have HN1:Hid ((w.alloc (.cells z17 78)).heap[w.heap.size]?=some (.cells z17 78 (0,0))):=heap_alloc_new w _
 have H1:=hide (h.later HB1.out)
 have HLE:Hid (Calls Tryz.prog 42 #[.pointer (some ⟨g,0,none⟩)] (w.alloc (.cells z17 78)) fun e w'=>e=.returned (.int .i64 0)∧w'=w.alloc (.cells z17 78)):=H1.out.Len
 have HRA:=hide (Range_zero H1.out)
 clear h
 go_enter Tryz.func26,Tryz.ntmps26
 go_wp2_with fail
 refine HLE.out.mono ?_
 rintro e w9 ⟨rfl,rfl⟩
 go_wp2_with fail
 refine HRA.out.mono ?_
 rintro e w2 ⟨rfl,hb2⟩
 have HN2:=hide ((hb2.block _ (lt HN1.out)).trans HN1.out)
 have HB2:=hide (HB1.out.trans (hb2.mono HB1.out.size))
 have HB3:=hide (aAb w2 (.cells z17 78))
 have HM3:Hid ((w2.alloc (.cells z17 78)).heap[w2.heap.size]?=some (.cells z17 78 (0,0))):=heap_alloc_new w2 _
 have HN3:=hide ((HB3.out.block _ (lt HN2.out)).trans HN2.out)
 have HB03:=hide (HB2.out.trans (HB3.out.mono HB2.out.size))
 clear hb2 HLE HRA
 go_upto_region 5 with fail
 generalize w2.alloc (.cells z17 78)=w3 at *
 generalize w2.heap.size=n1 at *
 generalize hn0:w.heap.size=n0 at *
 go_wp2_with fail
 go_loopw [24] (fun i wx=>i=.int .i64 0∧wx=w3) (fun _ _=>0)
 case atStart=>exact ⟨rfl,rfl⟩
 case round =>
  obtain ⟨rfl,rfl⟩:=hrel
  have HLD:=hide (run_loadVar_row (P:=Tryz.prog) wr n1 78 78 z17 (0,0) _ HM3.out Tryz.underlying78 rfl (by rw [hzz];exact aDt))
  have hst:=aA9 (o:=0) HN3.out (show 0+z17.size≤17 by rw [hzz];decide) z17_ok.one
  rw [aCl (show z17.size=z17.size from rfl)] at hst
  have HY:=hide (setRow_heap _ _ _ z17 _ _ HN3.out)
  have HBF:Hid (Below n0 w (wr.setRow n0 z17)):=below_setRow HB03.out (nR n0) z17
  go_wp2_with (refine wpList_load_row rfl (.tmp 6) 78 rfl rfl HLD.out ?_)
  (try simp only [Exit.inBlock,Exit.then])
  exact bodyPost_ret (results_fig rfl _ _ n0 z17 rfl HY.out hzz) rfl ⟨rfl,by rw [hn0];exact HBF.out⟩
theorem lv_build {g p:Nat} {base cf:Array Value} (hf:FGV cf) (b1:base.size=19) (b2:base[0]?=some (.pointer (some ⟨g,0,none⟩))) (b3:base[1]?=some (.pointer (some ⟨p,0,none⟩))):LV (Array.foldl (fun (cs:Array Value) (x:Value×Nat)=>cs.setIfInBounds (2+x.2) x.1) base cf.zipIdx 0 17) g p:=by
 obtain ⟨i1,i2⟩:=aE5 (base:=base) (vs:=cf) (o:=2) (n:=17) hf.sz (by rw [b1];decide)
 refine ⟨i1.trans b1,?_,?_,?_,fun i h1 h2=>?_⟩
 ·rw [i2,if_neg (by omega)];exact b2
 ·rw [i2,if_neg (by omega)];exact b3
 ·rw [i2,if_pos (by omega)]
  exact hf.c0
 ·rw [i2,if_pos (by omega)]
  exact hf.cp (i-2) (by omega) (by omega)
theorem lopen_new [Gd] {B p n:Nat} {s:DS} {W w:World} (hs:s=DS.new n) (hD:DI B p s w) (hB:B≤w.heap.size) (hW:Below B W w) (h3:3≤n) (h4:n≤4096) :
  Calls Tryz.prog 14 #[.pointer (some ⟨p,0,none⟩)] w fun e w'=>∃ q g ls,e=.returned (.tuple #[.pointer (some ⟨ls,0,none⟩),.int .i64 0])∧LS B p q g ls n 0 0 [] W w':=by
 have lt:∀ {k:Nat} {o:Obj} {ww:World},ww.heap[k]?=some o→k<ww.heap.size:=fun e=>(lO e)
 obtain ⟨zf,hzf⟩:∃ x,x=z17:=⟨_,rfl⟩
 have hz:∀ ww,(zeroValue 78).run Tryz.prog ww=.ok (.agg zf) ww:=fun ww=>by rw [hzf];kernel_rfl
 have HFG:Hid (FGV zf):=by show FGV zf;rw [hzf];exact z17_ok
 have hzz:zf.size=17:=HFG.out.sz
 have HZF:=hide hzf
 clear hzf
 have hf:=new_facts n s hs
 have HL0:Hid (lastH (rdH (pad (s.show 0)) s.n) (rdH (pad (s.show 1)) s.n)=some (0,0)):=by
  show _=_
  rw [hf.2.2.2.2.2.1,hf.2.2.2.2.2.2,rdH_zero]
  exact lastH_zero
 have HF:=hide hf
 have HBW:=hide hB
 have HWW:=hide hW
 have HOP:=hide (Open_none (num:=0) hD hB HF.out.1 HF.out.2.1 (by rw [HF.out.2.2.1];decide) (by rw [HF.out.2.2.2.1];exact h3) (by rw [HF.out.2.2.2.1];exact h4) HL0.out (by decide))
 clear hs hf hD hB hW
 go_enter Tryz.func14,Tryz.ntmps14
 go_wp2_with fail
 refine HOP.out.mono ?_
 rintro e w2 ⟨q,g,st0,rfl,hgB,hM,r0,r1,r2,r3,hF⟩
 have hO:OpT B p g n w2:=⟨q,s,_,st0,hM,Or.inl ⟨r0,r1,r2,rfl,r3⟩,r1,HF.out.2.2.2.1,HF.out.2.2.2.2.1,by show cntF (newSt s.n)=_;rw [newSt_cnt s.n (by rw [HF.out.2.2.2.1];omega),HF.out.2.2.2.1],rfl,HF.out.2.2.2.2.2.1,HF.out.2.2.2.2.2.2⟩
 obtain ⟨q',s',t',st',left',hTI,_⟩:=hO.ti (by omega) (HWW.out.trans hF.bel)
 have hkx:KX B p q' g n 0 0 [] W w2:=⟨st',s',t',st',left',hTI⟩
 have HK2:=hide hkx
 have HCO:=hide (counted_zero hkx)
 rw [←HZF.out] at HCO
 clear hgB hM r0 r1 r2 r3 hF hO hTI hkx HOP
 go_wp2_with fail
 refine HCO.out.mono ?_
 rintro e w3 ⟨rfl,hb3⟩
 have HK3:=hide (HK2.out.later hb3)
 have x1:(w3.alloc (.cells zf 78)).heap[w3.heap.size]?=some (.cells zf 78 (0,0)):=heap_alloc_new w3 _
 have hst:=aA9 (o:=0) x1 (show 0+zf.size≤zf.size by omega) HFG.out.one
 rw [aCl (show zf.size=zf.size from rfl)] at hst
 have HY:=hide (setRow_heap _ _ _ zf _ _ x1)
 have HB4:Hid (Below w3.heap.size w3 ((w3.alloc (.cells zf 78)).setRow w3.heap.size zf)):=below_setRow (aAb w3 _) (nR _) zf
 clear hb3 HCO x1
 go_upto_region 5 with fail
 generalize ((w3.alloc (.cells zf 78)).setRow w3.heap.size zf)=w4 at *
 have HK4:=hide (HK3.out.later HB4.out)
 generalize w3.heap.size=n3 at *
 clear hst
 have HLD:=hide (run_loadVar_row (P:=Tryz.prog) w4 n3 78 78 zf (0,0) _ HY.out Tryz.underlying78 rfl (by rw [hzz];exact aDt))
 go_wp2_with (refine wpList_load_row rfl (.tmp 6) 78 rfl rfl HLD.out ?_)
 go_ret2
 exact ⟨q',g,w4.heap.size,rfl,HK4.out.later (aAb w4 _),HK4.out.bw,_,heap_alloc_new w4 _,lv_build HFG.out rfl rfl rfl⟩
theorem new_reg [Gd] {B p q g ls N:Nat} {W w:World} (h:LS B p q g ls N 0 0 [] W w) :
  Calls Tryz.prog 15 #[.pointer (some ⟨ls,0,none⟩)] w fun e w'=>∃ rg,e=.returned (.tuple #[.pointer (some ⟨rg,0,none⟩),.int .i64 0])∧RGM B p q g ls rg N 0 0 [] W w':=by
 have HD:=hide h.dead
 have H:=hide h
 clear h
 go_enter Tryz.func15,Tryz.ntmps15
 go_wp2_with fail
 refine HD.out.mono ?_
 rintro e w1 ⟨rfl,hb1⟩
 have H1:=hide (H.out.later hb1)
 have HNW:Hid ((w1.alloc (.cells #[.pointer (some ⟨ls,0,none⟩),.nilIface,.nilIface,.nilIface,.nilIface,.nilIface,.nilIface,.nilIface,.nilIface,.nilIface,.nilIface,.nilIface,.nilIface,.nilIface,.nilIface,.nilIface,.nilIface,.nilIface] 85)).heap[w1.heap.size]?=some (.cells #[.pointer (some ⟨ls,0,none⟩),.nilIface,.nilIface,.nilIface,.nilIface,.nilIface,.nilIface,.nilIface,.nilIface,.nilIface,.nilIface,.nilIface,.nilIface,.nilIface,.nilIface,.nilIface,.nilIface,.nilIface] 85 (0,0))):=heap_alloc_new w1 _
 have HG0:Hid (RGM B p q g ls w1.heap.size N 0 0 [] W (w1.alloc (.cells #[.pointer (some ⟨ls,0,none⟩),.nilIface,.nilIface,.nilIface,.nilIface,.nilIface,.nilIface,.nilIface,.nilIface,.nilIface,.nilIface,.nilIface,.nilIface,.nilIface,.nilIface,.nilIface,.nilIface,.nilIface] 85))):=⟨H1.out.later (aAb w1 _),H1.out.bw,_,HNW.out,rfl,rfl⟩
 clear hb1 HD HNW
 go_upto_region 6 with fail
 generalize w1.alloc (.cells #[.pointer (some ⟨ls,0,none⟩),.nilIface,.nilIface,.nilIface,.nilIface,.nilIface,.nilIface,.nilIface,.nilIface,.nilIface,.nilIface,.nilIface,.nilIface,.nilIface,.nilIface,.nilIface,.nilIface,.nilIface] 85)=w2 at *
 generalize w1.heap.size=rg at *
 go_wp2_with fail
 go_loopw [15] (fun i wx=>∃ j:Nat,j≤17∧i=.int .i64 j∧RGM B p q g ls rg N 0 0 [] W wx) (fun i _=>17-(intOf i).toNat)
 case atStart=>exact ⟨0,by omega,rfl,HG0.out⟩
 case round =>
  obtain ⟨j,hj,rfl,hG⟩:=hrel
  have HG:=hide hG
  clear hG HG0
  by_cases hjn:j<17
  ·have i1:(j:Int)<17:=by omega
   have HLK:=hide (HG.out.look RL.nil (v:=j) (by omega))
   go_wp2_with fail
   refine HLK.out.mono ?_
   rintro e w3 ⟨rv,rfl,hr3,h3,hf3⟩
   have H3:=hide h3
   obtain ⟨ty,pv,hform,_⟩:=hr3.pr
   subst hform
   clear hr3 h3 hf3 HLK
   go_wp2_with fail
   go_roundw
   case rel=>exact ⟨j+1,by omega,by go_num,H3.out⟩
   case measure=>simp [intOf];omega
  ·have i1:¬ (j:Int)<17:=by omega
   go_wp2
   go_ret2
   exact ⟨rg,rfl,HG.out⟩
theorem law_open [Gd] {B p n:Nat} {s:DS} {W w:World} (hs:s=DS.new n) (hD:DI B p s w) (hB:B≤w.heap.size) (hW:Below B W w) (h3:3≤n) (h4:n≤4096) :
  Calls Tryz.prog 6 #[.pointer (some ⟨p,0,none⟩)] w fun e w'=>∃ q g ls rg,e=.returned (.pointer (some ⟨rg,0,none⟩))∧RGM B p q g ls rg n 0 0 [] W w':=by
 have HL:=hide (lopen_new hs hD hB hW h3 h4)
 clear hs hD hB hW
 go_enter Tryz.func6,Tryz.ntmps6
 go_wp2_with fail
 refine HL.out.mono ?_
 rintro e w1 ⟨q,g,ls,rfl,h1⟩
 have HN:=hide (new_reg h1)
 clear h1 HL
 go_wp2_with fail
 refine HN.out.mono ?_
 rintro e w2 ⟨rg,rfl,h2⟩
 have H2:=hide h2
 clear h2 HN
 go_wp2
 go_ret
 exact ⟨q,g,ls,rg,rfl,H2.out⟩
theorem same7 {w:World} {ae at_ ar:Int} {va vb:Option Addr} {vn vc vd:Nat} {xs:List Nat} (ha:BS w va vn vc xs) (hb:BS w vb vn vd xs) :
  Calls Tryz.prog 13 #[.agg #[.int .i64 ae,.int .i64 at_,.bool false,.int .i64 0,.int .i64 ar,.slice va vn vc],.agg #[.int .i64 ae,.int .i64 at_,.bool false,.int .i64 0,.int .i64 ar,.slice vb vn vd]] w fun e w'=>e=.returned (.bool true)∧Below w.heap.size w w':=by
 obtain ⟨x1,hx1⟩:∃ x,x=w.alloc (.cells #[.int .i64 ae,.int .i64 at_,.bool false,.int .i64 0,.int .i64 ar,.slice va vn vc] 36):=⟨_,rfl⟩
 obtain ⟨x2,hx2⟩:∃ x,x=x1.alloc (.cells #[.int .i64 ae,.int .i64 at_,.bool false,.int .i64 0,.int .i64 ar,.slice vb vn vd] 36):=⟨_,rfl⟩
 have b1:Below w.heap.size w x1:=by rw [hx1];exact aAb w _
 have b2:Below x1.heap.size x1 x2:=by rw [hx2];exact aAb x1 _
 have HB:Hid (Below w.heap.size w x2):=b1.trans (b2.mono b1.size)
 have t1:=run_text (ha.later HB.out (nR _))
 have t2:=run_text (hb.later HB.out (nR _))
 generalize str xs=sx at *
 rw [hx2,hx1] at t1 t2
 clear ha hb b1 b2
 go_enter Tryz.func13,Tryz.ntmps13
 go_wp2
 go_ret
 refine ⟨?_,by rw [←hx1,←hx2];exact HB.out⟩
 simp
theorem new_nil (w:World):Calls Tryz.prog 15 #[.pointer none] w fun e w'=>e=.returned (.tuple #[.pointer none,.int .i64 1])∧w'=w:=by
 go_enter Tryz.func15,Tryz.ntmps15
 go_wp2
 go_ret2
 exact ⟨rfl,rfl⟩
abbrev R0:Nat→Rec:=fun _=>(0,0,[])
theorem told7 (w:World):Calls Tryz.prog 12 #[] w fun e w'=>e=.returned (.bool true)∧Below w.heap.size w w':=by
 letI:Gd:=⟨none⟩
 have hg0:Gd.g=none:=rfl
 have lt:∀ {k:Nat} {o:Obj} {ww:World},ww.heap[k]?=some o→k<ww.heap.size:=fun e=>(lO e)
 obtain ⟨s0,hs0⟩:∃ s,s=DS.new 30:=⟨_,rfl⟩
 have HS0:=hide hs0
 have HNW:=hide (new_any w.heap.size 30 w (by omega) (by omega) (nR _) hg0)
 rw [←hs0] at HNW
 clear hs0
 generalize hB:w.heap.size=B at *
 go_enter Tryz.func12,Tryz.ntmps12
 go_wp2_with fail
 refine HNW.out.mono ?_
 rintro e w1 ⟨p,rfl,hD,hb1⟩
 have HOP:=hide (law_open (W:=w) (n:=30) HS0.out hD (by have:=hb1.size;omega) hb1 (by decide) (by decide))
 clear hD hb1 HNW
 go_wp2_with fail
 refine HOP.out.mono ?_
 rintro e w2 ⟨q,g,ls,rg,rfl,h2⟩
 have H2:=hide h2
 clear h2 HOP
 go_wp2_with fail
 refine (new_nil w2).mono ?_
 rintro e w9 ⟨rfl,hw⟩
 have hw:=hw.symm
 subst hw
 have HP1:Hid (Calls Tryz.prog 7 #[.pointer (some ⟨rg,0,none⟩),.int .i64 1,.int .i64 9] w2 fun e w'=>(∃ va vc,e=.returned (.agg #[.int .i64 0,.int .i64 9,.bool false,.int .i64 0,.int .i64 0,.slice va 0 vc]))∧RgT B p q g ls rg 30 0 0 [] w w2 w' (upR R0 1 (9,0,[])) 1):=by
  refine (aCu (v:=1) (b:=9) hg0 H2.out RL.nil (by decide) (by decide) (by decide) (by decide) (by decide) (by decide) (by decide) (by decide) (by decide)).mono ?_
  rintro e w' ⟨⟨av,rfl,va,vc,rfl,_⟩,h9⟩
  exact ⟨⟨va,vc,rfl⟩,h9⟩
 go_wp2_with fail
 refine HP1.out.mono ?_
 rintro e w3 ⟨⟨va1,vc1,rfl⟩,c3,u3,l3,h3,hR3,hl3,hc3,hu3,hf3⟩
 have H3:=hide h3
 have HR3:=hide hR3
 have HL3:Hid (l3.length≤1):=hl3
 have HC3:Hid (c3≤1):=hc3
 have HU3:Hid (u3≤1):=hu3
 clear h3 hR3 hl3 hc3 hu3 hf3 HP1
 obtain ⟨R1,hR1⟩:∃ R,R=upR R0 1 (9,0,[]):=⟨_,rfl⟩
 have HE1:Hid (R1 1=(9,0,[])):=by show _=_;rw [hR1];rfl
 rw [←hR1] at HR3
 clear hR1
 have HB4:=hide (aAb w3 (.cells #[.int .u8 7] 5))
 have HA1:Hid (Calls Tryz.prog 9 #[.pointer (some ⟨rg,0,none⟩),.int .i64 1,.int .i64 8,.slice (some ⟨w3.heap.size,0,none⟩) 1 1] (w3.alloc (.cells #[.int .u8 7] 5)) fun e w'=>e=.returned (.agg #[.int .i64 41,.int .i64 9,.bool false,.int .i64 0,.int .i64 0,.slice none 0 0])∧RgT B p q g ls rg 30 c3 u3 l3 w (w3.alloc (.cells #[.int .u8 7] 5)) w' R1 0):=by
  refine (aFi (v:=1) (b:=8) (H3.out.later HB4.out) HR3.out (by decide) (by decide) (by decide) (by decide) (by rw [HE1.out];decide)).mono ?_
  rintro e w' ⟨rfl,h9⟩
  exact ⟨by rw [HE1.out];rfl,h9⟩
 go_wp2_with fail
 refine HA1.out.mono ?_
 rintro e w4 ⟨rfl,c4,u4,l4,h4,hR4,hl4,hc4,hu4,hf4⟩
 have H4:=hide h4
 have HR4:=hide hR4
 have HL4:Hid (l4.length≤1):=by show _≤_;have:=HL3.out;omega
 have HC4:Hid (c4≤2):=by show _≤_;have:=HC3.out;omega
 have HU4:Hid (u4≤1):=by show _≤_;have:=HU3.out;have:=HL3.out;omega
 clear h4 hR4 hl4 hc4 hu4 hf4 HA1 HB4
 obtain ⟨oa,oc,ov,ok⟩:=BK.owned (B:=B) (xs:=[7]) (own_one w4 7) (by simp) (by intro n hn;simp at hn;omega)
 simp only [Value.slice.injEq] at ov
 obtain ⟨rfl,ho,rfl⟩:=ov
 clear ho
 have HB5:=hide (aAb w4 (.cells #[.int .u8 7] 5))
 have HA2:Hid (Calls Tryz.prog 9 #[.pointer (some ⟨rg,0,none⟩),.int .i64 1,.int .i64 9,.slice (some ⟨w4.heap.size,0,none⟩) 1 1] (w4.alloc (.cells #[.int .u8 7] 5)) fun e w'=>e=.returned (.agg #[.int .i64 0,.int .i64 9,.bool false,.int .i64 0,.int .i64 0,.slice none 0 0])∧RgT B p q g ls rg 30 c4 u4 l4 w (w4.alloc (.cells #[.int .u8 7] 5)) w' (upR R1 1 (9,9,[7])) 2) :=
  accept_ok (v:=1) (b:=9) (val:=[7]) hg0 (H4.out.later HB5.out) HR4.out (fun w' f=>(ok.ft f).1) (by decide) (by decide) (by decide) (by decide) (by rw [HE1.out];decide) (by decide) (by have:=HC4.out;omega) (by have:=HU4.out;omega) (by have:=HU4.out;omega) (by have:=HL4.out;omega)
 go_wp2_with fail
 refine HA2.out.mono ?_
 rintro e w5 ⟨rfl,c5,u5,l5,h5,hR5,hl5,hc5,hu5,hf5⟩
 have H5:=hide h5
 have HR5:=hide hR5
 have HL5:Hid (l5.length≤3):=by show _≤_;have:=HL4.out;omega
 have HC5:Hid (c5≤3):=by show _≤_;have:=HC4.out;omega
 have HU5:Hid (u5≤3):=by show _≤_;have:=HU4.out;have:=HL4.out;omega
 obtain ⟨R2,hR2⟩:∃ R,R=upR R1 1 (9,9,[7]):=⟨_,rfl⟩
 have HE2:Hid (R2 1=(9,9,[7])):=by show _=_;rw [hR2];rfl
 rw [←hR2] at HR5
 have q0:=aAf [Obj.cells #[.int .i64 0,.int .i64 9,.bool false,.int .i64 0,.int .i64 0,.slice va1 0 vc1] 36,Obj.cells #[.int .i64 41,.int .i64 9,.bool false,.int .i64 0,.int .i64 0,.slice none 0 0] 36,Obj.cells #[.int .i64 0,.int .i64 9,.bool false,.int .i64 0,.int .i64 0,.slice none 0 0] 36] w5 0 _ rfl
 have q1:=aAf [Obj.cells #[.int .i64 0,.int .i64 9,.bool false,.int .i64 0,.int .i64 0,.slice va1 0 vc1] 36,Obj.cells #[.int .i64 41,.int .i64 9,.bool false,.int .i64 0,.int .i64 0,.slice none 0 0] 36,Obj.cells #[.int .i64 0,.int .i64 9,.bool false,.int .i64 0,.int .i64 0,.slice none 0 0] 36] w5 1 _ rfl
 have q2:=aAf [Obj.cells #[.int .i64 0,.int .i64 9,.bool false,.int .i64 0,.int .i64 0,.slice va1 0 vc1] 36,Obj.cells #[.int .i64 41,.int .i64 9,.bool false,.int .i64 0,.int .i64 0,.slice none 0 0] 36,Obj.cells #[.int .i64 0,.int .i64 9,.bool false,.int .i64 0,.int .i64 0,.slice none 0 0] 36] w5 2 _ rfl
 have qb:=(aAm [Obj.cells #[.int .i64 0,.int .i64 9,.bool false,.int .i64 0,.int .i64 0,.slice va1 0 vc1] 36,Obj.cells #[.int .i64 41,.int .i64 9,.bool false,.int .i64 0,.int .i64 0,.slice none 0 0] 36,Obj.cells #[.int .i64 0,.int .i64 9,.bool false,.int .i64 0,.int .i64 0,.slice none 0 0] 36] w5).1
 have HQ:Hid ((((w5.alloc (.cells #[.int .i64 0,.int .i64 9,.bool false,.int .i64 0,.int .i64 0,.slice va1 0 vc1] 36)).alloc (.cells #[.int .i64 41,.int .i64 9,.bool false,.int .i64 0,.int .i64 0,.slice none 0 0] 36)).alloc (.cells #[.int .i64 0,.int .i64 9,.bool false,.int .i64 0,.int .i64 0,.slice none 0 0] 36)).heap[w5.heap.size]?=some (.cells #[.int .i64 0,.int .i64 9,.bool false,.int .i64 0,.int .i64 0,.slice va1 0 vc1] 36 (0,0))∧(((w5.alloc (.cells #[.int .i64 0,.int .i64 9,.bool false,.int .i64 0,.int .i64 0,.slice va1 0 vc1] 36)).alloc (.cells #[.int .i64 41,.int .i64 9,.bool false,.int .i64 0,.int .i64 0,.slice none 0 0] 36)).alloc (.cells #[.int .i64 0,.int .i64 9,.bool false,.int .i64 0,.int .i64 0,.slice none 0 0] 36)).heap[w5.heap.size+1]?=some (.cells #[.int .i64 41,.int .i64 9,.bool false,.int .i64 0,.int .i64 0,.slice none 0 0] 36 (0,0))∧(((w5.alloc (.cells #[.int .i64 0,.int .i64 9,.bool false,.int .i64 0,.int .i64 0,.slice va1 0 vc1] 36)).alloc (.cells #[.int .i64 41,.int .i64 9,.bool false,.int .i64 0,.int .i64 0,.slice none 0 0] 36)).alloc (.cells #[.int .i64 0,.int .i64 9,.bool false,.int .i64 0,.int .i64 0,.slice none 0 0] 36)).heap[w5.heap.size+1+1]?=some (.cells #[.int .i64 0,.int .i64 9,.bool false,.int .i64 0,.int .i64 0,.slice none 0 0] 36 (0,0))∧Below w5.heap.size w5 (((w5.alloc (.cells #[.int .i64 0,.int .i64 9,.bool false,.int .i64 0,.int .i64 0,.slice va1 0 vc1] 36)).alloc (.cells #[.int .i64 41,.int .i64 9,.bool false,.int .i64 0,.int .i64 0,.slice none 0 0] 36)).alloc (.cells #[.int .i64 0,.int .i64 9,.bool false,.int .i64 0,.int .i64 0,.slice none 0 0] 36))):=⟨q0,q1,q2,qb⟩
 clear HA2 HB5 ok h5 hR5 hl5 hc5 hu5 hf5 hR2 q0 q1 q2 qb
 go_upto_region 9 with fail
 generalize (((w5.alloc (.cells #[.int .i64 0,.int .i64 9,.bool false,.int .i64 0,.int .i64 0,.slice va1 0 vc1] 36)).alloc (.cells #[.int .i64 41,.int .i64 9,.bool false,.int .i64 0,.int .i64 0,.slice none 0 0] 36)).alloc (.cells #[.int .i64 0,.int .i64 9,.bool false,.int .i64 0,.int .i64 0,.slice none 0 0] 36))=w6 at *
 obtain ⟨k0,k1,k2,hb6⟩:=HQ.out
 have H6:=hide (H5.out.later hb6)
 generalize hn5:w5.heap.size=n5 at *
 generalize hn6:n5+1=n6 at *
 generalize hn7:n6+1=n7 at *
 have HK0:=hide k0
 have HK1:=hide k1
 have HK2:=hide k2
 clear k0 k1 k2 hb6 HQ
 have HP3:Hid (Calls Tryz.prog 7 #[.pointer (some ⟨rg,0,none⟩),.int .i64 1,.int .i64 9] w6 fun e w'=>(∃ xa xc,e=.returned (.agg #[.int .i64 41,.int .i64 9,.bool false,.int .i64 0,.int .i64 9,.slice xa 1 xc]))∧RgT B p q g ls rg 30 c5 u5 l5 w w6 w' R2 0):=by
  refine (aEb (v:=1) (b:=9) H6.out HR5.out (by decide) (by decide) (by decide) (by rw [HE2.out];decide)).mono ?_
  rintro e w' ⟨⟨av,rfl,va,vc,hav,_⟩,h9⟩
  rw [HE2.out] at hav
  exact ⟨⟨va,vc,by rw [hav];rfl⟩,h9⟩
 go_wp2_with fail
 refine HP3.out.mono ?_
 rintro e w7 ⟨⟨xa,xc,rfl⟩,c7,u7,l7,h7,hR7,hl7,hc7,hu7,hf7⟩
 have bk:∀ {ca:Array Value} {n:Nat},w6.heap[n]?=some (.cells ca 36 (0,0))→w7.heap[n]?=some (.cells ca 36 (0,0)):=fun e=>aBh H6.out hf7 e (by decide) (by decide) (by decide) (by decide)
 have HM0:=hide (bk HK0.out)
 have HM1:=hide (bk HK1.out)
 have HM2:=hide (bk HK2.out)
 have H7:=hide h7
 have HP4:Hid (Calls Tryz.prog 7 #[.pointer (some ⟨rg,0,none⟩),.int .i64 1,.int .i64 17] w7 fun e w'=>(∃ ya yc,e=.returned (.agg #[.int .i64 0,.int .i64 17,.bool false,.int .i64 0,.int .i64 9,.slice ya 1 yc])∧BK B w' ya 1 yc [7])∧RgT B p q g ls rg 30 c7 u7 l7 w w7 w' (upR R2 1 (17,(R2 1).2.1,(R2 1).2.2)) 1):=by
  have a1:=HL5.out
  have a2:=HC5.out
  have a3:=HU5.out
  refine (aCu (v:=1) (b:=17) hg0 h7 hR7 (by decide) (by decide) (by decide) (by rw [HE2.out];decide) (by decide) (by omega) (by omega) (by omega) (by omega)).mono ?_
  rintro e w' ⟨⟨av,rfl,va,vc,hav,hk⟩,h9⟩
  rw [HE2.out] at hav hk
  exact ⟨⟨va,vc,by rw [hav];rfl,hk⟩,h9⟩
 clear bk h7 hR7 hl7 hc7 hu7 hf7 HP3
 go_wp2_with fail
 refine HP4.out.mono ?_
 rintro e w8 ⟨⟨ya,yc,rfl,hy8⟩,c8,u8,l8,h8,hR8,hl8,hc8,hu8,hf8⟩
 have bk:∀ {ca:Array Value} {n:Nat},w7.heap[n]?=some (.cells ca 36 (0,0))→w8.heap[n]?=some (.cells ca 36 (0,0)):=fun e=>aBh H7.out hf8 e (by decide) (by decide) (by decide) (by decide)
 have e0:=bk HM0.out
 have e1:=bk HM1.out
 have e2:=bk HM2.out
 have qb:=(aAm [Obj.cells #[.int .i64 41,.int .i64 9,.bool false,.int .i64 0,.int .i64 9,.slice xa 1 xc] 36,Obj.cells #[.int .i64 0,.int .i64 17,.bool false,.int .i64 0,.int .i64 9,.slice ya 1 yc] 36] w8).1
 have f0:((w8.alloc (.cells #[.int .i64 41,.int .i64 9,.bool false,.int .i64 0,.int .i64 9,.slice xa 1 xc] 36)).alloc (.cells #[.int .i64 0,.int .i64 17,.bool false,.int .i64 0,.int .i64 9,.slice ya 1 yc] 36)).heap[n5]?=_:=(qb.block n5 (lt e0)).trans e0
 have f1:((w8.alloc (.cells #[.int .i64 41,.int .i64 9,.bool false,.int .i64 0,.int .i64 9,.slice xa 1 xc] 36)).alloc (.cells #[.int .i64 0,.int .i64 17,.bool false,.int .i64 0,.int .i64 9,.slice ya 1 yc] 36)).heap[n6]?=_:=(qb.block n6 (lt e1)).trans e1
 have f2:((w8.alloc (.cells #[.int .i64 41,.int .i64 9,.bool false,.int .i64 0,.int .i64 9,.slice xa 1 xc] 36)).alloc (.cells #[.int .i64 0,.int .i64 17,.bool false,.int .i64 0,.int .i64 9,.slice ya 1 yc] 36)).heap[n7]?=_:=(qb.block n7 (lt e2)).trans e2
 have f3:((w8.alloc (.cells #[.int .i64 41,.int .i64 9,.bool false,.int .i64 0,.int .i64 9,.slice xa 1 xc] 36)).alloc (.cells #[.int .i64 0,.int .i64 17,.bool false,.int .i64 0,.int .i64 9,.slice ya 1 yc] 36)).heap[w8.heap.size]?=some (.cells #[.int .i64 41,.int .i64 9,.bool false,.int .i64 0,.int .i64 9,.slice xa 1 xc] 36 (0,0)):=aAf [Obj.cells #[.int .i64 41,.int .i64 9,.bool false,.int .i64 0,.int .i64 9,.slice xa 1 xc] 36,Obj.cells #[.int .i64 0,.int .i64 17,.bool false,.int .i64 0,.int .i64 9,.slice ya 1 yc] 36] w8 0 _ rfl
 have f4:((w8.alloc (.cells #[.int .i64 41,.int .i64 9,.bool false,.int .i64 0,.int .i64 9,.slice xa 1 xc] 36)).alloc (.cells #[.int .i64 0,.int .i64 17,.bool false,.int .i64 0,.int .i64 9,.slice ya 1 yc] 36)).heap[w8.heap.size+1]?=some (.cells #[.int .i64 0,.int .i64 17,.bool false,.int .i64 0,.int .i64 9,.slice ya 1 yc] 36 (0,0)):=aAf [Obj.cells #[.int .i64 41,.int .i64 9,.bool false,.int .i64 0,.int .i64 9,.slice xa 1 xc] 36,Obj.cells #[.int .i64 0,.int .i64 17,.bool false,.int .i64 0,.int .i64 9,.slice ya 1 yc] 36] w8 1 _ rfl
 have HF:=hide (And.intro f0 (And.intro f1 (And.intro f2 (And.intro f3 f4))))
 have HB9:Hid (Below w8.heap.size w8 ((w8.alloc (.cells #[.int .i64 41,.int .i64 9,.bool false,.int .i64 0,.int .i64 9,.slice xa 1 xc] 36)).alloc (.cells #[.int .i64 0,.int .i64 17,.bool false,.int .i64 0,.int .i64 9,.slice ya 1 yc] 36))):=qb
 have HBE:Hid (Below B w w8):=h8.s.kx.be
 have HY9:=hide (hy8.later HB9.out h8.bw)
 have HBW8:Hid (B≤w8.heap.size):=h8.bw
 clear bk e0 e1 e2 f0 f1 f2 f3 f4 qb hy8 h8 hR8 hl8 hc8 hu8 hf8 HP4
 go_upto_region 10 with fail
 generalize ((w8.alloc (.cells #[.int .i64 41,.int .i64 9,.bool false,.int .i64 0,.int .i64 9,.slice xa 1 xc] 36)).alloc (.cells #[.int .i64 0,.int .i64 17,.bool false,.int .i64 0,.int .i64 9,.slice ya 1 yc] 36))=w9 at *
 obtain ⟨f0,f1,f2,f3,f4⟩:=HF.out
 generalize w8.heap.size=n8 at *
 generalize hn9:n8+1=n9 at *
 have z0:w9.cell? ⟨n5,0,none⟩=some (.int .i64 0):=aAa f0
 have z1:w9.cell? ⟨n6,0,none⟩=some (.int .i64 41):=aAa f1
 have z2:w9.cell? ⟨n6,1,none⟩=some (.int .i64 9):=aAa f1
 have z3:w9.cell? ⟨n7,0,none⟩=some (.int .i64 0):=aAa f2
 have z4:w9.cell? ⟨n8,0,none⟩=some (.int .i64 41):=aAa f3
 have z5:w9.cell? ⟨n9,0,none⟩=some (.int .i64 0):=aAa f4
 have z6:w9.cell? ⟨n9,4,none⟩=some (.int .i64 9):=aAa f4
 have z7:w9.cell? ⟨n9,5,none⟩=some (.slice ya 1 yc):=aAa f4
 have tx:=run_text HY9.out.1
 have tx:(convert 29 9 (.slice ya 1 yc)).run Tryz.prog w9=.ok (.string ⟨#[7]⟩) w9:=tx
 clear f0 f1 f2 f3 f4 HF
 go_wp2
 go_ret
 refine ⟨?_,HBE.out.trans (HB9.out.mono HBW8.out)⟩
 simp
 rw [str_toList]
 rfl
def RX [Gd] (B p q g ls rg j:Nat) (R:Nat→Rec) (W w:World):Prop:=∃ c u l,RGM B p q g ls rg 300 c u l W w∧RL l R∧l.length≤2*j∧c≤j∧u≤2*j
def RXT [Gd] (B p q g ls rg j:Nat) (R:Nat→Rec) (W:World) (ver b:Int) (w w':World):Prop:=∃ R',RX B p q g ls rg (j+1) R' W w'∧(∀ k:Nat,(k:Int)≠ver→R' k=R k)∧(∀ (k:Nat) (t:Nat),(R k).1≤t→b≤(t:Int)→(R' k).1≤t)∧FT B w w'∧∀ (n:Nat) (ca:Array Value),w.heap[n]?=some (.cells ca 36 (0,0))→w'.heap[n]?=some (.cells ca 36 (0,0))
section
variable [Gd] {B p q g ls rg j:Nat} {R:Nat→Rec} {W w w':World}
theorem RX.later (h:RX B p q g ls rg j R W w) (hb:Below w.heap.size w w'):RX B p q g ls rg j R W w':=by
 obtain ⟨c,u,l,h1,h2⟩:=h
 exact ⟨c,u,l,h1.later hb,h2⟩
theorem RX.be (h:RX B p q g ls rg j R W w):Below B W w:=by
 obtain ⟨c,u,l,h1,h2⟩:=h
 exact h1.s.kx.be
theorem RX.bw (h:RX B p q g ls rg j R W w):B≤w.heap.size:=by
 obtain ⟨c,u,l,h1,h2⟩:=h
 exact h1.bw
theorem rxt {c u:Nat} {l:List It} {R':Nat→Rec} {k:Nat} {ver b:Int} (h:RGM B p q g ls rg 300 c u l W w) (hl:l.length≤2*j) (hc:c≤j) (hu:u≤2*j) (hk:k≤2) (t:RgT B p q g ls rg 300 c u l W w w' R' k) (h1:∀ k:Nat,(k:Int)≠ver→R' k=R k) (h2:∀ (k:Nat) (t:Nat),(R k).1≤t→b≤(t:Int)→(R' k).1≤t):RXT B p q g ls rg j R W ver b w w':=by
 obtain ⟨c',u',l',a1,a2,a3,a4,a5,a6⟩:=t
 exact ⟨R',⟨c',u',l',a1,a2,by omega,by omega,by omega⟩,h1,h2,h.ft a6,fun n ca e=>aBh h a6 e (by decide) (by decide) (by decide) (by decide)⟩
theorem RX.prep (hg0:Gd.g=none) (h:RX B p q g ls rg j R W w) (hj:j≤40) {ver b:Int} (hb:b<9223372036854775808) :
  Calls Tryz.prog 7 #[.pointer (some ⟨rg,0,none⟩),.int .i64 ver,.int .i64 b] w fun e w'=>(∃ av,e=.returned av)∧RXT B p q g ls rg j R W ver b w w':=by
 obtain ⟨c,u,l,h1,h2,h3,h4,h5⟩:=h
 by_cases ha:ver<0∨16<ver∨b<1
 ·refine (prepare_arg h1 h2 ha).mono ?_
  rintro e w' ⟨hv,ht⟩
  exact ⟨hv,rxt h1 h3 h4 h5 (by decide) ht (fun _ _=>rfl) (fun _ _ h _=>h)⟩
 ·obtain ⟨v,rfl⟩:∃ v:Nat,ver=(v:Int):=⟨ver.toNat,by omega⟩
  obtain ⟨n,rfl⟩:∃ n:Nat,b=(n:Int):=⟨b.toNat,by omega⟩
  by_cases hl:n≤(R v).1
  ·refine (aEb h1 h2 (by omega) (by omega) (by omega) hl).mono ?_
   rintro e w' ⟨⟨av,hv,_⟩,ht⟩
   exact ⟨⟨av,hv⟩,rxt h1 h3 h4 h5 (by decide) ht (fun _ _=>rfl) (fun _ _ h _=>h)⟩
  ·refine (aCu hg0 h1 h2 (by omega) (by omega) (by omega) (by omega) (by decide) (by omega) (by omega) (by omega) (by omega)).mono ?_
   rintro e w' ⟨⟨av,hv,_⟩,ht⟩
   refine ⟨⟨av,hv⟩,rxt h1 h3 h4 h5 (by decide) ht (fun k hk=>by unfold upR;rw [if_neg (by omega)]) (fun k t hk hb=>?_)⟩
   unfold upR
   by_cases q9:k=v
   ·rw [if_pos q9];show n≤t;omega
   ·rw [if_neg q9];exact hk
theorem RX.acc (hg0:Gd.g=none) (h:RX B p q g ls rg j R W w) (hj:j≤40) {ver b:Int} (hb:b<9223372036854775808) {va:Option Addr} {vn vc:Nat} {val:List Nat} (hbk:∀ w',FT B w w'→BS w' va vn vc val) (hvn:vn≤1800) :
  Calls Tryz.prog 9 #[.pointer (some ⟨rg,0,none⟩),.int .i64 ver,.int .i64 b,.slice va vn vc] w fun e w'=>(∃ av,e=.returned av)∧RXT B p q g ls rg j R W ver b w w':=by
 obtain ⟨c,u,l,h1,h2,h3,h4,h5⟩:=h
 by_cases ha:ver<0∨16<ver∨b<1
 ·refine (accept_arg h1 h2 ha).mono ?_
  rintro e w' ⟨hv,ht⟩
  exact ⟨hv,rxt h1 h3 h4 h5 (by decide) ht (fun _ _=>rfl) (fun _ _ h _=>h)⟩
 ·obtain ⟨v,rfl⟩:∃ v:Nat,ver=(v:Int):=⟨ver.toNat,by omega⟩
  obtain ⟨n,rfl⟩:∃ n:Nat,b=(n:Int):=⟨b.toNat,by omega⟩
  by_cases hl:n<(R v).1
  ·refine (aFi h1 h2 hvn (by omega) (by omega) (by omega) hl).mono ?_
   rintro e w' ⟨hv,ht⟩
   exact ⟨⟨_,hv⟩,rxt h1 h3 h4 h5 (by decide) ht (fun _ _=>rfl) (fun _ _ h _=>h)⟩
  ·refine (accept_ok hg0 h1 h2 hbk hvn (by omega) (by omega) (by omega) (by omega) (by decide) (by omega) (by omega) (by omega) (by omega)).mono ?_
   rintro e w' ⟨hv,ht⟩
   refine ⟨⟨_,hv⟩,rxt h1 h3 h4 h5 (by decide) ht (fun k hk=>by unfold upR;rw [if_neg (by omega)]) (fun k t hk hb=>?_)⟩
   unfold upR
   by_cases q9:k=v
   ·rw [if_pos q9];show n≤t;omega
   ·rw [if_neg q9];exact hk
theorem RX.prepOk (hg0:Gd.g=none) (h:RX B p q g ls rg j R W w) (hj:j≤40) {v b:Nat} (hv:v≤16) (h1:1≤b) (h2:b<9223372036854775808) (hlt:(R v).1<b) :
  Calls Tryz.prog 7 #[.pointer (some ⟨rg,0,none⟩),.int .i64 (v:Int),.int .i64 (b:Int)] w fun e w'=>(∃ av,e=.returned av∧AnV B w' 0 (b:Int) (R v) av)∧RX B p q g ls rg (j+1) (upR R v (b,(R v).2.1,(R v).2.2)) W w'∧FT B w w'∧∀ (n:Nat) (ca:Array Value),w.heap[n]?=some (.cells ca 36 (0,0))→w'.heap[n]?=some (.cells ca 36 (0,0)):=by
 obtain ⟨c,u,l,k1,k2,k3,k4,k5⟩:=h
 refine (aCu hg0 k1 k2 hv h1 h2 hlt (by decide) (by omega) (by omega) (by omega) (by omega)).mono ?_
 rintro e w' ⟨hav,c',u',l',a1,a2,a3,a4,a5,a6⟩
 exact ⟨hav,⟨c',u',l',a1,a2,by omega,by omega,by omega⟩,k1.ft a6,fun n ca e=>aBh k1 a6 e (by decide) (by decide) (by decide) (by decide)⟩
end
end Go.Proofs.YtgfpmfafegcpiaaGreat
