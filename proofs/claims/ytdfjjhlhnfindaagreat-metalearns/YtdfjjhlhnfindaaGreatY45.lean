import Derived.Test.YtdfjjhlhnfindaaGreatY44
set_option maxRecDepth 100000
set_option maxHeartbeats 16000000
set_option linter.unusedVariables false
namespace Go.Proofs.YtdfjjhlhnfindaaGreat
open Go.RowKit Tryz
variable {B K N c g j ls n p q rg u:Nat} {R:Nat->Rec} {W w w':World} {fn:Func} {l:List It} {s:DS} {v:Value}
theorem pairs_zero [Gd] {r:Nat} (h:KX B p q g N c u l W w) (hr:w.heap[r]?=some (.cells #[.slice none 0 0,.slice none 0 0,.int .i64 0,.slice none 0 0] 226 (0,0))) :
  Calls prog 122 #[.pointer (some ⟨g,0,none⟩),.pointer (some ⟨g,2,none⟩),.pointer (some ⟨r,0,none⟩)] w fun e w'=>e=.returned (.tuple #[.slice none 0 0,.int .i64 0])/\Below w.heap.size w w':=by
 have q0:=aAf [Obj.cells #[.pointer (some ⟨g,0,none⟩)] 121,Obj.cells #[.pointer (some ⟨g,2,none⟩)] 223,Obj.cells #[.pointer (some ⟨r,0,none⟩)] 224] w 0 _ rfl;have q2:=aAf [Obj.cells #[.pointer (some ⟨g,0,none⟩)] 121,Obj.cells #[.pointer (some ⟨g,2,none⟩)] 223,Obj.cells #[.pointer (some ⟨r,0,none⟩)] 224] w 2 _ rfl;have qb:=(aAo [Obj.cells #[.pointer (some ⟨g,0,none⟩)] 121,Obj.cells #[.pointer (some ⟨g,2,none⟩)] 223,Obj.cells #[.pointer (some ⟨r,0,none⟩)] 224] w).1;have HQ0:Hid ((((w.alloc (.cells #[.pointer (some ⟨g,0,none⟩)] 121)).alloc (.cells #[.pointer (some ⟨g,2,none⟩)] 223)).alloc (.cells #[.pointer (some ⟨r,0,none⟩)] 224)).heap[w.heap.size]?=some (.cells #[.pointer (some ⟨g,0,none⟩)] 121 (0,0))):=q0;have HQ2:Hid ((((w.alloc (.cells #[.pointer (some ⟨g,0,none⟩)] 121)).alloc (.cells #[.pointer (some ⟨g,2,none⟩)] 223)).alloc (.cells #[.pointer (some ⟨r,0,none⟩)] 224)).heap[w.heap.size+1+1]?=some (.cells #[.pointer (some ⟨r,0,none⟩)] 224 (0,0))):=q2;have HB1:Hid (Below w.heap.size w (((w.alloc (.cells #[.pointer (some ⟨g,0,none⟩)] 121)).alloc (.cells #[.pointer (some ⟨g,2,none⟩)] 223)).alloc (.cells #[.pointer (some ⟨r,0,none⟩)] 224))):=qb;have H1:=zH (h.later HB1.o);have HR1:=zH ((HB1.o.block r (lO hr)).trans hr);have HD:=zH H1.o.dead;have y0:(((w.alloc (.cells #[.pointer (some ⟨g,0,none⟩)] 121)).alloc (.cells #[.pointer (some ⟨g,2,none⟩)] 223)).alloc (.cells #[.pointer (some ⟨r,0,none⟩)] 224)).cell? ⟨w.heap.size,0,none⟩=some (.pointer (some ⟨g,0,none⟩)):=aAa HQ0.o;clear h hr q0 q2 qb;go_enter func122,ntmps122;go_wp2_with fail;refine HD.o.mono ?_;rintro e w2 ⟨rfl,hb2⟩;have HN2:=zH ((hb2.block _ (lO HQ2.o)).trans HQ2.o);have HR2:=zH ((hb2.block r (lO HR1.o)).trans HR1.o);have HB2:Hid (Below w.heap.size w w2):=HB1.o.trans (hb2.mono HB1.o.size);clear hb2 HD y0;generalize hn2:w.heap.size+1+1=n2 at *
 have x0:w2.cell? ⟨n2,0,none⟩=some (.pointer (some ⟨r,0,none⟩)):=aAa HN2.o;have x1:w2.cell? ⟨r,0,none⟩=some (.slice none 0 0):=aAa HR2.o;have x2:w2.cell? ⟨r,1,none⟩=some (.slice none 0 0):=aAa HR2.o;have x3:w2.cell? ⟨r,2,none⟩=some (.int .i64 0):=aAa HR2.o;have HX0:Hid ((fun wx=>wx.cell? ⟨n2,0,none⟩=some (.pointer (some ⟨r,0,none⟩))/\wx.cell? ⟨r,2,none⟩=some (.int .i64 0)) w2.drew):=⟨x0,x3⟩;have d1:decide ((0:Int)=0)=true:=rfl;go_upto_region 7 with fail;refine wp_region_noPanic ?_;refine wp_region_held_drew (S:=fun wx=>wx.cell? ⟨n2,0,none⟩=some (.pointer (some ⟨r,0,none⟩))/\wx.cell? ⟨r,2,none⟩=some (.int .i64 0)) (by kernel_rfl) HX0.o (fun hHeld=>?_);refine kT 0 34 ?_;refine kT 1 35 ?_;refine kT 2 36 ?_;refine kT 3 37 ?_;refine kT 4 38 ?_;refine kT 5 39 ?_;refine aAe (i:=6) (d:=40) (v:=undef) (by kernel_rfl) (by kernel_rfl) (by kernel_rfl) (by kernel_rfl) (fun _ _ _ h=>h) ?hya6 (by assumption) ?resta6
 case hya6 =>
  intro oi ho;simp only [List.getElem?_toArray,List.getElem?_cons_succ,List.getElem?_cons_zero,oI] at ho;subst ho;exact Or.inr ⟨by rfl,rfl⟩
 try simp only [Act.put,siT,scZ,scS]
 refine aAe (i:=7) (d:=41) (v:=undef) (by kernel_rfl) (by kernel_rfl) (by kernel_rfl) (by kernel_rfl) (fun _ _ _ h=>h) ?hya7 (by assumption) ?resta7
 case hya7 =>
  intro oi ho;simp only [List.getElem?_toArray,List.getElem?_cons_succ,List.getElem?_cons_zero,oI] at ho;subst ho;exact Or.inr ⟨by rfl,rfl⟩
 try simp only [Act.put,siT,scZ,scS]
 refine aAe (i:=8) (d:=42) (v:=undef) (by kernel_rfl) (by kernel_rfl) (by kernel_rfl) (by kernel_rfl) (fun _ _ _ h=>h) ?hya8 (by assumption) ?resta8
 case hya8 =>
  intro oi ho;simp only [List.getElem?_toArray,List.getElem?_cons_succ,List.getElem?_cons_zero,oI] at ho;subst ho;exact Or.inr ⟨by rfl,rfl⟩
 try simp only [Act.put,siT,scZ,scS]
 refine aAe (i:=9) (d:=43) (v:=undef) (by kernel_rfl) (by kernel_rfl) (by kernel_rfl) (by kernel_rfl) (fun _ _ _ h=>h) ?hya9 (by assumption) ?resta9
 case hya9 =>
  intro oi ho;simp only [List.getElem?_toArray,List.getElem?_cons_succ,List.getElem?_cons_zero,oI] at ho;subst ho;exact Or.inr ⟨by rfl,rfl⟩
 try simp only [Act.put,siT,scZ,scS]
 refine aAe (i:=10) (d:=44) (v:=undef) (by kernel_rfl) (by kernel_rfl) (by kernel_rfl) (by kernel_rfl) (fun _ _ _ h=>h) ?hya10 (by assumption) ?resta10
 case hya10 =>
  intro oi ho;simp only [List.getElem?_toArray,List.getElem?_cons_succ,List.getElem?_cons_zero,oI] at ho;subst ho;exact Or.inr ⟨by rfl,rfl⟩
 try simp only [Act.put,siT,scZ,scS]
 refine kT 11 45 ?_;refine kT 12 46 ?_;refine aAe (i:=13) (d:=47) (v:=undef) (by kernel_rfl) (by kernel_rfl) (by kernel_rfl) (by kernel_rfl) (fun _ _ _ h=>h) ?hya13 (by assumption) ?resta13
 case hya13 =>
  intro oi ho;simp only [List.getElem?_toArray,List.getElem?_cons_succ,List.getElem?_cons_zero,oI] at ho;subst ho;exact Or.inr ⟨by rfl,rfl⟩
 try simp only [Act.put,siT,scZ,scS]
 refine aAe (i:=14) (d:=48) (v:=undef) (by kernel_rfl) (by kernel_rfl) (by kernel_rfl) (by kernel_rfl) (fun _ _ _ h=>h) ?hya14 (by assumption) ?resta14
 case hya14 =>
  intro oi ho;simp only [List.getElem?_toArray,List.getElem?_cons_succ,List.getElem?_cons_zero,oI] at ho;subst ho;exact Or.inr ⟨by rfl,rfl⟩
 try simp only [Act.put,siT,scZ,scS]
 refine aAe (i:=15) (d:=49) (v:=undef) (by kernel_rfl) (by kernel_rfl) (by kernel_rfl) (by kernel_rfl) (fun _ _ _ h=>h) ?hya15 (by assumption) ?resta15
 case hya15 =>
  intro oi ho;simp only [List.getElem?_toArray,List.getElem?_cons_succ,List.getElem?_cons_zero,oI] at ho;subst ho;exact Or.inr ⟨by rfl,rfl⟩
 try simp only [Act.put,siT,scZ,scS]
 refine aAe (i:=16) (d:=50) (v:=undef) (by kernel_rfl) (by kernel_rfl) (by kernel_rfl) (by kernel_rfl) (fun _ _ _ h=>h) ?hya16 (by assumption) ?resta16
 case hya16 =>
  intro oi ho;simp only [List.getElem?_toArray,List.getElem?_cons_succ,List.getElem?_cons_zero,oI] at ho;subst ho;exact Or.inr ⟨by rfl,rfl⟩
 try simp only [Act.put,siT,scZ,scS]
 refine aAe (i:=17) (d:=51) (v:=undef) (by kernel_rfl) (by kernel_rfl) (by kernel_rfl) (by kernel_rfl) (fun _ _ _ h=>h) ?hya17 (by assumption) ?resta17
 case hya17 =>
  intro oi ho;simp only [List.getElem?_toArray,List.getElem?_cons_succ,List.getElem?_cons_zero,oI] at ho;subst ho;exact Or.inr ⟨by rfl,rfl⟩
 try simp only [Act.put,siT,scZ,scS]
 refine aAe (i:=18) (d:=52) (v:=undef) (by kernel_rfl) (by kernel_rfl) (by kernel_rfl) (by kernel_rfl) (fun _ _ _ h=>h) ?hya18 (by assumption) ?resta18
 case hya18 =>
  intro oi ho;simp only [List.getElem?_toArray,List.getElem?_cons_succ,List.getElem?_cons_zero,oI] at ho;subst ho;exact Or.inr ⟨by rfl,rfl⟩
 try simp only [Act.put,siT,scZ,scS]
 refine kT 19 53 ?_;refine kT 20 33 ?_;refine wpAnyH_done (by kernel_rfl) ?_ _;refine NoPanic.normal ?_;clear hHeld;go_wp2;go_ret2;exact ⟨rfl,HB2.o.drew⟩
theorem Range_zero [Gd] (h:KX B p q g N c u l W w) :
  Calls prog 85 #[.pointer (some ⟨g,0,none⟩),.slice none 0 0,.slice none 0 0,.int .i64 0] w fun e w'=>e=.returned (.tuple #[.slice none 0 0,.int .i64 0])/\Below w.heap.size w w':=by
 have HB1:=zH (aAc w (.cells #[.slice none 0 0,.slice none 0 0,.int .i64 0,.slice none 0 0] 226));have HP:=zH (pairs_zero (h.later HB1.o) (heap_alloc_new w _));clear h;go_enter func85,ntmps85;go_wp2_with fail;refine HP.o.mono ?_;rintro e w2 ⟨rfl,hb2⟩;have HB2:=zH (HB1.o.trans (hb2.mono HB1.o.size));clear hb2;go_wp2;go_ret2;exact ⟨rfl,HB2.o⟩
theorem results_fig {p u:Tmp} (h:fn.results=#[.cell p 126,.tmp u]) (tmps:Array Value) (w:World) (g:Nat) (cs:Array Value)
  (hp:tmps.getD p undef=.pointer (some ⟨g,0,none⟩)) (hg:w.heap[g]?=some (.cells cs 126 (0,0))) (hz:cs.size=17) :
  (results fn tmps).run prog w=.ok (.tuple #[.agg cs,tmps.getD u undef]) w:=by
 have hi:(prog.info? 126).map (·.size)=some cs.size:=by rw [hz];exact aD3
 rw [results_cell_tmp h,hp];simp only [asAddr,Sem.run_pure,Result.andThen_ok,run_loadVar_row w g 126 126 cs (0,0) _ hg underlying126 rfl hi]
theorem z17_ok:FGV z17:=by
 refine ⟨rfl,rfl,fun i h1 h2=>⟨0,?_⟩⟩;unfold z17;rw [List.getElem?_toArray,List.getElem?_replicate,if_pos h2]
theorem counted_zero [Gd] (h:KX B p q g N c u [] W w) :
  Calls prog 56 #[.pointer (some ⟨g,0,none⟩)] w fun e w'=>e=.returned (.tuple #[.agg z17,.int .i64 0])/\Below w.heap.size w w':=by
 have hz:∀ ww,(zeroValue 126).run prog ww=.ok (.agg z17) ww:=fun ww=>by kernel_rfl
 have hzz:z17.size=17:=rfl;have HB1:=zH (aAc w (.cells z17 126));have HN1:Hid ((w.alloc (.cells z17 126)).heap[w.heap.size]?=some (.cells z17 126 (0,0))):=heap_alloc_new w _;have H1:=zH (h.later HB1.o);have HLE:Hid (Calls prog 86 #[.pointer (some ⟨g,0,none⟩)] (w.alloc (.cells z17 126)) fun e w'=>e=.returned (.int .i64 0)/\w'=w.alloc (.cells z17 126)):=H1.o.Len;have HRA:=zH (Range_zero H1.o);clear h;go_enter func56,ntmps56;go_wp2_with fail;refine HLE.o.mono ?_;rintro e w9 ⟨rfl,rfl⟩;go_wp2_with fail;refine HRA.o.mono ?_;rintro e w2 ⟨rfl,hb2⟩;have HN2:=zH ((hb2.block _ (lO HN1.o)).trans HN1.o);have HB2:=zH (HB1.o.trans (hb2.mono HB1.o.size));have HB3:=zH (aAc w2 (.cells z17 126));have HM3:Hid ((w2.alloc (.cells z17 126)).heap[w2.heap.size]?=some (.cells z17 126 (0,0))):=heap_alloc_new w2 _;have HN3:=zH ((HB3.o.block _ (lO HN2.o)).trans HN2.o);have HB03:=zH (HB2.o.trans (HB3.o.mono HB2.o.size));clear hb2 HLE HRA;go_upto_region 5 with fail;generalize w2.alloc (.cells z17 126)=w3 at *
 generalize w2.heap.size=n1 at *
 generalize hn0:w.heap.size=n0 at *
 go_wp2_with fail;go_loopw [24] (fun i wx=>i=.int .i64 0/\wx=w3) (fun _ _=>0)
 case atStart=>exact ⟨rfl,rfl⟩
 case round =>
  obtain ⟨rfl,rfl⟩:=hrel;have HLD:=zH (run_loadVar_row (P:=prog) wr n1 126 126 z17 (0,0) _ HM3.o underlying126 rfl (by rw [hzz];exact aD3));have hst:=aA6 (o:=0) HN3.o (show 0+z17.size<=17 by rw [hzz];decide) z17_ok.one;rw [aB9 (show z17.size=z17.size from rfl)] at hst;have HY:=zH (setRow_heap _ _ _ z17 _ _ HN3.o);have HBF:Hid (Below n0 w (wr.setRow n0 z17)):=below_setRow HB03.o (nR n0) z17;go_wp2_with (refine wpList_load_row rfl (.tmp 6) 126 rfl rfl HLD.o ?_);(try simp only [Exit.inBlock,Exit.then]);exact bodyPost_ret (results_fig rfl _ _ n0 z17 rfl HY.o hzz) rfl ⟨rfl,by rw [hn0];exact HBF.o⟩
theorem lv_build {base cf:Array Value} (hf:FGV cf) (b1:base.size=19) (b2:base[0]?=some (.pointer (some ⟨g,0,none⟩))) (b3:base[1]?=some (.pointer (some ⟨p,0,none⟩))):LV (Array.foldl (fun (cs:Array Value) (x:Value×Nat)=>cs.setIfInBounds (2+x.2) x.1) base cf.zipIdx 0 17) g p:=by
 obtain ⟨i1,i2⟩:=aC7 (base:=base) (vs:=cf) (o:=2) (n:=17) hf.sz (by rw [b1];decide);refine ⟨i1.trans b1,?_,?_,?_,fun i h1 h2=>?_⟩
 ·rw [i2,if_neg (by omega)];exact b2
 ·rw [i2,if_neg (by omega)];exact b3
 ·rw [i2,if_pos (by omega)];exact hf.c0
 ·rw [i2,if_pos (by omega)];exact hf.cp (i-2) (by omega) (by omega)
theorem pairs_most0 [Gd] {r ln lc hn hc:Nat} {la ha:Option Addr} (hl1:ln<=64) (hl2:hn<=64) {l:List It} {W w:World} (h:KX B p q g N c u l W w) (hr:w.heap[r]?=some (.cells #[.slice la ln lc,.slice ha hn hc,.int .i64 0,.slice none 0 0] 226 (0,0))) :
  Calls prog 122 #[.pointer (some ⟨g,0,none⟩),.pointer (some ⟨g,2,none⟩),.pointer (some ⟨r,0,none⟩)] w fun e w'=>e=.returned (.tuple #[.slice none 0 0,.int .i64 0])/\Below w.heap.size w w':=by
 have q0:=aAf [Obj.cells #[.pointer (some ⟨g,0,none⟩)] 121,Obj.cells #[.pointer (some ⟨g,2,none⟩)] 223,Obj.cells #[.pointer (some ⟨r,0,none⟩)] 224] w 0 _ rfl;have q2:=aAf [Obj.cells #[.pointer (some ⟨g,0,none⟩)] 121,Obj.cells #[.pointer (some ⟨g,2,none⟩)] 223,Obj.cells #[.pointer (some ⟨r,0,none⟩)] 224] w 2 _ rfl;have qb:=(aAo [Obj.cells #[.pointer (some ⟨g,0,none⟩)] 121,Obj.cells #[.pointer (some ⟨g,2,none⟩)] 223,Obj.cells #[.pointer (some ⟨r,0,none⟩)] 224] w).1;have HQ0:Hid ((((w.alloc (.cells #[.pointer (some ⟨g,0,none⟩)] 121)).alloc (.cells #[.pointer (some ⟨g,2,none⟩)] 223)).alloc (.cells #[.pointer (some ⟨r,0,none⟩)] 224)).heap[w.heap.size]?=some (.cells #[.pointer (some ⟨g,0,none⟩)] 121 (0,0))):=q0;have HQ2:Hid ((((w.alloc (.cells #[.pointer (some ⟨g,0,none⟩)] 121)).alloc (.cells #[.pointer (some ⟨g,2,none⟩)] 223)).alloc (.cells #[.pointer (some ⟨r,0,none⟩)] 224)).heap[w.heap.size+1+1]?=some (.cells #[.pointer (some ⟨r,0,none⟩)] 224 (0,0))):=q2;have HB1:Hid (Below w.heap.size w (((w.alloc (.cells #[.pointer (some ⟨g,0,none⟩)] 121)).alloc (.cells #[.pointer (some ⟨g,2,none⟩)] 223)).alloc (.cells #[.pointer (some ⟨r,0,none⟩)] 224))):=qb;have H1:=zH (h.later HB1.o);have HR1:=zH ((HB1.o.block r (lO hr)).trans hr);have HD:=zH H1.o.dead;have y0:(((w.alloc (.cells #[.pointer (some ⟨g,0,none⟩)] 121)).alloc (.cells #[.pointer (some ⟨g,2,none⟩)] 223)).alloc (.cells #[.pointer (some ⟨r,0,none⟩)] 224)).cell? ⟨w.heap.size,0,none⟩=some (.pointer (some ⟨g,0,none⟩)):=aAa HQ0.o;clear h hr q0 q2 qb;go_enter func122,ntmps122;go_wp2_with fail;refine HD.o.mono ?_;rintro e w2 ⟨rfl,hb2⟩;have HN2:=zH ((hb2.block _ (lO HQ2.o)).trans HQ2.o);have HR2:=zH ((hb2.block r (lO HR1.o)).trans HR1.o);have HB2:Hid (Below w.heap.size w w2):=HB1.o.trans (hb2.mono HB1.o.size);clear hb2 HD y0;generalize hn2:w.heap.size+1+1=n2 at *
 have x0:w2.cell? ⟨n2,0,none⟩=some (.pointer (some ⟨r,0,none⟩)):=aAa HN2.o;have x1:w2.cell? ⟨r,0,none⟩=some (.slice la ln lc):=aAa HR2.o;have x2:w2.cell? ⟨r,1,none⟩=some (.slice ha hn hc):=aAa HR2.o;have x3:w2.cell? ⟨r,2,none⟩=some (.int .i64 0):=aAa HR2.o;have HX0:Hid ((fun wx=>wx.cell? ⟨n2,0,none⟩=some (.pointer (some ⟨r,0,none⟩))/\wx.cell? ⟨r,2,none⟩=some (.int .i64 0)) w2.drew):=⟨x0,x3⟩;have d1:decide ((0:Int)=0)=true:=rfl;have g1:¬ (64:Int)<(ln:Int):=by omega
 have g2:¬ (64:Int)<(hn:Int):=by omega
 go_upto_region 7 with fail;refine wp_region_noPanic ?_;refine wp_region_held_drew (S:=fun wx=>wx.cell? ⟨n2,0,none⟩=some (.pointer (some ⟨r,0,none⟩))/\wx.cell? ⟨r,2,none⟩=some (.int .i64 0)) (by kernel_rfl) HX0.o (fun hHeld=>?_);refine kT 0 34 ?_;refine kT 1 35 ?_;refine kT 2 36 ?_;refine kT 3 37 ?_;refine kT 4 38 ?_;refine kT 5 39 ?_;refine aAe (i:=6) (d:=40) (v:=undef) (by kernel_rfl) (by kernel_rfl) (by kernel_rfl) (by kernel_rfl) (fun _ _ _ h=>h) ?hya6 (by assumption) ?resta6
 case hya6 =>
  intro oi ho;simp only [List.getElem?_toArray,List.getElem?_cons_succ,List.getElem?_cons_zero,oI] at ho;subst ho;exact Or.inr ⟨by rfl,rfl⟩
 try simp only [Act.put,siT,scZ,scS]
 refine aAe (i:=7) (d:=41) (v:=undef) (by kernel_rfl) (by kernel_rfl) (by kernel_rfl) (by kernel_rfl) (fun _ _ _ h=>h) ?hya7 (by assumption) ?resta7
 case hya7 =>
  intro oi ho;simp only [List.getElem?_toArray,List.getElem?_cons_succ,List.getElem?_cons_zero,oI] at ho;subst ho;exact Or.inr ⟨by rfl,rfl⟩
 try simp only [Act.put,siT,scZ,scS]
 refine aAe (i:=8) (d:=42) (v:=undef) (by kernel_rfl) (by kernel_rfl) (by kernel_rfl) (by kernel_rfl) (fun _ _ _ h=>h) ?hya8 (by assumption) ?resta8
 case hya8 =>
  intro oi ho;simp only [List.getElem?_toArray,List.getElem?_cons_succ,List.getElem?_cons_zero,oI] at ho;subst ho;exact Or.inr ⟨by rfl,rfl⟩
 try simp only [Act.put,siT,scZ,scS]
 refine aAe (i:=9) (d:=43) (v:=undef) (by kernel_rfl) (by kernel_rfl) (by kernel_rfl) (by kernel_rfl) (fun _ _ _ h=>h) ?hya9 (by assumption) ?resta9
 case hya9 =>
  intro oi ho;simp only [List.getElem?_toArray,List.getElem?_cons_succ,List.getElem?_cons_zero,oI] at ho;subst ho;exact Or.inr ⟨by rfl,rfl⟩
 try simp only [Act.put,siT,scZ,scS]
 refine aAe (i:=10) (d:=44) (v:=undef) (by kernel_rfl) (by kernel_rfl) (by kernel_rfl) (by kernel_rfl) (fun _ _ _ h=>h) ?hya10 (by assumption) ?resta10
 case hya10 =>
  intro oi ho;simp only [List.getElem?_toArray,List.getElem?_cons_succ,List.getElem?_cons_zero,oI] at ho;subst ho;exact Or.inr ⟨by rfl,rfl⟩
 try simp only [Act.put,siT,scZ,scS]
 refine kT 11 45 ?_;refine kT 12 46 ?_;refine aAe (i:=13) (d:=47) (v:=undef) (by kernel_rfl) (by kernel_rfl) (by kernel_rfl) (by kernel_rfl) (fun _ _ _ h=>h) ?hya13 (by assumption) ?resta13
 case hya13 =>
  intro oi ho;simp only [List.getElem?_toArray,List.getElem?_cons_succ,List.getElem?_cons_zero,oI] at ho;subst ho;exact Or.inr ⟨by rfl,rfl⟩
 try simp only [Act.put,siT,scZ,scS]
 refine aAe (i:=14) (d:=48) (v:=undef) (by kernel_rfl) (by kernel_rfl) (by kernel_rfl) (by kernel_rfl) (fun _ _ _ h=>h) ?hya14 (by assumption) ?resta14
 case hya14 =>
  intro oi ho;simp only [List.getElem?_toArray,List.getElem?_cons_succ,List.getElem?_cons_zero,oI] at ho;subst ho;exact Or.inr ⟨by rfl,rfl⟩
 try simp only [Act.put,siT,scZ,scS]
 refine aAe (i:=15) (d:=49) (v:=undef) (by kernel_rfl) (by kernel_rfl) (by kernel_rfl) (by kernel_rfl) (fun _ _ _ h=>h) ?hya15 (by assumption) ?resta15
 case hya15 =>
  intro oi ho;simp only [List.getElem?_toArray,List.getElem?_cons_succ,List.getElem?_cons_zero,oI] at ho;subst ho;exact Or.inr ⟨by rfl,rfl⟩
 try simp only [Act.put,siT,scZ,scS]
 refine aAe (i:=16) (d:=50) (v:=undef) (by kernel_rfl) (by kernel_rfl) (by kernel_rfl) (by kernel_rfl) (fun _ _ _ h=>h) ?hya16 (by assumption) ?resta16
 case hya16 =>
  intro oi ho;simp only [List.getElem?_toArray,List.getElem?_cons_succ,List.getElem?_cons_zero,oI] at ho;subst ho;exact Or.inr ⟨by rfl,rfl⟩
 try simp only [Act.put,siT,scZ,scS]
 refine aAe (i:=17) (d:=51) (v:=undef) (by kernel_rfl) (by kernel_rfl) (by kernel_rfl) (by kernel_rfl) (fun _ _ _ h=>h) ?hya17 (by assumption) ?resta17
 case hya17 =>
  intro oi ho;simp only [List.getElem?_toArray,List.getElem?_cons_succ,List.getElem?_cons_zero,oI] at ho;subst ho;exact Or.inr ⟨by rfl,rfl⟩
 try simp only [Act.put,siT,scZ,scS]
 refine aAe (i:=18) (d:=52) (v:=undef) (by kernel_rfl) (by kernel_rfl) (by kernel_rfl) (by kernel_rfl) (fun _ _ _ h=>h) ?hya18 (by assumption) ?resta18
 case hya18 =>
  intro oi ho;simp only [List.getElem?_toArray,List.getElem?_cons_succ,List.getElem?_cons_zero,oI] at ho;subst ho;exact Or.inr ⟨by rfl,rfl⟩
 try simp only [Act.put,siT,scZ,scS]
 refine kT 19 53 ?_;refine kT 20 33 ?_;refine wpAnyH_done (by kernel_rfl) ?_ _;refine NoPanic.normal ?_;clear hHeld;go_wp2;go_ret2;exact ⟨rfl,HB2.o.drew⟩
theorem Range_most0 [Gd] {ln lc hn hc:Nat} {la ha:Option Addr} (hl1:ln<=64) (hl2:hn<=64) {l:List It} {W w:World} (h:KX B p q g N c u l W w) :
  Calls prog 85 #[.pointer (some ⟨g,0,none⟩),.slice la ln lc,.slice ha hn hc,.int .i64 0] w fun e w'=>e=.returned (.tuple #[.slice none 0 0,.int .i64 0])/\Below w.heap.size w w':=by
 have HB1:=zH (aAc w (.cells #[.slice la ln lc,.slice ha hn hc,.int .i64 0,.slice none 0 0] 226));have HP:=zH (pairs_most0 hl1 hl2 (h.later HB1.o) (heap_alloc_new w _));clear h;go_enter func85,ntmps85;go_wp2_with fail;refine HP.o.mono ?_;rintro e w2 ⟨rfl,hb2⟩;have HB2:=zH (HB1.o.trans (hb2.mono HB1.o.size));clear hb2;go_wp2;go_ret2;exact ⟨rfl,HB2.o⟩
theorem RgF.fp [Gd] {x1 x2 x3:Nat} (f:Fp B w w'):RgF B x1 x2 x3 w w':=⟨f.bel,fun k cs t fz e nt _ _ _=>f.tree e nt,f.gd⟩
def KpN (w w':World):Prop:=∀ (k:Nat) (cs:Array Value) (t:TypeId) (fz:Nat×Nat),w.heap[k]?=some (Obj.cells cs t fz)->NT t->w'.heap[k]?=some (Obj.cells cs t fz)
def Fg0 (ls:Nat) (w:World):Prop:=∃ cs,w.heap[ls]?=some (.cells cs 130 (0,0))/\∀ i,i<17->cs[2+i]?=some (.int .i64 0)
theorem fig_build {base cf:Array Value} (hf:FGV cf) (b1:base.size=19) (hz:cf=z17) {i:Nat} (hi:i<17):(Array.foldl (fun (cs:Array Value) (x:Value×Nat)=>cs.setIfInBounds (2+x.2) x.1) base cf.zipIdx 0 17)[2+i]?=some (.int .i64 0):=by
 obtain ⟨i1,i2⟩:=aC7 (base:=base) (vs:=cf) (o:=2) (n:=17) hf.sz (by rw [b1];decide);rw [i2,if_pos (by omega),show 2+i-2=i by omega,hz];unfold z17;rw [List.getElem?_toArray,List.getElem?_replicate,if_pos hi]
theorem lopen_new0 [Gd] (hs:s=DS.new n) (hD:DI B p s w) (hB:B<=w.heap.size) (hW:Below B W w) (h3:3<=n) (h4:n<=4096) :
  Calls prog 44 #[.pointer (some ⟨p,0,none⟩)] w fun e w'=>∃ q g ls,e=.returned (.tuple #[.pointer (some ⟨ls,0,none⟩),.int .i64 0])/\LS B p q g ls n 0 0 [] W w'/\Fg0 ls w'/\(w.heap.size<=g/\w.heap.size<=ls)/\∀ x1 x2 x3,RgF B x1 x2 x3 w w':=by
 obtain ⟨zf,hzf⟩:∃ x,x=z17:=⟨_,rfl⟩;have hz:∀ ww,(zeroValue 126).run prog ww=.ok (.agg zf) ww:=fun ww=>by rw [hzf];kernel_rfl
 have HFG:Hid (FGV zf):=by show FGV zf;rw [hzf];exact z17_ok
 have hzz:zf.size=17:=HFG.o.sz;have HZF:=zH hzf;clear hzf;have hf:=new_facts n s hs;have HL0:Hid (lastH (rdH (pad (s.show 0)) s.n) (rdH (pad (s.show 1)) s.n)=some (0,0)):=by
  show _=_;rw [hf.2.2.2.2.2.1,hf.2.2.2.2.2.2,rdH_zero];exact lastH_zero
 have HF:=zH hf;have HBW:=zH hB;have HWW:=zH hW;have HOP:=zH (Open_none (num:=0) hD hB HF.o.1 HF.o.2.1 (by rw [HF.o.2.2.1];decide) (by rw [HF.o.2.2.2.1];exact h3) (by rw [HF.o.2.2.2.1];exact h4) HL0.o (by decide));clear hs hf hD hB hW;go_enter func44,ntmps44;go_wp2_with fail;refine HOP.o.mono ?_;rintro e w2 ⟨q,g,st0,rfl,hgB,hM,r0,r1,r2,r3,hF⟩;have HFP:=zH hF;have HGG:=zH hgB;have hO:OpT B p g n w2:=⟨q,s,_,st0,hM,Or.inl ⟨r0,r1,r2,rfl,r3⟩,r1,HF.o.2.2.2.1,HF.o.2.2.2.2.1,by show cntF (newSt s.n)=_;rw [newSt_cnt s.n (by rw [HF.o.2.2.2.1];omega),HF.o.2.2.2.1],rfl,HF.o.2.2.2.2.2.1,HF.o.2.2.2.2.2.2⟩;obtain ⟨q',s',t',st',left',hTI,_⟩:=hO.ti (by omega) (HWW.o.trans hF.bel);have hkx:KX B p q' g n 0 0 [] W w2:=⟨st',s',t',st',left',hTI⟩;have HK2:=zH hkx;have HCO:=zH (counted_zero hkx);rw [<-HZF.o] at HCO;clear hgB hM r0 r1 r2 r3 hF hO hTI hkx HOP;go_wp2_with fail;refine HCO.o.mono ?_;rintro e w3 ⟨rfl,hb3⟩;have HK3:=zH (HK2.o.later hb3);have x1:(w3.alloc (.cells zf 126)).heap[w3.heap.size]?=some (.cells zf 126 (0,0)):=heap_alloc_new w3 _;have hst:=aA6 (o:=0) x1 (show 0+zf.size<=zf.size by omega) HFG.o.one;rw [aB9 (show zf.size=zf.size from rfl)] at hst;have HY:=zH (setRow_heap _ _ _ zf _ _ x1);have HB4:Hid (Below w3.heap.size w3 ((w3.alloc (.cells zf 126)).setRow w3.heap.size zf)):=below_setRow (aAc w3 _) (nR _) zf;have HR4:Hid (∀ x1 x2 x3,RgF B x1 x2 x3 w ((w3.alloc (.cells zf 126)).setRow w3.heap.size zf)):=fun x1 x2 x3=>((RgF.fp HFP.o).trans (RgF.of hb3 HK2.o.bw)).trans (RgF.of HB4.o HK3.o.bw)
 clear hb3 HCO x1;go_upto_region 5 with fail;generalize ((w3.alloc (.cells zf 126)).setRow w3.heap.size zf)=w4 at *
 have HK4:=zH (HK3.o.later HB4.o);generalize w3.heap.size=n3 at *
 clear hst;have HLD:=zH (run_loadVar_row (P:=prog) w4 n3 126 126 zf (0,0) _ HY.o underlying126 rfl (by rw [hzz];exact aD3));go_wp2_with (refine wpList_load_row rfl (.tmp 6) 126 rfl rfl HLD.o ?_);go_ret2;exact ⟨q',g,w4.heap.size,rfl,⟨HK4.o.later (aAc w4 _),HK4.o.bw,_,heap_alloc_new w4 _,lv_build HFG.o rfl rfl rfl⟩,⟨_,heap_alloc_new w4 _,fun i hi=>fig_build HFG.o rfl HZF.o hi⟩,⟨HGG.o,(HR4.o 0 0 0).1.size⟩,fun x1 x2 x3=>(HR4.o x1 x2 x3).trans (RgF.of (aAc w4 _) HK4.o.bw)⟩
theorem new_reg0 [Gd] (h:LS B p q g ls N 0 0 [] W w) :
  Calls prog 45 #[.pointer (some ⟨ls,0,none⟩)] w fun e w'=>∃ rg,e=.returned (.tuple #[.pointer (some ⟨rg,0,none⟩),.int .i64 0])/\RGM B p q g ls rg N 0 0 [] W w'/\KpN w w'/\w.heap.size<=rg/\RgF B rg rg rg w w':=by
 have HD:=zH h.dead;have H:=zH h;clear h;go_enter func45,ntmps45;go_wp2_with fail;refine HD.o.mono ?_;rintro e w1 ⟨rfl,hb1⟩;have H1:=zH (H.out.later hb1);have HNW:Hid ((w1.alloc (.cells #[.pointer (some ⟨ls,0,none⟩),.nilIface,.nilIface,.nilIface,.nilIface,.nilIface,.nilIface,.nilIface,.nilIface,.nilIface,.nilIface,.nilIface,.nilIface,.nilIface,.nilIface,.nilIface,.nilIface,.nilIface] 135)).heap[w1.heap.size]?=some (.cells #[.pointer (some ⟨ls,0,none⟩),.nilIface,.nilIface,.nilIface,.nilIface,.nilIface,.nilIface,.nilIface,.nilIface,.nilIface,.nilIface,.nilIface,.nilIface,.nilIface,.nilIface,.nilIface,.nilIface,.nilIface] 135 (0,0))):=heap_alloc_new w1 _;have HG0:Hid (RGM B p q g ls w1.heap.size N 0 0 [] W (w1.alloc (.cells #[.pointer (some ⟨ls,0,none⟩),.nilIface,.nilIface,.nilIface,.nilIface,.nilIface,.nilIface,.nilIface,.nilIface,.nilIface,.nilIface,.nilIface,.nilIface,.nilIface,.nilIface,.nilIface,.nilIface,.nilIface] 135))):=⟨H1.o.later (aAc w1 _),H1.o.bw,_,HNW.o,rfl,rfl⟩;have HKP:Hid (∀ (k:Nat) (cs:Array Value) (t:TypeId) (fz:Nat×Nat),w.heap[k]?=some (Obj.cells cs t fz)->(w1.alloc (.cells #[.pointer (some ⟨ls,0,none⟩),.nilIface,.nilIface,.nilIface,.nilIface,.nilIface,.nilIface,.nilIface,.nilIface,.nilIface,.nilIface,.nilIface,.nilIface,.nilIface,.nilIface,.nilIface,.nilIface,.nilIface] 135)).heap[k]?=some (Obj.cells cs t fz)/\k≠w1.heap.size):=fun k cs t fz e=>by
  have e1:=(hb1.block k (lO e)).trans e;exact ⟨((aAc w1 _).block k (lO e1)).trans e1,Nat.ne_of_lt (lO e1)⟩
 have HB02:=zH (hb1.trans ((aAc w1 (.cells #[.pointer (some ⟨ls,0,none⟩),.nilIface,.nilIface,.nilIface,.nilIface,.nilIface,.nilIface,.nilIface,.nilIface,.nilIface,.nilIface,.nilIface,.nilIface,.nilIface,.nilIface,.nilIface,.nilIface,.nilIface] 135)).mono hb1.size));have HSZ:=zH hb1.size;have HBW0:=zH H.out.bw;clear hb1 HD HNW;go_upto_region 6 with fail;generalize w1.alloc (.cells #[.pointer (some ⟨ls,0,none⟩),.nilIface,.nilIface,.nilIface,.nilIface,.nilIface,.nilIface,.nilIface,.nilIface,.nilIface,.nilIface,.nilIface,.nilIface,.nilIface,.nilIface,.nilIface,.nilIface,.nilIface] 135)=w2 at *
 generalize w1.heap.size=rg at *
 go_wp2_with fail;go_loopw [15] (fun i wx=>∃ j:Nat,j<=17/\i=.int .i64 j/\RGM B p q g ls rg N 0 0 [] W wx/\RgF B rg rg rg w2 wx) (fun i _=>17-(intOf i).toNat)
 case atStart=>exact ⟨0,by omega,rfl,HG0.o,RgF.of (Below.refl _ _) HG0.o.bw⟩
 case round =>
  obtain ⟨j,hj,rfl,hG,hFF⟩:=hrel;have HG:=zH hG;have HFF:=zH hFF;clear hG hFF HG0;by_cases hjn:j<17
  ·have i1:(j:Int)<17:=by omega
   have HLK:=zH (HG.o.look RL.nil (v:=j) (by omega));go_wp2_with fail;refine HLK.o.mono ?_;rintro e w3 ⟨rv,rfl,hr3,h3,hf3⟩;have H3:=zH h3;have HF3:=zH (HFF.o.trans (hf3 rg rg));obtain ⟨ty,pv,hform,_⟩:=hr3.pr;subst hform;clear hr3 h3 hf3 HLK;go_wp2_with fail;go_roundw
   case rel=>exact ⟨j+1,by omega,by go_num,H3.o,HF3.o⟩
   case measure=>simp [intOf];omega
  ·have i1:¬ (j:Int)<17:=by omega
   go_wp2;go_ret2;exact ⟨rg,rfl,HG.o,fun k cs t fz e hn=>HFF.o.2 k cs t fz (HKP.o k cs t fz e).1 hn (HKP.o k cs t fz e).2 (HKP.o k cs t fz e).2 (HKP.o k cs t fz e).2,HSZ.o,(RgF.of HB02.o HBW0.o).trans HFF.o⟩
theorem aHt (w:World) :
  Calls prog 146 #[.slice none 0 0,.func (Fn.func K) #[] #[]] w fun e w'=>e=.returned (.int .i64 (-1))/\Below w.heap.size w w':=by
 go_enter func146,ntmps146;go_wp2_with fail;go_loopw [8] (fun i wx=>i=.int .i64 0/\Below w.heap.size w wx) (fun _ _=>0)
 case atStart=>exact ⟨rfl,Below.refl _ _⟩
 case round =>
  obtain ⟨rfl,hb⟩:=hrel;have HB:=zH hb;clear hb;go_wp2;go_ret;exact ⟨rfl,HB.o⟩
theorem aCp (w:World) :
  Calls prog 126 #[.slice none 0 0,.func (Fn.func K) #[] #[]] w fun e w'=>e=.returned (.bool false)/\Below w.heap.size w w':=by
 have HI:=zH (aHt (K:=K) w);go_enter func126,ntmps126;go_wp2_with fail;refine HI.o.mono ?_;rintro e w1 ⟨rfl,hb1⟩;have HB1:=zH hb1;clear hb1;go_wp2;go_ret;exact ⟨rfl,HB1.o⟩
theorem LS.refusal_nil [Gd] (h:LS B p q g ls N c u l W w) :
  Calls prog 91 #[.pointer (some ⟨ls,0,none⟩),.bool true,.slice none 0 0] w fun e w'=>e=.returned (.int .i64 0)/\Below w.heap.size w w':=by
 have HD:=zH h.dead;clear h;go_enter func91,ntmps91;go_wp2_with fail;refine HD.o.mono ?_;rintro e w1 ⟨rfl,hb1⟩;have HB1:=zH hb1;have HC1:=zH (aCp (K:=127) w1);clear hb1 HD;go_wp2_with fail;refine HC1.o.mono ?_;rintro e w2 ⟨rfl,hb2⟩;have HB2:=zH (HB1.o.trans (hb2.mono HB1.o.size));have HC2:=zH (aCp (K:=128) w2);clear hb2 HC1;go_wp2_with fail;refine HC2.o.mono ?_;rintro e w3 ⟨rfl,hb3⟩;have HB3:=zH (HB2.o.trans (hb3.mono HB2.o.size));clear hb3 HC2;go_wp2;go_ret;exact ⟨rfl,HB3.o⟩
theorem LS.len0 (hz:Fg0 ls w) :
  Calls prog 60 #[.pointer (some ⟨ls,0,none⟩),.int .i64 0] w fun e w'=>e=.returned (.int .i64 0)/\w'=w:=by
 obtain ⟨cs,h1,h2⟩:=hz;have x3:w.cell? ⟨ls,3,none⟩=some (.int .i64 0):=(aAa h1).trans (h2 1 (by decide));have HIS:=zH (isSpace_0 w);clear h1 h2;go_enter func60,ntmps60;go_wp2_with fail;refine HIS.o.mono ?_;rintro e w1 ⟨rfl,hw⟩;have hw:=hw.symm;subst hw;go_wp2;go_ret;exact ⟨rfl,rfl⟩
theorem treeEnd_0 (w:World):Calls prog 95 #[.int .i64 0,.slice none 0 0] w fun e w'=>∃ b d,e=.returned (.slice b 1 d)/\BK B w' b 1 d [1]/\Below w.heap.size w w':=by
 have HT:Hid (Calls prog 94 #[.int .i64 1,.slice none 0 0] w fun e w'=>∃ b d,e=.returned (.slice b (0+1) d)/\BK B w' b (0+1) d (1::[])/\Below w.heap.size w w'):=aC6 (sp:=1) (by decide) (BK.nil B w).1 (by omega);go_enter func95,ntmps95;go_wp2_with fail;refine HT.o.mono ?_;rintro e w1 ⟨b,d,rfl,hk,hb⟩;have HK:=zH hk;have HB:=zH hb;clear hk hb HT;go_wp2;go_ret;exact ⟨b,d,rfl,HK.o,HB.o⟩
theorem LS.pairs0 [Gd] {ln lc hn hc:Nat} {la ha:Option Addr} (hl1:ln<=64) (hl2:hn<=64) (h:LS B p q g ls N c u l W w) :
  Calls prog 93 #[.pointer (some ⟨ls,0,none⟩),.slice la ln lc,.slice ha hn hc,.int .i64 0] w fun e w'=>e=.returned (.tuple #[.slice none 0 0,.int .i64 0])/\Below w.heap.size w w':=by
 have x0:=h.cell0;have HR:=zH (Range_most0 (la:=la) (lc:=lc) (ha:=ha) (hc:=hc) hl1 hl2 h.kx);clear h;go_enter func93,ntmps93;go_wp2_with fail;refine HR.o.mono ?_;rintro e w1 ⟨rfl,hb1⟩;have HB1:=zH hb1;clear hb1 HR x0;go_wp2_with fail;go_loopw [32] (fun i wx=>i=.int .i64 0/\wx=w1) (fun _ _=>0)
 case atStart=>exact ⟨rfl,rfl⟩
 case round =>
  obtain ⟨rfl,rfl⟩:=hrel;go_wp2;go_ret2;exact ⟨rfl,HB1.o⟩
theorem LS.Range0 [Gd] (h:LS B p q g ls N c u l W w) :
  Calls prog 59 #[.pointer (some ⟨ls,0,none⟩),.int .i64 0,.slice none 0 0,.slice none 0 0,.int .i64 0] w fun e w'=>e=.returned (.tuple #[.slice none 0 0,.int .i64 0])/\Below w.heap.size w w':=by
 have HIS:=zH (isSpace_0 w);have HRF:=zH h.refusal_nil;have HL:=zH h;clear h;go_enter func59,ntmps59;go_wp2_with fail;refine HIS.o.mono ?_;rintro e w1 ⟨rfl,hw⟩;have hw:=hw.symm;subst hw;clear HIS;go_wp2_with fail;refine HRF.o.mono ?_;rintro e w2 ⟨rfl,hb2⟩;have HB2:=zH hb2;have HL2:=zH (HL.o.later hb2);have HTK:Hid (Calls prog 94 #[.int .i64 0,.slice none 0 0] w2 fun e w'=>∃ b d,e=.returned (.slice b (0+1) d)/\BK B w' b (0+1) d (0::[])/\Below w2.heap.size w2 w'):=aC6 (sp:=0) (by decide) (BK.nil B w2).1 (by omega);clear hb2 HRF;go_wp2_with fail;refine HTK.o.mono ?_;rintro e w3 ⟨kb,kd,rfl,hk3,hb3⟩;have HB3:=zH (HB2.o.trans (hb3.mono HB2.o.size));have HL3:=zH (HL2.o.later hb3);have HTE:=zH (treeEnd_0 (B:=B) w3);clear hk3 hb3 HTK;go_wp2_with fail;refine HTE.o.mono ?_;rintro e w4 ⟨eb,ed,rfl,hk4,hb4⟩;have HB4:=zH (HB3.o.trans (hb4.mono HB3.o.size));have HPS:=zH ((HL3.o.later hb4).pairs0 (la:=kb) (lc:=kd) (ha:=eb) (hc:=ed) (show 1<=64 by decide) (show 1<=64 by decide));clear hk4 hb4 HTE;go_wp2_with fail;refine HPS.o.mono ?_;rintro e w5 ⟨rfl,hb5⟩;have HB5:=zH (HB4.o.trans (hb5.mono HB4.o.size));clear hb5 HPS;go_wp2;go_ret2;exact ⟨rfl,HB5.o⟩
def z51:Array Value:=((List.replicate 17 [Value.int .i64 0,Value.int .i64 0,Value.bool false]).flatten).toArray
theorem z51_sz:z51.size=51:=rfl
theorem z51_one:∀ v∈z51.toList,v.oneCell'=true:=by
 intro v hv;have h:v∈(List.replicate 17 [Value.int .i64 0,Value.int .i64 0,Value.bool false]).flatten:=hv;rw [List.mem_flatten] at h;obtain ⟨l,hl,hv⟩:=h;rw [List.mem_replicate] at hl;rw [hl.2] at hv;simp only [List.mem_cons,List.not_mem_nil,or_false] at hv;rcases hv with rfl | rfl | rfl<;>rfl
theorem z51_at:∀ j,j<=16->z51[j*3]?=some (.int .i64 0)/\z51[j*3+1]?=some (.int .i64 0)/\z51[j*3+2]?=some (.bool false):=by
 intro j hj;have h:j=0\/j=1\/j=2\/j=3\/j=4\/j=5\/j=6\/j=7\/j=8\/j=9\/j=10\/j=11\/j=12\/j=13\/j=14\/j=15\/j=16:=by omega
 rcases h with rfl | rfl | rfl | rfl | rfl | rfl | rfl | rfl | rfl | rfl | rfl | rfl | rfl | rfl | rfl | rfl | rfl<;>exact ⟨rfl,rfl,rfl⟩
theorem aHs:(prog.info? 111).map (·.size)=some 51:=by kernel_rfl
theorem results_lgs {p u:Tmp} (h:fn.results=#[.cell p 111,.tmp u]) (tmps:Array Value) (w:World) (g:Nat) (cs:Array Value)
  (hp:tmps.getD p undef=.pointer (some ⟨g,0,none⟩)) (hg:w.heap[g]?=some (.cells cs 111 (0,0))) (hz:cs.size=51) :
  (results fn tmps).run prog w=.ok (.tuple #[.agg cs,tmps.getD u undef]) w:=by
 have hi:(prog.info? 111).map (·.size)=some cs.size:=by rw [hz];exact aHs
 rw [results_cell_tmp h,hp];simp only [asAddr,Sem.run_pure,Result.andThen_ok,run_loadVar_row w g 111 111 cs (0,0) _ hg underlying111 rfl hi]
theorem Fg0.later (h:Fg0 ls w) (hb:Below w.heap.size w w'):Fg0 ls w':=by
 obtain ⟨cs,h1,h2⟩:=h;exact ⟨cs,(hb.block ls (lO h1)).trans h1,h2⟩
theorem nread_zero [Gd] (h:LS B p q g ls N c u l W w) (hz0:Fg0 ls w) :
  Calls prog 46 #[.pointer (some ⟨ls,0,none⟩)] w fun e w'=>e=.returned (.tuple #[.agg z51,.int .i64 0])/\Below w.heap.size w w':=by
 have hz:∀ ww,(zeroValue 111).run prog ww=.ok (.agg z51) ww:=fun ww=>by kernel_rfl
 have hzz:z51.size=51:=z51_sz;have HB1:=zH (aAc w (.cells z51 111));have HN1:Hid ((w.alloc (.cells z51 111)).heap[w.heap.size]?=some (.cells z51 111 (0,0))):=heap_alloc_new w _;have H1:=zH (h.later HB1.o);have HLE:=zH (LS.len0 (hz0.later HB1.o));have HRA:=zH H1.o.Range0;clear h hz0;go_enter func46,ntmps46;go_wp2_with fail;refine HLE.o.mono ?_;rintro e w9 ⟨rfl,rfl⟩;go_wp2_with fail;refine HRA.o.mono ?_;rintro e w2 ⟨rfl,hb2⟩;have HN2:=zH ((hb2.block _ (lO HN1.o)).trans HN1.o);have HB2:=zH (HB1.o.trans (hb2.mono HB1.o.size));clear hb2 HLE HRA;generalize hn0:w.heap.size=n0 at *
 go_wp2_with fail;go_loopw [21] (fun i wx=>i=.int .i64 0/\wx=w2) (fun _ _=>0)
 case atStart=>exact ⟨rfl,rfl⟩
 case round =>
  obtain ⟨rfl,rfl⟩:=hrel;have HLD:=zH (run_loadVar_row (P:=prog) wr n0 111 111 z51 (0,0) _ HN2.o underlying111 rfl (by rw [hzz];exact aHs));have hst:=aA6 (o:=0) HN2.o (show 0+z51.size<=51 by rw [hzz];decide) z51_one;rw [aB9 (show z51.size=z51.size from rfl)] at hst;have HY:=zH (setRow_heap _ _ _ z51 _ _ HN2.o);have HBF:Hid (Below n0 w (wr.setRow n0 z51)):=below_setRow HB2.o (nR n0) z51;go_wp2_with (refine wpList_load_row rfl (.tmp 2) 111 rfl rfl HLD.o ?_);(try simp only [Exit.inBlock,Exit.then]);exact bodyPost_ret (results_lgs rfl _ _ n0 z51 rfl HY.o hzz) rfl ⟨rfl,by rw [hn0];exact HBF.o⟩
theorem nd_build {base zf:Array Value} (hz:zf=z51) (b1:base.size=53) (b2:base[0]?=some (.pointer (some ⟨ls,0,none⟩))) (b3:base[1]?=some (.pointer (some ⟨rg,0,none⟩))):NDV (Array.foldl (fun (cs:Array Value) (x:Value×Nat)=>cs.setIfInBounds (2+x.2) x.1) base zf.zipIdx 0 51) ls rg (fun _=>(0,0,false)):=by
 obtain ⟨i1,i2⟩:=aC7 (base:=base) (vs:=zf) (o:=2) (n:=51) (by rw [hz];rfl) (by rw [b1];decide);refine ⟨i1.trans b1,?_,?_,fun j hj=>?_⟩
 ·rw [i2,if_neg (by omega)];exact b2
 ·rw [i2,if_neg (by omega)];exact b3
 ·have h:=z51_at j hj;rw [<-hz] at h;refine ⟨?_,?_,?_⟩
  ·rw [i2,if_pos (by omega),show 2+j*3-2=j*3 by omega];exact h.1
  ·rw [i2,if_pos (by omega),show 2+j*3+1-2=j*3+1 by omega];exact h.2.1
  ·rw [i2,if_pos (by omega),show 2+j*3+2-2=j*3+2 by omega];exact h.2.2
theorem nopen_new [Gd] (hs:s=DS.new n) (hD:DI B p s w) (hB:B<=w.heap.size) (hW:Below B W w) (h3:3<=n) (h4:n<=4096) :
  Calls prog 30 #[.pointer (some ⟨p,0,none⟩)] w fun e w'=>∃ q g ls rg nd,e=.returned (.tuple #[.pointer (some ⟨nd,0,none⟩),.int .i64 0])/\NDM B p q g ls rg nd n 0 0 [] (fun _=>(0,0,false)) W w'/\(w.heap.size<=g/\w.heap.size<=ls/\w.heap.size<=nd)/\∃ x,w.heap.size<=x/\RgF B x x x w w'/\w.heap.size<=rg/\B<=rg/\∃ cs,w'.heap[rg]?=some (.cells cs 135 (0,0))/\cs.size=18/\cs[0]?=some (.pointer (some ⟨ls,0,none⟩)):=by
 obtain ⟨zf,hzf⟩:∃ x,x=z51:=⟨_,rfl⟩;have hz:∀ ww,(zeroValue 111).run prog ww=.ok (.agg zf) ww:=fun ww=>by rw [hzf];kernel_rfl
 have hzz:zf.size=51:=by rw [hzf];rfl
 have HZF:=zH hzf;have HZO:Hid (∀ v∈zf.toList,v.oneCell'=true):=by show ∀ v∈zf.toList,_;rw [hzf];exact z51_one
 have HOP:=zH (lopen_new0 hs hD hB hW h3 h4);clear hs hD hB hW hzf;go_enter func30,ntmps30;go_wp2_with fail;refine HOP.o.mono ?_;rintro e w1 ⟨q,g,ls,rfl,h1,hf1,hgl,hr1⟩;have HGL:=zH hgl;have HR1:=zH hr1;clear hgl hr1;have HNR:=zH (new_reg0 h1);have HF1:=zH hf1;clear h1 hf1 HOP;go_wp2_with fail;refine HNR.o.mono ?_;rintro e w2 ⟨rg,rfl,h2,hk2,hrg,hr2⟩;have HRG:Hid (w.heap.size<=rg):=nT (HR1.o 0 0 0).1.size hrg;have HR2:=zH ((HR1.o rg rg rg).trans hr2);clear hrg hr2;obtain ⟨cs1,q1,q2⟩:=HF1.o;have hf2:Fg0 ls w2:=⟨cs1,hk2 _ _ _ _ q1 (by decide),q2⟩;have H2:=zH h2.s;have HV2:=zH h2.v;have HVB:=zH h2.b;have HRD:=zH (nread_zero h2.s hf2);rw [<-HZF.o] at HRD;clear h2 hk2 hf2 q1 q2 HNR HF1;go_wp2_with fail;refine HRD.o.mono ?_;rintro e w3 ⟨rfl,hb3⟩;have HK3:=zH (H2.o.later hb3);have HV3:Hid (∃ cs,w3.heap[rg]?=some (.cells cs 135 (0,0))/\cs.size=18/\cs[0]?=some (.pointer (some ⟨ls,0,none⟩))):=by
  obtain ⟨cs,v1,v2⟩:=HV2.o;exact ⟨cs,(hb3.block rg (lO v1)).trans v1,v2⟩
 clear HV2;have x1:(w3.alloc (.cells zf 111)).heap[w3.heap.size]?=some (.cells zf 111 (0,0)):=heap_alloc_new w3 _;have hst:=aA6 (o:=0) x1 (show 0+zf.size<=zf.size by omega) HZO.o;rw [aB9 (show zf.size=zf.size from rfl)] at hst;have HY:=zH (setRow_heap _ _ _ zf _ _ x1);have HB4:Hid (Below w3.heap.size w3 ((w3.alloc (.cells zf 111)).setRow w3.heap.size zf)):=below_setRow (aAc w3 _) (nR _) zf;have HR4:Hid (RgF B rg rg rg w ((w3.alloc (.cells zf 111)).setRow w3.heap.size zf)):=(HR2.o.trans (RgF.of hb3 H2.o.bw)).trans (RgF.of HB4.o HK3.o.bw);clear hb3 HRD x1;go_upto_region 8 with fail;generalize ((w3.alloc (.cells zf 111)).setRow w3.heap.size zf)=w4 at *
 have HK4:=zH (HK3.o.later HB4.o);have HV4:Hid (∃ cs,w4.heap[rg]?=some (.cells cs 135 (0,0))/\cs.size=18/\cs[0]?=some (.pointer (some ⟨ls,0,none⟩))):=by
  obtain ⟨cs,v1,v2⟩:=HV3.o;exact ⟨cs,(HB4.o.block rg (lO v1)).trans v1,v2⟩
 clear HV3;generalize w3.heap.size=n3 at *
 clear hst;have HLD:=zH (run_loadVar_row (P:=prog) w4 n3 111 111 zf (0,0) _ HY.o underlying111 rfl (by rw [hzz];exact aHs));go_wp2_with (refine wpList_load_row rfl (.tmp 7) 111 rfl rfl HLD.o ?_);go_ret2
 exact ⟨q,g,ls,rg,w4.heap.size,rfl,⟨HK4.o.later (aAc w4 _),HK4.o.bw,_,heap_alloc_new w4 _,nd_build HZF.o rfl rfl rfl⟩,⟨HGL.o.1,HGL.o.2,HR4.o.1.size⟩,rg,HRG.o,HR4.o.trans (RgF.of (aAc w4 _) HK4.o.bw),HRG.o,HVB.o,by
  obtain ⟨cs,v1,v2⟩:=HV4.o
  exact ⟨cs,((aAc w4 _).block rg (lO v1)).trans v1,v2⟩⟩
theorem CHV.two {k1 v1 k2 v2:Value} {i1 i2:It} (h:w.heap[g]?=some (.cells #[.int .i64 15,k1,v1,.bool false,.int .i64 15,k2,v2,.bool false] 152 (0,0))) (a1:KV B w k1 i1.1) (a2:KV B w v1 i1.2) (a3:KV B w k2 i2.1) (a4:KV B w v2 i2.2):CHV B w (.slice (some ⟨g,0,none⟩) 2 2) [i1,i2]:=by
 refine ⟨[(k1,v1),(k2,v2)],g,2,rfl,rfl,h,fun i it x h1 h2=>?_⟩;have hi:i=0\/i=1:=by
  have:=(lL h1);simp at this;omega
 rcases hi with rfl | rfl
 ·simp at h1 h2;subst h1 h2;exact ⟨a1,a2⟩
 ·simp at h1 h2;subst h1 h2;exact ⟨a3,a4⟩
theorem aH6 [Gd] (h:RGM B p q g ls rg N c u l W w) (hR:RL l R) {v b:Nat} {va:Option Addr} {vn vc:Nat} (hvn:vn<=1800) (hv:v<=16) (hb1:1<=b) (hb2:b<9223372036854775808) (hlt:b<(R v).1) :
  Calls prog 52 #[.pointer (some ⟨rg,0,none⟩),.int .i64 (v:Int),.int .i64 (b:Int),.slice va vn vc] w fun e w'=>e=.returned (.agg #[.int .i64 41,.int .i64 (((R v).1:Nat):Int),.bool false,.int .i64 0,.int .i64 0,.slice none 0 0])/\RgU B p q g ls rg N c u l W w w' R 0 l:=by
 have HNW:Hid ((w.alloc (.cells #[.int .i64 0,.int .i64 0,.bool false,.int .i64 0,.int .i64 0,.slice none 0 0] 75)).heap[w.heap.size]?=some (.cells #[.int .i64 0,.int .i64 0,.bool false,.int .i64 0,.int .i64 0,.slice none 0 0] 75 (0,0))):=heap_alloc_new w _;have HBX:=zH (aAc w (.cells #[.int .i64 0,.int .i64 0,.bool false,.int .i64 0,.int .i64 0,.slice none 0 0] 75));have H1:=zH (h.later HBX.o);have HBW:=zH h.bw;have HRR:=zH hR;have HSR:=zH h.s.kx.srt;have HMB:=zH (aDv (v:=(v:Int)) (b:=(b:Int)) (by omega) (by omega) (by omega) (w.alloc (.cells #[.int .i64 0,.int .i64 0,.bool false,.int .i64 0,.int .i64 0,.slice none 0 0] 75)));have HV:=zH hv;have HB1:=zH hb1;have HB2:=zH hb2;have hRb:=hR.b v hv;have HRB:=zH hRb;have HLT:=zH hlt;have x0:(b:Int)<(((R v).1:Nat):Int):=by omega
 have x1:¬ (1800:Int)<(vn:Int):=by omega
 clear h hR hv hb1 hb2 hRb hlt;go_enter func52,ntmps52;go_wp2_with fail;refine HMB.o.mono ?_;rintro e w1 ⟨rfl,rfl⟩;generalize hn0:w.heap.size=n0 at *
 generalize w.alloc (.cells #[.int .i64 0,.int .i64 0,.bool false,.int .i64 0,.int .i64 0,.slice none 0 0] 75)=w1 at *
 have HF1:Hid (RgF B g ls rg w w1):=RgF.of (by rw [hn0];exact HBX.o) (by rw [hn0];exact HBW.o);have HLK:=zH (H1.o.look HRR.o HV.o);clear HMB;go_wp2_with fail;refine HLK.o.mono ?_;rintro e w2 ⟨rv,rfl,hr2,h2,hf2⟩
 replace hf2:=hf2 g ls
 obtain ⟨ty,pv,hform,hmt⟩:=hr2.pr;have HN2:=zH (aBb H1.o hf2 HNW.o (by decide) (by decide) (by decide) (by decide));have H2:=zH h2;have HF2:=zH (HF1.o.trans hf2);have HR2:=zH hr2;subst hform;have m1:=hmt w2;have m2:=cf_pr (.int .i64 ((R v).1:Int)) w2;clear hr2 h2 hf2 HLK;generalize hrp:(R v).1=rp at *
 go_wp2_with fail;refine (aA3 (rp:Int) w2).mono ?_;rintro e w9 ⟨rfl,hw⟩;have hw:=hw.symm;subst hw;go_wp2_with fail;refine (aA3 (rp:Int) w2).mono ?_;rintro e w9 ⟨rfl,hw⟩;have hw:=hw.symm;subst hw;clear m1 m2 hmt;have zc0:w2.cell? ⟨n0,0,none⟩=some (.int .i64 0):=aAa HN2.o;have zf0:w2.frozen? ⟨n0,0,none⟩=false:=aAb HN2.o;have zc1:w2.cell? ⟨n0,1,none⟩=some (.int .i64 0):=aAa HN2.o;have zf1:w2.frozen? ⟨n0,1,none⟩=false:=aAb HN2.o;have zc2:w2.cell? ⟨n0,2,none⟩=some (.bool false):=aAa HN2.o;have zf2:w2.frozen? ⟨n0,2,none⟩=false:=aAb HN2.o;have zc3:w2.cell? ⟨n0,3,none⟩=some (.int .i64 0):=aAa HN2.o;have zf3:w2.frozen? ⟨n0,3,none⟩=false:=aAb HN2.o;have zc4:w2.cell? ⟨n0,4,none⟩=some (.int .i64 0):=aAa HN2.o;have zf4:w2.frozen? ⟨n0,4,none⟩=false:=aAb HN2.o;have zc5:w2.cell? ⟨n0,5,none⟩=some (.slice none 0 0):=aAa HN2.o;have zf5:w2.frozen? ⟨n0,5,none⟩=false:=aAb HN2.o;go_wp2;(try simp only [Exit.inBlock,Exit.then]);refine bodyPost_ret (results_cell_row results52 _ _ n0 _ _ _ _ rfl (set6 HN2.o) underlying75 rfl aA4) rfl ?_;exact ⟨by rw [hrp],c,u,H2.o.an6 HN2.o HBW.o,HRR.o,by omega,by omega,by omega,HF2.o.an6 (by rw [hn0];exact nR _) HBW.o⟩
theorem accept_u [Gd] (hg0:True) (h:RGM B p q g ls rg N c u l W w) (hR:RL l R) {v b:Nat} {va:Option Addr} {vn vc:Nat} {val:List Nat} (hbk:∀ w',FT B w w'->BS w' va vn vc val) (hvn:vn<=1800) (hv:v<=16) (hb1:1<=b) (hb2:b<9223372036854775808) (hlt:(R v).1<=b) (hN:3<=N) (hc9:c<900) (hu:u+29<=N) (hu2:u<=2000) (hl:l.length+2<90) :
  Calls prog 52 #[.pointer (some ⟨rg,0,none⟩),.int .i64 (v:Int),.int .i64 (b:Int),.slice va vn vc] w fun e w'=>e=.returned (.agg #[.int .i64 0,.int .i64 (b:Int),.bool false,.int .i64 0,.int .i64 0,.slice none 0 0])/\RgU B p q g ls rg N c u l W w w' (upR R v (b,b,val)) 2 (apL l [([v],enc b++enc b),([v,0],val)]):=by
 have HNW:Hid ((w.alloc (.cells #[.int .i64 0,.int .i64 0,.bool false,.int .i64 0,.int .i64 0,.slice none 0 0] 75)).heap[w.heap.size]?=some (.cells #[.int .i64 0,.int .i64 0,.bool false,.int .i64 0,.int .i64 0,.slice none 0 0] 75 (0,0))):=heap_alloc_new w _;have HBX:=zH (aAc w (.cells #[.int .i64 0,.int .i64 0,.bool false,.int .i64 0,.int .i64 0,.slice none 0 0] 75));have H1:=zH (h.later HBX.o);have HBW:=zH h.bw;have HRR:=zH hR;have HSR:=zH h.s.kx.srt;have HMB:=zH (aDv (v:=(v:Int)) (b:=(b:Int)) (by omega) (by omega) (by omega) (w.alloc (.cells #[.int .i64 0,.int .i64 0,.bool false,.int .i64 0,.int .i64 0,.slice none 0 0] 75)));have HV:=zH hv;have HB1:=zH hb1;have HB2:=zH hb2;have hRb:=hR.b v hv;have HRB:=zH hRb;have HLT:=zH hlt;have x0:¬ (b:Int)<(((R v).1:Nat):Int):=by omega
 have x1:¬ (1800:Int)<(vn:Int):=by omega
 have HBK1:=zH hbk;have hvl:=(hbk w (FT.refl _ _)).hlen;have HFT0:Hid (FT B w (w.alloc (.cells #[.int .i64 0,.int .i64 0,.bool false,.int .i64 0,.int .i64 0,.slice none 0 0] 75))):=FT.of HBX.o h.bw;have HAL:=zH (apL_len l [([v],enc b++enc b),([v,0],val)]);have HRL2:=zH (hR.acc h.s.kx.srt hv hb1 hb2 (val:=val) (by omega));clear h hR hv hb1 hb2 hRb hlt hbk;go_enter func52,ntmps52;go_wp2_with fail;refine HMB.o.mono ?_;rintro e w1 ⟨rfl,rfl⟩;generalize hn0:w.heap.size=n0 at *
 generalize w.alloc (.cells #[.int .i64 0,.int .i64 0,.bool false,.int .i64 0,.int .i64 0,.slice none 0 0] 75)=w1 at *
 have HF1:Hid (RgF B g ls rg w w1):=RgF.of (by rw [hn0];exact HBX.o) (by rw [hn0];exact HBW.o);have HLK:=zH (H1.o.look HRR.o HV.o);clear HMB;go_wp2_with fail;refine HLK.o.mono ?_;rintro e w2 ⟨rv,rfl,hr2,h2,hf2⟩
 replace hf2:=hf2 g ls
 obtain ⟨ty,pv,hform,hmt⟩:=hr2.pr;have HN2:=zH (aBb H1.o hf2 HNW.o (by decide) (by decide) (by decide) (by decide));have H2:=zH h2;have HF2:=zH (HF1.o.trans hf2);have HR2:=zH hr2;subst hform;have m1:=hmt w2;have m2:=cf_pr (.int .i64 ((R v).1:Int)) w2;have HBK2:=zH (HBK1.o w2 (HFT0.o.trans (H1.o.ft hf2)));clear hr2 h2 hf2 HLK;generalize hrp:(R v).1=rp at *
 go_wp2_with fail;refine (aA3 (rp:Int) w2).mono ?_;rintro e w9 ⟨rfl,hw⟩;have hw:=hw.symm;subst hw;clear m1 m2 hmt;have HCL:=zH (aBv va vn vc val w2 HBK2.o);go_wp2_with fail;refine HCL.o.mono ?_;rintro e w3 ⟨cv,rfl,ho3,hb3⟩;obtain ⟨ca,cc,rfl,hk3⟩:=BK.owned (B:=B) ho3 (by omega) HBK2.o.hbyte;rw [hvl] at hk3 ⊢;have HVB:=zH HBK2.o.hbyte;obtain ⟨x4,hx4⟩:∃ x,x=w3.alloc (.cells #[.int .i64 (b:Int),.int .i64 (b:Int),.slice ca vn cc] 156):=⟨_,rfl⟩;have hb34:Below w3.heap.size w3 x4:=by rw [hx4];exact aAc w3 _
 have hb4:Below w2.heap.size w2 x4.drew:=(hb3.trans (hb34.mono hb3.size)).drew;have HNA:Hid (x4.drew.heap[w3.heap.size]?=some (.cells #[.int .i64 (b:Int),.int .i64 (b:Int),.slice ca vn cc] 156 (0,0))):=by show x4.heap[_]?=_;rw [hx4];exact heap_alloc_new w3 _
 have HN4:=zH ((hb4.block n0 (lO HN2.o)).trans HN2.o);have H4:=zH (H2.o.later hb4);have HF4:=zH (HF2.o.trans (RgF.of hb4 H2.o.bw));have HK4:=zH (hk3.later (hb34.drew) (nT H2.o.bw hb3.size));have hrv:RcV B x4.drew (.iface 156 (.agg #[.int .i64 (b:Int),.int .i64 (b:Int),.slice ca vn cc])) (b,b,val):=Or.inr ⟨by show b≠0;have:=HB1.o;omega,ca,cc,by rw [hvl],by rw [hvl];exact HK4.o⟩;have HBL:=zH (aF4 hrv H4.o.bw (show v<256 by have:=HV.o;omega) HB2.o HB2.o);clear ho3 hk3 hb3 hb34 hb4 hrv HCL;go_upto_region 11 with fail;subst hx4;generalize hn1:w3.heap.size=n1 at *
 generalize w3.alloc (.cells #[.int .i64 (b:Int),.int .i64 (b:Int),.slice ca vn cc] 156)=x4 at *
 have HX0:Hid ((fun wx=>wx.cell? ⟨n1,0,none⟩=some (.int .i64 (b:Int))/\wx.cell? ⟨n1,1,none⟩=some (.int .i64 (b:Int))/\wx.cell? ⟨n1,2,none⟩=some (.slice ca vn cc)) x4.drew):=⟨aAa HNA.o,aAa HNA.o,aAa HNA.o⟩;refine wp_region_noPanic ?_;refine wp_region_held_drew (S:=fun wx=>wx.cell? ⟨n1,0,none⟩=some (.int .i64 (b:Int))/\wx.cell? ⟨n1,1,none⟩=some (.int .i64 (b:Int))/\wx.cell? ⟨n1,2,none⟩=some (.slice ca vn cc)) (by kernel_rfl) HX0.o (fun hHeld=>?_);refine kT 0 44 ?_;refine kT 1 45 ?_;refine kT 2 46 ?_;refine kT 3 47 ?_;refine kT 4 48 ?_;refine kT 5 49 ?_;refine kT 6 50 ?_;refine kT 8 52 ?_;refine kT 9 53 ?_;refine kC 7 ?_;intro K hK;go_simp;refine HBL.o.mono ?_;rintro e w5 ⟨ka,kc,ba,bc,rfl,hk5,hv5,hb5⟩;have hv5:BK B w5 ba (enc b++enc b).length bc (enc b++enc b):=hv5;have hk5:BK B w5 ka 1 kc [v]:=hk5;have HK5:=zH hk5;have HV5:=zH hv5;have HNA5:=zH ((hb5.block n1 (lO HNA.o)).trans HNA.o);have HN5:=zH ((hb5.block n0 (lO HN4.o)).trans HN4.o);have H5:=zH (H4.o.later hb5);have HF5:=zH (HF4.o.trans (RgF.of hb5 H4.o.bw));have HAC:=zH (accepted_any (x:=.int .i64 (b:Int)) (y:=.int .i64 (b:Int)) (HK4.o.later hb5 H4.o.bw) H5.o.bw (show v<256 by have:=HV.o;omega));have HX5:Hid ((fun wx=>wx.cell? ⟨n1,0,none⟩=some (.int .i64 (b:Int))/\wx.cell? ⟨n1,1,none⟩=some (.int .i64 (b:Int))/\wx.cell? ⟨n1,2,none⟩=some (.slice ca vn cc)) w5):=⟨aAa HNA5.o,aAa HNA5.o,aAa HNA5.o⟩;have HEB:=zH hv5.1.hbyte;have HEL:Hid ((enc b++enc b).length<=18):=by
  show _<=_;have h9:=aCn (a:=b) (b:=b) HB2.o HB2.o;omega
 obtain ⟨bn,hbn⟩:∃ bn,(enc b++enc b).length=bn:=⟨_,rfl⟩;have HBN:=zH hbn;rw [hbn];clear hk5 hv5 hb5 hHeld hbn;refine hK.out _ _ HX5.o (fun hHeld=>?_);clear hK K
 try simp only [Act.put,siT,scZ,scS]
 refine kC 10 ?_;intro K hK;go_simp;refine HAC.o.mono ?_;rintro e w6 ⟨ka2,kc2,va2,vc2,rfl,hk6,hv6,hb6⟩;have hk6:BK B w6 ka2 2 kc2 [v,0]:=hk6;rw [hvl] at hv6 ⊢;obtain ⟨x7,hx7⟩:∃ x,x=w6.alloc (.cells #[.int .i64 15,.slice ka 1 kc,.slice ba bn bc,.bool false,.int .i64 15,.slice ka2 2 kc2,.slice va2 vn vc2,.bool false] 152):=⟨_,rfl⟩;have hb67:Below w6.heap.size w6 x7:=by rw [hx7];exact aAc w6 _
 have hb7:Below w5.heap.size w5 x7:=hb6.trans (hb67.mono hb6.size);have hbw6:B<=w6.heap.size:=nT H5.o.bw hb6.size;have hnw:x7.heap[w6.heap.size]?=some (.cells #[.int .i64 15,.slice ka 1 kc,.slice ba bn bc,.bool false,.int .i64 15,.slice ka2 2 kc2,.slice va2 vn vc2,.bool false] 152 (0,0)):=by rw [hx7];exact heap_alloc_new w6 _
 have hcv:CHV B x7 (.slice (some ⟨w6.heap.size,0,none⟩) 2 2) [([v],(enc b++enc b)),([v,0],val)]:=CHV.two hnw ⟨ka,kc,rfl,HK5.o.later hb7 H5.o.bw⟩ ⟨ba,bc,by rw [HBN.o],HV5.o.later hb7 H5.o.bw⟩ ⟨ka2,kc2,rfl,hk6.later hb67 hbw6⟩ ⟨va2,vc2,by rw [hvl],by rw [hvl];exact hv6.later hb67 hbw6⟩;have HNA6:=zH ((hb6.block n1 (lO HNA5.o)).trans HNA5.o);have HNA7:=zH ((hb7.block n1 (lO HNA5.o)).trans HNA5.o);have HN7:=zH ((hb7.block n0 (lO HN5.o)).trans HN5.o);have H7:=zH (H5.o.later hb7);have HF7:=zH (HF5.o.trans (RgF.of hb7 H5.o.bw))
 have HKP:=zH (H7.o.keep (cl:=[([v],(enc b++enc b)),([v,0],val)]) (ty:=156) (pv:=.agg #[.int .i64 (b:Int),.int .i64 (b:Int),.slice ca vn cc]) hg0 HV.o hN hc9 (show u+9*2+11<=N by omega) hu2 (show l.length+2<90 by omega) hcv (by
  intro x hx;have hv16:=HV.o;simp only [List.mem_cons,List.not_mem_nil,or_false] at hx;rcases hx with rfl | rfl
  ·refine ⟨by show 0<1;decide,by show 1<=60;decide,by show (enc b++enc b).length<=1800;have:=HEL.o;omega,fun n hn=>?_,HEB.o⟩;have hn:n=v:=by simpa using hn
   omega
  ·refine ⟨by show 0<2;decide,by show 2<=60;decide,by show val.length<=1800;omega,fun n hn=>?_,HVB.o⟩;have hn:n=v\/n=0:=by simpa using hn
   omega))
 have HX6:Hid ((fun wx=>wx.cell? ⟨n1,0,none⟩=some (.int .i64 (b:Int))/\wx.cell? ⟨n1,1,none⟩=some (.int .i64 (b:Int))/\wx.cell? ⟨n1,2,none⟩=some (.slice ca vn cc)) w6):=⟨aAa HNA6.o,aAa HNA6.o,aAa HNA6.o⟩;have HX7:Hid ((fun wx=>wx.cell? ⟨n1,0,none⟩=some (.int .i64 (b:Int))/\wx.cell? ⟨n1,1,none⟩=some (.int .i64 (b:Int))/\wx.cell? ⟨n1,2,none⟩=some (.slice ca vn cc)) (w6.alloc (.cells #[.int .i64 15,.slice ka 1 kc,.slice ba bn bc,.bool false,.int .i64 15,.slice ka2 2 kc2,.slice va2 vn vc2,.bool false] 152))):=by rw [<-hx7];exact ⟨aAa HNA7.o,aAa HNA7.o,aAa HNA7.o⟩
 rw [hx7] at HKP;clear hk6 hv6 hb6 hb67 hb7 hbw6 hnw hcv hHeld;refine hK.out _ _ HX6.o (fun hHeld=>?_);clear hK K
 try simp only [Act.put,siT,scZ,scS]
 refine kC 11 ?_;intro K hK;go_simp;clear hHeld;refine hK.out _ _ HX7.o (fun hHeld=>?_);clear hK K
 try simp only [Act.put,siT,scZ,scS]
 refine kC 12 ?_;intro K hK;go_simp;refine HKP.o.mono ?_;rintro e w8 ⟨rfl,h8,hf8⟩;rw [<-hx7] at hf8;have HNA8:=zH (aBb H7.o hf8 HNA7.o (by decide) (by decide) (by decide) (by decide));have HN8:=zH (aBb H7.o hf8 HN7.o (by decide) (by decide) (by decide) (by decide));have H8:=zH h8;have HF8:=zH (HF7.o.trans hf8);have HX8:Hid ((fun wx=>wx.cell? ⟨n1,0,none⟩=some (.int .i64 (b:Int))/\wx.cell? ⟨n1,1,none⟩=some (.int .i64 (b:Int))/\wx.cell? ⟨n1,2,none⟩=some (.slice ca vn cc)) w8):=⟨aAa HNA8.o,aAa HNA8.o,aAa HNA8.o⟩;clear h8 hf8 hHeld;refine hK.out _ _ HX8.o (fun hHeld=>?_);clear hK K
 try simp only [Act.put,siT,scZ,scS]
 refine kT 13 12 ?_;refine wpAnyH_done (by kernel_rfl) ?_ _;refine NoPanic.normal ?_;clear hHeld;have zc0:w8.cell? ⟨n0,0,none⟩=some (.int .i64 0):=aAa HN8.o;have zf0:w8.frozen? ⟨n0,0,none⟩=false:=aAb HN8.o;have zc1:w8.cell? ⟨n0,1,none⟩=some (.int .i64 0):=aAa HN8.o;have zf1:w8.frozen? ⟨n0,1,none⟩=false:=aAb HN8.o;have zc2:w8.cell? ⟨n0,2,none⟩=some (.bool false):=aAa HN8.o;have zf2:w8.frozen? ⟨n0,2,none⟩=false:=aAb HN8.o;have zc3:w8.cell? ⟨n0,3,none⟩=some (.int .i64 0):=aAa HN8.o;have zf3:w8.frozen? ⟨n0,3,none⟩=false:=aAb HN8.o;have zc4:w8.cell? ⟨n0,4,none⟩=some (.int .i64 0):=aAa HN8.o;have zf4:w8.frozen? ⟨n0,4,none⟩=false:=aAb HN8.o;have zc5:w8.cell? ⟨n0,5,none⟩=some (.slice none 0 0):=aAa HN8.o;have zf5:w8.frozen? ⟨n0,5,none⟩=false:=aAb HN8.o;go_wp2;(try simp only [Exit.inBlock,Exit.then]);refine bodyPost_ret (results_cell_row results52 _ _ n0 _ _ _ _ rfl (set6 HN8.o) underlying75 rfl aA4) rfl ?_;have hal:=HAL.o;have hal:(apL l [([v],(enc b++enc b)),([v,0],val)]).length<=l.length+2:=hal;exact ⟨rfl,c+1,_,H8.o.an6 HN8.o HBW.o,HRL2.o,by omega,by omega,by omega,HF8.o.an6 (by rw [hn0];exact nR _) HBW.o⟩
structure Sg where
 lg:Int
 st:Int
 en:Int
 ow:Int
structure CH (l:List Sg):Prop where
 n1:1<=l.length
 n2:l.length<=17
 s0:∀ s,l[0]?=some s->s.st=0
 el:∀ (i:Nat) s,l[i]?=some s->s.lg=(i:Int)/\0<=s.ow/\s.ow<4/\0<=s.st/\s.st<=4611686018427387904
 nx:∀ (i:Nat) s t,l[i]?=some s->l[i+1]?=some t->s.en=t.st/\s.st<=s.en/\s.en<=4611686018427387904
 la:∀ s,l[l.length-1]?=some s->s.en=-1
def stA (l:List Sg):Nat->Int
 | 0=>0
 | j+1=>(l[j]?.map Sg.en).getD 0
theorem aE5 {l:List Sg} {s:Sg} (h:l[j]?=some s):stA l (j+1)=s.en:=by
 show (l[j]?.map Sg.en).getD 0=_;rw [h];rfl
theorem CH.st {l:List Sg} (h:CH l) {j:Nat} {s:Sg} (hs:l[j]?=some s):s.st=stA l j:=by
 cases j with
 | zero=>exact h.s0 s hs
 | succ j =>
  obtain ⟨t,ht⟩:∃ t,l[j]?=some t:=⟨_,gE (by have:=(lL hs);omega)⟩;rw [aE5 ht];exact ((h.nx j t s ht hs).1).symm
theorem CH.mid {l:List Sg} (h:CH l) {j:Nat} {s:Sg} (hs:l[j]?=some s) (hj:j+1<l.length):s.st<=s.en/\s.en<=4611686018427387904/\0<=s.en:=by
 obtain ⟨t,ht⟩:∃ t,l[j+1]?=some t:=⟨_,gE hj⟩;have h1:=h.nx j s t hs ht;have h2:=h.el j s hs;omega
theorem CH.lst {l:List Sg} (h:CH l) {j:Nat} {s:Sg} (hs:l[j]?=some s) (hj:¬ j+1<l.length):s.en=-1:=by
 have h1:=(lL hs);have h2:j=l.length-1:=by omega
 subst h2;exact h.la s hs
theorem CH.stl {l:List Sg} (h:CH l):stA l l.length=-1:=by
 obtain ⟨n,hn⟩:∃ n,l.length=n+1:=⟨l.length-1,by have:=h.n1;omega⟩;obtain ⟨s,hs⟩:∃ s,l[n]?=some s:=⟨_,gE (by omega)⟩;rw [hn,aE5 hs];exact h.lst hs (by omega)
def SGB (w:World) (g:Nat) (cs:Array Value) (l:List Sg):Prop:=w.heap[g]?=some (.cells cs 54 (0,0))/\∀ (i:Nat) s,l[i]?=some s->cs[i*4]?=some (.int .i64 s.lg)/\cs[i*4+1]?=some (.int .i64 s.st)/\cs[i*4+2]?=some (.int .i64 s.en)/\cs[i*4+3]?=some (.int .i64 s.ow)
def SGV (w:World) (v:Value) (l:List Sg):Prop:=∃ g c cs,v=.slice (some ⟨g,0,none⟩) l.length c/\l.length<=c/\c<=9223372036854775807/\SGB w g cs l
theorem SGV.stay {w w':World} {v:Value} {l:List Sg} (h:SGV w v l) (hs:∀ (k:Nat) (cs:Array Value),w.heap[k]?=some (.cells cs 54 (0,0))->w'.heap[k]?=some (.cells cs 54 (0,0))):SGV w' v l:=by
 obtain ⟨g,c,cs,h1,h2,h3,h4,h5⟩:=h;exact ⟨g,c,cs,h1,h2,h3,hs g cs h4,h5⟩
theorem SGV.later {l:List Sg} (h:SGV w v l) (hb:Below w.heap.size w w'):SGV w' v l:=h.stay fun k cs e=>(hb.block k (lO e)).trans e
theorem aEv (x:Int) (w:World) (h0:0<=x) (h1:x<4):Calls prog 32 #[.int .i64 x] w fun e w'=>e=.returned (.bool true)/\w'=w:=by
 go_enter func32,ntmps32;go_wp2;go_ret;exact ⟨rfl,rfl⟩
theorem aHg {l:List Sg} (h:SGV w v l) (hc:CH l):Calls prog 24 #[v] w fun e w'=>e=.returned (.bool true)/\Below w.heap.size w w':=by
 obtain ⟨g,c,cs,rfl,h1,h2,h3,h4⟩:=h;have HC:=zH hc;have H3:=zH h3;have H4:=zH h4;have HE:=zH hc.stl;have hn1:=hc.n1;have hn2:=hc.n2;generalize hn:l.length=n at *
 have d1:decide ((n:Int)<1)=false:=decide_eq_false (by omega);have d2:decide ((17:Int)<(n:Int))=false:=decide_eq_false (by omega);clear hc h3 h4;go_enter func24,ntmps24;go_wp2_with fail;go_loopw [3,16] (fun s3 s16 wx=>∃ j:Nat,j<=n/\s3=.int .i64 (stA l j)/\s16=.int .i64 (j:Int)/\Below w.heap.size w wx) (fun _ i _=>n-(intOf i).toNat)
 case atStart=>exact ⟨0,by omega,rfl,rfl,Below.refl _ _⟩
 case round =>
  obtain ⟨j,hj,rfl,rfl,hbx⟩:=hrel;have HBX:=zH hbx;clear hbx;by_cases hjn:j<n
  ·have i1:(j:Int)<(n:Int):=by omega
   have i2:(0:Int)<=(j:Int):=by omega
   have i3:(j:Int)<1000:=by omega
   have i4:(n:Int)<1000:=by omega
   obtain ⟨s,hs⟩:∃ s,l[j]?=some s:=⟨_,gE (by omega)⟩;obtain ⟨c0,c1,c2,c3⟩:=H4.o j s hs;have hg:=(HBX.o.block g (lO H3.o)).trans H3.o;obtain ⟨slg,sst,sen,sow⟩:=s;have e2:=HC.o.el j _ hs;have e1:sst=stA l j:=HC.o.st hs;have HES:Hid (stA l (j+1)=sen):=aE5 hs;obtain ⟨f1,f2,f3,f4,f5⟩:=e2
   replace f1:slg=(j:Int):=f1
   replace f2:0<=sow:=f2
   replace f3:sow<4:=f3
   subst f1;rw [<-e1];have a0:wr.cell? ⟨g,j*4,none⟩=some (.int .i64 (j:Int)):=(aAa hg).trans c0;have a1:wr.cell? ⟨g,j*4+1,none⟩=some (.int .i64 sst):=(aAa hg).trans c1;have a2:wr.cell? ⟨g,j*4+2,none⟩=some (.int .i64 sen):=(aAa hg).trans c2;have a3:wr.cell? ⟨g,j*4+3,none⟩=some (.int .i64 sow):=(aAa hg).trans c3;have HB3:Hid (Below w.heap.size w (wr.alloc (.cells #[.int .i64 (j:Int),.int .i64 sst,.int .i64 sen,.int .i64 sow] 54))):=HBX.o.trans ((aAc wr _).mono HBX.o.size);have HAN:Hid ((wr.alloc (.cells #[.int .i64 (j:Int),.int .i64 sst,.int .i64 sen,.int .i64 sow] 54)).heap[wr.heap.size]?=some (.cells #[.int .i64 (j:Int),.int .i64 sst,.int .i64 sen,.int .i64 sow] 54 (0,0))):=heap_alloc_new wr _;have HMID:Hid (j+1<n->sst<=sen/\sen<=4611686018427387904):=fun h9=>by
    have:=HC.o.mid hs (by omega);exact ⟨this.1,this.2.1⟩
   clear c0 c1 c2 c3 hg e1 f4 f5;go_upto_region 7 with fail;clear a0 a1 a2 a3;generalize wr.alloc (.cells #[.int .i64 (j:Int),.int .i64 sst,.int .i64 sen,.int .i64 sow] 54)=x3 at *
   generalize wr.heap.size=n3 at *
   have y0:x3.cell? ⟨n3,0,none⟩=some (.int .i64 (j:Int)):=aAa HAN.o;have y1:x3.cell? ⟨n3,1,none⟩=some (.int .i64 sst):=aAa HAN.o;have y2:x3.cell? ⟨n3,2,none⟩=some (.int .i64 sen):=aAa HAN.o;have y3:x3.cell? ⟨n3,3,none⟩=some (.int .i64 sow):=aAa HAN.o;have HIS:=zH (aEv sow x3 f2 f3);clear f2 f3;go_wp2_with fail;refine HIS.o.mono ?_;rintro e w4 ⟨rfl,hw⟩;have hw:=hw.symm;subst hw;clear HIS;by_cases hl:j+1<n
   ·obtain ⟨m1,m2⟩:=HMID.o hl;have k1:(j:Int)<(n:Int)-1:=by omega
    have k2:¬ sen<sst:=by omega
    have k3:¬ (4611686018427387904:Int)<sen:=by omega
    clear m1 m2;go_wp2_with fail;go_roundw
    case rel=>exact ⟨j+1,by omega,by rw [HES.o],by go_num,HB3.o⟩
    case measure=>simp [intOf];omega
   ·have k1:¬ (j:Int)<(n:Int)-1:=by omega
    go_wp2_with fail;go_roundw
    case rel=>exact ⟨j+1,by omega,by rw [HES.o],by go_num,HB3.o⟩
    case measure=>simp [intOf];omega
  ·have i1:¬ (j:Int)<(n:Int):=by omega
   have e:j=n:=by omega
   subst e;rw [HE.o];go_wp2;go_ret;exact ⟨rfl,HBX.o⟩
def enS (s:Sg):List Nat:=enc s.ow.toNat++(if s.en=-1 then [] else enc (s.en-s.st).toNat)
def enB (l:List Sg):List Nat:=l.flatMap enS
def enC (l:List Sg):List Nat:=enc l.length++enB l
theorem aFb {l:List Sg} {s:Sg} (h:l[j]?=some s):enB (l.take (j+1))=enB (l.take j)++enS s:=by
 unfold enB;rw [List.take_add_one,h,List.flatMap_append];simp
theorem aH1 (h:n<9223372036854775808):(enc n).length<=9:=by
 rw [aAj n (aAi n h).1];exact (aAi n h).2.1
theorem CH.num {l:List Sg} (h:CH l) {j:Nat} {s:Sg} (hs:l[j]?=some s):s.ow.toNat<9223372036854775808/\(s.en-s.st).toNat<9223372036854775808:=by
 have h1:=h.el j s hs;by_cases hj:j+1<l.length
 ·have h2:=h.mid hs hj;omega
 ·have h2:=h.lst hs hj;omega
theorem CH.len {l:List Sg} (h:CH l) (j:Nat):(enB (l.take j)).length<=18*j:=by
 induction j with
 | zero=>simp [enB]
 | succ j ih =>
  by_cases hj:j<l.length
  ·obtain ⟨s,hs⟩:∃ s,l[j]?=some s:=⟨_,gE hj⟩;rw [aFb hs,lA];have h1:=h.num hs;have h2:=aH1 h1.1;have h3:=aH1 h1.2;have h4:(enS s).length<=18:=by
    unfold enS;rw [lA];split
    ·simp;omega
    ·omega
   omega
  ·rw [List.take_of_length_le (by omega)] at ih ⊢;omega
theorem CH.all {l:List Sg} (h:CH l):(enC l).length<=315:=by
 have h1:=h.len l.length;rw [List.take_length] at h1;have h2:=aH1 (n:=l.length) (by have:=h.n2;omega);unfold enC;rw [lA];have:=h.n2;omega
theorem enB_byte (l:List Sg):∀ x∈enB l,x<256:=by
 intro x hx;unfold enB at hx;obtain ⟨s,_,hx⟩:=List.mem_flatMap.1 hx;unfold enS at hx;rcases List.mem_append.1 hx with hx | hx
 ·exact aAw _ x hx
 ·split at hx
  ·simp at hx
  ·exact aAw _ x hx
theorem enC_byte (l:List Sg):∀ x∈enC l,x<256:=fun x hx=>by
 rcases List.mem_append.1 hx with hx | hx
 ·exact aAw _ x hx
 ·exact enB_byte l x hx
theorem encode_ok {l:List Sg} (h:SGV w v l) (hc:CH l):Calls prog 18 #[v] w fun e w'=>(∃ a c,e=.returned (.tuple #[.slice a (enC l).length c,.int .i64 0])/\BK B w' a (enC l).length c (enC l))/\Below w.heap.size w w':=by
 have HRI:=zH (aHg h hc);obtain ⟨g,c,cs,rfl,h1,h2,h3,h4⟩:=h;have HC:=zH hc;have H3:=zH h3;have H4:=zH h4;have hn1:=hc.n1;have hn2:=hc.n2;have HAL:=zH hc.all;have HCC:Hid (enC l=enc l.length++enB (l.take l.length)):=by show _=_;rw [List.take_length];rfl
 generalize hn:l.length=n at *
 clear hc h3 h4;go_enter func18,ntmps18;go_wp2_with fail;refine HRI.o.mono ?_;rintro e w1 ⟨rfl,hb1⟩;have HB1:=zH hb1;have HU:=zH (aA9 n w1 (by omega));clear hb1 HRI;go_wp2_with fail;refine HU.o.mono ?_;rintro e w2 ⟨g2,c2,rfl,ho2,hb2⟩;have HEL:=zH (aAj n (aAi n (by omega)).1);have HO2:Hid (w2.ownsRow w.heap.size 5 1 (.slice (some ⟨g2,0,none⟩) (grp n) c2) (grp n) (cellsOf (enc n))):=aBh ho2 HB1.o.size;have HB2:Hid (Below w.heap.size w w2):=HB1.o.trans (hb2.mono HB1.o.size);clear ho2 hb2 HU HB1;go_wp2_with fail;go_loopw [4,15] (fun s4 s15 wx=>∃ j:Nat,j<=n/\s15=.int .i64 (j:Int)/\wx.ownsRow w.heap.size 5 1 s4 (enc n++enB (l.take j)).length (cellsOf (enc n++enB (l.take j)))/\Below w.heap.size w wx) (fun _ i _=>n-(intOf i).toNat)
 case atStart =>
  refine ⟨0,by omega,rfl,?_,HB2.o⟩;have e9:enc n++enB (l.take 0)=enc n:=by simp [enB]
  rw [e9,HEL.o];exact HO2.o
 case round =>
  obtain ⟨j,hj,rfl,hO,hbx⟩:=hrel;have HO:=zH hO;have HBX:=zH hbx;obtain ⟨va,vc,rfl⟩:=aAg hO;clear hO hbx HO2 HB2;by_cases hjn:j<n
  ·have i1:(j:Int)<(n:Int):=by omega
   have i2:(0:Int)<=(j:Int):=by omega
   have i3:(j:Int)<1000:=by omega
   obtain ⟨s,hs⟩:∃ s,l[j]?=some s:=⟨_,gE (by omega)⟩;obtain ⟨c0,c1,c2,c3⟩:=H4.o j s hs;have hg:=(HBX.o.block g (lO H3.o)).trans H3.o;have hnum:=HC.o.num hs;have hel:=HC.o.el j s hs;have HSU:=zH (aFb hs);have HLE:=zH (HC.o.len j);have HMID:Hid (j+1<n->s.st<=s.en/\s.en<=4611686018427387904/\0<=s.en):=fun h9=>HC.o.mid hs (by omega)
   have HLST:Hid (¬ j+1<n->s.en=-1):=fun h9=>HC.o.lst hs (by omega)
   have HENS:Hid (enS s=enc s.ow.toNat++(if s.en=-1 then [] else enc (s.en-s.st).toNat)):=rfl;obtain ⟨slg,sst,sen,sow⟩:=s;obtain ⟨_,f2,f3,f4,f5⟩:=hel;obtain ⟨on,hon⟩:=Int.eq_ofNat_of_zero_le f2
   replace hon:sow=(on:Int):=hon
   subst hon;have a0:wr.cell? ⟨g,j*4,none⟩=some (.int .i64 slg):=(aAa hg).trans c0;have a1:wr.cell? ⟨g,j*4+1,none⟩=some (.int .i64 sst):=(aAa hg).trans c1;have a2:wr.cell? ⟨g,j*4+2,none⟩=some (.int .i64 sen):=(aAa hg).trans c2;have a3:wr.cell? ⟨g,j*4+3,none⟩=some (.int .i64 (on:Int)):=(aAa hg).trans c3;have HBA:=zH (aAc wr (.cells #[.int .i64 slg,.int .i64 sst,.int .i64 sen,.int .i64 (on:Int)] 54));have HB3:Hid (Below w.heap.size w (wr.alloc (.cells #[.int .i64 slg,.int .i64 sst,.int .i64 sen,.int .i64 (on:Int)] 54))):=HBX.o.trans (HBA.o.mono HBX.o.size);have HAN:Hid ((wr.alloc (.cells #[.int .i64 slg,.int .i64 sst,.int .i64 sen,.int .i64 (on:Int)] 54)).heap[wr.heap.size]?=some (.cells #[.int .i64 slg,.int .i64 sst,.int .i64 sen,.int .i64 (on:Int)] 54 (0,0))):=heap_alloc_new wr _;have HO3:=zH (aAh HO.o HBA.o);have HNU:Hid (on<9223372036854775808/\(sen-sst).toNat<9223372036854775808):=⟨by have h9:((on:Int)).toNat<9223372036854775808:=hnum.1;omega,hnum.2⟩;have HF4:Hid (0<=sst/\sst<=4611686018427387904):=⟨f4,f5⟩;clear c0 c1 c2 c3 hg f2 f3 f4 f5 hnum hs HBX HO;generalize hX:enc n++enB (l.take j)=X at *
   have HXL:Hid (X.length<=315):=by show X.length<=315;rw [<-hX,lA];have:=HLE.o;have:=aH1 (n:=n) (by omega);omega
   generalize hxl:X.length=xl at *
   go_upto_region 7 with fail;clear a0 a1 a2 a3;generalize wr.alloc (.cells #[.int .i64 slg,.int .i64 sst,.int .i64 sen,.int .i64 (on:Int)] 54)=x3 at *
   generalize wr.heap.size=n3 at *
   have y3:x3.cell? ⟨n3,3,none⟩=some (.int .i64 (on:Int)):=aAa HAN.o;have HU1:=zH (aA9 on x3 HNU.o.1);go_wp2_with fail;refine HU1.o.mono ?_;rintro e w5 ⟨g5,c5,rfl,ho5,hb5⟩;have HO5:=zH (aAh HO3.o hb5);have HGX:=zH (aAi on HNU.o.1).2.1;have HEX:=zH (aAj on (aAi on HNU.o.1).1);have HBS5:=zH (BS.ofOwns ho5 (by have:=HGX.o;omega) (aAw on));have HB5:=zH (HB3.o.trans (hb5.mono HB3.o.size));have HA5:Hid (w5.heap[n3]?=_):=(hb5.block n3 (lO HAN.o)).trans HAN.o;clear ho5 hb5 HU1 HO3 HB3 HAN HBA y3;by_cases hl:j+1<n
   ·obtain ⟨m1,m2,m3⟩:=HMID.o hl
    replace m1:sst<=sen:=m1
    replace m2:sen<=4611686018427387904:=m2
    replace m3:0<=sen:=m3
    obtain ⟨dn,hdn⟩:=Int.eq_ofNat_of_zero_le (show 0<=sen-sst by omega);have k1:¬ sen=-1:=by omega
    have k2:IntKind.i64.wrap (sen-sst)=(dn:Int):=by rw [wrap_small _ (by have:=HF4.o;omega) (by have:=HF4.o;omega)];exact hdn
    have HDN:Hid (dn<9223372036854775808):=by show dn<_;have:=HF4.o;omega
    have HEN:Hid (enS ⟨slg,sst,sen,(on:Int)⟩=enc on++enc dn):=by
     show _=_;rw [HENS.o,if_neg (show ¬ sen=-1 from k1)];show enc ((on:Int)).toNat++enc (sen-sst).toNat=_;rw [hdn];rfl
    clear m1 m2 m3 hdn;go_wp2_with (at_builtin;refine aA7 rfl (.tmp 19) (.tmp 22) rfl w.heap.size _ xl X rfl HO5.o (some ⟨g5,0,none⟩) (grp on) c5 (enc on) rfl HBS5.o (by have:=HGX.o;have:=HXL.o;omega) w HB5.o HB5.o.size ?_;intro v6 w6 ho6 hb6 hs6 hk6;obtain ⟨a6,c6,rfl⟩:=aAg ho6;have HO6:=zH ho6;have HB6:=zH hb6;have HA6:Hid (w6.heap[n3]?=_):=hk6 _ _ _ _ HA5.o (by decide);have y1:w6.cell? ⟨n3,1,none⟩=some (.int .i64 sst):=aAa HA6.o;have y2:w6.cell? ⟨n3,2,none⟩=some (.int .i64 sen):=aAa HA6.o;clear ho6 hb6 hs6 hk6);have HU2:=zH (aA9 dn w6 HDN.o);refine HU2.o.mono ?_;rintro e w7 ⟨g7,c7,rfl,ho7,hb7⟩;have HO7:=zH (aAh HO6.o hb7);have HG7:=zH (aAi dn HDN.o).2.1;have HE7:=zH (aAj dn (aAi dn HDN.o).1);have HBS7:=zH (BS.ofOwns ho7 (by have:=HG7.o;omega) (aAw dn));have HB7:=zH (HB6.o.trans (hb7.mono HB6.o.size));clear ho7 hb7 HU2 y1 y2 HA6 HO6 HB6;go_wp2_with (at_builtin;refine aA7 rfl (.tmp 27) (.tmp 33) rfl w.heap.size _ (xl+grp on) (X++enc on) rfl HO7.o (some ⟨g7,0,none⟩) (grp dn) c7 (enc dn) rfl HBS7.o (by have:=HGX.o;have:=HG7.o;have:=HXL.o;omega) w HB7.o HB7.o.size ?_;intro v8 w8 ho8 hb8 hs8 hk8;obtain ⟨a8,c8,rfl⟩:=aAg ho8;have HO8:=zH ho8;have HB8:=zH hb8;clear ho8 hb8 hs8 hk8);go_roundw
    case rel =>
     refine ⟨j+1,by omega,by go_num,?_,HB8.o⟩;rw [HSU.o,<-List.append_assoc,hX,HEN.o,<-List.append_assoc,lA,lA,HEX.o,HE7.o,hxl];exact HO8.o
    case measure=>simp [intOf];omega
   ·have hse:sen=-1:=HLST.o hl;subst hse;have HEN:Hid (enS ⟨slg,sst,-1,(on:Int)⟩=enc on):=by
     show _=_;rw [HENS.o,if_pos rfl,List.append_nil];rfl
    go_wp2_with (at_builtin;refine aA7 rfl (.tmp 19) (.tmp 22) rfl w.heap.size _ xl X rfl HO5.o (some ⟨g5,0,none⟩) (grp on) c5 (enc on) rfl HBS5.o (by have:=HGX.o;have:=HXL.o;omega) w HB5.o HB5.o.size ?_;intro v6 w6 ho6 hb6 hs6 hk6;obtain ⟨a6,c6,rfl⟩:=aAg ho6;have HO6:=zH ho6;have HB6:=zH hb6;have HA6:Hid (w6.heap[n3]?=_):=hk6 _ _ _ _ HA5.o (by decide);have y1:w6.cell? ⟨n3,1,none⟩=some (.int .i64 sst):=aAa HA6.o;have y2:w6.cell? ⟨n3,2,none⟩=some (.int .i64 (-1)):=aAa HA6.o;clear ho6 hb6 hs6 hk6);go_roundw
    case rel =>
     refine ⟨j+1,by omega,by go_num,?_,HB6.o⟩;rw [HSU.o,<-List.append_assoc,hX,HEN.o,lA,HEX.o,hxl];exact HO6.o
    case measure=>simp [intOf];omega
  ·have i1:¬ (j:Int)<(n:Int):=by omega
   have e:j=n:=by omega
   subst e;rw [<-HCC.o] at HO ⊢;obtain ⟨a,cap,e1,e2⟩:=BK.owned (B:=B) HO.o (by have:=HAL.o;omega) (enC_byte l);simp only [Value.slice.injEq] at e1;obtain ⟨rfl,e9,rfl⟩:=e1;clear e9;have HE2:=zH e2;clear e2;generalize hxx:(enC l).length=xl at *
   have HXX:=zH hxx;clear hxx;go_wp2;go_ret2;rw [HXX.o];exact ⟨⟨_,_,rfl,HE2.o⟩,HBX.o⟩
end Go.Proofs.YtdfjjhlhnfindaaGreat
