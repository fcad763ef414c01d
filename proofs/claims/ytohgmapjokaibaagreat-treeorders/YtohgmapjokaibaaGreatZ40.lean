import Derived.Test.YtohgmapjokaibaaGreatZ39
set_option maxRecDepth 100000
set_option maxHeartbeats 16000000
set_option linter.unusedVariables false
namespace Go.Proofs.YtohgmapjokaibaaGreat
open Go.RowKit
def ChZ [Gd] (B p q g:Nat) (s:DS) (t:PS) (w:World) (now last:StT) (sv:Value) (gone:List Nat) (w':World):Prop :=
 ∃ cs',w'.heap[g]?=some (.cells cs' 60 (0,0))∧TV cs' p q ⟨0,0,0,gone.foldl drP now.pgs⟩ last sv (cntF t.st:Nat) false∧ST B p q s t w'∧ChF B g w w'
theorem change1_no [Gd] {B p q g tb hb hf ty1 ty2:Nat} {s:DS} {t:PS} {w:World} {cs:Array Value} {now last:StT} {sv:Value} {left:Int} {cap:Array Value} (hg0:True) (hST:ST B p q s t w) (hB:B≤w.heap.size) (hgB:B≤g) (hg:w.heap[g]?=some (.cells cs 60 (0,0))) (hT:TV cs p q now last sv left false)
  (htb:w.heap[tb]?=some (.cells #[.pointer (some ⟨g,0,none⟩)] ty1 (0,0))) (hhb:w.heap[hb]?=some (.cells #[.func (Fn.func hf) #[] cap] ty2 (0,0))) (hty1:NT ty1) (hcf:∀ (v:Value) (ww:World),(callFunc hf (#[v]++cap)).run Tryz.prog ww=.ok (.enter hf (#[v]++cap)) ww)
  (hHow:∀ (w1:World) (px:Nat),B≤px→Below w.heap.size w w1→EV B w1 px q (.iface 89 (.int .i64 now.root)) now.depth now.keys []→ST B p q s t w1→B≤w1.heap.size→Calls Tryz.prog hf (#[.pointer (some ⟨px,0,none⟩)]++cap) w1 fun e' w'=>e'=.returned (.bool false)∧FE B w1 w') :
  Calls Tryz.prog 37 #[.pointer (some ⟨tb,0,none⟩),.pointer (some ⟨hb,0,none⟩)] w fun e' w'=>e'=.returned (.int .i64 0)∧FE B w w':=by
 have r1:w.cell? ⟨g,1,none⟩=some (.pointer (some ⟨q,0,none⟩)):=(aAa hg).trans hT.c1
 have r2:w.cell? ⟨g,2,none⟩=some (.int .i64 now.root):=(aAa hg).trans hT.n0
 have r3:w.cell? ⟨g,3,none⟩=some (.int .i64 now.depth):=(aAa hg).trans hT.n1
 have r4:w.cell? ⟨g,4,none⟩=some (.int .i64 now.keys):=(aAa hg).trans hT.n2
 have r5:w.cell? ⟨tb,0,none⟩=some (.pointer (some ⟨g,0,none⟩)):=aAa htb
 have r6:w.cell? ⟨hb,0,none⟩=some (.func (Fn.func hf) #[] cap):=aAa hhb
 have HG:=hide hg
 have HT:=hide hT
 have HST:=hide hST
 have HTB:=hide htb
 have HHW:=hide hHow
 have HNT:=hide hty1
 clear hg hT hST htb hhb hHow hty1
 go_enter Tryz.func37,Tryz.ntmps37
 go_upto_region 1 with fail
 have HY0:Hid ((fun wx=>wx.cell? ⟨tb,0,none⟩=some (.pointer (some ⟨g,0,none⟩))∧wx.cell? ⟨g,1,none⟩=some (.pointer (some ⟨q,0,none⟩))∧wx.cell? ⟨g,2,none⟩=some (.int .i64 now.root)∧wx.cell? ⟨g,3,none⟩=some (.int .i64 now.depth)∧wx.cell? ⟨g,4,none⟩=some (.int .i64 now.keys)) w.drew):=⟨r5,r1,r2,r3,r4⟩
 have HBQ:=hide ((aAb w (.cells #[.pointer (some ⟨q,0,none⟩),.iface 89 (.int .i64 now.root),.int .i64 now.depth,.int .i64 now.keys,.slice none 0 0,.slice none 0 0] 94)).drew)
 have HX1:Hid ((w.alloc (.cells #[.pointer (some ⟨q,0,none⟩),.iface 89 (.int .i64 now.root),.int .i64 now.depth,.int .i64 now.keys,.slice none 0 0,.slice none 0 0] 94)).drew.heap[w.heap.size]?=some (.cells #[.pointer (some ⟨q,0,none⟩),.iface 89 (.int .i64 now.root),.int .i64 now.depth,.int .i64 now.keys,.slice none 0 0,.slice none 0 0] 94 (0,0))):=heap_alloc_new w _
 have HY1:Hid ((fun wx=>wx.cell? ⟨tb,0,none⟩=some (.pointer (some ⟨g,0,none⟩))∧wx.cell? ⟨g,1,none⟩=some (.pointer (some ⟨q,0,none⟩))∧wx.cell? ⟨g,2,none⟩=some (.int .i64 now.root)∧wx.cell? ⟨g,3,none⟩=some (.int .i64 now.depth)∧wx.cell? ⟨g,4,none⟩=some (.int .i64 now.keys)) ((w.alloc (.cells #[.pointer (some ⟨q,0,none⟩),.iface 89 (.int .i64 now.root),.int .i64 now.depth,.int .i64 now.keys,.slice none 0 0,.slice none 0 0] 94)).drew)):=by
  have k5:=block_lt_of_cell r5
  have k1:=block_lt_of_cell r1
  exact ⟨(HBQ.out.cell (p:=⟨tb,0,none⟩) k5).trans r5,(HBQ.out.cell (p:=⟨g,1,none⟩) k1).trans r1,(HBQ.out.cell (p:=⟨g,2,none⟩) k1).trans r2,(HBQ.out.cell (p:=⟨g,3,none⟩) k1).trans r3,(HBQ.out.cell (p:=⟨g,4,none⟩) k1).trans r4⟩
 have HR5:=hide r5
 have HR6:=hide r6
 clear r1 r2 r3 r4 r5 r6
 refine wp_region_noPanic ?_
 refine wp_region_held_drew (S:=fun wx=>wx.cell? ⟨tb,0,none⟩=some (.pointer (some ⟨g,0,none⟩))∧wx.cell? ⟨g,1,none⟩=some (.pointer (some ⟨q,0,none⟩))∧wx.cell? ⟨g,2,none⟩=some (.int .i64 now.root)∧wx.cell? ⟨g,3,none⟩=some (.int .i64 now.depth)∧wx.cell? ⟨g,4,none⟩=some (.int .i64 now.keys)) (by kernel_rfl) HY0.out (fun hHeld=>?_)
 refine wpAnyH_tk 0 6 ?_
 refine wpAnyH_tk 1 7 ?_
 refine wpAnyH_tk 2 8 ?_
 refine wpAnyH_tk 3 9 ?_
 refine wpAnyH_tk 4 10 ?_
 refine wpAnyH_tk 5 11 ?_
 refine wpAnyH_tk 6 12 ?_
 refine wpAnyH_tk 7 13 ?_
 refine wpAnyH_tk 8 14 ?_
 refine wpAnyH_tk 9 15 ?_
 refine wpAnyH_tk 10 16 ?_
 refine wpAnyH_tk 11 17 ?_
 refine wpAnyH_tk 12 18 ?_
 refine wpAnyH_tk 13 19 ?_
 refine wpAnyH_tk 14 20 ?_
 refine wpAnyH_tk 15 21 ?_
 refine wpAnyH_tk 16 22 ?_
 refine wpAnyH_tk 17 23 ?_
 refine wpAnyH_tk 18 24 ?_
 refine wpAnyH_tk 19 25 ?_
 refine wpAnyH_tk 20 26 ?_
 refine wpAnyH_cm 21 ?_;intro K hK
 go_simp
 clear hHeld
 refine hK.out _ _ HY1.out (fun hHeld=>?_)
 clear hK K
 try simp only [Act.put,siT,scZ,scS]
 refine wpAnyH_tk 22 3 ?_
 refine wpAnyH_done (by kernel_rfl) ?_ _
 refine NoPanic.normal ?_
 clear hHeld HY0 HY1
 have HB1:=HBQ
 clear HBQ
 generalize ((w.alloc (.cells #[.pointer (some ⟨q,0,none⟩),.iface 89 (.int .i64 now.root),.int .i64 now.depth,.int .i64 now.keys,.slice none 0 0,.slice none 0 0] 94)).drew)=w1 at *
 have r5:=HR5.out
 have r6:=HR6.out
 have t1:w1.cell? ⟨tb,0,none⟩=some (.pointer (some ⟨g,0,none⟩)):=(HB1.out.cell (p:=⟨tb,0,none⟩) (block_lt_of_cell r5)).trans r5
 have h1:w1.cell? ⟨hb,0,none⟩=some (.func (Fn.func hf) #[] cap):=(HB1.out.cell (p:=⟨hb,0,none⟩) (block_lt_of_cell r6)).trans r6
 have c1:=hcf (.pointer (some ⟨w.heap.size,0,none⟩)) w1
 have HF1:=hide (FE.of HB1.out hB)
 have HEV1:Hid (EV B w1 w.heap.size q (.iface 89 (.int .i64 now.root)) now.depth now.keys []):=⟨hB,⟨_,HX1.out,aHo⟩,by simp⟩
 have HCL:=hide (HHW.out w1 w.heap.size hB HB1.out HEV1.out (HST.out.later HB1.out) (nT hB HB1.out.size))
 have HBw1:Hid (B≤w1.heap.size):=nT hB HB1.out.size
 clear r5 r6 hcf HX1 HEV1 HHW HB1 HR5 HR6
 generalize hpx:w.heap.size=px at *
 go_wp2_with fail
 refine HCL.out.mono ?_
 rintro e2 w2 ⟨rfl,v4⟩
 have HF2:=hide (HF1.out.trans v4)
 clear v4 t1 h1 c1 HCL
 go_wp2
 go_ret
 exact ⟨rfl,HF2.out⟩
theorem change1_zero [Gd] {B p q g tb hb hf ty1 ty2:Nat} {s:DS} {t:PS} {w:World} {cs:Array Value} {now last:StT} {sv:Value} {left:Int} {cap:Array Value} {gone:List Nat} (hg0:True) (hST:ST B p q s t w) (hB:B≤w.heap.size) (hgB:B≤g) (hg:w.heap[g]?=some (.cells cs 60 (0,0))) (hT:TV cs p q now last sv left false)
  (htb:w.heap[tb]?=some (.cells #[.pointer (some ⟨g,0,none⟩)] ty1 (0,0))) (hhb:w.heap[hb]?=some (.cells #[.func (Fn.func hf) #[] cap] ty2 (0,0))) (hty1:NT ty1) (hcf:∀ (v:Value) (ww:World),(callFunc hf (#[v]++cap)).run Tryz.prog ww=.ok (.enter hf (#[v]++cap)) ww)
  (hHow:∀ (w1:World) (px:Nat),B≤px→Below w.heap.size w w1→EV B w1 px q (.iface 89 (.int .i64 now.root)) now.depth now.keys []→ST B p q s t w1→B≤w1.heap.size→Calls Tryz.prog hf (#[.pointer (some ⟨px,0,none⟩)]++cap) w1 fun e' w'=>e'=.returned (.bool true)∧EV B w' px q (plV 0) 0 0 gone∧FE B w1 w') (hgo:∀ x∈gone,x<4096) (hgl:gone.length<100000) :
  Calls Tryz.prog 37 #[.pointer (some ⟨tb,0,none⟩),.pointer (some ⟨hb,0,none⟩)] w fun e' w'=>e'=.returned (.int .i64 0)∧ChZ B p q g s t w now last sv gone w':=by
 have r1:w.cell? ⟨g,1,none⟩=some (.pointer (some ⟨q,0,none⟩)):=(aAa hg).trans hT.c1
 have r2:w.cell? ⟨g,2,none⟩=some (.int .i64 now.root):=(aAa hg).trans hT.n0
 have r3:w.cell? ⟨g,3,none⟩=some (.int .i64 now.depth):=(aAa hg).trans hT.n1
 have r4:w.cell? ⟨g,4,none⟩=some (.int .i64 now.keys):=(aAa hg).trans hT.n2
 have r5:w.cell? ⟨tb,0,none⟩=some (.pointer (some ⟨g,0,none⟩)):=aAa htb
 have r6:w.cell? ⟨hb,0,none⟩=some (.func (Fn.func hf) #[] cap):=aAa hhb
 have hsl:t.st.length≤4096:=by obtain ⟨_,gs,h2⟩:=hST;exact h2.ok.sl
 have HG:=hide hg
 have HT:=hide hT
 have HST:=hide hST
 have HTB:=hide htb
 have HHW:=hide hHow
 have HGO:=hide hgo
 have HGL:=hide hgl
 have HNT:=hide hty1
 clear hg hT hST htb hhb hHow hgo hgl hty1
 go_enter Tryz.func37,Tryz.ntmps37
 go_upto_region 1 with fail
 have HY0:Hid ((fun wx=>wx.cell? ⟨tb,0,none⟩=some (.pointer (some ⟨g,0,none⟩))∧wx.cell? ⟨g,1,none⟩=some (.pointer (some ⟨q,0,none⟩))∧wx.cell? ⟨g,2,none⟩=some (.int .i64 now.root)∧wx.cell? ⟨g,3,none⟩=some (.int .i64 now.depth)∧wx.cell? ⟨g,4,none⟩=some (.int .i64 now.keys)) w.drew):=⟨r5,r1,r2,r3,r4⟩
 have HBQ:=hide ((aAb w (.cells #[.pointer (some ⟨q,0,none⟩),.iface 89 (.int .i64 now.root),.int .i64 now.depth,.int .i64 now.keys,.slice none 0 0,.slice none 0 0] 94)).drew)
 have HX1:Hid ((w.alloc (.cells #[.pointer (some ⟨q,0,none⟩),.iface 89 (.int .i64 now.root),.int .i64 now.depth,.int .i64 now.keys,.slice none 0 0,.slice none 0 0] 94)).drew.heap[w.heap.size]?=some (.cells #[.pointer (some ⟨q,0,none⟩),.iface 89 (.int .i64 now.root),.int .i64 now.depth,.int .i64 now.keys,.slice none 0 0,.slice none 0 0] 94 (0,0))):=heap_alloc_new w _
 have HY1:Hid ((fun wx=>wx.cell? ⟨tb,0,none⟩=some (.pointer (some ⟨g,0,none⟩))∧wx.cell? ⟨g,1,none⟩=some (.pointer (some ⟨q,0,none⟩))∧wx.cell? ⟨g,2,none⟩=some (.int .i64 now.root)∧wx.cell? ⟨g,3,none⟩=some (.int .i64 now.depth)∧wx.cell? ⟨g,4,none⟩=some (.int .i64 now.keys)) ((w.alloc (.cells #[.pointer (some ⟨q,0,none⟩),.iface 89 (.int .i64 now.root),.int .i64 now.depth,.int .i64 now.keys,.slice none 0 0,.slice none 0 0] 94)).drew)):=by
  have k5:=block_lt_of_cell r5
  have k1:=block_lt_of_cell r1
  exact ⟨(HBQ.out.cell (p:=⟨tb,0,none⟩) k5).trans r5,(HBQ.out.cell (p:=⟨g,1,none⟩) k1).trans r1,(HBQ.out.cell (p:=⟨g,2,none⟩) k1).trans r2,(HBQ.out.cell (p:=⟨g,3,none⟩) k1).trans r3,(HBQ.out.cell (p:=⟨g,4,none⟩) k1).trans r4⟩
 have HR5:=hide r5
 have HR6:=hide r6
 clear r1 r2 r3 r4 r5 r6
 refine wp_region_noPanic ?_
 refine wp_region_held_drew (S:=fun wx=>wx.cell? ⟨tb,0,none⟩=some (.pointer (some ⟨g,0,none⟩))∧wx.cell? ⟨g,1,none⟩=some (.pointer (some ⟨q,0,none⟩))∧wx.cell? ⟨g,2,none⟩=some (.int .i64 now.root)∧wx.cell? ⟨g,3,none⟩=some (.int .i64 now.depth)∧wx.cell? ⟨g,4,none⟩=some (.int .i64 now.keys)) (by kernel_rfl) HY0.out (fun hHeld=>?_)
 refine wpAnyH_tk 0 6 ?_
 refine wpAnyH_tk 1 7 ?_
 refine wpAnyH_tk 2 8 ?_
 refine wpAnyH_tk 3 9 ?_
 refine wpAnyH_tk 4 10 ?_
 refine wpAnyH_tk 5 11 ?_
 refine wpAnyH_tk 6 12 ?_
 refine wpAnyH_tk 7 13 ?_
 refine wpAnyH_tk 8 14 ?_
 refine wpAnyH_tk 9 15 ?_
 refine wpAnyH_tk 10 16 ?_
 refine wpAnyH_tk 11 17 ?_
 refine wpAnyH_tk 12 18 ?_
 refine wpAnyH_tk 13 19 ?_
 refine wpAnyH_tk 14 20 ?_
 refine wpAnyH_tk 15 21 ?_
 refine wpAnyH_tk 16 22 ?_
 refine wpAnyH_tk 17 23 ?_
 refine wpAnyH_tk 18 24 ?_
 refine wpAnyH_tk 19 25 ?_
 refine wpAnyH_tk 20 26 ?_
 refine wpAnyH_cm 21 ?_;intro K hK
 go_simp
 clear hHeld
 refine hK.out _ _ HY1.out (fun hHeld=>?_)
 clear hK K
 try simp only [Act.put,siT,scZ,scS]
 refine wpAnyH_tk 22 3 ?_
 refine wpAnyH_done (by kernel_rfl) ?_ _
 refine NoPanic.normal ?_
 clear hHeld HY0 HY1
 have HB1:=HBQ
 clear HBQ
 generalize ((w.alloc (.cells #[.pointer (some ⟨q,0,none⟩),.iface 89 (.int .i64 now.root),.int .i64 now.depth,.int .i64 now.keys,.slice none 0 0,.slice none 0 0] 94)).drew)=w1 at *
 have r5:=HR5.out
 have r6:=HR6.out
 have t1:w1.cell? ⟨tb,0,none⟩=some (.pointer (some ⟨g,0,none⟩)):=(HB1.out.cell (p:=⟨tb,0,none⟩) (block_lt_of_cell r5)).trans r5
 have h1:w1.cell? ⟨hb,0,none⟩=some (.func (Fn.func hf) #[] cap):=(HB1.out.cell (p:=⟨hb,0,none⟩) (block_lt_of_cell r6)).trans r6
 have c1:=hcf (.pointer (some ⟨w.heap.size,0,none⟩)) w1
 have HF1:=hide (FE.of HB1.out hB)
 have HEV1:Hid (EV B w1 w.heap.size q (.iface 89 (.int .i64 now.root)) now.depth now.keys []):=⟨hB,⟨_,HX1.out,aHo⟩,by simp⟩
 have HCL:=hide (HHW.out w1 w.heap.size hB HB1.out HEV1.out (HST.out.later HB1.out) (nT hB HB1.out.size))
 have HBw1:Hid (B≤w1.heap.size):=nT hB HB1.out.size
 clear r5 r6 hcf HX1 HEV1 HHW HB1 HR5 HR6
 generalize hpx:w.heap.size=px at *
 go_wp2_with fail
 refine HCL.out.mono ?_
 rintro e2 w2 ⟨rfl,v1,v4⟩
 have HF2:=hide (HF1.out.trans v4)
 have HBw2:Hid (B≤w2.heap.size):=nT HBw1.out v4.1.size
 have HEV2:=hide v1
 have HST2:=hide (HF2.out.st HST.out hg0)
 have HG2:=hide (HF2.out.nt HG.out (by decide))
 have HMR:=hide (aD6 HST2.out HG2.out HT.out v1 (aF4 w2 0) (Nat.zero_le _))
 have t2:w2.cell? ⟨tb,0,none⟩=some (.pointer (some ⟨g,0,none⟩)):=aAa (HF2.out.nt HTB.out HNT.out)
 clear v1 v4 t1 h1 c1 HCL
 go_wp2_with fail
 refine HMR.out.mono ?_
 rintro e3 w3 ⟨rfl,hb3⟩
 have HB3:=hide hb3
 have HB3d:Hid (Below w2.heap.size w2 w3.drew):=hb3.drew
 have HF3:=hide (HF2.out.trans (FE.of HB3d.out HBw2.out))
 have HG3:Hid (w3.heap[g]?=some (.cells cs 60 (0,0))):=HF3.out.nt HG.out (by decide)
 have t3:w3.cell? ⟨tb,0,none⟩=some (.pointer (some ⟨g,0,none⟩)):=aAa (show w3.heap[tb]?=_ from HF3.out.nt HTB.out HNT.out)
 have g3:w3.cell? ⟨g,1,none⟩=some (.pointer (some ⟨q,0,none⟩)):=(aAa HG3.out).trans HT.out.c1
 have p3:w3.cell? ⟨px,1,none⟩=some (.iface 89 (.int .i64 0)):=((HEV2.out.later hb3).cellsx).2.1
 have HLY:=hide (aFy (px:=px) (q:=q) (w:=w3.drew) (i:=0))
 unfold plV at HLY
 change Hid (Calls Tryz.prog 39 #[.pointer (some ⟨px,0,none⟩),.pointer (some ⟨q,0,none⟩),.iface 89 (.int .i64 0)] w3.drew fun e w'=>e=.returned (.tuple #[.int .i64 0,.int .i64 0])∧Below w3.heap.size w3.drew w') at HLY
 clear hb3 t2 HMR
 go_upto_region 6 with fail
 have HX0:Hid ((fun wx=>wx.cell? ⟨tb,0,none⟩=some (.pointer (some ⟨g,0,none⟩))∧wx.cell? ⟨g,1,none⟩=some (.pointer (some ⟨q,0,none⟩))∧wx.cell? ⟨px,1,none⟩=some (.iface 89 (.int .i64 0))) w3.drew):=⟨t3,g3,p3⟩
 clear t3 g3 p3
 refine wp_region_noPanic ?_
 refine wp_region_held_drew (S:=fun wx=>wx.cell? ⟨tb,0,none⟩=some (.pointer (some ⟨g,0,none⟩))∧wx.cell? ⟨g,1,none⟩=some (.pointer (some ⟨q,0,none⟩))∧wx.cell? ⟨px,1,none⟩=some (.iface 89 (.int .i64 0))) (by kernel_rfl) HX0.out (fun hHeld=>?_)
 refine wpAnyH_tk 0 37 ?_
 refine wpAnyH_tk 1 38 ?_
 refine wpAnyH_tk 2 39 ?_
 refine wpAnyH_tk 3 40 ?_
 refine wpAnyH_tk 4 41 ?_
 refine wpAnyH_tk 5 42 ?_
 refine wpAnyH_tk 6 43 ?_
 refine wpAnyH_tk 7 44 ?_
 refine wpAnyH_tk 8 45 ?_
 refine wpAnyH_cm 9 ?_;intro K hK
 go_simp
 refine HLY.out.mono ?_
 rintro e4 w4 ⟨rfl,hb4⟩
 have HB4:Hid (Below w2.heap.size w2 w4):=HB3d.out.trans (hb4.mono HB3.out.size)
 have HF4:=hide (HF2.out.trans (FE.of HB4.out HBw2.out))
 have HG4:Hid (w4.heap[g]?=some (.cells cs 60 (0,0))):=HF4.out.nt HG.out (by decide)
 have HTB4:Hid (w4.heap[tb]?=some (.cells #[.pointer (some ⟨g,0,none⟩)] ty1 (0,0))):=HF4.out.nt HTB.out HNT.out
 have HX1:Hid ((fun wx=>wx.cell? ⟨tb,0,none⟩=some (.pointer (some ⟨g,0,none⟩))∧wx.cell? ⟨g,1,none⟩=some (.pointer (some ⟨q,0,none⟩))∧wx.cell? ⟨px,1,none⟩=some (.iface 89 (.int .i64 0))) w4):=⟨aAa HTB4.out,(aAa HG4.out).trans HT.out.c1,(HEV2.out.later HB4.out).cellsx.2.1⟩
 clear hb4 hHeld
 refine hK.out _ _ HX1.out (fun hHeld=>?_)
 clear hK K
 try simp only [Act.put,siT,scZ,scS]
 refine wpAnyH_tk 10 36 ?_
 refine wpAnyH_tk 11 47 ?_
 refine wpAnyH_tk 12 48 ?_
 refine wpAnyH_tk 13 4 ?_
 refine wpAnyH_tk 14 5 ?_
 refine wpAnyH_done (by kernel_rfl) ?_ _
 refine NoPanic.normal ?_
 clear hHeld HX0 HX1 HLY
 have t4x:w4.cell? ⟨tb,0,none⟩=some (.pointer (some ⟨g,0,none⟩)):=aAa HTB4.out
 have HTK:=hide (take_ok (root:=0) hgB (HST2.out.later HB4.out) HG4.out HT.out (HEV2.out.later HB4.out).el HGO.out (fun x hx=>by simp at hx) HGL.out (by simp))
 change Hid (Calls Tryz.prog 40 #[.pointer (some ⟨g,0,none⟩),.pointer (some ⟨px,0,none⟩),.int .i64 0] w4 _) at HTK
 go_wp2_with fail
 refine HTK.out.mono ?_
 rintro e5 w5 ⟨rfl,cs',k1,k2,k3⟩
 have HK1:=hide k1
 have HK2:=hide k2
 have HK3:=hide k3
 clear k1 k2 k3 t4x HTK
 go_wp2
 go_ret
 refine ⟨rfl,cs',HK1.out,HK2.out,(HST2.out.later HB4.out).exT HK3.out HG4.out,HF4.out.1.trans HK3.out.1,fun k cs0 t0 fz k1 k2 k3=>?_,HF4.out.gdk.trans (HK3.out.gdk HG4.out (by unfold DTy;decide))⟩
 have m1:=HF4.out.nt k1 k2
 rw [HK3.out.2 k (lO m1) (by simpa using k3),m1]
theorem change_no [Gd] {B p q g hf:Nat} {s:DS} {t:PS} {w:World} {cs:Array Value} {now last:StT} {sv:Value} {left:Int} {cap:Array Value} (hg0:True) (hST:ST B p q s t w) (hB:B≤w.heap.size) (hgB:B≤g) (hg:w.heap[g]?=some (.cells cs 60 (0,0))) (hT:TV cs p q now last sv left false)
  (hcf:∀ (v:Value) (ww:World),(callFunc hf (#[v]++cap)).run Tryz.prog ww=.ok (.enter hf (#[v]++cap)) ww)
  (hHow:∀ (w1:World) (px:Nat),B≤px→Below w.heap.size w w1→EV B w1 px q (.iface 89 (.int .i64 now.root)) now.depth now.keys []→ST B p q s t w1→B≤w1.heap.size→Calls Tryz.prog hf (#[.pointer (some ⟨px,0,none⟩)]++cap) w1 fun e' w'=>e'=.returned (.bool false)∧FE B w1 w') :
  Calls Tryz.prog 16 #[.pointer (some ⟨g,0,none⟩),.func (Fn.func hf) #[] cap] w fun e' w'=>e'=.returned (.int .i64 0)∧FE B w w':=by
 have hmf:∀ (fn:Fn) (first cap:Array Value) (w:World),(Instr.makeFunc fn first cap).run Tryz.prog w=.ok (.func fn first cap) w:=fun _ _ _ _=>rfl
 have hgl':=(lO hg)
 have x1:Hid ((w.alloc (.cells #[.pointer (some ⟨g,0,none⟩)] 25)).heap[w.heap.size]?=some (.cells #[.pointer (some ⟨g,0,none⟩)] 25 (0,0))):=heap_alloc_new w _
 have b1:=aAb w (.cells #[.pointer (some ⟨g,0,none⟩)] 25)
 have e1:(w.alloc (.cells #[.pointer (some ⟨g,0,none⟩)] 25)).heap.size=w.heap.size+1:=Array.size_push _
 have HCR:Hid (Calls Tryz.prog 36 #[.func (Fn.func 37) #[] #[.pointer (some ⟨w.heap.size,0,none⟩),.pointer (some ⟨w.heap.size+1,0,none⟩)]] ((w.alloc (.cells #[.pointer (some ⟨g,0,none⟩)] 25)).alloc (.cells #[.func (Fn.func hf) #[] cap] 51)) fun e' w'=>e'=.returned (.int .i64 0)∧FE B w w'):=by
  generalize hw1:(w.alloc (.cells #[.pointer (some ⟨g,0,none⟩)] 25))=w1 at *
  have x2:(w1.alloc (.cells #[.func (Fn.func hf) #[] cap] 51)).heap[w1.heap.size]?=some (.cells #[.func (Fn.func hf) #[] cap] 51 (0,0)):=heap_alloc_new w1 _
  have b2:=aAb w1 (.cells #[.func (Fn.func hf) #[] cap] 51)
  generalize hw2:(w1.alloc (.cells #[.func (Fn.func hf) #[] cap] 51))=w2 at *
  have x3:(w2.alloc (.cells #[.int .i64 0] 29)).heap[w2.heap.size]?=some (.cells #[.int .i64 0] 29 (0,0)):=heap_alloc_new w2 _
  have b3:=aAb w2 (.cells #[.int .i64 0] 29)
  have b12:Below w.heap.size w w2:=b1.trans (b2.mono b1.size)
  have b13:Below w.heap.size w (w2.alloc (.cells #[.int .i64 0] 29)):=b12.trans (b3.mono b12.size)
  have hbx:B≤w2.heap.size:=nT hB b12.size
  have y1:=((b2.block w.heap.size (by omega)).trans x1.out)
  have y1':=((b3.block w.heap.size (lO y1)).trans y1)
  have y2':=((b3.block w1.heap.size (lO x2)).trans x2)
  rw [e1] at y2'
  have hC:=change1_no (w:=w2.alloc (.cells #[.int .i64 0] 29)) hg0 (hST.later b13) (nT hB b13.size) hgB ((b13.block g hgl').trans hg) hT y1' y2' (by decide) hcf (fun wx px k1 k2=>hHow wx px k1 (b13.trans (k2.mono b13.size)))
  refine (aB6 (w:=w2) (P:=fun r ww=>r=0∧FE B (w2.alloc (.cells #[.int .i64 0] 29)) ww) (fun ww=>by rfl) (hC.mono ?_)).mono ?_
  ·rintro e9 w9 ⟨rfl,hc⟩
   exact ⟨0,rfl,⟨rfl,hc⟩,hc.2 _ _ _ _ x3 (by decide) (by decide)⟩
  ·rintro e9 w9 ⟨r,w8,rfl,⟨rfl,hc⟩,rfl⟩
   refine ⟨rfl,?_⟩
   have x9:=hc.2 _ _ _ _ x3 (by decide) (by decide)
   have hex:Ex B [w2.heap.size] w8 (w8.setCell ⟨w2.heap.size,0,none⟩ (.int .i64 0)):=Ex.set hbx
   have hbase:=(FE.of b13 hB).trans hc
   refine ⟨hbase.1.trans hex.1,fun k cs0 t0 fz m1 m2 m3=>?_⟩
   have m4:=hbase.2 k cs0 t0 fz m1 m2 m3
   have hkl:=(lO m1)
   have hs2:=b12.size
   rw [hex.2 k (lO m4) (by simp;omega),m4]
 clear hST hg hT hcf hHow x1 b1
 go_enter Tryz.func16,Tryz.ntmps16
 go_wp2_with fail
 refine HCR.out.mono ?_
 rintro e9 w9 ⟨rfl,hc⟩
 have HC:=hide hc
 clear hc
 go_wp2
 go_ret
 exact ⟨rfl,HC.out⟩
theorem change_zero [Gd] {B p q g hf:Nat} {s:DS} {t:PS} {w:World} {cs:Array Value} {now last:StT} {sv:Value} {left:Int} {cap:Array Value} {gone:List Nat} (hg0:True) (hST:ST B p q s t w) (hB:B≤w.heap.size) (hgB:B≤g) (hg:w.heap[g]?=some (.cells cs 60 (0,0))) (hT:TV cs p q now last sv left false)
  (hcf:∀ (v:Value) (ww:World),(callFunc hf (#[v]++cap)).run Tryz.prog ww=.ok (.enter hf (#[v]++cap)) ww)
  (hHow:∀ (w1:World) (px:Nat),B≤px→Below w.heap.size w w1→EV B w1 px q (.iface 89 (.int .i64 now.root)) now.depth now.keys []→ST B p q s t w1→B≤w1.heap.size→Calls Tryz.prog hf (#[.pointer (some ⟨px,0,none⟩)]++cap) w1 fun e' w'=>e'=.returned (.bool true)∧EV B w' px q (plV 0) 0 0 gone∧FE B w1 w') (hgo:∀ x∈gone,x<4096) (hgl:gone.length<100000) :
  Calls Tryz.prog 16 #[.pointer (some ⟨g,0,none⟩),.func (Fn.func hf) #[] cap] w fun e' w'=>e'=.returned (.int .i64 0)∧ChZ B p q g s t w now last sv gone w':=by
 have hmf:∀ (fn:Fn) (first cap:Array Value) (w:World),(Instr.makeFunc fn first cap).run Tryz.prog w=.ok (.func fn first cap) w:=fun _ _ _ _=>rfl
 have hgl':=(lO hg)
 have x1:Hid ((w.alloc (.cells #[.pointer (some ⟨g,0,none⟩)] 25)).heap[w.heap.size]?=some (.cells #[.pointer (some ⟨g,0,none⟩)] 25 (0,0))):=heap_alloc_new w _
 have b1:=aAb w (.cells #[.pointer (some ⟨g,0,none⟩)] 25)
 have e1:(w.alloc (.cells #[.pointer (some ⟨g,0,none⟩)] 25)).heap.size=w.heap.size+1:=Array.size_push _
 have HCR:Hid (Calls Tryz.prog 36 #[.func (Fn.func 37) #[] #[.pointer (some ⟨w.heap.size,0,none⟩),.pointer (some ⟨w.heap.size+1,0,none⟩)]] ((w.alloc (.cells #[.pointer (some ⟨g,0,none⟩)] 25)).alloc (.cells #[.func (Fn.func hf) #[] cap] 51)) fun e' w'=>e'=.returned (.int .i64 0)∧ChZ B p q g s t w now last sv gone w'):=by
  generalize hw1:(w.alloc (.cells #[.pointer (some ⟨g,0,none⟩)] 25))=w1 at *
  have x2:(w1.alloc (.cells #[.func (Fn.func hf) #[] cap] 51)).heap[w1.heap.size]?=some (.cells #[.func (Fn.func hf) #[] cap] 51 (0,0)):=heap_alloc_new w1 _
  have b2:=aAb w1 (.cells #[.func (Fn.func hf) #[] cap] 51)
  generalize hw2:(w1.alloc (.cells #[.func (Fn.func hf) #[] cap] 51))=w2 at *
  have x3:(w2.alloc (.cells #[.int .i64 0] 29)).heap[w2.heap.size]?=some (.cells #[.int .i64 0] 29 (0,0)):=heap_alloc_new w2 _
  have b3:=aAb w2 (.cells #[.int .i64 0] 29)
  have b12:Below w.heap.size w w2:=b1.trans (b2.mono b1.size)
  have b13:Below w.heap.size w (w2.alloc (.cells #[.int .i64 0] 29)):=b12.trans (b3.mono b12.size)
  have hbx:B≤w2.heap.size:=nT hB b12.size
  have y1:=((b2.block w.heap.size (by omega)).trans x1.out)
  have y1':=((b3.block w.heap.size (lO y1)).trans y1)
  have y2':=((b3.block w1.heap.size (lO x2)).trans x2)
  rw [e1] at y2'
  have hC:=change1_zero (w:=w2.alloc (.cells #[.int .i64 0] 29)) hg0 (hST.later b13) (nT hB b13.size) hgB ((b13.block g hgl').trans hg) hT y1' y2' (by decide) hcf (fun wx px k1 k2=>hHow wx px k1 (b13.trans (k2.mono b13.size))) hgo hgl
  have hgs:g<w2.heap.size:=Nat.lt_of_lt_of_le hgl' b12.size
  refine (aB6 (w:=w2) (P:=fun r ww=>r=0∧ChZ B p q g s t (w2.alloc (.cells #[.int .i64 0] 29)) now last sv gone ww) (fun ww=>by rfl) (hC.mono ?_)).mono ?_
  ·rintro e9 w9 ⟨rfl,hc⟩
   refine ⟨0,rfl,⟨rfl,hc⟩,?_⟩
   obtain ⟨cs',k1,k2,k3,k4⟩:=hc
   exact k4.2 _ _ _ _ x3 (by decide) (by omega)
  ·rintro e9 w9 ⟨r,w8,rfl,⟨rfl,hc⟩,rfl⟩
   refine ⟨rfl,?_⟩
   obtain ⟨cs',k1,k2,k3,k4⟩:=hc
   have x9:=k4.2 _ _ _ _ x3 (by decide) (by omega)
   have hex:Ex B [w2.heap.size] w8 (w8.setCell ⟨w2.heap.size,0,none⟩ (.int .i64 0)):=Ex.set hbx
   refine ⟨cs',hex.keepX x9 k1 (by decide),k2,k3.exE hex x9,(b13.mono hB).trans (k4.1.trans hex.1),fun k cs0 t0 fz m1 m2 m3=>?_,(GdK.of b13).trans (k4.gd.trans (hex.gdk x9 (by unfold DTy;decide)))⟩
   have m4:=k4.2 k cs0 t0 fz ((b13.block k (lO m1)).trans m1) m2 m3
   have hkl:=(lO m1)
   have hs2:=b12.size
   rw [hex.2 k (lO m4) (by simp;omega),m4]
 clear hST hg hT hcf hHow hgo hgl x1 b1
 go_enter Tryz.func16,Tryz.ntmps16
 go_wp2_with fail
 refine HCR.out.mono ?_
 rintro e9 w9 ⟨rfl,hc⟩
 have HC:=hide hc
 clear hc
 go_wp2
 go_ret
 exact ⟨rfl,HC.out⟩
end Go.Proofs.YtohgmapjokaibaaGreat
set_option linter.unusedVariables false
namespace Go.Proofs.YtohgmapjokaibaaGreat
def frm (l:List It) (lo:List Nat):List It:=l.filter fun x=>decide (0≤cmpB x.1 lo)
def endB (hi k:List Nat):Bool:=decide (0<hi.length) && decide (0≤cmpB k hi)
def scan (hi:List Nat) (most:Nat):List It→List It→List It×Bool
 | F,[]=>(F,true)
 | F,x::l=>if endB hi x.1 then (F,false) else if F.length+1<most then scan hi most (F++[x]) l else (F++[x],false)
theorem aHi (hi:List Nat) (most:Nat):∀ (a:List It) (F b:List It),scan hi most F (a++b)=if (scan hi most F a).2 then scan hi most (scan hi most F a).1 b else scan hi most F a
 | [],F,b=>rfl
 | x::a,F,b=>by
  simp only [List.cons_append,scan]
  by_cases c1:endB hi x.1=true
  ·simp [c1]
  ·by_cases c2:F.length+1<most
   ·simp only [c1,c2,if_true,Bool.false_eq_true,if_false]
    exact aHi hi most a (F++[x]) b
   ·simp [c1,c2]
theorem frm_app (a b:List It) (lo:List Nat):frm (a++b) lo=frm a lo++frm b lo:=List.filter_append ..
theorem frm_lo {l:List It} {lo:List Nat} (h:Lo l lo):frm l lo=[]:=by
 unfold frm
 rw [List.filter_eq_nil_iff]
 intro x hx
 have:=h x hx
 simp;omega
theorem frm_all {l:List It} {lo:List Nat} (h:∀ x∈l,0≤cmpB x.1 lo):frm l lo=l:=by
 unfold frm
 rw [List.filter_eq_self]
 intro x hx
 simpa using h x hx
theorem frm_drop {l:List It} (hs:Srt l) (lo:List Nat):frm l lo=l.drop (fndI l lo):=by
 have hp:=hs.part lo
 conv=>lhs;rw [←List.take_append_drop (fndI l lo) l]
 rw [frm_app,frm_lo hp.1,frm_all hp.2]
 rfl
theorem wvL_end:∀ (l:List It) (cs:List (List It)) (z:It),cs.length=l.length→l.getLast?=some z→∃ a,wvL l cs=a++[z]:=by
 intro l
 induction l with
 | nil=>intro cs z _ h;simp at h
 | cons x l ih =>
  intro cs z hl h
  match cs,hl with
  | c::cs,hl =>
   cases l with
   | nil =>
    simp only [List.getLast?_singleton,oI] at h
    subst h
    refine ⟨c,?_⟩
    cases cs<;>simp [wvL]
   | cons x2 l =>
    rw [List.getLast?_cons_cons] at h
    obtain ⟨a,ha⟩:=ih cs z (by simpa using hl) h
    refine ⟨c++x::a,?_⟩
    simp only [wvL] at ha ⊢
    rw [ha]
    simp
theorem aDl {l:List It} {cs:List (List It)} {j:Nat} {x:It} {c:List It} (hx:l[j]?=some x) (hc:cs[j+1]?=some c):wvR (l.drop j) (cs.drop (j+1))=x::(c++wvR (l.drop (j+1)) (cs.drop (j+1+1))):=by
 have h1:l.drop j=x::l.drop (j+1):=by rw [←(List.getElem?_eq_some_iff.1 hx).2,List.getElem_cons_drop]
 have h2:cs.drop (j+1)=c::cs.drop (j+1+1):=by rw [←(List.getElem?_eq_some_iff.1 hc).2,List.getElem_cons_drop]
 rw [h1,h2]
 rfl
theorem wvR_end {l:List It} {cs:List (List It)} {j:Nat} (hj:l.length≤j):wvR (l.drop j) (cs.drop (j+1))=[]:=by
 rw [List.drop_eq_nil_of_le hj]
 simp [wvR]
section
variable {l:List It} {cs:List (List It)} {lo:List Nat} {c:List It}
theorem frm_weave (hs:Srt (weave l cs)) (hl:cs.length=l.length+1) (hc:cs[fndI l lo]?=some c):frm (weave l cs) lo=(if hasI l lo then [] else frm c lo)++wvR (l.drop (fndI l lo)) (cs.drop (fndI l lo+1)):=by
 have hsl:Srt l:=List.Pairwise.sublist (aCk l cs hl) hs
 have hp:=hsl.part lo
 have hle:=aA1 l lo
 have hw:=aAv l cs (fndI l lo) c hl hc
 rw [hw] at hs
 obtain ⟨p1,p2,p3⟩:=hs.app
 obtain ⟨p4,p5,p6⟩:=p2.app
 have q1:Lo (wvL (l.take (fndI l lo)) (cs.take (fndI l lo))) lo:=by
  intro y hy
  by_cases q:fndI l lo=0
  ·rw [q] at hy
   simp [wvL] at hy
  ·obtain ⟨z,hz⟩:∃ z,l[fndI l lo-1]?=some z:=⟨_,gE (by omega)⟩
   have hzk:cmpB z.1 lo<0:=hp.1 z (by
    have:(l.take (fndI l lo))[fndI l lo-1]?=some z:=by rw [List.getElem?_take_of_lt (by omega)];exact hz
    exact mG this)
   obtain ⟨a,ha⟩:=wvL_end (l.take (fndI l lo)) (cs.take (fndI l lo)) z (by simp;omega) (by
    rw [List.getLast?_eq_getElem?,List.length_take,Nat.min_eq_left (by omega),List.getElem?_take_of_lt (by omega)]
    exact hz)
   rw [ha] at hy p1
   rcases List.mem_append.1 hy with hy | hy
   ·exact aBb ((Srt.app p1).2.2 y hy z (by simp)) hzk
   ·simp at hy
    subst hy
    exact hzk
 have q2:∀ y∈wvR (l.drop (fndI l lo)) (cs.drop (fndI l lo+1)),0≤cmpB y.1 lo:=by
  intro y hy
  by_cases q:fndI l lo=l.length
  ·rw [wvR_end (by omega)] at hy
   simp at hy
  ·obtain ⟨z,hz⟩:∃ z,l[fndI l lo]?=some z:=⟨_,gE (by omega)⟩
   obtain ⟨c2,hc2⟩:∃ c2,cs[fndI l lo+1]?=some c2:=⟨_,gE (by omega)⟩
   rw [aDl hz hc2] at hy p5
   have hz0:=hp.2 z (by
    have hd:l.drop (fndI l lo)=z::l.drop (fndI l lo+1):=by rw [←(List.getElem?_eq_some_iff.1 hz).2,List.getElem_cons_drop]
    rw [hd];simp)
   rcases List.mem_cons.1 hy with hy | hy
   ·rw [hy];exact hz0
   ·have h1:=(List.pairwise_cons.1 p5).1 y hy
    apply Classical.byContradiction
    intro q3
    have:=aBb h1 (show cmpB y.1 lo<0 by omega)
    omega
 rw [hw,frm_app,frm_app,frm_lo q1,frm_all q2,List.nil_append]
 congr 1
 by_cases hh:hasI l lo=true
 ·rw [if_pos hh]
  obtain ⟨x,hx,ex⟩:=(hsl.has lo).1 hh
  obtain ⟨c2,hc2⟩:∃ c2,cs[fndI l lo+1]?=some c2:=⟨_,gE (by have:=(lL hx);omega)⟩
  rw [aDl hx hc2] at p6
  refine frm_lo fun y hy=>?_
  have:=p6 y hy x (by simp)
  rw [ex] at this
  exact this
 ·rw [if_neg hh]
theorem frm_kid (hs:Srt (weave l cs)) (hl:cs.length=l.length+1) {j:Nat} (hj:fndI l lo<j) (hc:cs[j]?=some c):frm c lo=c:=by
 have hsl:Srt l:=List.Pairwise.sublist (aCk l cs hl) hs
 have hp:=hsl.part lo
 have hjl:=(lL hc)
 obtain ⟨z,hz⟩:∃ z,l[j-1]?=some z:=⟨_,gE (by omega)⟩
 have hz0:=hp.2 z (by
  have:(l.drop (fndI l lo))[j-1-fndI l lo]?=some z:=by rw [List.getElem?_drop,show fndI l lo+(j-1-fndI l lo)=j-1 by omega];exact hz
  exact mG this)
 have hw:=aAv l cs j c hl hc
 rw [hw] at hs
 obtain ⟨p1,p2,p3⟩:=hs.app
 obtain ⟨a,ha⟩:=wvL_end (l.take j) (cs.take j) z (by simp;omega) (by
  rw [List.getLast?_eq_getElem?,List.length_take,Nat.min_eq_left (by omega),List.getElem?_take_of_lt (by omega)]
  exact hz)
 refine frm_all fun y hy=>?_
 have h1:=p3 z (by rw [ha];simp) y (List.mem_append_left _ hy)
 apply Classical.byContradiction
 intro q3
 have:=aBb h1 (show cmpB y.1 lo<0 by omega)
 omega
end
def rstB (l:List It) (cs:List (List It)) (j:Nat):List It:=wvR (l.drop j) (cs.drop (j+1))
theorem Srt.kid {l:List It} {cs:List (List It)} {c:List It} (hs:Srt (weave l cs)) (hl:cs.length=l.length+1) (hc:c∈cs):Srt c:=List.Pairwise.sublist (aCx l cs c hl hc) hs
theorem aCg (hi:List Nat) (most:Nat):∀ (l F:List It),F.length≤(scan hi most F l).1.length∧(F.length<most→(scan hi most F l).1.length≤most∧((scan hi most F l).2=true→(scan hi most F l).1.length<most))
 | [],F=>⟨nR _,fun h=>⟨Nat.le_of_lt h,fun _=>h⟩⟩
 | x::l,F=>by
  simp only [scan]
  by_cases c1:endB hi x.1=true
  ·simp [c1];omega
  ·by_cases c2:F.length+1<most
   ·simp only [c1,c2,if_true,Bool.false_eq_true,if_false]
    have h:=aCg hi most l (F++[x])
    simp only [lA,List.length_singleton] at h
    exact ⟨by omega,fun _=>h.2 c2⟩
   ·simp [c1,c2];omega
end Go.Proofs.YtohgmapjokaibaaGreat
set_option linter.unusedVariables false
namespace Go.Proofs.YtohgmapjokaibaaGreat
open Go.RowKit
def prC (kv:List (Value×Value)):List Value:=kv.flatMap fun x=>[.int .i64 0,x.1,x.2]
theorem prC_len (kv:List (Value×Value)):(prC kv).length=kv.length*3:=by
 induction kv with
 | nil=>rfl
 | cons x kv ih=>show ([_,_,_]++prC kv).length=_;rw [lA,ih];simp;omega
theorem prC_app (a b:List (Value×Value)):prC (a++b)=prC a++prC b:=by simp [prC]
theorem prC_get:∀ {kv:List (Value×Value)} {i:Nat} {x:Value×Value},kv[i]?=some x→(prC kv)[i*3]?=some (.int .i64 0)∧(prC kv)[i*3+1]?=some x.1∧(prC kv)[i*3+2]?=some x.2
 | [],i,x,h=>by simp at h
 | y::kv,0,x,h=>by
  simp only [List.getElem?_cons_zero,oI] at h
  subst h
  exact ⟨rfl,rfl,rfl⟩
 | y::kv,i+1,x,h=>by
  have e:=prC_get (kv:=kv) (i:=i) (x:=x) (by simpa using h)
  have f:∀ j,(prC (y::kv))[j+3]?=(prC kv)[j]?:=fun j=>rfl
  refine ⟨?_,?_,?_⟩
  ·rw [show (i+1)*3=i*3+3 by omega,f];exact e.1
  ·rw [show (i+1)*3+1=i*3+1+3 by omega,f];exact e.2.1
  ·rw [show (i+1)*3+2=i*3+2+3 by omega,f];exact e.2.2
def PRW (B B1:Nat) (w:World) (v:Value) (F:List It):Prop:=∃ kv:List (Value×Value),kv.length=F.length∧w.ownsRow B1 74 3 v F.length (prC kv)∧∀ (i:Nat) it x,F[i]?=some it→kv[i]?=some x→KV B w x.1 it.1∧KV B w x.2 it.2
theorem PRW.form {B B1:Nat} {w:World} {v:Value} {F:List It} (h:PRW B B1 w v F):∃ a c,v=.slice a F.length c:=by
 obtain ⟨kv,h1,⟨h2,h3⟩,h4⟩:=h
 rcases h3 with ⟨rfl,h0⟩ | ⟨g,cap,cur,rfl,_⟩
 ·exact ⟨none,0,by rw [h0]⟩
 ·exact ⟨_,_,rfl⟩
theorem PRW.nil (B B1:Nat) (w:World):PRW B B1 w (.slice none 0 0) []:=⟨[],rfl,⟨rfl,Or.inl ⟨rfl,rfl⟩⟩,fun i it x h=>by simp at h⟩
theorem PRW.stay {B B1:Nat} {w w':World} {v:Value} {F:List It} (h:PRW B B1 w v F) (f:FT B w w') (hg:∀ (k:Nat) (cs:Array Value),B1≤k→w.heap[k]?=some (.cells cs 74 (0,0))→w'.heap[k]?=some (.cells cs 74 (0,0))):PRW B B1 w' v F:=by
 obtain ⟨kv,h1,⟨h2,h3⟩,h4⟩:=h
 refine ⟨kv,h1,⟨h2,?_⟩,fun i it x e1 e2=>⟨(h4 i it x e1 e2).1.ft f,(h4 i it x e1 e2).2.ft f⟩⟩
 rcases h3 with h3 | ⟨g,cap,cur,e1,e2,e3,e4⟩
 ·exact Or.inl h3
 ·exact Or.inr ⟨g,cap,cur,e1,e2,hg g cur e2 e3,e4⟩
def LkF (B1:Nat) (w w':World):Prop:=Below B1 w w'∧∀ (k:Nat) (cs:Array Value) (t:TypeId) (fz:Nat×Nat),w.heap[k]?=some (Obj.cells cs t fz)→t≠67→t≠74→w'.heap[k]?=some (Obj.cells cs t fz)
theorem LkF.refl (B1:Nat) (w:World):LkF B1 w w:=⟨Below.refl _ _,fun _ _ _ _ h _ _=>h⟩
theorem LkF.trans {B1:Nat} {a b c:World} (h:LkF B1 a b) (k:LkF B1 b c):LkF B1 a c:=⟨h.1.trans k.1,fun i cs t fz e n1 n2=>k.2 i cs t fz (h.2 i cs t fz e n1 n2) n1 n2⟩
theorem LkF.of {B1:Nat} {w w':World} (h:Below w.heap.size w w') (hB:B1≤w.heap.size):LkF B1 w w':=⟨h.mono hB,fun i cs t fz e _ _=>(h.block i (lO e)).trans e⟩
theorem LkF.ft {B B1:Nat} {w w':World} (h:LkF B1 w w') (hB:B≤B1):FT B w w':=⟨h.1.mono hB,fun k cs fz e=>h.2 k cs _ _ e (by decide) (by decide)⟩
structure SpV (B B1:Nat) (w:World) (r:Nat) (lv hv:Value) (lo hi:List Nat) (most:Nat) (F:List It):Prop where
 hr:B1≤r
 klo:KV B w lv lo
 khi:KV B w hv hi
 hx:∃ fv,w.heap[r]?=some (.cells #[lv,hv,.int .i64 (most:Int),fv] 67 (0,0))∧PRW B B1 w fv F
theorem SpV.later {B B1:Nat} {w w':World} {r:Nat} {lv hv:Value} {lo hi:List Nat} {most:Nat} {F:List It} (h:SpV B B1 w r lv hv lo hi most F) (hb:Below w.heap.size w w') (hB:B≤w.heap.size):SpV B B1 w' r lv hv lo hi most F:=by
 obtain ⟨fv,h1,h2⟩:=h.hx
 refine ⟨h.hr,h.klo.ft (FT.of hb hB),h.khi.ft (FT.of hb hB),fv,(hb.block r (lO h1)).trans h1,h2.stay (FT.of hb hB) fun k cs _ e=>(hb.block k (lO e)).trans e⟩
theorem SpV.cellsx {B B1:Nat} {w:World} {r:Nat} {lv hv:Value} {lo hi:List Nat} {most:Nat} {F:List It} (h:SpV B B1 w r lv hv lo hi most F):w.cell? ⟨r,0,none⟩=some lv∧w.cell? ⟨r,1,none⟩=some hv∧w.cell? ⟨r,2,none⟩=some (.int .i64 (most:Int)):=by
 obtain ⟨fv,h1,h2⟩:=h.hx
 exact ⟨aAa h1,aAa h1,aAa h1⟩
theorem info_pair:(Tryz.prog.info? 74).map (fun i=>(i.zero,i.size,i.bytes))=some (some (.agg #[.int .i64 0,.slice none 0 0,.slice none 0 0]),3,56):=by kernel_rfl
theorem ends_any {B B1 r:Nat} {w:World} {lv hv:Value} {lo hi:List Nat} {most:Nat} {F:List It} (h:SpV B B1 w r lv hv lo hi most F) {ka:Option Addr} {kn kc:Nat} {key:List Nat} (hk:BS w ka kn kc key) :
  Calls Tryz.prog 53 #[.pointer (some ⟨r,0,none⟩),.slice ka kn kc] w fun e w'=>e=.returned (.bool (endB hi key))∧w'=w:=by
 obtain ⟨ha,hc,rfl,hbk⟩:=h.khi
 have r1:w.cell? ⟨r,1,none⟩=some (.slice ha hi.length hc):=h.cellsx.2.1
 have HC:=hide (aBl ka ha kn kc hi.length hc key hi w hk hbk.1)
 have HE:Hid (endB hi key=(decide (0<hi.length) && decide (0≤cmpB key hi))):=rfl
 clear h hbk hk
 generalize hn:hi.length=n at *
 generalize cmpB key hi=cc at *
 generalize endB hi key=ee at *
 by_cases c:0<n
 ·have x:(0:Int)<(n:Int):=by omega
  have d1:decide ((0:Int)<(n:Int))=true:=by simp;omega
  have HC0:=hide c
  clear c hn
  go_enter Tryz.func53,Tryz.ntmps53
  go_wp2_with fail
  refine HC.out.mono ?_
  rintro e w1 ⟨rfl,rfl⟩
  go_wp2
  go_ret
  refine ⟨?_,rfl⟩
  rw [HE.out,decide_eq_true HC0.out]
  simp
 ·have x:¬ (0:Int)<(n:Int):=by omega
  have d1:decide ((0:Int)<(n:Int))=false:=by simp;omega
  have HC0:=hide c
  clear c hn
  go_enter Tryz.func53,Tryz.ntmps53
  go_wp2
  go_ret
  refine ⟨?_,rfl⟩
  rw [HE.out,decide_eq_false HC0.out]
  simp
def TkR (B B1:Nat) (w:World) (r:Nat) (lv hv:Value) (lo hi:List Nat) (most:Nat) (F:List It) (l:List It) (e:Ending) (w':World):Prop :=
 e=.returned (.bool (scan hi most F l).2)∧SpV B B1 w' r lv hv lo hi most (scan hi most F l).1∧LkF B1 w w'
theorem scan_one (hi:List Nat) (most:Nat) (F:List It) (x:It):scan hi most F [x]=if endB hi x.1 then (F,false) else if F.length+1<most then (F++[x],true) else (F++[x],false):=by
 simp only [scan]
theorem news3 (w:World) (a b c:Value) (t:TypeId):∀ j u,[a,b,c][j]?=some u→(w.alloc (.cells #[a,b,c] t)).cell? ((⟨w.heap.size,0,none⟩:Addr).add j)=some u:=by
 intro j u hu
 rw [Addr.add_lit,Nat.zero_add,aAa (heap_alloc_new w _)]
 simpa using hu
theorem SpV.push {B B1:Nat} {w w3:World} {r:Nat} {lv hv:Value} {lo hi:List Nat} {most:Nat} {F:List It} {fv v3 kv vv:Value} {it:It} {kvl:List (Value×Value)} (h:SpV B B1 w r lv hv lo hi most F) (hB:B≤B1) (hB1:B1≤w.heap.size) (h1:w.heap[r]?=some (.cells #[lv,hv,.int .i64 (most:Int),fv] 67 (0,0))) (hkl:kvl.length=F.length) (hown:w.ownsRow B1 74 3 fv F.length (prC kvl)) (hall:∀ (i:Nat) it x,F[i]?=some it→kvl[i]?=some x→KV B w x.1 it.1∧KV B w x.2 it.2) (hk:KV B w kv it.1) (hv':KV B w vv it.2)
  (ho:w3.ownsRow B1 74 3 v3 (F.length+1) (prC kvl++[.int .i64 0,kv,vv])) (hg:(w.alloc (.cells #[.int .i64 0,kv,vv] 74)).grownBy w3 fv.ownBlock) :
  w3.heap[r]?=some (.cells #[lv,hv,.int .i64 (most:Int),fv] 67 (0,0))∧SpV B B1 (w3.setCell ⟨r,3,none⟩ v3) r lv hv lo hi most (F++[it])∧LkF B1 w (w3.setCell ⟨r,3,none⟩ v3):=by
 have hb:=aAb w (.cells #[.int .i64 0,kv,vv] 74)
 have own1:=aAg hown hb
 have keep:∀ (k:Nat) (cs:Array Value) (t:TypeId) (fz:Nat×Nat),w.heap[k]?=some (Obj.cells cs t fz)→t≠74→w3.heap[k]?=some (Obj.cells cs t fz):=by
  intro k cs t fz e ht
  have e1:=(hb.block k (lO e)).trans e
  rw [hg.block k (lO e1) ?_,e1]
  intro q9
  obtain ⟨_,cur,hc⟩:=aAq own1 q9.symm
  rw [hc] at e1
  simp only [oI,cI] at e1
  exact ht e1.2.1.symm
 have hr3:=keep _ _ _ _ h1 (by decide)
 have bel:Below B1 w w3:=(hb.mono hB1).trans ((Below.refl B1 _).grown hg (nT hB1 hb.size) (fun k hk=>(own1.lt k hk).1))
 have hlk:LkF B1 w (w3.setCell ⟨r,3,none⟩ v3):=by
  refine ⟨bel.trans ((Below.refl B1 w3).setCell (p:=⟨r,3,none⟩) h.hr _),fun k cs t fz e n1 n2=>?_⟩
  have e1:=keep k cs t fz e n2
  rw [heap_setCell_other _ _ _ _ ?_,e1]
  intro q9
  have q9:k=r:=q9
  subst q9
  rw [hr3] at e1
  simp only [oI,cI] at e1
  exact n1 e1.2.1.symm
 have hft:=hlk.ft hB
 refine ⟨hr3,⟨h.hr,h.klo.ft hft,h.khi.ft hft,v3,?_,kvl++[(kv,vv)],by simp [hkl],?_,fun i it' x e1 e2=>?_⟩,hlk⟩
 ·rw [heap_setCell_same _ _ _ _ _ _ hr3];rfl
 ·rw [lA,prC_app]
  refine aAj ho fun k cs hk e=>?_
  rw [heap_setCell_other _ _ _ _ ?_,e]
  intro q9
  have q9:k=r:=q9
  subst q9
  rw [hr3] at e
  simp only [oI,cI] at e
  exact absurd e.2.1 (by decide)
 ·by_cases c:i<F.length
  ·rw [List.getElem?_append_left c] at e1
   rw [List.getElem?_append_left (by omega)] at e2
   have:=hall i it' x e1 e2
   exact ⟨this.1.ft hft,this.2.ft hft⟩
  ·have hi:i=F.length:=by
    have:=(lL e1)
    simp at this
    omega
   subst hi
   simp at e1
   rw [←hkl] at e2
   simp at e2
   subst e1 e2
   exact ⟨hk.ft hft,hv'.ft hft⟩
theorem aDu {B B1 r:Nat} {w:World} {lv hv:Value} {lo hi:List Nat} {most:Nat} {F:List It} (h:SpV B B1 w r lv hv lo hi most F) (hB:B≤B1) (hB1:B1≤w.heap.size) (hF:F.length<100000) (it:It) {kv vv:Value} (hk:KV B w kv it.1) (hv':KV B w vv it.2) :
  Calls Tryz.prog 88 #[.pointer (some ⟨r,0,none⟩),.agg #[kv,vv]] w fun e w'=>TkR B B1 w r lv hv lo hi most F [it] e w':=by
 obtain ⟨i0,hi0,hz0,hz1,hz2⟩:=info_parts info_pair
 obtain ⟨ka,kc,rfl,hkb⟩:=hk
 obtain ⟨va,vc,rfl,hvb⟩:=hv'
 have HBX:=hide (aAb w (.cells #[.slice ka it.1.length kc,.slice va it.2.length vc] 50))
 have HNX:Hid ((w.alloc (.cells #[.slice ka it.1.length kc,.slice va it.2.length vc] 50)).heap[w.heap.size]?=some (.cells #[.slice ka it.1.length kc,.slice va it.2.length vc] 50 (0,0))):=heap_alloc_new w _
 have HSP:=hide (h.later HBX.out (nT hB hB1))
 have HBw:Hid (B1≤(w.alloc (.cells #[.slice ka it.1.length kc,.slice va it.2.length vc] 50)).heap.size):=nT hB1 HBX.out.size
 have HKB:=hide (hkb.later HBX.out (nT hB hB1))
 have HVB:=hide (hvb.later HBX.out (nT hB hB1))
 have HEN:=hide (ends_any HSP.out HKB.out.1)
 have HLK:=hide (LkF.of HBX.out hB1)
 have HSC:=hide (scan_one hi most F it)
 have c0:(w.alloc (.cells #[.slice ka it.1.length kc,.slice va it.2.length vc] 50)).cell? ⟨w.heap.size,0,none⟩=some (.slice ka it.1.length kc):=aAa HNX.out
 have c1:(w.alloc (.cells #[.slice ka it.1.length kc,.slice va it.2.length vc] 50)).cell? ⟨w.heap.size,1,none⟩=some (.slice va it.2.length vc):=aAa HNX.out
 have HBB:=hide hB
 clear h hkb hvb hB hB1
 generalize hkn:it.1.length=kn at *
 generalize hvn:it.2.length=vn at *
 go_enter Tryz.func88,Tryz.ntmps88
 go_wp2_with fail
 refine HEN.out.mono ?_
 rintro e w1 ⟨rfl,rfl⟩
 generalize (w.alloc (.cells #[.slice ka kn kc,.slice va vn vc] 50))=w1 at *
 generalize hG:w.heap.size=G at *
 cases hen:endB hi it.1 with
 | true =>
  rw [hen] at HSC
  simp only [if_true] at HSC
  clear c0 c1
  go_wp2
  go_ret
  unfold TkR
  rw [HSC.out]
  exact ⟨rfl,HSP.out,HLK.out⟩
 | false =>
  rw [hen] at HSC
  simp only [Bool.false_eq_true,if_false] at HSC
  obtain ⟨fv,hs1,hs2⟩:=HSP.out.hx
  obtain ⟨fa,fc,rfl⟩:=hs2.form
  have r3:w1.cell? ⟨r,3,none⟩=some (.slice fa F.length fc):=aAa hs1
  have HS1:=hide hs1
  have HS2:=hide hs2
  clear hs1 hs2
  obtain ⟨kvl,hkl,hown,hall⟩:=HS2.out
  have hGl:G<w1.heap.size:=(lO HNX.out)
  have HNE:Hid (G≠r):=by
   intro q9
   have h9:=HNX.out
   rw [q9,HS1.out] at h9
   simp only [oI,cI] at h9
   exact absurd h9.2.1 (by decide)
  have HBP:=hide (aAb w1.drew (.cells #[.int .i64 0,.slice ka kn kc,.slice va vn vc] 74))
  have HO2:Hid ((w1.drew.alloc (.cells #[.int .i64 0,.slice ka kn kc,.slice va vn vc] 74)).ownsRow B1 74 3 (.slice fa F.length fc) F.length (prC kvl)):=aAg (w:=w1.drew) hown HBP.out
  have HLD:Hid (LkF B1 w1 w1.drew):=LkF.of (Below.refl _ _).drew HBw.out
  have hkv:KV B w1.drew (.slice ka kn kc) it.1:=⟨ka,kc,by rw [hkn],by rw [hkn];exact HKB.out.later (Below.refl _ _).drew (nT HBB.out HBw.out)⟩
  have hvv:KV B w1.drew (.slice va vn vc) it.2:=⟨va,vc,by rw [hvn],by rw [hvn];exact HVB.out.later (Below.refl _ _).drew (nT HBB.out HBw.out)⟩
  have HPU:Hid (∀ v3 w3,w3.ownsRow B1 74 3 v3 (F.length+1) (prC kvl++[.int .i64 0,.slice ka kn kc,.slice va vn vc])→(w1.drew.alloc (.cells #[.int .i64 0,.slice ka kn kc,.slice va vn vc] 74)).grownBy w3 (Value.slice fa F.length fc).ownBlock→w3.heap[r]?=some (.cells #[lv,hv,.int .i64 (most:Int),.slice fa F.length fc] 67 (0,0))∧SpV B B1 (w3.setCell ⟨r,3,none⟩ v3) r lv hv lo hi most (F++[it])∧LkF B1 w1.drew (w3.setCell ⟨r,3,none⟩ v3)):=fun v3 w3 ho hg=>(HSP.out.later (Below.refl _ _).drew (nT HBB.out HBw.out)).push HBB.out HBw.out HS1.out hkl hown (fun i it x e1 e2=>⟨(hall i it x e1 e2).1.ft (FT.of (Below.refl _ _).drew (nT HBB.out HBw.out)),(hall i it x e1 e2).2.ft (FT.of (Below.refl _ _).drew (nT HBB.out HBw.out))⟩) hkv hvv ho hg
  have HXG:Hid (∀ v3 w3,w3.ownsRow B1 74 3 v3 (F.length+1) (prC kvl++[.int .i64 0,.slice ka kn kc,.slice va vn vc])→(w1.drew.alloc (.cells #[.int .i64 0,.slice ka kn kc,.slice va vn vc] 74)).grownBy w3 (Value.slice fa F.length fc).ownBlock→w3.cell? ⟨G,0,none⟩=some (.slice ka kn kc)∧w3.cell? ⟨G,1,none⟩=some (.slice va vn vc)):=fun v3 w3 ho hg=>by
   have e1:(w1.drew.alloc (.cells #[.int .i64 0,.slice ka kn kc,.slice va vn vc] 74)).heap[G]?=_:=(HBP.out.block G hGl).trans HNX.out
   have e2:w3.heap[G]?=_:=(hg.block G (lO e1) (fun q9=>by
    obtain ⟨_,cur,hc⟩:=aAq HO2.out q9.symm
    rw [hc] at e1
    simp only [oI,cI] at e1
    exact absurd e1.2.1 (by decide))).trans e1
   exact ⟨aAa e2,aAa e2⟩
  have HX0:Hid ((fun wx=>wx.cell? ⟨G,0,none⟩=some (.slice ka kn kc)∧wx.cell? ⟨G,1,none⟩=some (.slice va vn vc)) w1.drew):=⟨c0,c1⟩
  have HX2:Hid ((fun wx=>wx.cell? ⟨G,0,none⟩=some (.slice ka kn kc)∧wx.cell? ⟨G,1,none⟩=some (.slice va vn vc)) (w1.drew.alloc (.cells #[.int .i64 0,.slice ka kn kc,.slice va vn vc] 74))):=⟨(HBP.out.cell (p:=⟨G,0,none⟩) hGl).trans c0,(HBP.out.cell (p:=⟨G,1,none⟩) hGl).trans c1⟩
  have r4:(w1.alloc (.cells #[.int .i64 0,.slice ka kn kc,.slice va vn vc] 74)).cell? ⟨r,3,none⟩=some (.slice fa F.length fc):=(HBP.out.cell (p:=⟨r,3,none⟩) (lO HS1.out)).trans r3
  clear hkv hvv hkl hown hall c0 c1
  generalize hM':F.length=M at *
  go_upto_region 3 with fail
  refine wp_region_noPanic ?_
  refine wp_region_held_drew (S:=fun wx=>wx.cell? ⟨G,0,none⟩=some (.slice ka kn kc)∧wx.cell? ⟨G,1,none⟩=some (.slice va vn vc)) (by kernel_rfl) HX0.out (fun hHeld=>?_)
  refine wpAnyH_tk 0 9 ?_
  refine wpAnyH_tk 1 10 ?_
  refine wpAnyH_tk 2 11 ?_
  refine wpAnyH_tk 3 12 ?_
  refine wpAnyH_tk 5 14 ?_
  refine wpAnyH_tk 6 15 ?_
  refine wpAnyH_tk 7 16 ?_
  refine wpAnyH_tk 8 17 ?_
  refine wpAnyH_tk 9 18 ?_
  refine aAx (i:=4) (j:=10) (by kernel_rfl) (by kernel_rfl) (by kernel_rfl) ?ba ?bb
  case ba =>
   intro o ho K hK
   simp only [List.getElem?_toArray,List.getElem?_cons_succ,List.getElem?_cons_zero,oI] at ho
   subst ho
   go_simp
   refine hK.out _ _ hHeld (fun hHeld=>?_)
   clear hK K
   try simp only [Act.put,siT,scZ,scS]
   refine wpAnyH_cm 10 ?_;intro K hK
   go_simp
   clear hHeld
   refine hK.out _ _ HX2.out (fun hHeld=>?_)
   clear hK K
   try simp only [Act.put,siT,scZ,scS]
   refine wpAnyH_cm 11 ?_;intro K hK
   rw [if_pos (by rfl)]
   refine aA2 (.tmp 13) (.tmp 19) 34 rfl B1 74 i0 (.agg #[.int .i64 0,.slice none 0 0,.slice none 0 0]) 3 56 Tryz.underlying34 hi0 hz0 hz1 hz2 rfl (by omega) (.slice fa M fc) M (prC kvl) rfl HO2.out ⟨w1.drew.heap.size,0,none⟩ 1 1 [.int .i64 0,.slice ka kn kc,.slice va vn vc] rfl rfl (news3 w1.drew _ _ _ _) (by intro u hu;simp at hu;rcases hu with rfl | rfl | rfl<;>rfl) (by unfold maxLen;omega) (by omega) (nT HBw.out HBP.out.size) ?_
   intro v3 w3 ho3 hg3 hat3
   obtain ⟨p1,p2,p3⟩:=HPU.out v3 w3 ho3 hg3
   obtain ⟨a3,c3,rfl⟩:=aAf ho3
   have HR3:=hide p1
   have HP2:=hide p2
   have HP3:=hide p3
   have HX3:Hid ((fun wx=>wx.cell? ⟨G,0,none⟩=some (.slice ka kn kc)∧wx.cell? ⟨G,1,none⟩=some (.slice va vn vc)) w3):=HXG.out _ _ ho3 hg3
   have y3:w3.cell? ⟨r,3,none⟩=some (.slice fa M fc):=aAa p1
   have f3:w3.frozen? ⟨r,3,none⟩=false:=aAc p1
   clear ho3 hg3 hat3 p1 p2 p3 hHeld
   refine hK.out _ _ HX3.out (fun hHeld=>?_)
   clear hK K
   try simp only [Act.put,siT,scZ,scS]
   refine wpAnyH_tk 12 21 ?_
   refine wpAnyH_tk 13 22 ?_
   refine wpAnyH_cm 14 ?_;intro K hK
   go_simp
   have HX4:Hid ((fun wx=>wx.cell? ⟨G,0,none⟩=some (.slice ka kn kc)∧wx.cell? ⟨G,1,none⟩=some (.slice va vn vc)) (w3.setCell ⟨r,3,none⟩ (.slice a3 (M+1) c3))):=by
    have hne:G≠r:=HNE.out
    exact ⟨(World.cell?_of_block (heap_setCell_other _ _ _ _ hne)).trans HX3.out.1,(World.cell?_of_block (heap_setCell_other _ _ _ _ hne)).trans HX3.out.2⟩
   clear hHeld
   refine hK.out _ _ HX4.out (fun hHeld=>?_)
   clear hK K
   try simp only [Act.put,siT,scZ,scS]
   refine wpAnyH_done (by kernel_rfl) ?_ _
   refine NoPanic.normal ?_
   clear hHeld y3 f3
   generalize (w3.setCell ⟨r,3,none⟩ (.slice a3 (M+1) c3))=w4 at *
   obtain ⟨fv4,k1,k2⟩:=HP2.out.hx
   obtain ⟨fa4,fc4,rfl⟩:=k2.form
   have z3:w4.cell? ⟨r,3,none⟩=some (.slice fa4 (F++[it]).length fc4):=aAa k1
   have z2:w4.cell? ⟨r,2,none⟩=some (.int .i64 (most:Int)):=aAa k1
   rw [lA,hM',List.length_singleton] at z3
   have HLE:=hide (HLK.out.trans HLD.out |>.trans HP3.out)
   have HSZ:Hid (w1.heap.size≤w4.heap.size):=HP3.out.1.size
   clear k1 k2
   by_cases hmo:M+1<most
   ·have x5:((M+1:Nat):Int)<(most:Int):=by omega
    rw [if_pos hmo] at HSC
    go_wp2
    go_region
    go_wp2
    go_ret
    unfold TkR
    rw [HSC.out]
    refine ⟨?_,HP2.out.later (Below.refl _ _).drew (nT (nT HBB.out HBw.out) HSZ.out),HLE.out.trans (LkF.of (Below.refl _ _).drew (nT HBw.out HSZ.out))⟩
    simp
    omega
   ·have x5:¬ ((M+1:Nat):Int)<(most:Int):=by omega
    rw [if_neg hmo] at HSC
    go_wp2
    go_region
    go_wp2
    go_ret
    unfold TkR
    rw [HSC.out]
    refine ⟨?_,HP2.out.later (Below.refl _ _).drew (nT (nT HBB.out HBw.out) HSZ.out),HLE.out.trans (LkF.of (Below.refl _ _).drew (nT HBw.out HSZ.out))⟩
    simp
    omega
  case bb =>
   intro o ho K hK
   simp only [List.getElem?_toArray,List.getElem?_cons_succ,List.getElem?_cons_zero,oI] at ho
   subst ho
   go_simp
   clear hHeld
   refine hK.out _ _ HX2.out (fun hHeld=>?_)
   clear hK K
   try simp only [Act.put,siT,scZ,scS]
   refine wpAnyH_cm 4 ?_;intro K hK
   go_simp
   refine hK.out _ _ hHeld (fun hHeld=>?_)
   clear hK K
   try simp only [Act.put,siT,scZ,scS]
   refine wpAnyH_cm 11 ?_;intro K hK
   rw [if_pos (by rfl)]
   refine aA2 (.tmp 13) (.tmp 19) 34 rfl B1 74 i0 (.agg #[.int .i64 0,.slice none 0 0,.slice none 0 0]) 3 56 Tryz.underlying34 hi0 hz0 hz1 hz2 rfl (by omega) (.slice fa M fc) M (prC kvl) rfl HO2.out ⟨w1.drew.heap.size,0,none⟩ 1 1 [.int .i64 0,.slice ka kn kc,.slice va vn vc] rfl rfl (news3 w1.drew _ _ _ _) (by intro u hu;simp at hu;rcases hu with rfl | rfl | rfl<;>rfl) (by unfold maxLen;omega) (by omega) (nT HBw.out HBP.out.size) ?_
   intro v3 w3 ho3 hg3 hat3
   obtain ⟨p1,p2,p3⟩:=HPU.out v3 w3 ho3 hg3
   obtain ⟨a3,c3,rfl⟩:=aAf ho3
   have HR3:=hide p1
   have HP2:=hide p2
   have HP3:=hide p3
   have HX3:Hid ((fun wx=>wx.cell? ⟨G,0,none⟩=some (.slice ka kn kc)∧wx.cell? ⟨G,1,none⟩=some (.slice va vn vc)) w3):=HXG.out _ _ ho3 hg3
   have y3:w3.cell? ⟨r,3,none⟩=some (.slice fa M fc):=aAa p1
   have f3:w3.frozen? ⟨r,3,none⟩=false:=aAc p1
   clear ho3 hg3 hat3 p1 p2 p3 hHeld
   refine hK.out _ _ HX3.out (fun hHeld=>?_)
   clear hK K
   try simp only [Act.put,siT,scZ,scS]
   refine wpAnyH_tk 12 21 ?_
   refine wpAnyH_tk 13 22 ?_
   refine wpAnyH_cm 14 ?_;intro K hK
   go_simp
   have HX4:Hid ((fun wx=>wx.cell? ⟨G,0,none⟩=some (.slice ka kn kc)∧wx.cell? ⟨G,1,none⟩=some (.slice va vn vc)) (w3.setCell ⟨r,3,none⟩ (.slice a3 (M+1) c3))):=by
    have hne:G≠r:=HNE.out
    exact ⟨(World.cell?_of_block (heap_setCell_other _ _ _ _ hne)).trans HX3.out.1,(World.cell?_of_block (heap_setCell_other _ _ _ _ hne)).trans HX3.out.2⟩
   clear hHeld
   refine hK.out _ _ HX4.out (fun hHeld=>?_)
   clear hK K
   try simp only [Act.put,siT,scZ,scS]
   refine wpAnyH_done (by kernel_rfl) ?_ _
   refine NoPanic.normal ?_
   clear hHeld y3 f3
   generalize (w3.setCell ⟨r,3,none⟩ (.slice a3 (M+1) c3))=w4 at *
   obtain ⟨fv4,k1,k2⟩:=HP2.out.hx
   obtain ⟨fa4,fc4,rfl⟩:=k2.form
   have z3:w4.cell? ⟨r,3,none⟩=some (.slice fa4 (F++[it]).length fc4):=aAa k1
   have z2:w4.cell? ⟨r,2,none⟩=some (.int .i64 (most:Int)):=aAa k1
   rw [lA,hM',List.length_singleton] at z3
   have HLE:=hide (HLK.out.trans HLD.out |>.trans HP3.out)
   have HSZ:Hid (w1.heap.size≤w4.heap.size):=HP3.out.1.size
   clear k1 k2
   by_cases hmo:M+1<most
   ·have x5:((M+1:Nat):Int)<(most:Int):=by omega
    rw [if_pos hmo] at HSC
    go_wp2
    go_region
    go_wp2
    go_ret
    unfold TkR
    rw [HSC.out]
    refine ⟨?_,HP2.out.later (Below.refl _ _).drew (nT (nT HBB.out HBw.out) HSZ.out),HLE.out.trans (LkF.of (Below.refl _ _).drew (nT HBw.out HSZ.out))⟩
    simp
    omega
   ·have x5:¬ ((M+1:Nat):Int)<(most:Int):=by omega
    rw [if_neg hmo] at HSC
    go_wp2
    go_region
    go_wp2
    go_ret
    unfold TkR
    rw [HSC.out]
    refine ⟨?_,HP2.out.later (Below.refl _ _).drew (nT (nT HBB.out HBw.out) HSZ.out),HLE.out.trans (LkF.of (Below.refl _ _).drew (nT HBw.out HSZ.out))⟩
    simp
    omega
def LkI (B B1:Nat) (w:World) (r:Nat) (lv hv:Value) (lo hi:List Nat) (most:Nat) (F:List It) (all rest:List It) (wx:World):Prop :=
 ∃ Fj:List It,Fj.length<most∧scan hi most F all=scan hi most Fj rest∧SpV B B1 wx r lv hv lo hi most Fj∧LkF B1 w wx
theorem aCa {hi:List Nat} {most:Nat} {F a b:List It} (h:(scan hi most F a).2=true):scan hi most F (a++b)=scan hi most (scan hi most F a).1 b:=by rw [aHi,if_pos h]
theorem aB9 {hi:List Nat} {most:Nat} {F a b:List It} (h:(scan hi most F a).2=false):scan hi most F (a++b)=scan hi most F a:=by rw [aHi,h];simp
theorem look_leaf [Gd] {B p q r:Nat} {s:DS} {t:PS} {w0 w:World} {lv hv:Value} {lo hi:List Nat} {most:Nat} (hST:ST B p q s t w0) (hB:B≤w0.heap.size) (hlf:s.life=t.life) (hdn:s.down=false) (hb:Below w0.heap.size w0 w) (b:BT 0) (hon:OnD s t 0 b) (F:List It) (hsp:SpV B w0.heap.size w r lv hv lo hi most F) (hF:F.length<most) (hmo:most<100000) :
  Calls Tryz.prog 55 #[.pointer (some ⟨r,0,none⟩),.pointer (some ⟨q,0,none⟩),.int .i64 (b.1:Int),.int .i64 1] w fun e w'=>TkR B w0.heap.size w r lv hv lo hi most F (frm b.2 lo) e w':=by
 obtain ⟨hpg,hit⟩:=hon
 have hBw:=nT hB hb.size
 have HLD:=hide (aBo b.1 (hST.later hb) hBw hlf hpg.lt (by rw [hpg.of];decide) hdn b.2 hpg.pg hit.n1 hit.n4 hit.ok hit.so hpg.ln hpg.bt)
 have HIT:=hide hit
 have HSP:=hide hsp
 have HB:=hide hB
 have HBw:=hide hBw
 have HS0:=hide hb.size
 have hl4:=hit.n4
 have HF:=hide hF
 have HMO:=hide hmo
 obtain ⟨la,lc,hlv,hlb⟩:=hsp.klo
 subst hlv
 have HLB:=hide hlb
 have HFD:=hide (frm_drop hit.so lo)
 have hfl:=aA1 b.2 lo
 clear hST hb hpg hit hsp hF hmo hlb hlf hdn hB hBw
 generalize hl:b.2=l at *
 generalize hLL:l.length=L at *
 generalize hFi:fndI l lo=Fi at *
 generalize hhb:hasI l lo=hb0 at *
 generalize hB1:w0.heap.size=B1 at *
 go_enter Tryz.func55,Tryz.ntmps55
 go_wp2_with fail
 refine HLD.out.mono ?_
 rintro e w1 ⟨v1,rfl,⟨gl,gi,rfl,z1,z2,z3,z4⟩,hb1⟩
 rw [hLL] at z3
 have HIO:=hide (aAp z3)
 have HBw1:Hid (B≤w1.heap.size):=nT HBw.out hb1.size
 have HSP1:=hide (HSP.out.later hb1 HBw.out)
 have HLK1:Hid (LkF B1 w w1):=LkF.of hb1 HS0.out
 have HFN:Hid (∀ ww,Below w1.heap.size w1 ww→Calls Tryz.prog 75 #[.slice (some ⟨gi,0,none⟩) L L,.slice la lo.length lc] ww fun e w'=>e=.returned (.tuple #[.int .i64 (Fi:Int),.bool hb0])∧Below ww.heap.size ww w'):=fun ww hbb=>by
  have:=find_ok (z4.later hbb HBw1.out) (nT HBw1.out hbb.size) ((HLB.out.later (hb1.trans (hbb.mono hb1.size)) HBw.out).1) (by omega) HIT.out.so hLL
  rw [hFi,hhb] at this
  exact this
 have r0:w1.cell? ⟨r,0,none⟩=some (.slice la lo.length lc):=HSP1.out.cellsx.1
 have HZ4:=hide z4
 clear z3 z4 hb1 HLD
 unfold lfP at HIO
 go_wp2_with fail
 refine HIO.out.mono ?_
 rintro e w2 ⟨rfl,rfl⟩
 go_wp2_with fail
 refine (HFN.out _ (Below.refl _ _)).mono ?_
 rintro e w3 ⟨rfl,hb3⟩
 have ta:=aAm (.pointer (some ⟨gl,0,none⟩)) w3
 have HSP3:=hide (HSP1.out.later hb3 HBw1.out)
 have HS1:Hid (B1≤w2.heap.size):=nT HS0.out HLK1.out.1.size
 have HLK3:Hid (LkF B1 w w3):=HLK1.out.trans (LkF.of hb3 HS1.out)
 have HIR3:=hide (HZ4.out.later hb3 HBw1.out)
 have HS3:Hid (B1≤w3.heap.size):=nT HS1.out hb3.size
 clear hb3 r0 HFN HIO HZ4
 go_wp2_with fail
 go_loopw [15] (fun i wx=>∃ j:Nat,Fi≤j∧j≤L+1∧i=.int .i64 j∧LkI B B1 w3 r (.slice la lo.length lc) hv lo hi most F (frm l lo) (l.drop j) wx) (fun i _=>L+1-(intOf i).toNat)
 case atStart=>exact ⟨Fi,nR _,by omega,rfl,F,HF.out,by rw [HFD.out],HSP3.out,LkF.refl _ _⟩
 case round =>
  obtain ⟨j,hj0,hj,rfl,hP⟩:=hrel
  obtain ⟨Fj,hFj,hsc,hsp,hlk⟩:=hP
  have HFj:=hide hFj
  have HSC:=hide hsc
  have HSPj:=hide hsp
  have HLKj:=hide hlk
  have HLKw:=hide (HLK3.out.trans hlk)
  clear hFj hsc hsp hlk
  by_cases hjn:j<L
  ·have x1:(j:Int)≤(L:Int):=by omega
   have x2:(j:Int)<(L:Int):=by omega
   have d2:decide ((j:Int)<(L:Int))=true:=by simp;omega
   obtain ⟨it,hitj⟩:∃ it,l[j]?=some it:=⟨_,gE (by omega)⟩
   obtain ⟨kf,vf,hg1,hg2⟩:=HIR3.out
   rw [hLL] at hg1
   have hgr:=HLKj.out.2 _ _ _ _ hg1 (by decide) (by decide)
   obtain ⟨hk1,hv1⟩:=hg2 j it hitj
   have hft:=HLKj.out.ft (HB.out)
   have hk1':=hk1.ft hft
   have hv1':=hv1.ft hft
   have y5:wr.cell? ⟨gi,j*2,none⟩=some (kf j):=by rw [aAa hgr,List.getElem?_toArray];exact aAt kf vf j L hjn
   have y6:wr.cell? ⟨gi,j*2+1,none⟩=some (vf j):=by rw [aAa hgr,List.getElem?_toArray];exact aA0 kf vf j L hjn
   have HTK:=hide (aDu HSPj.out HB.out (nT HS3.out HLKj.out.1.size) (by have:=HFj.out;have:=HMO.out;omega) it hk1' hv1')
   obtain ⟨ka,kc,hka,hkk⟩:=hk1'
   obtain ⟨va,vc,hva,hvv⟩:=hv1'
   rw [hka] at y5 HTK
   rw [hva] at y6 HTK
   have hd:l.drop j=[it]++l.drop (j+1):=by
    rw [←(List.getElem?_eq_some_iff.1 hitj).2]
    simp
   have HD:=hide hd
   generalize hkn:it.1.length=kn at *
   generalize hvn:it.2.length=vn at *
   clear hg1 hg2 hgr hk1 hv1 hft hkk hvv hka hva hd hitj ta
   cases hb0 with
   | false =>
    go_wp2_with fail
    refine HTK.out.mono ?_
    rintro e w5 ⟨rfl,hsp5,hlk5⟩
    have HSP5:=hide hsp5
    have HLK5:=hide hlk5
    clear hsp5 hlk5 y5 y6
    cases hsc2:(scan hi most Fj [it]).2 with
    | true =>
     have HSC2:=hide hsc2
     clear hsc2
     go_wp2_with fail
     go_roundw
     case rel =>
      refine ⟨j+1,by omega,by omega,by go_num,_,(((aCg hi most [it] Fj).2 HFj.out).2 HSC2.out),?_,HSP5.out,HLKj.out.trans HLK5.out⟩
      rw [HSC.out,HD.out,aCa HSC2.out]
     case measure=>simp [intOf];omega
    | false =>
     have HSC2:=hide hsc2
     clear hsc2
     go_wp2
     (try simp only [Exit.inBlock,Exit.then])
     go_ret
     have hq:scan hi most F (frm l lo)=scan hi most Fj [it]:=by rw [HSC.out,HD.out,aB9 HSC2.out]
     unfold TkR
     rw [hq,HSC2.out]
     exact ⟨rfl,HSP5.out,HLKw.out.trans HLK5.out⟩
   | true =>
    go_wp2_with fail
    refine HTK.out.mono ?_
    rintro e w5 ⟨rfl,hsp5,hlk5⟩
    have HSP5:=hide hsp5
    have HLK5:=hide hlk5
    clear hsp5 hlk5 y5 y6
    cases hsc2:(scan hi most Fj [it]).2 with
    | true =>
     have HSC2:=hide hsc2
     clear hsc2
     go_wp2_with fail
     go_roundw
     case rel =>
      refine ⟨j+1,by omega,by omega,by go_num,_,(((aCg hi most [it] Fj).2 HFj.out).2 HSC2.out),?_,HSP5.out,HLKj.out.trans HLK5.out⟩
      rw [HSC.out,HD.out,aCa HSC2.out]
     case measure=>simp [intOf];omega
    | false =>
     have HSC2:=hide hsc2
     clear hsc2
     go_wp2
     (try simp only [Exit.inBlock,Exit.then])
     go_ret
     have hq:scan hi most F (frm l lo)=scan hi most Fj [it]:=by rw [HSC.out,HD.out,aB9 HSC2.out]
     unfold TkR
     rw [hq,HSC2.out]
     exact ⟨rfl,HSP5.out,HLKw.out.trans HLK5.out⟩
  ·by_cases hje:j=L
   ·have x1:(j:Int)≤(L:Int):=by omega
    have x2:¬ (j:Int)<(L:Int):=by omega
    have d2:decide ((j:Int)<(L:Int))=false:=by simp;omega
    clear ta
    cases hb0 with
    | false =>
     go_wp2_with fail
     go_roundw
     case rel =>
      refine ⟨j+1,by omega,by omega,by go_num,Fj,HFj.out,?_,HSPj.out,HLKj.out⟩
      rw [HSC.out,List.drop_eq_nil_of_le (by omega),List.drop_eq_nil_of_le (by omega)]
     case measure=>simp [intOf];omega
    | true =>
     go_wp2_with fail
     go_roundw
     case rel =>
      refine ⟨j+1,by omega,by omega,by go_num,Fj,HFj.out,?_,HSPj.out,HLKj.out⟩
      rw [HSC.out,List.drop_eq_nil_of_le (by omega),List.drop_eq_nil_of_le (by omega)]
     case measure=>simp [intOf];omega
   ·have x1:¬ (j:Int)≤(L:Int):=by omega
    clear ta
    go_wp2
    (try simp only [Exit.inBlock,Exit.then])
    go_ret
    have hq:scan hi most F (frm l lo)=(Fj,true):=by
     rw [HSC.out,List.drop_eq_nil_of_le (by omega)]
     rfl
    unfold TkR
    rw [hq]
    exact ⟨rfl,HSPj.out,HLKw.out⟩
def rsJ (l:List It) (cs:List (List It)) (lo:List Nat) (j:Nat):List It:=if j≤l.length then (if j=fndI l lo∧hasI l lo=true then [] else frm (cs.getD j []) lo)++rstB l cs j else []
section
variable {l:List It} {cs:List (List It)} {lo:List Nat}
theorem rsJ_at {j:Nat} (hj:j≤l.length):rsJ l cs lo j=(if j=fndI l lo∧hasI l lo=true then [] else frm (cs.getD j []) lo)++rstB l cs j:=if_pos hj
theorem rsJ_end {j:Nat} (hj:l.length<j):rsJ l cs lo j=[]:=if_neg (by omega)
theorem rsJ_start (hs:Srt (weave l cs)) (hl:cs.length=l.length+1):frm (weave l cs) lo=rsJ l cs lo (fndI l lo):=by
 have hle:=aA1 l lo
 obtain ⟨c,hc⟩:∃ c,cs[fndI l lo]?=some c:=⟨_,gE (by omega)⟩
 rw [frm_weave hs hl hc,rsJ_at hle,List.getD_eq_getElem?_getD,hc]
 by_cases hh:hasI l lo=true
 ·rw [if_pos hh,if_pos ⟨rfl,hh⟩];rfl
 ·rw [if_neg hh,if_neg (fun q=>hh q.2)];rfl
theorem aHj (hs:Srt (weave l cs)) (hl:cs.length=l.length+1) {j:Nat} {x:It} (hj:fndI l lo≤j) (hx:l[j]?=some x):rstB l cs j=[x]++rsJ l cs lo (j+1):=by
 have hjl:=(lL hx)
 obtain ⟨c,hc⟩:∃ c,cs[j+1]?=some c:=⟨_,gE (by omega)⟩
 rw [rsJ_at (by omega),if_neg (by omega),List.getD_eq_getElem?_getD,hc,Option.getD_some,frm_kid hs hl (show fndI l lo<j+1 by omega) hc]
 unfold rstB
 rw [aDl hx hc]
 rfl
theorem rst_end {j:Nat} (hj:l.length≤j):rstB l cs j=[]:=wvR_end hj
end
def LkC [Gd] (B p q r:Nat) (s:DS) (t:PS) (B1:Nat) (w0:World) (lv hv:Value) (lo hi:List Nat) (most:Nat) (h:Nat):Prop :=
 ∀ (w:World) (b:BT h) (F:List It),Below B1 w0 w→OnD s t h b→Srt (flB h b)→SpV B B1 w r lv hv lo hi most F→F.length<most →
  Calls Tryz.prog 55 #[.pointer (some ⟨r,0,none⟩),.pointer (some ⟨q,0,none⟩),.int .i64 (BT.id b:Int),.int .i64 ((h:Int)+1)] w fun e w'=>TkR B B1 w r lv hv lo hi most F (frm (flB h b) lo) e w'
theorem look_branch [Gd] {B p q r h:Nat} {s:DS} {t:PS} {w0 w:World} {lv hv:Value} {lo hi:List Nat} {most:Nat} (hST:ST B p q s t w0) (hB:B≤w0.heap.size) (hlf:s.life=t.life) (hdn:s.down=false) (hb:Below w0.heap.size w0 w) (b:BT (h+1)) (hon:OnD s t (h+1) b) (hsr:Srt (flB (h+1) b)) (F:List It) (hsp:SpV B w0.heap.size w r lv hv lo hi most F) (hF:F.length<most) (hmo:most<100000) (hh:h<100000)
  (hIH:LkC B p q r s t w0.heap.size w0 lv hv lo hi most h) :
  Calls Tryz.prog 55 #[.pointer (some ⟨r,0,none⟩),.pointer (some ⟨q,0,none⟩),.int .i64 (b.1:Int),.int .i64 ((h:Int)+1+1)] w fun e w'=>TkR B w0.heap.size w r lv hv lo hi most F (frm (flB (h+1) b) lo) e w':=by
 obtain ⟨hpg,hit,hcl,hid,hkd⟩:=hon
 have hBw:=nT hB hb.size
 have hidl:(b.2.2.map BT.id).length=b.2.1.length+1:=by rw [List.length_map];exact hcl
 have HLD:=aBd b.1 (h+2) (by omega) (hST.later hb) hBw hlf hpg.lt (by rw [hpg.of];decide) hdn b.2.1 (b.2.2.map BT.id) hpg.pg hidl (by intro x hx;obtain ⟨k,hk,rfl⟩:=List.mem_map.1 hx;exact hid k hk) hit.n1 hit.n4 hit.ok hit.so hpg.ln hpg.bt
 rw [show (((h+2:Nat):Nat):Int)=(h:Int)+1+1 by omega] at HLD
 replace HLD:=hide HLD
 have HIT:=hide hit
 have HSP:=hide hsp
 have HB:=hide hB
 have HBw:=hide hBw
 have HS0:=hide hb.size
 have HB0:=hide hb
 have HIH:=hide hIH
 have hl4:=hit.n4
 have HF:=hide hF
 have HMO:=hide hmo
 obtain ⟨la,lc,hlv,hlb⟩:=hsp.klo
 subst hlv
 have HLB:=hide hlb
 have hcs:(b.2.2.map (flB h)).length=b.2.1.length+1:=by rw [List.length_map];exact hcl
 have HCS:=hide hcs
 have HSR:Hid (Srt (weave b.2.1 (b.2.2.map (flB h)))):=hsr
 have HST0:Hid (frm (flB (h+1) b) lo=rsJ b.2.1 (b.2.2.map (flB h)) lo (fndI b.2.1 lo)):=rsJ_start hsr hcs
 have HKD:=hide hkd
 have HKS:Hid (∀ k∈b.2.2,Srt (flB h k)):=fun k hk=>Srt.kid hsr hcs (List.mem_map_of_mem hk)
 have hfl:=aA1 b.2.1 lo
 have HHS:Hid (hasI b.2.1 lo=true→fndI b.2.1 lo<b.2.1.length):=fun q9=>by
  obtain ⟨x,hx,_⟩:=(hit.so.has lo).1 q9
  exact (lL hx)
 generalize flB (h+1) b=all at *
 clear hST hb hpg hit hsp hF hmo hlb hlf hdn hB hBw hsr hid hkd hcs hIH
 generalize hl:b.2.1=l at *
 generalize hLL:l.length=L at *
 generalize hFi:fndI l lo=Fi at *
 generalize hhb:hasI l lo=hb0 at *
 generalize hB1:w0.heap.size=B1 at *
 have hn2:(b.2.2.map BT.id).length=L+1:=hidl
 go_enter Tryz.func55,Tryz.ntmps55
 go_wp2_with fail
 refine HLD.out.mono ?_
 rintro e w1 ⟨v1,rfl,⟨gb,gi,gc,rfl,z1,z2,z5,z3,z4,z6⟩,hb1⟩
 rw [hLL,hn2] at z3
 have HIO:=hide (aAn z3)
 have HBw1:Hid (B≤w1.heap.size):=nT HBw.out hb1.size
 have HSP1:=hide (HSP.out.later hb1 HBw.out)
 have HLK1:Hid (LkF B1 w w1):=LkF.of hb1 HS0.out
 have HFN:Hid (∀ ww,Below w1.heap.size w1 ww→Calls Tryz.prog 75 #[.slice (some ⟨gi,0,none⟩) L L,.slice la lo.length lc] ww fun e w'=>e=.returned (.tuple #[.int .i64 (Fi:Int),.bool hb0])∧Below ww.heap.size ww w'):=fun ww hbb=>by
  have:=find_ok (z4.later hbb HBw1.out) (nT HBw1.out hbb.size) ((HLB.out.later (hb1.trans (hbb.mono hb1.size)) HBw.out).1) (by omega) HIT.out.so hLL
  rw [hFi,hhb] at this
  exact this
 have r0:w1.cell? ⟨r,0,none⟩=some (.slice la lo.length lc):=HSP1.out.cellsx.1
 have HZ4:=hide z4
 have HZ3:=hide z3
 have HZ6:=hide z6
 clear z3 z4 z6 hb1 HLD
 unfold brP at HIO
 go_wp2_with fail
 refine HIO.out.mono ?_
 rintro e w2 ⟨rfl,rfl⟩
 go_wp2_with fail
 refine (HFN.out _ (Below.refl _ _)).mono ?_
 rintro e w3 ⟨rfl,hb3⟩
 have ta:=aAk (.pointer (some ⟨gb,0,none⟩)) w3
 have HSP3:=hide (HSP1.out.later hb3 HBw1.out)
 have HS1:Hid (B1≤w2.heap.size):=nT HS0.out HLK1.out.1.size
 have HLK3:Hid (LkF B1 w w3):=HLK1.out.trans (LkF.of hb3 HS1.out)
 have HIR3:=hide (HZ4.out.later hb3 HBw1.out)
 have HGB3:=hide ((hb3.block gb (lO HZ3.out)).trans HZ3.out)
 have HGC3:=hide ((hb3.block gc (lO HZ6.out)).trans HZ6.out)
 have HS3:Hid (B1≤w3.heap.size):=nT HS1.out hb3.size
 have HB3:Hid (Below B1 w0 w3):=HB0.out.trans HLK3.out.1
 clear hb3 r0 HFN HIO HZ4 HZ3 HZ6
 go_wp2_with fail
 go_loopw [15] (fun i wx=>∃ j:Nat,Fi≤j∧j≤L+1∧i=.int .i64 j∧LkI B B1 w3 r (.slice la lo.length lc) hv lo hi most F (frm all lo) (rsJ l (b.2.2.map (flB h)) lo j) wx) (fun i _=>L+1-(intOf i).toNat)
 case atStart=>exact ⟨Fi,nR _,by omega,rfl,F,HF.out,by rw [HST0.out],HSP3.out,LkF.refl _ _⟩
 case round =>
  obtain ⟨j,hj0,hj,rfl,hP⟩:=hrel
  obtain ⟨Fj,hFj,hsc,hsp,hlk⟩:=hP
  have HFj:=hide hFj
  have HSC:=hide hsc
  have HSPj:=hide hsp
  have HLKj:=hide hlk
  have HLKw:=hide (HLK3.out.trans hlk)
  clear hFj hsc hsp hlk ta
  by_cases hjn:j≤L
  ·have x1:(j:Int)≤(L:Int):=by omega
   cases hb0 with
   | false =>
    obtain ⟨kb,hkb⟩:∃ kb,b.2.2[j]?=some kb:=⟨_,gE (by omega)⟩
    have hkm:=mG hkb
    have HKR:Hid (rsJ l (b.2.2.map (flB h)) lo j=frm (flB h kb) lo++rstB l (b.2.2.map (flB h)) j):=by
     show _=_
     rw [rsJ_at (by omega),if_neg (fun q9=>by rw [hhb] at q9;exact absurd q9.2 (by decide)),List.getD_eq_getElem?_getD,List.getElem?_map,hkb]
     rfl
    have hgb:=HLKj.out.2 _ _ _ _ HGB3.out (by decide) (by decide)
    have hgc:=HLKj.out.2 _ _ _ _ HGC3.out (by decide) (by decide)
    have g1:wr.cell? ⟨gb,1,none⟩=some (.slice (some ⟨gc,0,none⟩) (L+1) (L+1)):=aAa hgb
    have g2:wr.cell? ⟨gc,j,none⟩=some (.iface 89 (.int .i64 (BT.id kb:Int))):=by
     rw [aAa hgc,List.getElem?_toArray,List.getElem?_map,List.getElem?_map,hkb]
     rfl
    have g3:=aC7 (.int .i64 (BT.id kb:Int)) wr
    have xl:(j:Int)<((L+1:Nat):Int):=by omega
    have HCL:=hide (HIH.out wr kb Fj (HB3.out.trans HLKj.out.1) (HKD.out kb hkm) (HKS.out kb hkm) HSPj.out HFj.out)
    clear hgb hgc hkm hkb
    go_wp2_with fail
    refine HCL.out.mono ?_
    rintro e w4 ⟨rfl,hsp4,hlk4⟩
    have HSPc:=hide hsp4
    have HLKc:=hide (HLKj.out.trans hlk4)
    have HLKwc:=hide (HLKw.out.trans hlk4)
    clear hsp4 hlk4 g1 g2 g3 HCL
    cases hsc1:(scan hi most Fj (frm (flB h kb) lo)).2 with
    | false =>
     have HSC1:=hide hsc1
     clear hsc1
     go_wp2
     (try simp only [Exit.inBlock,Exit.then])
     go_ret
     have hq:scan hi most F (frm all lo)=scan hi most Fj (frm (flB h kb) lo):=by rw [HSC.out,HKR.out,aB9 HSC1.out]
     unfold TkR
     rw [hq,HSC1.out]
     exact ⟨rfl,HSPc.out,HLKwc.out⟩
    | true =>
     have HFc:Hid ((scan hi most Fj (frm (flB h kb) lo)).1.length<most):=(((aCg hi most (frm (flB h kb) lo) Fj).2 HFj.out).2 hsc1)
     have HSCc:Hid (scan hi most F (frm all lo)=scan hi most (scan hi most Fj (frm (flB h kb) lo)).1 (rstB l (b.2.2.map (flB h)) j)):=by
      show _=_
      rw [HSC.out,HKR.out,aCa hsc1]
     clear hsc1
     generalize (scan hi most Fj (frm (flB h kb) lo)).1=Fc at *
     by_cases hjl:j<L
     ·have x2:(j:Int)<(L:Int):=by omega
      have d2:decide ((j:Int)<(L:Int))=true:=by simp;omega
      obtain ⟨it,hitj⟩:∃ it,l[j]?=some it:=⟨_,gE (by omega)⟩
      have HRS:Hid (rstB l (b.2.2.map (flB h)) j=[it]++rsJ l (b.2.2.map (flB h)) lo (j+1)):=aHj HSR.out (by rw [hLL];exact HCS.out) (by rw [hFi];exact hj0) hitj
      obtain ⟨kf,vf,hg1,hg2⟩:=HIR3.out
      rw [hLL] at hg1
      have hgr:=HLKc.out.2 _ _ _ _ hg1 (by decide) (by decide)
      obtain ⟨hk1,hv1⟩:=hg2 j it hitj
      have hft:=HLKc.out.ft (HB.out)
      have hk1':=hk1.ft hft
      have hv1':=hv1.ft hft
      have y5:w4.cell? ⟨gi,j*2,none⟩=some (kf j):=by rw [aAa hgr,List.getElem?_toArray];exact aAt kf vf j L (by omega)
      have y6:w4.cell? ⟨gi,j*2+1,none⟩=some (vf j):=by rw [aAa hgr,List.getElem?_toArray];exact aA0 kf vf j L (by omega)
      have HTK:=hide (aDu HSPc.out HB.out (nT HS3.out HLKc.out.1.size) (by have:=HFc.out;have:=HMO.out;omega) it hk1' hv1')
      obtain ⟨ka,kc,hka,hkk⟩:=hk1'
      obtain ⟨va,vc,hva,hvv⟩:=hv1'
      rw [hka] at y5 HTK
      rw [hva] at y6 HTK
      generalize hkn:it.1.length=kn at *
      generalize hvn:it.2.length=vn at *
      clear hg1 hg2 hgr hk1 hv1 hft hkk hvv hka hva hitj
      go_wp2_with fail
      refine HTK.out.mono ?_
      rintro e w5 ⟨rfl,hsp5,hlk5⟩
      have HSP5:=hide hsp5
      have HLK5:=hide hlk5
      clear hsp5 hlk5 y5 y6
      cases hsc2:(scan hi most Fc [it]).2 with
      | true =>
       have HSC2:=hide hsc2
       clear hsc2
       go_wp2_with fail
       go_roundw
       case rel =>
        refine ⟨j+1,by omega,by omega,by go_num,_,(((aCg hi most [it] Fc).2 HFc.out).2 HSC2.out),?_,HSP5.out,HLKc.out.trans HLK5.out⟩
        rw [HSCc.out,HRS.out,aCa HSC2.out]
       case measure=>simp [intOf];omega
      | false =>
       have HSC2:=hide hsc2
       clear hsc2
       go_wp2
       (try simp only [Exit.inBlock,Exit.then])
       go_ret
       have hq:scan hi most F (frm all lo)=scan hi most Fc [it]:=by rw [HSCc.out,HRS.out,aB9 HSC2.out]
       unfold TkR
       rw [hq,HSC2.out]
       exact ⟨rfl,HSP5.out,HLKwc.out.trans HLK5.out⟩
     ·have x2:¬ (j:Int)<(L:Int):=by omega
      have d2:decide ((j:Int)<(L:Int))=false:=by simp;omega
      go_wp2_with fail
      go_roundw
      case rel =>
       refine ⟨j+1,by omega,by omega,by go_num,Fc,HFc.out,?_,HSPc.out,HLKc.out⟩
       rw [HSCc.out,rst_end (by omega),rsJ_end (by omega)]
      case measure=>simp [intOf];omega
   | true =>
    by_cases hjf:j=Fi
    ·obtain rfl:Fi=j:=hjf.symm
     have hFL:Fi<L:=HHS.out rfl
     have x2:(Fi:Int)<(L:Int):=by omega
     have d2:decide ((Fi:Int)<(L:Int))=true:=by simp;omega
     have HFc:=HFj
     have HSPc:=HSPj
     have HLKc:=HLKj
     have HLKwc:=HLKw
     have HSCc:Hid (scan hi most F (frm all lo)=scan hi most Fj (rstB l (b.2.2.map (flB h)) Fi)):=by
      show _=_
      rw [HSC.out,rsJ_at (by omega),if_pos ⟨by omega,hhb⟩,List.nil_append]
     obtain ⟨it,hitj⟩:∃ it,l[Fi]?=some it:=⟨_,gE (by omega)⟩
     have HRS:Hid (rstB l (b.2.2.map (flB h)) Fi=[it]++rsJ l (b.2.2.map (flB h)) lo (Fi+1)):=aHj HSR.out (by rw [hLL];exact HCS.out) (by rw [hFi];exact hj0) hitj
     obtain ⟨kf,vf,hg1,hg2⟩:=HIR3.out
     rw [hLL] at hg1
     have hgr:=HLKc.out.2 _ _ _ _ hg1 (by decide) (by decide)
     obtain ⟨hk1,hv1⟩:=hg2 Fi it hitj
     have hft:=HLKc.out.ft (HB.out)
     have hk1':=hk1.ft hft
     have hv1':=hv1.ft hft
     have y5:wr.cell? ⟨gi,Fi*2,none⟩=some (kf Fi):=by rw [aAa hgr,List.getElem?_toArray];exact aAt kf vf Fi L (by omega)
     have y6:wr.cell? ⟨gi,Fi*2+1,none⟩=some (vf Fi):=by rw [aAa hgr,List.getElem?_toArray];exact aA0 kf vf Fi L (by omega)
     have HTK:=hide (aDu HSPc.out HB.out (nT HS3.out HLKc.out.1.size) (by have:=HFc.out;have:=HMO.out;omega) it hk1' hv1')
     obtain ⟨ka,kc,hka,hkk⟩:=hk1'
     obtain ⟨va,vc,hva,hvv⟩:=hv1'
     rw [hka] at y5 HTK
     rw [hva] at y6 HTK
     generalize hkn:it.1.length=kn at *
     generalize hvn:it.2.length=vn at *
     clear hg1 hg2 hgr hk1 hv1 hft hkk hvv hka hva hitj
     go_wp2_with fail
     refine HTK.out.mono ?_
     rintro e w5 ⟨rfl,hsp5,hlk5⟩
     have HSP5:=hide hsp5
     have HLK5:=hide hlk5
     clear hsp5 hlk5 y5 y6
     cases hsc2:(scan hi most Fj [it]).2 with
     | true =>
      have HSC2:=hide hsc2
      clear hsc2
      go_wp2_with fail
      go_roundw
      case rel =>
       refine ⟨Fi+1,by omega,by omega,by go_num,_,(((aCg hi most [it] Fj).2 HFc.out).2 HSC2.out),?_,HSP5.out,HLKc.out.trans HLK5.out⟩
       rw [HSCc.out,HRS.out,aCa HSC2.out]
      case measure=>simp [intOf];omega
     | false =>
      have HSC2:=hide hsc2
      clear hsc2
      go_wp2
      (try simp only [Exit.inBlock,Exit.then])
      go_ret
      have hq:scan hi most F (frm all lo)=scan hi most Fj [it]:=by rw [HSCc.out,HRS.out,aB9 HSC2.out]
      unfold TkR
      rw [hq,HSC2.out]
      exact ⟨rfl,HSP5.out,HLKwc.out.trans HLK5.out⟩
    ·have x3:¬ (j:Int)=(Fi:Int):=by omega
     have d3:((j:Int) == (Fi:Int))=false:=by simp;omega
     obtain ⟨kb,hkb⟩:∃ kb,b.2.2[j]?=some kb:=⟨_,gE (by omega)⟩
     have hkm:=mG hkb
     have HKR:Hid (rsJ l (b.2.2.map (flB h)) lo j=frm (flB h kb) lo++rstB l (b.2.2.map (flB h)) j):=by
      show _=_
      rw [rsJ_at (by omega),if_neg (fun q9=>hjf (by rw [←hFi];exact q9.1)),List.getD_eq_getElem?_getD,List.getElem?_map,hkb]
      rfl
     have hgb:=HLKj.out.2 _ _ _ _ HGB3.out (by decide) (by decide)
     have hgc:=HLKj.out.2 _ _ _ _ HGC3.out (by decide) (by decide)
     have g1:wr.cell? ⟨gb,1,none⟩=some (.slice (some ⟨gc,0,none⟩) (L+1) (L+1)):=aAa hgb
     have g2:wr.cell? ⟨gc,j,none⟩=some (.iface 89 (.int .i64 (BT.id kb:Int))):=by
      rw [aAa hgc,List.getElem?_toArray,List.getElem?_map,List.getElem?_map,hkb]
      rfl
     have g3:=aC7 (.int .i64 (BT.id kb:Int)) wr
     have xl:(j:Int)<((L+1:Nat):Int):=by omega
     have HCL:=hide (HIH.out wr kb Fj (HB3.out.trans HLKj.out.1) (HKD.out kb hkm) (HKS.out kb hkm) HSPj.out HFj.out)
     clear hgb hgc hkm hkb
     go_wp2_with fail
     refine HCL.out.mono ?_
     rintro e w4 ⟨rfl,hsp4,hlk4⟩
     have HSPc:=hide hsp4
     have HLKc:=hide (HLKj.out.trans hlk4)
     have HLKwc:=hide (HLKw.out.trans hlk4)
     clear hsp4 hlk4 g1 g2 g3 HCL
     cases hsc1:(scan hi most Fj (frm (flB h kb) lo)).2 with
     | false =>
      have HSC1:=hide hsc1
      clear hsc1
      go_wp2
      (try simp only [Exit.inBlock,Exit.then])
      go_ret
      have hq:scan hi most F (frm all lo)=scan hi most Fj (frm (flB h kb) lo):=by rw [HSC.out,HKR.out,aB9 HSC1.out]
      unfold TkR
      rw [hq,HSC1.out]
      exact ⟨rfl,HSPc.out,HLKwc.out⟩
     | true =>
      have HFc:Hid ((scan hi most Fj (frm (flB h kb) lo)).1.length<most):=(((aCg hi most (frm (flB h kb) lo) Fj).2 HFj.out).2 hsc1)
      have HSCc:Hid (scan hi most F (frm all lo)=scan hi most (scan hi most Fj (frm (flB h kb) lo)).1 (rstB l (b.2.2.map (flB h)) j)):=by
       show _=_
       rw [HSC.out,HKR.out,aCa hsc1]
      clear hsc1
      generalize (scan hi most Fj (frm (flB h kb) lo)).1=Fc at *
      by_cases hjl:j<L
      ·have x2:(j:Int)<(L:Int):=by omega
       have d2:decide ((j:Int)<(L:Int))=true:=by simp;omega
       obtain ⟨it,hitj⟩:∃ it,l[j]?=some it:=⟨_,gE (by omega)⟩
       have HRS:Hid (rstB l (b.2.2.map (flB h)) j=[it]++rsJ l (b.2.2.map (flB h)) lo (j+1)):=aHj HSR.out (by rw [hLL];exact HCS.out) (by rw [hFi];exact hj0) hitj
       obtain ⟨kf,vf,hg1,hg2⟩:=HIR3.out
       rw [hLL] at hg1
       have hgr:=HLKc.out.2 _ _ _ _ hg1 (by decide) (by decide)
       obtain ⟨hk1,hv1⟩:=hg2 j it hitj
       have hft:=HLKc.out.ft (HB.out)
       have hk1':=hk1.ft hft
       have hv1':=hv1.ft hft
       have y5:w4.cell? ⟨gi,j*2,none⟩=some (kf j):=by rw [aAa hgr,List.getElem?_toArray];exact aAt kf vf j L (by omega)
       have y6:w4.cell? ⟨gi,j*2+1,none⟩=some (vf j):=by rw [aAa hgr,List.getElem?_toArray];exact aA0 kf vf j L (by omega)
       have HTK:=hide (aDu HSPc.out HB.out (nT HS3.out HLKc.out.1.size) (by have:=HFc.out;have:=HMO.out;omega) it hk1' hv1')
       obtain ⟨ka,kc,hka,hkk⟩:=hk1'
       obtain ⟨va,vc,hva,hvv⟩:=hv1'
       rw [hka] at y5 HTK
       rw [hva] at y6 HTK
       generalize hkn:it.1.length=kn at *
       generalize hvn:it.2.length=vn at *
       clear hg1 hg2 hgr hk1 hv1 hft hkk hvv hka hva hitj
       go_wp2_with fail
       refine HTK.out.mono ?_
       rintro e w5 ⟨rfl,hsp5,hlk5⟩
       have HSP5:=hide hsp5
       have HLK5:=hide hlk5
       clear hsp5 hlk5 y5 y6
       cases hsc2:(scan hi most Fc [it]).2 with
       | true =>
        have HSC2:=hide hsc2
        clear hsc2
        go_wp2_with fail
        go_roundw
        case rel =>
         refine ⟨j+1,by omega,by omega,by go_num,_,(((aCg hi most [it] Fc).2 HFc.out).2 HSC2.out),?_,HSP5.out,HLKc.out.trans HLK5.out⟩
         rw [HSCc.out,HRS.out,aCa HSC2.out]
        case measure=>simp [intOf];omega
       | false =>
        have HSC2:=hide hsc2
        clear hsc2
        go_wp2
        (try simp only [Exit.inBlock,Exit.then])
        go_ret
        have hq:scan hi most F (frm all lo)=scan hi most Fc [it]:=by rw [HSCc.out,HRS.out,aB9 HSC2.out]
        unfold TkR
        rw [hq,HSC2.out]
        exact ⟨rfl,HSP5.out,HLKwc.out.trans HLK5.out⟩
      ·have x2:¬ (j:Int)<(L:Int):=by omega
       have d2:decide ((j:Int)<(L:Int))=false:=by simp;omega
       go_wp2_with fail
       go_roundw
       case rel =>
        refine ⟨j+1,by omega,by omega,by go_num,Fc,HFc.out,?_,HSPc.out,HLKc.out⟩
        rw [HSCc.out,rst_end (by omega),rsJ_end (by omega)]
       case measure=>simp [intOf];omega
  ·have x1:¬ (j:Int)≤(L:Int):=by omega
   go_wp2
   (try simp only [Exit.inBlock,Exit.then])
   go_ret
   have hq:scan hi most F (frm all lo)=(Fj,true):=by
    rw [HSC.out,rsJ_end (by omega)]
    rfl
   unfold TkR
   rw [hq]
   exact ⟨rfl,HSPj.out,HLKw.out⟩
theorem look_ok [Gd] {B p q r:Nat} {s:DS} {t:PS} {w0:World} {lv hv:Value} {lo hi:List Nat} {most:Nat} (hST:ST B p q s t w0) (hB:B≤w0.heap.size) (hlf:s.life=t.life) (hdn:s.down=false) (hmo:most<100000):∀ h,h<100000→LkC B p q r s t w0.heap.size w0 lv hv lo hi most h
 | 0,_=>fun w b F hb hon _ hsp hF=>look_leaf hST hB hlf hdn hb b hon F hsp hF hmo
 | h+1,hh=>fun w b F hb hon hsr hsp hF=>look_branch hST hB hlf hdn hb b hon hsr F hsp hF hmo (by omega) (look_ok hST hB hlf hdn hmo h (by omega))
def LkB (w:World) (k:Nat):Prop:=∃ cs t fz,w.heap[k]?=some (Obj.cells cs t fz)∧t≠67∧t≠74
theorem LkF.cell {B1 k:Nat} {w w':World} (h:LkF B1 w w') (hk:LkB w k) (o:Nat):w'.cell? ⟨k,o,none⟩=w.cell? ⟨k,o,none⟩:=by
 obtain ⟨cs,t,fz,h1,h2,h3⟩:=hk
 exact World.cell?_of_block ((h.2 k cs t fz h1 h2 h3).trans h1.symm)
theorem pairs1_ok [Gd] {B p q g r rb tb sb gs so h:Nat} {s:DS} {t:PS} {w0 w:World} {lv hv:Value} {lo hi:List Nat} {most:Nat} (hST:ST B p q s t w0) (hB:B≤w0.heap.size) (hlf:s.life=t.life) (hdn:s.down=false) (hb:Below w0.heap.size w0 w) (b:BT h) (hon:OnD s t h b) (hsr:Srt (flB h b)) (hh:h<100000) (hsp:SpV B w0.heap.size w r lv hv lo hi most []) (hm0:0<most) (hmo:most<100000)
  (c1:w.cell? ⟨rb,0,none⟩=some (.pointer (some ⟨r,0,none⟩))) (c2:w.cell? ⟨tb,0,none⟩=some (.pointer (some ⟨g,0,none⟩))) (c3:w.cell? ⟨g,1,none⟩=some (.pointer (some ⟨q,0,none⟩))) (c4:w.cell? ⟨sb,0,none⟩=some (.pointer (some ⟨gs,so,none⟩))) (c5:w.cell? ⟨gs,so,none⟩=some (.int .i64 (BT.id b:Int))) (c6:w.cell? ⟨gs,so+1,none⟩=some (.int .i64 ((h:Int)+1)))
  (k1:LkB w rb) (k2:LkB w tb) (k3:LkB w g) (k4:LkB w sb) (k5:LkB w gs) :
  Calls Tryz.prog 54 #[.pointer (some ⟨rb,0,none⟩),.pointer (some ⟨tb,0,none⟩),.pointer (some ⟨sb,0,none⟩)] w fun e w'=>e=.returned (.int .i64 0)∧SpV B w0.heap.size w' r lv hv lo hi most (scan hi most [] (frm (flB h b) lo)).1∧LkF w0.heap.size w w':=by
 have HBd:=hide (Below.refl w.heap.size w).drew
 have HLK:=hide (look_ok hST hB hlf hdn hmo h hh w.drew b [] (hb.trans (HBd.out.mono hb.size)) hon hsr (hsp.later HBd.out (nT hB hb.size)) hm0)
 have HS0:=hide hb.size
 have HX0:Hid ((fun wx=>wx.cell? ⟨rb,0,none⟩=some (.pointer (some ⟨r,0,none⟩))∧wx.cell? ⟨tb,0,none⟩=some (.pointer (some ⟨g,0,none⟩))∧wx.cell? ⟨g,1,none⟩=some (.pointer (some ⟨q,0,none⟩))∧wx.cell? ⟨sb,0,none⟩=some (.pointer (some ⟨gs,so,none⟩))∧wx.cell? ⟨gs,so,none⟩=some (.int .i64 (BT.id b:Int))∧wx.cell? ⟨gs,so+1,none⟩=some (.int .i64 ((h:Int)+1))) w.drew):=⟨c1,c2,c3,c4,c5,c6⟩
 have HKK:=hide (show ∀ w',LkF w0.heap.size w.drew w'→((fun wx=>wx.cell? ⟨rb,0,none⟩=some (.pointer (some ⟨r,0,none⟩))∧wx.cell? ⟨tb,0,none⟩=some (.pointer (some ⟨g,0,none⟩))∧wx.cell? ⟨g,1,none⟩=some (.pointer (some ⟨q,0,none⟩))∧wx.cell? ⟨sb,0,none⟩=some (.pointer (some ⟨gs,so,none⟩))∧wx.cell? ⟨gs,so,none⟩=some (.int .i64 (BT.id b:Int))∧wx.cell? ⟨gs,so+1,none⟩=some (.int .i64 ((h:Int)+1))) w') from fun w' hl=>⟨(hl.cell k1 0).trans c1,(hl.cell k2 0).trans c2,(hl.cell k3 1).trans c3,(hl.cell k4 0).trans c4,(hl.cell k5 so).trans c5,(hl.cell k5 (so+1)).trans c6⟩)
 clear hST hb hon hsr hsp c1 c2 c3 c4 c5 c6 k1 k2 k3 k4 k5
 go_enter Tryz.func54,Tryz.ntmps54
 go_upto_region 1 with fail
 refine wp_region_noPanic ?_
 refine wp_region_held_drew (S:=fun wx=>wx.cell? ⟨rb,0,none⟩=some (.pointer (some ⟨r,0,none⟩))∧wx.cell? ⟨tb,0,none⟩=some (.pointer (some ⟨g,0,none⟩))∧wx.cell? ⟨g,1,none⟩=some (.pointer (some ⟨q,0,none⟩))∧wx.cell? ⟨sb,0,none⟩=some (.pointer (some ⟨gs,so,none⟩))∧wx.cell? ⟨gs,so,none⟩=some (.int .i64 (BT.id b:Int))∧wx.cell? ⟨gs,so+1,none⟩=some (.int .i64 ((h:Int)+1))) (by kernel_rfl) HX0.out (fun hHeld=>?_)
 refine wpAnyH_tk 0 4 ?_
 refine wpAnyH_tk 1 5 ?_
 refine wpAnyH_tk 2 6 ?_
 refine wpAnyH_tk 3 7 ?_
 refine wpAnyH_tk 4 8 ?_
 refine wpAnyH_tk 5 9 ?_
 refine wpAnyH_tk 6 10 ?_
 refine wpAnyH_tk 7 11 ?_
 refine wpAnyH_tk 8 12 ?_
 refine wpAnyH_tk 9 13 ?_
 refine wpAnyH_tk 10 14 ?_
 refine wpAnyH_tk 11 15 ?_
 refine wpAnyH_tk 12 16 ?_
 refine wpAnyH_cm 13 ?_;intro K hK
 go_simp
 refine HLK.out.mono ?_
 rintro e w1 ⟨rfl,hs1,hl1⟩
 have HS1:=hide hs1
 have HL1:=hide hl1
 have HX1:=hide (HKK.out w1 hl1)
 clear hs1 hl1 hHeld
 refine hK.out _ _ HX1.out (fun hHeld=>?_)
 clear hK K
 try simp only [Act.put,siT,scZ,scS]
 refine wpAnyH_done (by kernel_rfl) ?_ _
 refine NoPanic.normal ?_
 clear hHeld
 go_wp2
 go_ret
 exact ⟨rfl,HS1.out,(LkF.of HBd.out HS0.out).trans HL1.out⟩
end Go.Proofs.YtohgmapjokaibaaGreat
