import Derived.Test.YtfobcelkmopohaaGreatZ36
set_option maxRecDepth 100000
set_option maxHeartbeats 16000000
set_option linter.unusedVariables false
namespace Go.Proofs.YtfobcelkmopohaaGreat
open Go.RowKit
theorem aGo {B gb gi gc n i g5 gq oq cq m gk ok ck:Nat} {w:World} {ka va:Option Addr} {kn kc vn vc:Nat} {ic cv t1 t2:List Value} (hgb:w.heap[gb]?=some (.cells #[.slice (some ⟨gi,0,none⟩) m (m+1),.slice (some ⟨gc,0,none⟩) n (n+1)] 138 (0,0))) (hgi:w.heap[gi]?=some (.cells (ic++t1).toArray 69 (0,0))) (hgc:w.heap[gc]?=some (.cells (cv++t2).toArray 94 (0,0)))
  (hB:B<=gb/\B<=gi/\B<=gc) (hBw:B<=w.heap.size) (hic:ic.length=m*2) (ht1:t1.length=2) (hm10:m<=10) (him:i<=m) (h0:∀ u∈ic,u.oneCell'=true) (hn:cv.length=n) (ht2:t2.length=1) (hn10:n<=10) (hi:i<n) (h1:∀ u∈cv,u.oneCell'=true)
  (hcv:cv[i]?=some (brP g5)) (hg5:w.heap[g5]?=some (.cells #[.slice (some ⟨gq,oq,none⟩) 5 cq,.slice (some ⟨gk,ok,none⟩) 6 ck] 138 (0,0))) (hcq:5<=cq) (hck:6<=ck) (hk:w.cell? ⟨gq,oq+4,none⟩=some (.slice ka kn kc)) (hv:w.cell? ⟨gq,oq+5,none⟩=some (.slice va vn vc)) :
  Calls Tryz.prog 83 #[.pointer (some ⟨gb,0,none⟩),.int .i64 (i:Int)] w fun e w'=>e=.returned (.tuple #[])/\∃ gl gr,SplM B gb gi gc i m n ic cv (.slice ka kn kc) (.slice va vn vc) (brP gl) (brP gr) w w'/\w'.heap[gl]?=some (.cells #[.slice (some ⟨gq,oq,none⟩) 2 cq,.slice (some ⟨gk,ok,none⟩) 3 ck] 138 (0,0))/\w'.heap[gr]?=some (.cells #[.slice (some ⟨gq,oq+6,none⟩) 2 (cq-3),.slice (some ⟨gk,ok+3,none⟩) 3 (ck-3)] 138 (0,0))/\gl≠gr/\w.heap.size<=gl/\w.heap.size<=gr:=by
 have HGB:=zH hgb
 have HGI:=zH hgi
 have HGC:=zH hgc
 have HG5:=zH hg5
 have HB:=zH hB
 have HBW:=zH hBw
 have HK:=zH hk
 have HV:=zH hv
 have H0:=zH h0
 have H1:=zH h1
 have HN:=zH hn
 have HIC:=zH hic
 have HT1:=zH ht1
 have HT2:=zH ht2
 have HIO:=zH (aAn hg5)
 unfold brP at HIO
 have r0:w.cell? ⟨gb,1,none⟩=some (.slice (some ⟨gc,0,none⟩) n (n+1)):=aAa hgb
 have r1:w.cell? ⟨gc,i,none⟩=some (.iface 134 (.pointer (some ⟨g5,0,none⟩))):=by rw [aAa hgc,List.getElem?_toArray,List.getElem?_append_left (by omega)];exact hcv
 have hcq3:¬ cq=3:=by omega
 have hck3:¬ ck=3:=by omega
 have xi:(i:Int)<(n:Int):=by omega
 have HT:=zH (aAk (.pointer (some ⟨g5,0,none⟩)))
 clear hgb hgi hgc hg5 hB hBw h0 h1 hn hic ht1 ht2 hk hv hcv
 go_enter Tryz.func83,Tryz.ntmps83
 go_wp2_with fail
 refine HIO.o.mono ?_
 rintro e w1 ⟨rfl,hw⟩
 have hw:=hw.symm
 subst hw
 go_upto_region 2 with fail
 go_cut [6,7] from 21 to 33 (fun a b wx=>∃ g1 g2,a=.iface 117 (.pointer (some ⟨g1,0,none⟩))/\b=.iface 117 (.pointer (some ⟨g2,0,none⟩))/\wx.heap[g1]?=some (.cells #[.slice (some ⟨gq,oq,none⟩) 2 cq] 120 (0,0))/\wx.heap[g2]?=some (.cells #[.slice (some ⟨gq,oq+6,none⟩) 2 (cq-3)] 120 (0,0))/\g1≠g2/\w.heap.size<=g1/\w.heap.size<=g2/\Below w.heap.size w wx)
 case first =>
  go_region
  ·go_wp2
   go_meet
   obtain ⟨q1,q2,q3⟩:=aBs w #[.slice (some ⟨gq,oq,none⟩) 2 cq] #[.slice (some ⟨gq,oq+6,none⟩) 2 (cq-3)] 120 120
   exact ⟨w.heap.size,w.heap.size+1,rfl,rfl,q1,q2,by omega,by omega,by omega,q3⟩
  ·go_wp2
   go_meet
   obtain ⟨q1,q2,q3⟩:=aBs w #[.slice (some ⟨gq,oq+6,none⟩) 2 (cq-3)] #[.slice (some ⟨gq,oq,none⟩) 2 cq] 120 120
   exact ⟨w.heap.size+1,w.heap.size,rfl,rfl,q2,q1,by omega,by omega,by omega,q3⟩
 case rest =>
  obtain ⟨g8,g9,rfl,rfl,-,-,-,-,-,z6⟩:=hcut
  have HZ0:=zH z6
  have hgs5:=(lO HG5.o)
  have HG5c:Hid (wc.heap[g5]?=some (.cells #[.slice (some ⟨gq,oq,none⟩) 5 cq,.slice (some ⟨gk,ok,none⟩) 6 ck] 138 (0,0))):=(z6.block g5 hgs5).trans HG5.o
  have c9:wc.cell? ⟨g5,1,none⟩=some (.slice (some ⟨gk,ok,none⟩) 6 ck):=aAa HG5c.o
  have HGBc:Hid (wc.heap[gb]?=some (.cells #[.slice (some ⟨gi,0,none⟩) m (m+1),.slice (some ⟨gc,0,none⟩) n (n+1)] 138 (0,0))):=(z6.block gb (lO HGB.o)).trans HGB.o
  have c0:wc.cell? ⟨gb,0,none⟩=some (.slice (some ⟨gi,0,none⟩) m (m+1)):=aAa HGBc.o
  have c1:wc.cell? ⟨gb,1,none⟩=some (.slice (some ⟨gc,0,none⟩) n (n+1)):=aAa HGBc.o
  have c2:wc.cell? ⟨gc,i,none⟩=some (.iface 134 (.pointer (some ⟨g5,0,none⟩))):=(z6.cell (p:=⟨gc,i,none⟩) (block_lt_of_cell r1)).trans r1
  have c3:wc.cell? ⟨gq,oq+4,none⟩=some (.slice ka kn kc):=(z6.cell (p:=⟨gq,oq+4,none⟩) (block_lt_of_cell HK.o)).trans HK.o
  have c4:wc.cell? ⟨gq,oq+5,none⟩=some (.slice va vn vc):=(z6.cell (p:=⟨gq,oq+5,none⟩) (block_lt_of_cell HV.o)).trans HV.o
  have ta:=HT.o wc
  have f0:wc.frozen? ⟨gb,0,none⟩=false:=aAc HGBc.o
  have hgbl:=(lO HGBc.o)
  have hgql:gq<wc.heap.size:=block_lt_of_cell c3
  clear z6 r0 r1
  have HN5:Hid ((wc.alloc (.cells #[.slice (some ⟨gq,oq,none⟩) 2 cq,.slice (some ⟨gk,ok,none⟩) 3 ck] 138)).drew.heap[wc.heap.size]?=some (.cells #[.slice (some ⟨gq,oq,none⟩) 2 cq,.slice (some ⟨gk,ok,none⟩) 3 ck] 138 (0,0))):=heap_alloc_new wc _
  have HB5a:=zH ((aAb wc (.cells #[.slice (some ⟨gq,oq,none⟩) 2 cq,.slice (some ⟨gk,ok,none⟩) 3 ck] 138)).drew)
  have HS5:Hid ((wc.alloc (.cells #[.slice (some ⟨gq,oq,none⟩) 2 cq,.slice (some ⟨gk,ok,none⟩) 3 ck] 138)).drew.heap.size=wc.heap.size+1):=by show (wc.alloc _).heap.size=_;simp
  have hg5l:=(lO HG5c.o)
  go_upto_region 5 with fail
  go_region
  go_upto_region 6 with fail
  generalize (wc.alloc (.cells #[.slice (some ⟨gq,oq,none⟩) 2 cq,.slice (some ⟨gk,ok,none⟩) 3 ck] 138)).drew=w2 at *
  have d9:w2.cell? ⟨g5,1,none⟩=some (.slice (some ⟨gk,ok,none⟩) 6 ck):=(HB5a.o.cell (p:=⟨g5,1,none⟩) hg5l).trans c9
  have HN6:Hid ((w2.alloc (.cells #[.slice (some ⟨gq,oq+6,none⟩) 2 (cq-3),.slice (some ⟨gk,ok+3,none⟩) 3 (ck-3)] 138)).drew.heap[w2.heap.size]?=some (.cells #[.slice (some ⟨gq,oq+6,none⟩) 2 (cq-3),.slice (some ⟨gk,ok+3,none⟩) 3 (ck-3)] 138 (0,0))):=heap_alloc_new w2 _
  have HB6a:=zH ((aAb w2 (.cells #[.slice (some ⟨gq,oq+6,none⟩) 2 (cq-3),.slice (some ⟨gk,ok+3,none⟩) 3 (ck-3)] 138)).drew)
  go_region
  go_upto_region 7 with fail
  have HZ6:Hid (Below w.heap.size w (w2.alloc (.cells #[.slice (some ⟨gq,oq+6,none⟩) 2 (cq-3),.slice (some ⟨gk,ok+3,none⟩) 3 (ck-3)] 138)).drew):=(HZ0.o.trans (HB5a.o.mono HZ0.o.size)).trans (HB6a.o.mono (nT HZ0.o.size HB5a.o.size))
  have HZ1:Hid ((w2.alloc (.cells #[.slice (some ⟨gq,oq+6,none⟩) 2 (cq-3),.slice (some ⟨gk,ok+3,none⟩) 3 (ck-3)] 138)).drew.heap[wc.heap.size]?=some (.cells #[.slice (some ⟨gq,oq,none⟩) 2 cq,.slice (some ⟨gk,ok,none⟩) 3 ck] 138 (0,0))):=(HB6a.o.block _ (lO HN5.o)).trans HN5.o
  have HZ2:=HN6
  have z4:w.heap.size<=wc.heap.size:=HZ0.o.size
  have z5:w.heap.size<=w2.heap.size:=nT HZ0.o.size HB5a.o.size
  have z3:wc.heap.size≠w2.heap.size:=by have:=HS5.o;omega
  generalize (w2.alloc (.cells #[.slice (some ⟨gq,oq+6,none⟩) 2 (cq-3),.slice (some ⟨gk,ok+3,none⟩) 3 (ck-3)] 138)).drew=w3 at *
  generalize hgl:wc.heap.size=gl at *
  generalize hgr:w2.heap.size=gr at *
  have HGB3:Hid (w3.heap[gb]?=some (.cells #[.slice (some ⟨gi,0,none⟩) m (m+1),.slice (some ⟨gc,0,none⟩) n (n+1)] 138 (0,0))):=(HZ6.o.block gb (lO HGB.o)).trans HGB.o
  clear c0 c1 c2 c3 c4 c9 d9 ta f0 hgbl hgql HGBc
  have HGBc:=HGB3
  have a0:w3.cell? ⟨gb,0,none⟩=some (.slice (some ⟨gi,0,none⟩) m (m+1)):=aAa HGB3.o
  have a1:w3.cell? ⟨gb,1,none⟩=some (.slice (some ⟨gc,0,none⟩) n (n+1)):=aAa HGB3.o
  have a3:w3.cell? ⟨gq,oq+4,none⟩=some (.slice ka kn kc):=(HZ6.o.cell (p:=⟨gq,oq+4,none⟩) (block_lt_of_cell HK.o)).trans HK.o
  have a4:w3.cell? ⟨gq,oq+5,none⟩=some (.slice va vn vc):=(HZ6.o.cell (p:=⟨gq,oq+5,none⟩) (block_lt_of_cell HV.o)).trans HV.o
  have f00:w3.frozen? ⟨gb,0,none⟩=false:=aAc HGB3.o
  have hgbl:=(lO HGB3.o)
  have hgql3:gq<w3.heap.size:=block_lt_of_cell a3
  have hgib:gi≠gb:=by
   intro q9
   have h9:=HGI.o
   rw [q9,HGB.o] at h9
   simp only [oI,cI] at h9
   exact absurd h9.2.1 (by decide)
  have hgcb:gc≠gb:=by
   intro q9
   have h9:=HGC.o
   rw [q9,HGB.o] at h9
   simp only [oI,cI] at h9
   exact absurd h9.2.1 (by decide)
  have hgci:gc≠gi:=by
   intro q9
   have h9:=HGC.o
   rw [q9,HGI.o] at h9
   simp only [oI,cI] at h9
   exact absurd h9.2.1 (by decide)
  have hgiw:=(lO HGI.o)
  have hgcw:=(lO HGC.o)
  have hgbw:=(lO HGB.o)
  have hsz:=HZ6.o.size
  have HBA:=zH ((aAb w3 (.cells #[.slice ka kn kc,.slice va vn vc] 69)).drew)
  have HNA:Hid ((w3.alloc (.cells #[.slice ka kn kc,.slice va vn vc] 69)).drew.heap[w3.heap.size]?=some (.cells #[.slice ka kn kc,.slice va vn vc] 69 (0,0))):=heap_alloc_new w3 _
  have HII:=zH (aFi (w:=(w3.alloc (.cells #[.slice ka kn kc,.slice va vn vc] 69)).drew) (i:=i) ((HBA.o.block gi (by omega)).trans ((HZ6.o.block gi hgiw).trans HGI.o)) HIC.o HT1.o hm10 him (show w3.heap.size≠gi by omega) HNA.o H0.o rfl rfl)
  go_cut [] from 73 to 86 (fun wx=>wx.heap[gb]?=some (.cells #[.slice (some ⟨gi,0,none⟩) (m+1) (m+1),.slice (some ⟨gc,0,none⟩) n (n+1)] 138 (0,0))/\wx.heap[gi]?=some (.cells (ic.take (i*2)++.slice ka kn kc::.slice va vn vc::ic.drop (i*2)).toArray 69 (0,0))/\Ex B [gb,gi] w3 wx)
  case first =>
   go_region_with ((go_at_call 109;refine HII.o.mono ?_;rintro e w2 ⟨rfl,hgi2,hoth2,hbl2⟩;have HGB2:Hid (w2.heap[gb]?=some (.cells #[.slice (some ⟨gi,0,none⟩) m (m+1),.slice (some ⟨gc,0,none⟩) n (n+1)] 138 (0,0))):=(hoth2 gb hgib.symm).trans ((HBA.o.block gb hgbl).trans HGBc.o);have z0:w2.cell? ⟨gb,0,none⟩=some (.slice (some ⟨gi,0,none⟩) m (m+1)):=aAa HGB2.o;have f2:w2.frozen? ⟨gb,0,none⟩=false:=aAc HGB2.o;have HG2:=zH hgi2;have HO2:=zH hoth2;have HBL2:=zH (hbl2 B HB.o.2.1);clear hgi2 hoth2 hbl2))
   all_goals
    go_wp2
    go_meet
    refine ⟨?_,?_,?_,?_⟩
    ·rw [heap_setCell_same _ _ _ _ _ _ HGB2.o]
     rfl
    ·rw [heap_setCell_other _ _ _ _ (by exact hgib)]
     exact HG2.o
    ·exact ((HBA.o.mono (nT HBW.o HZ6.o.size)).trans HBL2.o).trans ((Below.refl B w2).setCell (p:=⟨gb,0,none⟩) HB.o.1 _)
    ·intro k hk hnk
     simp only [List.mem_cons,List.not_mem_nil,or_false,not_or] at hnk
     rw [heap_setCell_other _ _ _ _ (by exact hnk.1),HO2.o k hnk.2,HBA.o.block k hk]
  case rest =>
   obtain ⟨y1,y2,y6⟩:=hcut
   have HGC2:Hid (wc.heap[gc]?=some (.cells (cv++t2).toArray 94 (0,0))):=by
    show _=_
    rw [y6.2 gc (Nat.lt_of_lt_of_le hgcw HZ6.o.size) (by simp [hgcb,hgci]),HZ6.o.block gc hgcw]
    exact HGC.o
   have hglb:gl≠gb:=by omega
   have hgrb:gr≠gb:=by omega
   have hgli:gl≠gi:=by omega
   have hgri:gr≠gi:=by omega
   have hglc:gl≠gc:=by omega
   have hgrc:gr≠gc:=by omega
   have HL2:Hid (wc.heap[gl]?=some (.cells #[.slice (some ⟨gq,oq,none⟩) 2 cq,.slice (some ⟨gk,ok,none⟩) 3 ck] 138 (0,0))):=(y6.2 gl (lO HZ1.o) (by simp [hglb,hgli])).trans HZ1.o
   have HR2:Hid (wc.heap[gr]?=some (.cells #[.slice (some ⟨gq,oq+6,none⟩) 2 (cq-3),.slice (some ⟨gk,ok+3,none⟩) 3 (ck-3)] 138 (0,0))):=(y6.2 gr (lO HZ2.o) (by simp [hgrb,hgri])).trans HZ2.o
   have HEx:Hid (Ex B [gb,gi] w wc):=⟨(HZ6.o.mono HBW.o).trans y6.1,fun k hk hnk=>(y6.2 k (Nat.lt_of_lt_of_le hk HZ6.o.size) hnk).trans (HZ6.o.block k hk)⟩
   have HSW:Hid (w.heap.size<=wc.heap.size):=nT HZ6.o.size y6.1.size
   have hsw:w.heap.size<=wc.heap.size:=HSW.o
   have HY1:=zH y1
   have HY2:=zH y2
   have hgbl9:=(lO y1)
   clear a0 a1 a3 a4 f00 hgbl hgql3 y1 y2 y6 HBA HNA HII
   have d1:wc.cell? ⟨gb,1,none⟩=some (.slice (some ⟨gc,0,none⟩) n (n+1)):=aAa HY1.o
   have HBA:=zH (aAb wc (.cells #[brP gl,brP gr] 94))
   have HNA:Hid ((wc.alloc (.cells #[brP gl,brP gr] 94)).heap[wc.heap.size]?=some (.cells #[brP gl,brP gr] 94 (0,0))):=heap_alloc_new wc _
   have HRP:=zH (aD5 (w:=wc.alloc (.cells #[brP gl,brP gr] 94)) (i:=i) ((HBA.o.block gc (lO HGC2.o)).trans HGC2.o) HN.o HT2.o hn10 hi (show wc.heap.size≠gc by omega) HNA.o H1.o rfl rfl)
   unfold brP at HRP HBA HNA
   clear hgib hgcb hgci hgiw hgcw hgbw hglb hgrb hgli hgri hglc hgrc
   go_wp2_with fail
   refine HRP.o.mono ?_
   rintro e w5 ⟨rfl,hgc5,hoth5,hbl5⟩
   have hgib:gi≠gb:=by
    intro q9
    have h9:=HGI.o
    rw [q9,HGB.o] at h9
    simp only [oI,cI] at h9
    exact absurd h9.2.1 (by decide)
   have hgcb:gc≠gb:=by
    intro q9
    have h9:=HGC.o
    rw [q9,HGB.o] at h9
    simp only [oI,cI] at h9
    exact absurd h9.2.1 (by decide)
   have hgci:gc≠gi:=by
    intro q9
    have h9:=HGC.o
    rw [q9,HGI.o] at h9
    simp only [oI,cI] at h9
    exact absurd h9.2.1 (by decide)
   have HG5n:=zH hgc5
   have HO5:=zH hoth5
   have HBL5:=zH (hbl5 B HB.o.2.2)
   have HGB5:Hid (w5.heap[gb]?=some (.cells #[.slice (some ⟨gi,0,none⟩) (m+1) (m+1),.slice (some ⟨gc,0,none⟩) n (n+1)] 138 (0,0))):=(hoth5 gb hgcb.symm).trans ((HBA.o.block gb hgbl9).trans HY1.o)
   have e1:w5.cell? ⟨gb,1,none⟩=some (.slice (some ⟨gc,0,none⟩) n (n+1)):=aAa HGB5.o
   have f5:w5.frozen? ⟨gb,1,none⟩=false:=aAc HGB5.o
   have HNE:Hid (gi≠gb/\gc≠gb/\gc≠gi):=⟨hgib,hgcb,hgci⟩
   clear hgc5 hoth5 hbl5 HRP d1 hgib hgcb hgci
   go_wp2
   go_end0
   obtain ⟨hgib,hgcb,hgci⟩:=HNE.o
   have hgiw:=(lO HGI.o)
   have hgcw:=(lO HGC.o)
   have hgbw:=(lO HGB.o)
   have oth:∀ k,k≠gb->k≠gc->k<wc.heap.size->(w5.setCell ⟨gb,1,none⟩ (.slice (some ⟨gc,0,none⟩) (n+1) (n+1))).heap[k]?=wc.heap[k]?:=fun k hk hk2 hk3=>by
    rw [heap_setCell_other _ _ _ _ (by exact hk),HO5.o k hk2,HBA.o.block k hk3]
   refine ⟨rfl,gl,gr,⟨?_,?_,?_,?_,?_⟩,?_,?_,z3,z4,z5⟩
   ·rw [heap_setCell_same _ _ _ _ _ _ HGB5.o]
    rfl
   ·rw [oth gi hgib hgci.symm (by omega)]
    exact HY2.o
   ·rw [heap_setCell_other _ _ _ _ (by exact hgcb)]
    exact HG5n.o
   ·exact ((HEx.o.1.trans (HBA.o.mono (nT HBW.o HSW.o))).trans HBL5.o).trans ((Below.refl B w5).setCell (p:=⟨gb,1,none⟩) HB.o.1 _)
   ·intro k hk hnk
    simp only [List.mem_cons,List.not_mem_nil,or_false,not_or] at hnk
    rw [oth k hnk.1 hnk.2.2 (by omega)]
    exact HEx.o.2 k hk (by simp [hnk.1,hnk.2.1])
   ·rw [oth gl (by omega) (by omega) (lO HL2.o)]
    exact HL2.o
   ·rw [oth gr (by omega) (by omega) (lO HR2.o)]
    exact HR2.o
theorem aGn {B gb gi gc n i g5 gq oq cq m gk ok ck:Nat} {w:World} {ka va:Option Addr} {kn kc vn vc:Nat} {ic cv t1 t2:List Value} (hgb:w.heap[gb]?=some (.cells #[.slice (some ⟨gi,0,none⟩) m (m+1),.slice (some ⟨gc,0,none⟩) n (n+1)] 138 (0,0))) (hgi:w.heap[gi]?=some (.cells (ic++t1).toArray 69 (0,0))) (hgc:w.heap[gc]?=some (.cells (cv++t2).toArray 94 (0,0)))
  (hB:B<=gb/\B<=gi/\B<=gc) (hBw:B<=w.heap.size) (hic:ic.length=m*2) (ht1:t1.length=2) (hm10:m<=10) (him:i<=m) (h0:∀ u∈ic,u.oneCell'=true) (hn:cv.length=n) (ht2:t2.length=1) (hn10:n<=10) (hi:i<n) (h1:∀ u∈cv,u.oneCell'=true)
  (hcv:cv[i]?=some (brP g5)) (hg5:w.heap[g5]?=some (.cells #[.slice (some ⟨gq,oq,none⟩) 6 cq,.slice (some ⟨gk,ok,none⟩) 7 ck] 138 (0,0))) (hcq:6<=cq) (hck:7<=ck) (hk:w.cell? ⟨gq,oq+6,none⟩=some (.slice ka kn kc)) (hv:w.cell? ⟨gq,oq+7,none⟩=some (.slice va vn vc)) :
  Calls Tryz.prog 83 #[.pointer (some ⟨gb,0,none⟩),.int .i64 (i:Int)] w fun e w'=>e=.returned (.tuple #[])/\∃ gl gr,SplM B gb gi gc i m n ic cv (.slice ka kn kc) (.slice va vn vc) (brP gl) (brP gr) w w'/\w'.heap[gl]?=some (.cells #[.slice (some ⟨gq,oq,none⟩) 3 cq,.slice (some ⟨gk,ok,none⟩) 4 ck] 138 (0,0))/\w'.heap[gr]?=some (.cells #[.slice (some ⟨gq,oq+8,none⟩) 2 (cq-4),.slice (some ⟨gk,ok+4,none⟩) 3 (ck-4)] 138 (0,0))/\gl≠gr/\w.heap.size<=gl/\w.heap.size<=gr:=by
 have HGB:=zH hgb
 have HGI:=zH hgi
 have HGC:=zH hgc
 have HG5:=zH hg5
 have HB:=zH hB
 have HBW:=zH hBw
 have HK:=zH hk
 have HV:=zH hv
 have H0:=zH h0
 have H1:=zH h1
 have HN:=zH hn
 have HIC:=zH hic
 have HT1:=zH ht1
 have HT2:=zH ht2
 have HIO:=zH (aAn hg5)
 unfold brP at HIO
 have r0:w.cell? ⟨gb,1,none⟩=some (.slice (some ⟨gc,0,none⟩) n (n+1)):=aAa hgb
 have r1:w.cell? ⟨gc,i,none⟩=some (.iface 134 (.pointer (some ⟨g5,0,none⟩))):=by rw [aAa hgc,List.getElem?_toArray,List.getElem?_append_left (by omega)];exact hcv
 have hcq3:¬ cq=4:=by omega
 have hck3:¬ ck=4:=by omega
 have xi:(i:Int)<(n:Int):=by omega
 have HT:=zH (aAk (.pointer (some ⟨g5,0,none⟩)))
 clear hgb hgi hgc hg5 hB hBw h0 h1 hn hic ht1 ht2 hk hv hcv
 go_enter Tryz.func83,Tryz.ntmps83
 go_wp2_with fail
 refine HIO.o.mono ?_
 rintro e w1 ⟨rfl,hw⟩
 have hw:=hw.symm
 subst hw
 go_upto_region 2 with fail
 go_cut [6,7] from 21 to 33 (fun a b wx=>∃ g1 g2,a=.iface 117 (.pointer (some ⟨g1,0,none⟩))/\b=.iface 117 (.pointer (some ⟨g2,0,none⟩))/\wx.heap[g1]?=some (.cells #[.slice (some ⟨gq,oq,none⟩) 3 cq] 120 (0,0))/\wx.heap[g2]?=some (.cells #[.slice (some ⟨gq,oq+8,none⟩) 2 (cq-4)] 120 (0,0))/\g1≠g2/\w.heap.size<=g1/\w.heap.size<=g2/\Below w.heap.size w wx)
 case first =>
  go_region
  ·go_wp2
   go_meet
   obtain ⟨q1,q2,q3⟩:=aBs w #[.slice (some ⟨gq,oq,none⟩) 3 cq] #[.slice (some ⟨gq,oq+8,none⟩) 2 (cq-4)] 120 120
   exact ⟨w.heap.size,w.heap.size+1,rfl,rfl,q1,q2,by omega,by omega,by omega,q3⟩
  ·go_wp2
   go_meet
   obtain ⟨q1,q2,q3⟩:=aBs w #[.slice (some ⟨gq,oq+8,none⟩) 2 (cq-4)] #[.slice (some ⟨gq,oq,none⟩) 3 cq] 120 120
   exact ⟨w.heap.size+1,w.heap.size,rfl,rfl,q2,q1,by omega,by omega,by omega,q3⟩
 case rest =>
  obtain ⟨g8,g9,rfl,rfl,-,-,-,-,-,z6⟩:=hcut
  have HZ0:=zH z6
  have hgs5:=(lO HG5.o)
  have HG5c:Hid (wc.heap[g5]?=some (.cells #[.slice (some ⟨gq,oq,none⟩) 6 cq,.slice (some ⟨gk,ok,none⟩) 7 ck] 138 (0,0))):=(z6.block g5 hgs5).trans HG5.o
  have c9:wc.cell? ⟨g5,1,none⟩=some (.slice (some ⟨gk,ok,none⟩) 7 ck):=aAa HG5c.o
  have HGBc:Hid (wc.heap[gb]?=some (.cells #[.slice (some ⟨gi,0,none⟩) m (m+1),.slice (some ⟨gc,0,none⟩) n (n+1)] 138 (0,0))):=(z6.block gb (lO HGB.o)).trans HGB.o
  have c0:wc.cell? ⟨gb,0,none⟩=some (.slice (some ⟨gi,0,none⟩) m (m+1)):=aAa HGBc.o
  have c1:wc.cell? ⟨gb,1,none⟩=some (.slice (some ⟨gc,0,none⟩) n (n+1)):=aAa HGBc.o
  have c2:wc.cell? ⟨gc,i,none⟩=some (.iface 134 (.pointer (some ⟨g5,0,none⟩))):=(z6.cell (p:=⟨gc,i,none⟩) (block_lt_of_cell r1)).trans r1
  have c3:wc.cell? ⟨gq,oq+6,none⟩=some (.slice ka kn kc):=(z6.cell (p:=⟨gq,oq+6,none⟩) (block_lt_of_cell HK.o)).trans HK.o
  have c4:wc.cell? ⟨gq,oq+7,none⟩=some (.slice va vn vc):=(z6.cell (p:=⟨gq,oq+7,none⟩) (block_lt_of_cell HV.o)).trans HV.o
  have ta:=HT.o wc
  have f0:wc.frozen? ⟨gb,0,none⟩=false:=aAc HGBc.o
  have hgbl:=(lO HGBc.o)
  have hgql:gq<wc.heap.size:=block_lt_of_cell c3
  clear z6 r0 r1
  have HN5:Hid ((wc.alloc (.cells #[.slice (some ⟨gq,oq,none⟩) 3 cq,.slice (some ⟨gk,ok,none⟩) 4 ck] 138)).drew.heap[wc.heap.size]?=some (.cells #[.slice (some ⟨gq,oq,none⟩) 3 cq,.slice (some ⟨gk,ok,none⟩) 4 ck] 138 (0,0))):=heap_alloc_new wc _
  have HB5a:=zH ((aAb wc (.cells #[.slice (some ⟨gq,oq,none⟩) 3 cq,.slice (some ⟨gk,ok,none⟩) 4 ck] 138)).drew)
  have HS5:Hid ((wc.alloc (.cells #[.slice (some ⟨gq,oq,none⟩) 3 cq,.slice (some ⟨gk,ok,none⟩) 4 ck] 138)).drew.heap.size=wc.heap.size+1):=by show (wc.alloc _).heap.size=_;simp
  have hg5l:=(lO HG5c.o)
  go_upto_region 5 with fail
  go_region
  go_upto_region 6 with fail
  generalize (wc.alloc (.cells #[.slice (some ⟨gq,oq,none⟩) 3 cq,.slice (some ⟨gk,ok,none⟩) 4 ck] 138)).drew=w2 at *
  have d9:w2.cell? ⟨g5,1,none⟩=some (.slice (some ⟨gk,ok,none⟩) 7 ck):=(HB5a.o.cell (p:=⟨g5,1,none⟩) hg5l).trans c9
  have HN6:Hid ((w2.alloc (.cells #[.slice (some ⟨gq,oq+8,none⟩) 2 (cq-4),.slice (some ⟨gk,ok+4,none⟩) 3 (ck-4)] 138)).drew.heap[w2.heap.size]?=some (.cells #[.slice (some ⟨gq,oq+8,none⟩) 2 (cq-4),.slice (some ⟨gk,ok+4,none⟩) 3 (ck-4)] 138 (0,0))):=heap_alloc_new w2 _
  have HB6a:=zH ((aAb w2 (.cells #[.slice (some ⟨gq,oq+8,none⟩) 2 (cq-4),.slice (some ⟨gk,ok+4,none⟩) 3 (ck-4)] 138)).drew)
  go_region
  go_upto_region 7 with fail
  have HZ6:Hid (Below w.heap.size w (w2.alloc (.cells #[.slice (some ⟨gq,oq+8,none⟩) 2 (cq-4),.slice (some ⟨gk,ok+4,none⟩) 3 (ck-4)] 138)).drew):=(HZ0.o.trans (HB5a.o.mono HZ0.o.size)).trans (HB6a.o.mono (nT HZ0.o.size HB5a.o.size))
  have HZ1:Hid ((w2.alloc (.cells #[.slice (some ⟨gq,oq+8,none⟩) 2 (cq-4),.slice (some ⟨gk,ok+4,none⟩) 3 (ck-4)] 138)).drew.heap[wc.heap.size]?=some (.cells #[.slice (some ⟨gq,oq,none⟩) 3 cq,.slice (some ⟨gk,ok,none⟩) 4 ck] 138 (0,0))):=(HB6a.o.block _ (lO HN5.o)).trans HN5.o
  have HZ2:=HN6
  have z4:w.heap.size<=wc.heap.size:=HZ0.o.size
  have z5:w.heap.size<=w2.heap.size:=nT HZ0.o.size HB5a.o.size
  have z3:wc.heap.size≠w2.heap.size:=by have:=HS5.o;omega
  generalize (w2.alloc (.cells #[.slice (some ⟨gq,oq+8,none⟩) 2 (cq-4),.slice (some ⟨gk,ok+4,none⟩) 3 (ck-4)] 138)).drew=w3 at *
  generalize hgl:wc.heap.size=gl at *
  generalize hgr:w2.heap.size=gr at *
  have HGB3:Hid (w3.heap[gb]?=some (.cells #[.slice (some ⟨gi,0,none⟩) m (m+1),.slice (some ⟨gc,0,none⟩) n (n+1)] 138 (0,0))):=(HZ6.o.block gb (lO HGB.o)).trans HGB.o
  clear c0 c1 c2 c3 c4 c9 d9 ta f0 hgbl hgql HGBc
  have HGBc:=HGB3
  have a0:w3.cell? ⟨gb,0,none⟩=some (.slice (some ⟨gi,0,none⟩) m (m+1)):=aAa HGB3.o
  have a1:w3.cell? ⟨gb,1,none⟩=some (.slice (some ⟨gc,0,none⟩) n (n+1)):=aAa HGB3.o
  have a3:w3.cell? ⟨gq,oq+6,none⟩=some (.slice ka kn kc):=(HZ6.o.cell (p:=⟨gq,oq+6,none⟩) (block_lt_of_cell HK.o)).trans HK.o
  have a4:w3.cell? ⟨gq,oq+7,none⟩=some (.slice va vn vc):=(HZ6.o.cell (p:=⟨gq,oq+7,none⟩) (block_lt_of_cell HV.o)).trans HV.o
  have f00:w3.frozen? ⟨gb,0,none⟩=false:=aAc HGB3.o
  have hgbl:=(lO HGB3.o)
  have hgql3:gq<w3.heap.size:=block_lt_of_cell a3
  have hgib:gi≠gb:=by
   intro q9
   have h9:=HGI.o
   rw [q9,HGB.o] at h9
   simp only [oI,cI] at h9
   exact absurd h9.2.1 (by decide)
  have hgcb:gc≠gb:=by
   intro q9
   have h9:=HGC.o
   rw [q9,HGB.o] at h9
   simp only [oI,cI] at h9
   exact absurd h9.2.1 (by decide)
  have hgci:gc≠gi:=by
   intro q9
   have h9:=HGC.o
   rw [q9,HGI.o] at h9
   simp only [oI,cI] at h9
   exact absurd h9.2.1 (by decide)
  have hgiw:=(lO HGI.o)
  have hgcw:=(lO HGC.o)
  have hgbw:=(lO HGB.o)
  have hsz:=HZ6.o.size
  have HBA:=zH ((aAb w3 (.cells #[.slice ka kn kc,.slice va vn vc] 69)).drew)
  have HNA:Hid ((w3.alloc (.cells #[.slice ka kn kc,.slice va vn vc] 69)).drew.heap[w3.heap.size]?=some (.cells #[.slice ka kn kc,.slice va vn vc] 69 (0,0))):=heap_alloc_new w3 _
  have HII:=zH (aFi (w:=(w3.alloc (.cells #[.slice ka kn kc,.slice va vn vc] 69)).drew) (i:=i) ((HBA.o.block gi (by omega)).trans ((HZ6.o.block gi hgiw).trans HGI.o)) HIC.o HT1.o hm10 him (show w3.heap.size≠gi by omega) HNA.o H0.o rfl rfl)
  go_cut [] from 73 to 86 (fun wx=>wx.heap[gb]?=some (.cells #[.slice (some ⟨gi,0,none⟩) (m+1) (m+1),.slice (some ⟨gc,0,none⟩) n (n+1)] 138 (0,0))/\wx.heap[gi]?=some (.cells (ic.take (i*2)++.slice ka kn kc::.slice va vn vc::ic.drop (i*2)).toArray 69 (0,0))/\Ex B [gb,gi] w3 wx)
  case first =>
   go_region_with ((go_at_call 109;refine HII.o.mono ?_;rintro e w2 ⟨rfl,hgi2,hoth2,hbl2⟩;have HGB2:Hid (w2.heap[gb]?=some (.cells #[.slice (some ⟨gi,0,none⟩) m (m+1),.slice (some ⟨gc,0,none⟩) n (n+1)] 138 (0,0))):=(hoth2 gb hgib.symm).trans ((HBA.o.block gb hgbl).trans HGBc.o);have z0:w2.cell? ⟨gb,0,none⟩=some (.slice (some ⟨gi,0,none⟩) m (m+1)):=aAa HGB2.o;have f2:w2.frozen? ⟨gb,0,none⟩=false:=aAc HGB2.o;have HG2:=zH hgi2;have HO2:=zH hoth2;have HBL2:=zH (hbl2 B HB.o.2.1);clear hgi2 hoth2 hbl2))
   all_goals
    go_wp2
    go_meet
    refine ⟨?_,?_,?_,?_⟩
    ·rw [heap_setCell_same _ _ _ _ _ _ HGB2.o]
     rfl
    ·rw [heap_setCell_other _ _ _ _ (by exact hgib)]
     exact HG2.o
    ·exact ((HBA.o.mono (nT HBW.o HZ6.o.size)).trans HBL2.o).trans ((Below.refl B w2).setCell (p:=⟨gb,0,none⟩) HB.o.1 _)
    ·intro k hk hnk
     simp only [List.mem_cons,List.not_mem_nil,or_false,not_or] at hnk
     rw [heap_setCell_other _ _ _ _ (by exact hnk.1),HO2.o k hnk.2,HBA.o.block k hk]
  case rest =>
   obtain ⟨y1,y2,y6⟩:=hcut
   have HGC2:Hid (wc.heap[gc]?=some (.cells (cv++t2).toArray 94 (0,0))):=by
    show _=_
    rw [y6.2 gc (Nat.lt_of_lt_of_le hgcw HZ6.o.size) (by simp [hgcb,hgci]),HZ6.o.block gc hgcw]
    exact HGC.o
   have hglb:gl≠gb:=by omega
   have hgrb:gr≠gb:=by omega
   have hgli:gl≠gi:=by omega
   have hgri:gr≠gi:=by omega
   have hglc:gl≠gc:=by omega
   have hgrc:gr≠gc:=by omega
   have HL2:Hid (wc.heap[gl]?=some (.cells #[.slice (some ⟨gq,oq,none⟩) 3 cq,.slice (some ⟨gk,ok,none⟩) 4 ck] 138 (0,0))):=(y6.2 gl (lO HZ1.o) (by simp [hglb,hgli])).trans HZ1.o
   have HR2:Hid (wc.heap[gr]?=some (.cells #[.slice (some ⟨gq,oq+8,none⟩) 2 (cq-4),.slice (some ⟨gk,ok+4,none⟩) 3 (ck-4)] 138 (0,0))):=(y6.2 gr (lO HZ2.o) (by simp [hgrb,hgri])).trans HZ2.o
   have HEx:Hid (Ex B [gb,gi] w wc):=⟨(HZ6.o.mono HBW.o).trans y6.1,fun k hk hnk=>(y6.2 k (Nat.lt_of_lt_of_le hk HZ6.o.size) hnk).trans (HZ6.o.block k hk)⟩
   have HSW:Hid (w.heap.size<=wc.heap.size):=nT HZ6.o.size y6.1.size
   have hsw:w.heap.size<=wc.heap.size:=HSW.o
   have HY1:=zH y1
   have HY2:=zH y2
   have hgbl9:=(lO y1)
   clear a0 a1 a3 a4 f00 hgbl hgql3 y1 y2 y6 HBA HNA HII
   have d1:wc.cell? ⟨gb,1,none⟩=some (.slice (some ⟨gc,0,none⟩) n (n+1)):=aAa HY1.o
   have HBA:=zH (aAb wc (.cells #[brP gl,brP gr] 94))
   have HNA:Hid ((wc.alloc (.cells #[brP gl,brP gr] 94)).heap[wc.heap.size]?=some (.cells #[brP gl,brP gr] 94 (0,0))):=heap_alloc_new wc _
   have HRP:=zH (aD5 (w:=wc.alloc (.cells #[brP gl,brP gr] 94)) (i:=i) ((HBA.o.block gc (lO HGC2.o)).trans HGC2.o) HN.o HT2.o hn10 hi (show wc.heap.size≠gc by omega) HNA.o H1.o rfl rfl)
   unfold brP at HRP HBA HNA
   clear hgib hgcb hgci hgiw hgcw hgbw hglb hgrb hgli hgri hglc hgrc
   go_wp2_with fail
   refine HRP.o.mono ?_
   rintro e w5 ⟨rfl,hgc5,hoth5,hbl5⟩
   have hgib:gi≠gb:=by
    intro q9
    have h9:=HGI.o
    rw [q9,HGB.o] at h9
    simp only [oI,cI] at h9
    exact absurd h9.2.1 (by decide)
   have hgcb:gc≠gb:=by
    intro q9
    have h9:=HGC.o
    rw [q9,HGB.o] at h9
    simp only [oI,cI] at h9
    exact absurd h9.2.1 (by decide)
   have hgci:gc≠gi:=by
    intro q9
    have h9:=HGC.o
    rw [q9,HGI.o] at h9
    simp only [oI,cI] at h9
    exact absurd h9.2.1 (by decide)
   have HG5n:=zH hgc5
   have HO5:=zH hoth5
   have HBL5:=zH (hbl5 B HB.o.2.2)
   have HGB5:Hid (w5.heap[gb]?=some (.cells #[.slice (some ⟨gi,0,none⟩) (m+1) (m+1),.slice (some ⟨gc,0,none⟩) n (n+1)] 138 (0,0))):=(hoth5 gb hgcb.symm).trans ((HBA.o.block gb hgbl9).trans HY1.o)
   have e1:w5.cell? ⟨gb,1,none⟩=some (.slice (some ⟨gc,0,none⟩) n (n+1)):=aAa HGB5.o
   have f5:w5.frozen? ⟨gb,1,none⟩=false:=aAc HGB5.o
   have HNE:Hid (gi≠gb/\gc≠gb/\gc≠gi):=⟨hgib,hgcb,hgci⟩
   clear hgc5 hoth5 hbl5 HRP d1 hgib hgcb hgci
   go_wp2
   go_end0
   obtain ⟨hgib,hgcb,hgci⟩:=HNE.o
   have hgiw:=(lO HGI.o)
   have hgcw:=(lO HGC.o)
   have hgbw:=(lO HGB.o)
   have oth:∀ k,k≠gb->k≠gc->k<wc.heap.size->(w5.setCell ⟨gb,1,none⟩ (.slice (some ⟨gc,0,none⟩) (n+1) (n+1))).heap[k]?=wc.heap[k]?:=fun k hk hk2 hk3=>by
    rw [heap_setCell_other _ _ _ _ (by exact hk),HO5.o k hk2,HBA.o.block k hk3]
   refine ⟨rfl,gl,gr,⟨?_,?_,?_,?_,?_⟩,?_,?_,z3,z4,z5⟩
   ·rw [heap_setCell_same _ _ _ _ _ _ HGB5.o]
    rfl
   ·rw [oth gi hgib hgci.symm (by omega)]
    exact HY2.o
   ·rw [heap_setCell_other _ _ _ _ (by exact hgcb)]
    exact HG5n.o
   ·exact ((HEx.o.1.trans (HBA.o.mono (nT HBW.o HSW.o))).trans HBL5.o).trans ((Below.refl B w5).setCell (p:=⟨gb,1,none⟩) HB.o.1 _)
   ·intro k hk hnk
    simp only [List.mem_cons,List.not_mem_nil,or_false,not_or] at hnk
    rw [oth k hnk.1 hnk.2.2 (by omega)]
    exact HEx.o.2 k hk (by simp [hnk.1,hnk.2.1])
   ·rw [oth gl (by omega) (by omega) (lO HL2.o)]
    exact HL2.o
   ·rw [oth gr (by omega) (by omega) (lO HR2.o)]
    exact HR2.o
theorem IV.at {B B1:Nat} {w:World} {iv:Value} {l:List It} (j:Nat) (h:IV B B1 w iv l) (hj:j<l.length):∃ gq oq cq it ka kc va vc,iv=.slice (some ⟨gq,oq,none⟩) l.length cq/\l.length<=cq/\l[j]?=some it/\w.cell? ⟨gq,oq+j*2,none⟩=some (.slice ka it.1.length kc)/\w.cell? ⟨gq,oq+j*2+1,none⟩=some (.slice va it.2.length vc)/\BK B w ka it.1.length kc it.1/\BK B w va it.2.length vc it.2:=by
 obtain ⟨a,c,h1,h2,h3,h4,h6⟩:=h
 obtain ⟨x,rfl⟩:∃ x,a=some x:=by
  cases a with
  | none=>have:=h4 rfl;omega
  | some x=>exact ⟨x,rfl⟩
 obtain ⟨g,o,rfl,hB,hcs,hI⟩:=h6 x rfl
 obtain ⟨it,hit⟩:∃ it,l[j]?=some it:=⟨_,gE hj⟩
 obtain ⟨ka,kc,va,vc,q1,q2,q3,q4⟩:=hI j it hit
 exact ⟨g,o,c,it,ka,kc,va,vc,h1,h2,hit,q1,q2,q3,q4⟩
theorem IV.ex3 {B B2 ga gb gc:Nat} {w w':World} {v:Value} {l:List It} (h:IV B B2 w v l) (f:FT B w w') (hx:∀ k,k<w.heap.size->k∉[ga,gb,gc]->w'.heap[k]?=w.heap[k]?) (h2:ga<B2/\gb<B2/\gc<B2):IV B B2 w' v l :=
 h.ft f fun k cs hk e=>(hx k (lO e) (by simp only [List.mem_cons,List.not_mem_nil,or_false,not_or];omega)).trans e
def SplR (B B2 gb gi gc i m n h:Nat) (e:ED h) (S:List Nat) (l:List It) (cv:List Value) (w w':World):Prop :=
 ∃ lv rv gl gr A C ys,w'.heap[gb]?=some (.cells #[.slice (some ⟨gi,0,none⟩) (m+1) (m+1),.slice (some ⟨gc,0,none⟩) (n+1) (n+1)] 138 (0,0))/\w'.heap[gi]?=some (.cells ys.toArray 69 (0,0))/\ItC B w' ys (l.take i++midE e::l.drop i) /\
  w'.heap[gc]?=some (.cells (cv.take i++lv::rv::cv.drop (i+1)).toArray 94 (0,0))/\Ex B [gb,gi,gc] w w'/\FT B w w'/\NV B B2 w' h (lefE e) (gl::A) lv/\NV B B2 w' h (rigE e) (gr::C) rv/\S.tail=A++C/\gl≠gr/\w.heap.size<=gl/\w.heap.size<=gr
theorem splitR_ok5 {B B2 gb gi gc i m n:Nat} {w:World} {ic cv t1 t2:List Value} {l:List It} (hgb:w.heap[gb]?=some (.cells #[.slice (some ⟨gi,0,none⟩) m (m+1),.slice (some ⟨gc,0,none⟩) n (n+1)] 138 (0,0))) (hgi:w.heap[gi]?=some (.cells (ic++t1).toArray 69 (0,0))) (hgc:w.heap[gc]?=some (.cells (cv++t2).toArray 94 (0,0)))
  (hB:B<=gb/\B<=gi/\B<=gc) (hB2:gb<B2/\gi<B2/\gc<B2) (hBw:B2<=w.heap.size) (hic:ItC B w ic l) (hl:l.length=m) (ht1:t1.length=2) (hm10:m<=10) (him:i<=m) (hn:cv.length=n) (ht2:t2.length=1) (hn10:n<=10) (hi:i<n) (h1:∀ u∈cv,u.oneCell'=true) :
  ∀ {h:Nat} (e:ED h) {S:List Nat} {v:Value},cv[i]?=some v->NV B B2 w h e S v->isNew e->(itE e).length=5->ShE h 6 e ->
  Calls Tryz.prog 83 #[.pointer (some ⟨gb,0,none⟩),.int .i64 (i:Int)] w fun e' w'=>e'=.returned (.tuple #[])/\SplR B B2 gb gi gc i m n h e S l cv w w'
 | 0,.inr l5,S,v,hcv,hnv,_,h5,hsh=>by
  obtain ⟨g5,iv,rfl,rfl,hg1,hg2,hIV⟩:=hnv
  have h5:l5.length=5:=h5
  obtain ⟨gq,oq,cq,it,ka,kc,va,vc,rfl,hcq,hit,k1,k2,b1,b2⟩:=hIV.at 2 (by omega)
  rw [h5] at hg2 hcq hIV
  refine (splitR_leaf5 hgb hgi hgc hB (by omega) (by rw [hic.1,hl]) ht1 hm10 him hic.one hn ht2 hn10 hi h1 hcv hg2 hcq k1 k2).mono ?_
  rintro e' w' ⟨rfl,gl,gr,⟨q1,q2,q3,hEx⟩,q4,q5,q6,q7,q8⟩
  have hft:FT B w w':=hEx.ft3 hgb hgi hgc (by decide) (by decide) (by decide)
  have hIVw:=hIV.ex3 hft hEx.2 hB2
  have hmid:midE (h:=0) (.inr l5)=it:=by
   show (l5.getD (l5.length / 2) _)=_
   rw [h5,List.getD_eq_getElem?_getD]
   show (l5[2]?).getD _=_
   rw [hit];rfl
  refine ⟨rfl,lfP gl,lfP gr,gl,gr,[],[],_,q1,q2,by rw [hmid];exact (hic.insert (by omega) b1 b2).ft hft,q3,hEx,hft,?_,?_,rfl,q6,q7,q8⟩
  ·refine ⟨gl,_,rfl,rfl,by omega,q4,?_⟩
   show IV B B2 w' _ (l5.take (l5.length / 2))
   rw [h5]
   exact hIVw.take (m:=2) (by omega)
  ·refine ⟨gr,_,rfl,rfl,by omega,q5,?_⟩
   show IV B B2 w' _ (l5.drop (l5.length / 2+1))
   rw [h5]
   exact hIVw.drop (m:=3) (by omega)
 | h+1,.inr x,S,v,hcv,hnv,_,h5,⟨hs1,hs2,hs3⟩=>by
  obtain ⟨g5,iv,gk,ok,ck,Sk,rfl,rfl,hg1,hg2,hIV,hk1,hk2,hk3,hk4,hk5,hk6⟩:=hnv
  have h5:x.1.length=5:=h5
  have h6:x.2.length=6:=by have:x.2.length=x.1.length+1:=hs2;omega
  obtain ⟨gq,oq,cq,it,ka,kc,va,vc,rfl,hcq,hit,k1,k2,b1,b2⟩:=hIV.at 2 (by omega)
  rw [h5] at hg2 hcq hIV
  rw [h6] at hg2 hk2 hk5
  refine (aGo hgb hgi hgc hB (by omega) (by rw [hic.1,hl]) ht1 hm10 him hic.one hn ht2 hn10 hi h1 hcv hg2 hcq hk2 k1 k2).mono ?_
  rintro e' w' ⟨rfl,gl,gr,⟨q1,q2,q3,hEx⟩,q4,q5,q6,q7,q8⟩
  have hft:FT B w w':=hEx.ft3 hgb hgi hgc (by decide) (by decide) (by decide)
  have hIVw:=hIV.ex3 hft hEx.2 hB2
  have hmid:midE (h:=h+1) (.inr x)=it:=by
   show (x.1.getD (x.1.length / 2) _)=_
   rw [h5,List.getD_eq_getElem?_getD]
   show (x.1[2]?).getD _=_
   rw [hit];rfl
  obtain ⟨cs4,hk4⟩:=hk4
  have hkk:w'.heap[gk]?=w.heap[gk]?:=hEx.2 gk (lO hk4) (by simp only [List.mem_cons,List.not_mem_nil,or_false,not_or];omega)
  have hkid:∀ j k Si,x.2[j]?=some k->Sk[j]?=some Si->∃ vk,w'.cell? ⟨gk,ok+j,none⟩=some vk/\NV B B2 w' h k Si vk:=by
   intro j k Si hj hSi
   obtain ⟨vk,r1,r2⟩:=hk6 j k Si hj hSi
   exact ⟨vk,(World.cell?_of_block hkk).trans r1,r2.ex3 hft hEx.2 hB2 (nR _)⟩
  have hsk:Sk.flatten=(Sk.take 3).flatten++(Sk.drop 3).flatten:=by rw [<-List.flatten_append,List.take_append_drop]
  refine ⟨rfl,brP gl,brP gr,gl,gr,(Sk.take 3).flatten,(Sk.drop 3).flatten,_,q1,q2,by rw [hmid];exact (hic.insert (by omega) b1 b2).ft hft,q3,hEx,hft,?_,?_,hsk,q6,q7,q8⟩
  ·have e3:((x.2.take (x.1.length / 2+1)).length:Nat)=3:=by rw [List.length_take];omega
   show NV B B2 w' (h+1) (.inr (x.1.take (x.1.length / 2),x.2.take (x.1.length / 2+1))) _ _
   refine ⟨gl,_,gk,ok,ck,Sk.take 3,rfl,rfl,by omega,by rw [e3];exact q4,?_,hk1,by rw [e3];omega,hk3,⟨cs4,hkk.trans hk4⟩,by rw [e3,List.length_take];omega,fun j k Si hj hSi=>?_⟩
   ·show IV B B2 w' _ (x.1.take (x.1.length / 2))
    rw [h5]
    exact hIVw.take (m:=2) (by omega)
   ·have hj:(x.2.take (x.1.length / 2+1))[j]?=some k:=hj
    have hj3:j<3:=by have:=(lL hj);omega
    rw [List.getElem?_take_of_lt (by omega)] at hj
    rw [List.getElem?_take_of_lt hj3] at hSi
    exact hkid j k Si hj hSi
  ·have e3:((x.2.drop (x.1.length / 2+1)).length:Nat)=3:=by rw [List.length_drop];omega
   show NV B B2 w' (h+1) (.inr (x.1.drop (x.1.length / 2+1),x.2.drop (x.1.length / 2+1))) _ _
   refine ⟨gr,_,gk,ok+3,ck-3,Sk.drop 3,rfl,rfl,by omega,by rw [e3];exact q5,?_,hk1,by rw [e3];omega,by omega,⟨cs4,hkk.trans hk4⟩,by rw [e3,List.length_drop];omega,fun j k Si hj hSi=>?_⟩
   ·show IV B B2 w' _ (x.1.drop (x.1.length / 2+1))
    rw [h5]
    exact hIVw.drop (m:=3) (by omega)
   ·have hj:(x.2.drop (x.1.length / 2+1))[j]?=some k:=hj
    rw [List.getElem?_drop,show x.1.length / 2+1+j=3+j by omega] at hj
    rw [List.getElem?_drop] at hSi
    obtain ⟨vk,r1,r2⟩:=hkid (3+j) k Si hj hSi
    exact ⟨vk,by rw [show ok+3+j=ok+(3+j) by omega];exact r1,r2⟩
theorem splitR_ok6 {B B2 gb gi gc i m n:Nat} {w:World} {ic cv t1 t2:List Value} {l:List It} (hgb:w.heap[gb]?=some (.cells #[.slice (some ⟨gi,0,none⟩) m (m+1),.slice (some ⟨gc,0,none⟩) n (n+1)] 138 (0,0))) (hgi:w.heap[gi]?=some (.cells (ic++t1).toArray 69 (0,0))) (hgc:w.heap[gc]?=some (.cells (cv++t2).toArray 94 (0,0)))
  (hB:B<=gb/\B<=gi/\B<=gc) (hB2:gb<B2/\gi<B2/\gc<B2) (hBw:B2<=w.heap.size) (hic:ItC B w ic l) (hl:l.length=m) (ht1:t1.length=2) (hm10:m<=10) (him:i<=m) (hn:cv.length=n) (ht2:t2.length=1) (hn10:n<=10) (hi:i<n) (h1:∀ u∈cv,u.oneCell'=true) :
  ∀ {h:Nat} (e:ED h) {S:List Nat} {v:Value},cv[i]?=some v->NV B B2 w h e S v->isNew e->(itE e).length=6->ShE h 6 e ->
  Calls Tryz.prog 83 #[.pointer (some ⟨gb,0,none⟩),.int .i64 (i:Int)] w fun e' w'=>e'=.returned (.tuple #[])/\SplR B B2 gb gi gc i m n h e S l cv w w'
 | 0,.inr l5,S,v,hcv,hnv,_,h5,hsh=>by
  obtain ⟨g5,iv,rfl,rfl,hg1,hg2,hIV⟩:=hnv
  have h5:l5.length=6:=h5
  obtain ⟨gq,oq,cq,it,ka,kc,va,vc,rfl,hcq,hit,k1,k2,b1,b2⟩:=hIV.at 3 (by omega)
  rw [h5] at hg2 hcq hIV
  refine (splitR_leaf6 hgb hgi hgc hB (by omega) (by rw [hic.1,hl]) ht1 hm10 him hic.one hn ht2 hn10 hi h1 hcv hg2 hcq k1 k2).mono ?_
  rintro e' w' ⟨rfl,gl,gr,⟨q1,q2,q3,hEx⟩,q4,q5,q6,q7,q8⟩
  have hft:FT B w w':=hEx.ft3 hgb hgi hgc (by decide) (by decide) (by decide)
  have hIVw:=hIV.ex3 hft hEx.2 hB2
  have hmid:midE (h:=0) (.inr l5)=it:=by
   show (l5.getD (l5.length / 2) _)=_
   rw [h5,List.getD_eq_getElem?_getD]
   show (l5[3]?).getD _=_
   rw [hit];rfl
  refine ⟨rfl,lfP gl,lfP gr,gl,gr,[],[],_,q1,q2,by rw [hmid];exact (hic.insert (by omega) b1 b2).ft hft,q3,hEx,hft,?_,?_,rfl,q6,q7,q8⟩
  ·refine ⟨gl,_,rfl,rfl,by omega,q4,?_⟩
   show IV B B2 w' _ (l5.take (l5.length / 2))
   rw [h5]
   exact hIVw.take (m:=3) (by omega)
  ·refine ⟨gr,_,rfl,rfl,by omega,q5,?_⟩
   show IV B B2 w' _ (l5.drop (l5.length / 2+1))
   rw [h5]
   exact hIVw.drop (m:=4) (by omega)
 | h+1,.inr x,S,v,hcv,hnv,_,h5,⟨hs1,hs2,hs3⟩=>by
  obtain ⟨g5,iv,gk,ok,ck,Sk,rfl,rfl,hg1,hg2,hIV,hk1,hk2,hk3,hk4,hk5,hk6⟩:=hnv
  have h5:x.1.length=6:=h5
  have h6:x.2.length=7:=by have:x.2.length=x.1.length+1:=hs2;omega
  obtain ⟨gq,oq,cq,it,ka,kc,va,vc,rfl,hcq,hit,k1,k2,b1,b2⟩:=hIV.at 3 (by omega)
  rw [h5] at hg2 hcq hIV
  rw [h6] at hg2 hk2 hk5
  refine (aGn hgb hgi hgc hB (by omega) (by rw [hic.1,hl]) ht1 hm10 him hic.one hn ht2 hn10 hi h1 hcv hg2 hcq hk2 k1 k2).mono ?_
  rintro e' w' ⟨rfl,gl,gr,⟨q1,q2,q3,hEx⟩,q4,q5,q6,q7,q8⟩
  have hft:FT B w w':=hEx.ft3 hgb hgi hgc (by decide) (by decide) (by decide)
  have hIVw:=hIV.ex3 hft hEx.2 hB2
  have hmid:midE (h:=h+1) (.inr x)=it:=by
   show (x.1.getD (x.1.length / 2) _)=_
   rw [h5,List.getD_eq_getElem?_getD]
   show (x.1[3]?).getD _=_
   rw [hit];rfl
  obtain ⟨cs4,hk4⟩:=hk4
  have hkk:w'.heap[gk]?=w.heap[gk]?:=hEx.2 gk (lO hk4) (by simp only [List.mem_cons,List.not_mem_nil,or_false,not_or];omega)
  have hkid:∀ j k Si,x.2[j]?=some k->Sk[j]?=some Si->∃ vk,w'.cell? ⟨gk,ok+j,none⟩=some vk/\NV B B2 w' h k Si vk:=by
   intro j k Si hj hSi
   obtain ⟨vk,r1,r2⟩:=hk6 j k Si hj hSi
   exact ⟨vk,(World.cell?_of_block hkk).trans r1,r2.ex3 hft hEx.2 hB2 (nR _)⟩
  have hsk:Sk.flatten=(Sk.take 4).flatten++(Sk.drop 4).flatten:=by rw [<-List.flatten_append,List.take_append_drop]
  refine ⟨rfl,brP gl,brP gr,gl,gr,(Sk.take 4).flatten,(Sk.drop 4).flatten,_,q1,q2,by rw [hmid];exact (hic.insert (by omega) b1 b2).ft hft,q3,hEx,hft,?_,?_,hsk,q6,q7,q8⟩
  ·have e3:((x.2.take (x.1.length / 2+1)).length:Nat)=4:=by rw [List.length_take];omega
   show NV B B2 w' (h+1) (.inr (x.1.take (x.1.length / 2),x.2.take (x.1.length / 2+1))) _ _
   refine ⟨gl,_,gk,ok,ck,Sk.take 4,rfl,rfl,by omega,by rw [e3];exact q4,?_,hk1,by rw [e3];omega,hk3,⟨cs4,hkk.trans hk4⟩,by rw [e3,List.length_take];omega,fun j k Si hj hSi=>?_⟩
   ·show IV B B2 w' _ (x.1.take (x.1.length / 2))
    rw [h5]
    exact hIVw.take (m:=3) (by omega)
   ·have hj:(x.2.take (x.1.length / 2+1))[j]?=some k:=hj
    have hj3:j<4:=by have:=(lL hj);omega
    rw [List.getElem?_take_of_lt (by omega)] at hj
    rw [List.getElem?_take_of_lt hj3] at hSi
    exact hkid j k Si hj hSi
  ·have e3:((x.2.drop (x.1.length / 2+1)).length:Nat)=3:=by rw [List.length_drop];omega
   show NV B B2 w' (h+1) (.inr (x.1.drop (x.1.length / 2+1),x.2.drop (x.1.length / 2+1))) _ _
   refine ⟨gr,_,gk,ok+4,ck-4,Sk.drop 4,rfl,rfl,by omega,by rw [e3];exact q5,?_,hk1,by rw [e3];omega,by omega,⟨cs4,hkk.trans hk4⟩,by rw [e3,List.length_drop];omega,fun j k Si hj hSi=>?_⟩
   ·show IV B B2 w' _ (x.1.drop (x.1.length / 2+1))
    rw [h5]
    exact hIVw.drop (m:=4) (by omega)
   ·have hj:(x.2.drop (x.1.length / 2+1))[j]?=some k:=hj
    rw [List.getElem?_drop,show x.1.length / 2+1+j=4+j by omega] at hj
    rw [List.getElem?_drop] at hSi
    obtain ⟨vk,r1,r2⟩:=hkid (4+j) k Si hj hSi
    exact ⟨vk,by rw [show ok+4+j=ok+(4+j) by omega];exact r1,r2⟩
end Go.Proofs.YtfobcelkmopohaaGreat
