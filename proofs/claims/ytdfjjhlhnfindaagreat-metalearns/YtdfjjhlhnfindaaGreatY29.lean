import Derived.Test.YtdfjjhlhnfindaaGreatY28
set_option maxRecDepth 100000
set_option maxHeartbeats 16000000
set_option linter.unusedVariables false
namespace Go.Proofs.YtdfjjhlhnfindaaGreat
open Go.RowKit Tryz
variable {B B1 gb gl h i j k kc kn m n p px q vc vn:Nat} {S T gone:List Nat} {cs:Array Value} {cv:List Value} {d:Int} {it:It} {ka va:Option Addr} {l:List It} {lv rv v:Value} {s:DS} {t:PS} {w w' w0:World}
theorem split_branch {gc g5 gq oq cq gk ok ck sc:Nat} {sa:Option Addr} {ys:List Value} (hgb:w.heap[gb]?=some (.cells #[.slice sa m sc,.slice (some ⟨gc,0,none⟩) n n] 251 (0,0))) (hB:B<=gb) (hBw:B<=w.heap.size)
  (hgc:w.heap[gc]?=some (.cells cv.toArray 238 (0,0))) (hn:cv.length=n) (hn10:n<=10) (hi:i<n) (hcv:cv[i]?=some (brP g5)) (h1:∀ u∈cv,u.oneCell'=true)
  (hg5:w.heap[g5]?=some (.cells #[.slice (some ⟨gq,oq,none⟩) 5 cq,.slice (some ⟨gk,ok,none⟩) 6 ck] 251 (0,0))) (hcq:5<=cq) (hck:6<=ck)
  (hk:w.cell? ⟨gq,oq+4,none⟩=some (.slice ka kn kc)) (hv:w.cell? ⟨gq,oq+5,none⟩=some (.slice va vn vc))
  (hI:∀ ww gv,Below w.heap.size w ww->ww.heap[gv]?=some (.cells #[.slice ka kn kc,.slice va vn vc] 245 (0,0))->Calls prog 213 #[.slice sa m sc,.int .i64 (i:Int),.slice (some ⟨gv,0,none⟩) 1 1] ww fun e w'=>∃ gn c,e=.returned (.slice (some ⟨gn,0,none⟩) (m+1) c)/\ww.heap.size<=gn/\m+1<=c/\c<=9223372036854775807/\RowN w' gn 245 ys/\Below ww.heap.size ww w') :
  Calls prog 203 #[.pointer (some ⟨gb,0,none⟩),.int .i64 (i:Int)] w fun e w'=>e=.returned (.tuple #[])/\(∃ gl gr gn c gm c2,w'.heap[gb]?=some (.cells #[.slice (some ⟨gn,0,none⟩) (m+1) c,.slice (some ⟨gm,0,none⟩) (n+1) c2] 251 (0,0))/\RowN w' gn 245 ys/\RowN w' gm 238 (cv.take i++(brP gl::brP gr::cv.drop (i+1))) /\
   w'.heap[gl]?=some (.cells #[.slice (some ⟨gq,oq,none⟩) 2 cq,.slice (some ⟨gk,ok,none⟩) 3 ck] 251 (0,0))/\w'.heap[gr]?=some (.cells #[.slice (some ⟨gq,oq+6,none⟩) 2 (cq-3),.slice (some ⟨gk,ok+3,none⟩) 3 (ck-3)] 251 (0,0))/\gl≠gr/\w.heap.size<=gl/\w.heap.size<=gr/\w.heap.size<=gn/\w.heap.size<=gm/\m+1<=c/\c<=9223372036854775807/\n+1<=c2/\c2<=9223372036854775807)/\Ex B [gb] w w':=by
 have HGB:=zH hgb;have HGC:=zH hgc;have HG5:=zH hg5;have HB:=zH hB;have HBW:=zH hBw;have HI:=zH hI;have HK:=zH hk;have HV:=zH hv;have H1:=zH h1;have HN:=zH hn;have HIO:=zH (aBf hg5);unfold brP at HIO;have r0:w.cell? ⟨gb,1,none⟩=some (.slice (some ⟨gc,0,none⟩) n n):=aAa hgb;have r1:w.cell? ⟨gc,i,none⟩=some (.iface 247 (.pointer (some ⟨g5,0,none⟩))):=by rw [aAa hgc,List.getElem?_toArray];exact hcv
 have hcq3:¬ cq=3:=by omega
 have hck3:¬ ck=3:=by omega
 have xi:(i:Int)<(n:Int):=by omega
 have HT:=zH (aAy (.pointer (some ⟨g5,0,none⟩)));clear hgb hgc hg5 hB hBw hI h1 hn hk hv hcv;go_enter func203,ntmps203;go_wp2_with fail;refine HIO.o.mono ?_;rintro e w1 ⟨rfl,hw⟩;have hw:=hw.symm;subst hw;go_upto_region 2 with fail;go_cut [6,7] from 21 to 33 (fun a b wx=>∃ g1 g2,a=.iface 268 (.pointer (some ⟨g1,0,none⟩))/\b=.iface 268 (.pointer (some ⟨g2,0,none⟩))/\wx.heap[g1]?=some (.cells #[.slice (some ⟨gq,oq,none⟩) 2 cq] 267 (0,0))/\wx.heap[g2]?=some (.cells #[.slice (some ⟨gq,oq+6,none⟩) 2 (cq-3)] 267 (0,0))/\g1≠g2/\w.heap.size<=g1/\w.heap.size<=g2/\Below w.heap.size w wx)
 case first =>
  go_region
  ·go_wp2;go_meet;obtain ⟨q1,q2,q3⟩:=aFf w #[.slice (some ⟨gq,oq,none⟩) 2 cq] #[.slice (some ⟨gq,oq+6,none⟩) 2 (cq-3)] 267 267;exact ⟨w.heap.size,w.heap.size+1,rfl,rfl,q1,q2,by omega,by omega,by omega,q3⟩
  ·go_wp2;go_meet;obtain ⟨q1,q2,q3⟩:=aFf w #[.slice (some ⟨gq,oq+6,none⟩) 2 (cq-3)] #[.slice (some ⟨gq,oq,none⟩) 2 cq] 267 267;exact ⟨w.heap.size+1,w.heap.size,rfl,rfl,q2,q1,by omega,by omega,by omega,q3⟩
 case rest =>
  obtain ⟨g8,g9,rfl,rfl,-,-,-,-,-,z6⟩:=hcut;have HZ0:=zH z6;have hgs5:=(lO HG5.o);have HG5c:Hid (wc.heap[g5]?=some (.cells #[.slice (some ⟨gq,oq,none⟩) 5 cq,.slice (some ⟨gk,ok,none⟩) 6 ck] 251 (0,0))):=(z6.block g5 hgs5).trans HG5.o;have c9:wc.cell? ⟨g5,1,none⟩=some (.slice (some ⟨gk,ok,none⟩) 6 ck):=aAa HG5c.o;have HGBc:Hid (wc.heap[gb]?=some (.cells #[.slice sa m sc,.slice (some ⟨gc,0,none⟩) n n] 251 (0,0))):=(z6.block gb (lO HGB.o)).trans HGB.o;have c0:wc.cell? ⟨gb,0,none⟩=some (.slice sa m sc):=aAa HGBc.o;have c1:wc.cell? ⟨gb,1,none⟩=some (.slice (some ⟨gc,0,none⟩) n n):=aAa HGBc.o;have c2:wc.cell? ⟨gc,i,none⟩=some (.iface 247 (.pointer (some ⟨g5,0,none⟩))):=(z6.cell (p:=⟨gc,i,none⟩) (block_lt_of_cell r1)).trans r1;have c3:wc.cell? ⟨gq,oq+4,none⟩=some (.slice ka kn kc):=(z6.cell (p:=⟨gq,oq+4,none⟩) (block_lt_of_cell HK.o)).trans HK.o;have c4:wc.cell? ⟨gq,oq+5,none⟩=some (.slice va vn vc):=(z6.cell (p:=⟨gq,oq+5,none⟩) (block_lt_of_cell HV.o)).trans HV.o;have ta:=HT.o wc;have f0:wc.frozen? ⟨gb,0,none⟩=false:=aAb HGBc.o;have hgbl:=(lO HGBc.o);have hgql:gq<wc.heap.size:=block_lt_of_cell c3;clear z6 r0 r1;have HN5:Hid ((wc.alloc (.cells #[.slice (some ⟨gq,oq,none⟩) 2 cq,.slice (some ⟨gk,ok,none⟩) 3 ck] 251)).drew.heap[wc.heap.size]?=some (.cells #[.slice (some ⟨gq,oq,none⟩) 2 cq,.slice (some ⟨gk,ok,none⟩) 3 ck] 251 (0,0))):=heap_alloc_new wc _;have HB5a:=zH ((aAc wc (.cells #[.slice (some ⟨gq,oq,none⟩) 2 cq,.slice (some ⟨gk,ok,none⟩) 3 ck] 251)).drew);have HS5:Hid ((wc.alloc (.cells #[.slice (some ⟨gq,oq,none⟩) 2 cq,.slice (some ⟨gk,ok,none⟩) 3 ck] 251)).drew.heap.size=wc.heap.size+1):=by show (wc.alloc _).heap.size=_;simp
  have hg5l:=(lO HG5c.o);go_upto_region 5 with fail;go_region;go_upto_region 6 with fail;generalize (wc.alloc (.cells #[.slice (some ⟨gq,oq,none⟩) 2 cq,.slice (some ⟨gk,ok,none⟩) 3 ck] 251)).drew=w2 at *
  have d9:w2.cell? ⟨g5,1,none⟩=some (.slice (some ⟨gk,ok,none⟩) 6 ck):=(HB5a.o.cell (p:=⟨g5,1,none⟩) hg5l).trans c9;have HN6:Hid ((w2.alloc (.cells #[.slice (some ⟨gq,oq+6,none⟩) 2 (cq-3),.slice (some ⟨gk,ok+3,none⟩) 3 (ck-3)] 251)).drew.heap[w2.heap.size]?=some (.cells #[.slice (some ⟨gq,oq+6,none⟩) 2 (cq-3),.slice (some ⟨gk,ok+3,none⟩) 3 (ck-3)] 251 (0,0))):=heap_alloc_new w2 _;have HB6a:=zH ((aAc w2 (.cells #[.slice (some ⟨gq,oq+6,none⟩) 2 (cq-3),.slice (some ⟨gk,ok+3,none⟩) 3 (ck-3)] 251)).drew);go_region;go_upto_region 7 with fail;obtain ⟨w3,zw⟩:∃ w3,w3=(w2.alloc (.cells #[.slice (some ⟨gq,oq+6,none⟩) 2 (cq-3),.slice (some ⟨gk,ok+3,none⟩) 3 (ck-3)] 251)).drew:=⟨_,rfl⟩;have HZ6:Hid (Below w.heap.size w w3):=by rw [zw];exact (HZ0.o.trans (HB5a.o.mono HZ0.o.size)).trans (HB6a.o.mono (nT HZ0.o.size HB5a.o.size))
  have HZ1:Hid (w3.heap[wc.heap.size]?=some (.cells #[.slice (some ⟨gq,oq,none⟩) 2 cq,.slice (some ⟨gk,ok,none⟩) 3 ck] 251 (0,0))):=by rw [zw];exact (HB6a.o.block _ (lO HN5.o)).trans HN5.o
  have HZ2:=HN6;have z4:w.heap.size<=wc.heap.size:=HZ0.o.size;have z5:w.heap.size<=w2.heap.size:=nT HZ0.o.size HB5a.o.size;have z3:wc.heap.size≠w2.heap.size:=by have:=HS5.o;omega
  have HB36:Hid (Below wc.heap.size wc w3):=by rw [zw];exact HB5a.o.trans (HB6a.o.mono HB5a.o.size)
  (try rw [<-zw]);(try rw [<-zw] at HZ2);clear zw;generalize hgl:wc.heap.size=gl at *
  generalize hgr:w2.heap.size=gr at *
  have HGB3:Hid (w3.heap[gb]?=some (.cells #[.slice sa m sc,.slice (some ⟨gc,0,none⟩) n n] 251 (0,0))):=(HZ6.o.block gb (lO HGB.o)).trans HGB.o;have a0:w3.cell? ⟨gb,0,none⟩=some (.slice sa m sc):=aAa HGB3.o;have a1:w3.cell? ⟨gb,1,none⟩=some (.slice (some ⟨gc,0,none⟩) n n):=aAa HGB3.o;have a3:w3.cell? ⟨gq,oq+4,none⟩=some (.slice ka kn kc):=(HZ6.o.cell (p:=⟨gq,oq+4,none⟩) (block_lt_of_cell HK.o)).trans HK.o;have a4:w3.cell? ⟨gq,oq+5,none⟩=some (.slice va vn vc):=(HZ6.o.cell (p:=⟨gq,oq+5,none⟩) (block_lt_of_cell HV.o)).trans HV.o;have f00:w3.frozen? ⟨gb,0,none⟩=false:=aAb HGB3.o;have hgbl3:=(lO HGB3.o);have hgql3:gq<w3.heap.size:=block_lt_of_cell a3;clear c0 c1 c2 c3 c4 c9 d9 ta f0 hgbl hgql;have HBA:=zH ((aAc w3 (.cells #[.slice ka kn kc,.slice va vn vc] 245)).drew);have HNA:Hid ((w3.alloc (.cells #[.slice ka kn kc,.slice va vn vc] 245)).drew.heap[w3.heap.size]?=some (.cells #[.slice ka kn kc,.slice va vn vc] 245 (0,0))):=heap_alloc_new w3 _;have HBwA:=zH (HZ6.o.trans (HBA.o.mono HZ6.o.size));go_cut [] from 73 to 86 (fun wx=>∃ gn c,wx.heap[gb]?=some (.cells #[.slice (some ⟨gn,0,none⟩) (m+1) c,.slice (some ⟨gc,0,none⟩) n n] 251 (0,0))/\RowN wx gn 245 ys/\w3.heap.size<=gn/\m+1<=c/\c<=9223372036854775807/\Ex B [gb] w3 wx)
  case first =>
   go_region_with ((go_at_call 213;refine (HI.o _ _ HBwA.o HNA.o).mono ?_;rintro e w2 ⟨gn,c5,rfl,hgn,hc2,hcm2,hrow2,hb2⟩;have HGB2:Hid (w2.heap[gb]?=some (.cells #[.slice sa m sc,.slice (some ⟨gc,0,none⟩) n n] 251 (0,0))):=(hb2.block gb (Nat.lt_of_lt_of_le hgbl3 HBA.o.size)).trans ((HBA.o.block gb hgbl3).trans HGB3.o);have z0:w2.cell? ⟨gb,0,none⟩=some (.slice sa m sc):=aAa HGB2.o;have f2:w2.frozen? ⟨gb,0,none⟩=false:=aAb HGB2.o;have HB2:=zH (HBA.o.trans (hb2.mono HBA.o.size));have HROW:=zH hrow2;have HGN:=zH (nT HBA.o.size hgn);have HC2:=zH hc2;have HCM2:=zH hcm2;clear hgn hc2 hcm2 hrow2 hb2))
   all_goals
    go_wp2;go_meet;refine ⟨gn,c5,?_,?_,HGN.o,HC2.o,HCM2.o,?_,?_⟩
    ·rw [heap_setCell_same _ _ _ _ _ _ HGB2.o];rfl
    ·obtain ⟨row,hr⟩:=HROW.o;refine ⟨row,?_⟩;rw [heap_setCell_other _ _ _ _ (by show gn≠gb;have:=HGN.o;omega)];exact hr
    ·exact ((HB2.o.mono (nT HBW.o HZ6.o.size)).trans ((Below.refl B w2).setCell (p:=⟨gb,0,none⟩) HB.o _))
    ·intro k hk hnk;simp only [List.mem_cons,List.not_mem_nil,or_false] at hnk;rw [heap_setCell_other _ _ _ _ (by exact hnk),HB2.o.block k hk]
  case rest =>
   obtain ⟨gn,c5,y1,y2,y3,y4,y5,y6⟩:=hcut;have hgcb:gc≠gb:=by
    intro q9;have h9:=HGC.o;rw [q9,HGB.o] at h9;simp only [oI,cI] at h9;exact absurd h9.2.1 (by decide)
   have hgcw:=(lO HGC.o);have HGC2:Hid (wc.heap[gc]?=some (.cells cv.toArray 238 (0,0))):=by
    show _=_;rw [y6.2 gc (Nat.lt_of_lt_of_le hgcw HZ6.o.size) (by simpa using hgcb),HZ6.o.block gc hgcw];exact HGC.o
   have hglb:gl≠gb:=by have:=(lO HGB.o);omega
   have hgrb:gr≠gb:=by have:=(lO HGB.o);omega
   have HL2:Hid (wc.heap[gl]?=some (.cells #[.slice (some ⟨gq,oq,none⟩) 2 cq,.slice (some ⟨gk,ok,none⟩) 3 ck] 251 (0,0))):=(y6.2 gl (lO HZ1.o) (by simpa using hglb)).trans HZ1.o;have HR2:Hid (wc.heap[gr]?=some (.cells #[.slice (some ⟨gq,oq+6,none⟩) 2 (cq-3),.slice (some ⟨gk,ok+3,none⟩) 3 (ck-3)] 251 (0,0))):=(y6.2 gr (lO HZ2.o) (by simpa using hgrb)).trans HZ2.o;have HEx:Hid (Ex B [gb] w wc):=⟨(HZ6.o.mono HBW.o).trans y6.1,fun k hk hnk=>(y6.2 k (Nat.lt_of_lt_of_le hk HZ6.o.size) hnk).trans (HZ6.o.block k hk)⟩;have HSW:Hid (w.heap.size<=wc.heap.size):=nT HZ6.o.size y6.1.size;have HY1:=zH y1;have HY2:=zH y2;have HGNw:Hid (w.heap.size<=gn):=nT HZ6.o.size y3;clear a0 a1 a3 a4 f00 hgbl3 hgql3 y2 y6 HBA HNA HBwA;have d1:wc.cell? ⟨gb,1,none⟩=some (.slice (some ⟨gc,0,none⟩) n n):=aAa HY1.o;have hgbl:=(lO y1);have HBA:=zH (aAc wc (.cells #[brP gl,brP gr] 238));have HNA:Hid ((wc.alloc (.cells #[brP gl,brP gr] 238)).heap[wc.heap.size]?=some (.cells #[brP gl,brP gr] 238 (0,0))):=heap_alloc_new wc _;have HRP:=zH (aFk (w:=wc.alloc (.cells #[brP gl,brP gr] 238)) (i:=i) ((HBA.o.block gc (lO HGC2.o)).trans HGC2.o) HN.o hn10 hi HNA.o H1.o rfl rfl);clear y1 hgcw;unfold brP at HRP HBA HNA;go_wp2_with fail;refine HRP.o.mono ?_;rintro e w5 ⟨gm,c6,rfl,hgm,hc6,hcm6,hrow6,hb6⟩;have HB5:=zH (HBA.o.trans (hb6.mono HBA.o.size));have HGM:=zH (nT HBA.o.size hgm);have HROW6:=zH hrow6;have HGB5:Hid (w5.heap[gb]?=some (.cells #[.slice (some ⟨gn,0,none⟩) (m+1) c5,.slice (some ⟨gc,0,none⟩) n n] 251 (0,0))):=(HB5.o.block gb hgbl).trans HY1.o;have HC6:=zH hc6;have HCM6:=zH hcm6;have e1:w5.cell? ⟨gb,1,none⟩=some (.slice (some ⟨gc,0,none⟩) n n):=aAa HGB5.o;have f5:w5.frozen? ⟨gb,1,none⟩=false:=aAb HGB5.o;clear hgm hc6 hcm6 hrow6 hb6 HRP d1;go_wp2;go_end0;have oth:∀ k,k≠gb->(w5.setCell ⟨gb,1,none⟩ (.slice (some ⟨gm,0,none⟩) (n+1) c6)).heap[k]?=w5.heap[k]?:=fun k hk=>heap_setCell_other _ _ _ _ hk
   refine ⟨rfl,⟨gl,gr,gn,c5,gm,c6,?_,?_,?_,?_,?_,z3,z4,z5,HGNw.o,nT HSW.o HGM.o,y4,y5,HC6.o,HCM6.o⟩,?_,?_⟩
   ·rw [heap_setCell_same _ _ _ _ _ _ HGB5.o];rfl
   ·obtain ⟨row,hr⟩:=HY2.o;refine ⟨row,?_⟩;have hgnb:gn≠gb:=by have h9:=HGNw.o;have h8:=(lO HGB.o);omega
    rw [oth gn hgnb,HB5.o.block gn (lO hr)];exact hr
   ·obtain ⟨row,hr⟩:=HROW6.o;refine ⟨row,?_⟩;rw [oth gm (by have h9:=HGM.o;omega)];exact hr
   ·rw [oth gl hglb,HB5.o.block gl (lO HL2.o)];exact HL2.o
   ·rw [oth gr hgrb,HB5.o.block gr (lO HR2.o)];exact HR2.o
   ·exact (HEx.o.1.trans (HB5.o.mono (nT HBW.o HSW.o))).trans ((Below.refl B w5).setCell (p:=⟨gb,1,none⟩) HB.o _)
   ·intro k hk hnk;rw [oth k (by simpa using hnk),HB5.o.block k (Nat.lt_of_lt_of_le hk HSW.o)];exact HEx.o.2 k hk hnk
structure PF (B B1:Nat) (w:World) (gb:Nat) (l:List It) (cv:List Value):Prop where
 bb:B1<=gb
 hx:∃ sa sc gc,w.heap[gb]?=some (.cells #[.slice sa l.length sc,.slice (some ⟨gc,0,none⟩) cv.length cv.length] 251 (0,0))/\B1<=gc/\w.heap[gc]?=some (.cells cv.toArray 238 (0,0)) /\
  ((sa=none/\sc=0/\l=[])\/∃ gi ys,sa=some ⟨gi,0,none⟩/\sc=l.length/\B1<=gi/\w.heap[gi]?=some (.cells ys.toArray 245 (0,0))/\ItC B w ys l/\l≠[])
 one:∀ u∈cv,u.oneCell'=true
structure PV (B B1:Nat) (w:World) (gb:Nat) (l:List It) (cv:List Value):Prop where
 bb:B1<=gb
 hx:∃ iv gc c,w.heap[gb]?=some (.cells #[iv,.slice (some ⟨gc,0,none⟩) cv.length c] 251 (0,0))/\B1<=gc/\cv.length<=c/\c<=9223372036854775807/\RowN w gc 238 cv/\IV B B1 w iv l
theorem PF.pv (h:PF B B1 w gb l cv) (hl:l.length<=1000) (hc:cv.length<=1000):PV B B1 w gb l cv:=by
 obtain ⟨sa,sc,gc,h1,h2,h3,h4⟩:=h.hx;refine ⟨h.bb,_,gc,_,h1,h2,nR _,by omega,⟨[],by rw [List.append_nil];exact h3⟩,?_⟩;rcases h4 with ⟨rfl,rfl,rfl⟩ | ⟨gi,ys,rfl,rfl,h5,h6,h7,_⟩
 ·exact IV.nil _ _ _
 ·exact IV.row ⟨[],by rw [List.append_nil];exact h6⟩ h7 h5 (nR _) (by omega)
theorem PF.ins (h:PF B B1 w gb l cv) (hl:l.length<=5) (hi:i<=l.length) (hk:BK B w ka it.1.length kc it.1) (hv:BK B w va it.2.length vc it.2) :
  ∃ sa sc ys,(∃ gc,w.heap[gb]?=some (.cells #[.slice sa l.length sc,.slice (some ⟨gc,0,none⟩) cv.length cv.length] 251 (0,0))/\B1<=gc/\w.heap[gc]?=some (.cells cv.toArray 238 (0,0)))/\ItC B w ys (l.take i++it::l.drop i) /\
   ∀ ww gv,Below w.heap.size w ww->ww.heap[gv]?=some (.cells #[.slice ka it.1.length kc,.slice va it.2.length vc] 245 (0,0))->Calls prog 213 #[.slice sa l.length sc,.int .i64 (i:Int),.slice (some ⟨gv,0,none⟩) 1 1] ww fun e w'=>∃ gn c,e=.returned (.slice (some ⟨gn,0,none⟩) (l.length+1) c)/\ww.heap.size<=gn/\l.length+1<=c/\c<=9223372036854775807/\RowN w' gn 245 ys/\Below ww.heap.size ww w':=by
 obtain ⟨sa,sc,gc,h1,h2,h3,h4⟩:=h.hx;rcases h4 with ⟨rfl,rfl,rfl⟩ | ⟨gi,ys,rfl,rfl,h5,h6,h7,h8⟩
 ·have e0:i=0:=by simpa using hi
  subst e0;refine ⟨none,0,_,⟨gc,h1,h2,h3⟩,ItC.insert (i:=0) (ItC.nil B w) (nR _) hk hv,fun ww gv hb hg=>?_⟩;exact aGu hg rfl rfl
 ·refine ⟨some ⟨gi,0,none⟩,l.length,_,⟨gc,h1,h2,h3⟩,h7.insert hi hk hv,fun ww gv hb hg=>?_⟩;have hgi:=(hb.block gi (lO h6)).trans h6;by_cases e:i=l.length
  ·subst e;have:=aGw hgi h7.1 (by omega) (List.length_pos_iff.2 h8) hg h7.one rfl rfl;have e1:ys.take (l.length*2)=ys:=List.take_of_length_le (by rw [h7.1];exact nR _);have e2:ys.drop (l.length*2)=[]:=List.drop_of_length_le (by rw [h7.1];exact nR _);rw [e1,e2];exact this
  ·exact aGv hgi h7.1 (by omega) (by omega) hg h7.one rfl rfl
theorem Ex.ft {t:TypeId} (h:Ex B [gb] w w') (hg:w.heap[gb]?=some (.cells cs t (0,0))) (ht:t≠5):FT B w w':=by
 refine ⟨h.1,fun k cs' fz e=>?_⟩;rw [h.2 k (lO e) ?_,e];intro q;simp only [List.mem_singleton] at q;subst q;rw [hg] at e;simp only [oI,cI] at e;exact ht e.2.1
theorem Ex.keep {cs':Array Value} {t t':TypeId} (h:Ex B [gb] w w') (hg:w.heap[gb]?=some (.cells cs t (0,0))) (e:w.heap[k]?=some (.cells cs' t' (0,0))) (ht:t≠t'):w'.heap[k]?=some (.cells cs' t' (0,0)):=by
 rw [h.2 k (lO e) ?_,e];intro q;simp only [List.mem_singleton] at q;subst q;rw [hg] at e;simp only [oI,cI] at e;exact ht e.2.1
theorem IV.ex (h:IV B B1 w v l) (f:Ex B [gb] w w') (hg:w.heap[gb]?=some (.cells cs 251 (0,0))):IV B B1 w' v l :=
 h.ft (f.ft hg (by decide)) fun k cs' _ e=>f.keep hg e (by decide)
theorem IV.five {iv:Value} (h:IV B B1 w iv l) (h5:l.length=5):∃ gq oq cq it ka kc va vc,iv=.slice (some ⟨gq,oq,none⟩) 5 cq/\5<=cq/\l[2]?=some it/\w.cell? ⟨gq,oq+4,none⟩=some (.slice ka it.1.length kc)/\w.cell? ⟨gq,oq+5,none⟩=some (.slice va it.2.length vc)/\BK B w ka it.1.length kc it.1/\BK B w va it.2.length vc it.2:=by
 obtain ⟨a,c,h1,h2,h3,h4,h6⟩:=h;rw [h5] at h1 h2;obtain ⟨x,rfl⟩:∃ x,a=some x:=by
  cases a with
  | none=>have:=h4 rfl;omega
  | some x=>exact ⟨x,rfl⟩
 obtain ⟨g,o,rfl,hB,hcs,hI⟩:=h6 x rfl;obtain ⟨it,hit⟩:∃ it,l[2]?=some it:=⟨_,gE (by omega)⟩;obtain ⟨ka,kc,va,vc,q1,q2,q3,q4⟩:=hI 2 it hit;exact ⟨g,o,c,it,ka,kc,va,vc,h1,h2,hit,q1,q2,q3,q4⟩
theorem NV.ex (f:Ex B [gb] w w') (hg:w.heap[gb]?=some (.cells cs 251 (0,0))):∀ {h:Nat} {e:ED h} {S:List Nat} {v:Value},gb∉S->NV B B1 w h e S v->NV B B1 w' h e S v
 | 0,.inl t,S,v,_,hn=>hn
 | 0,.inr l,S,v,_,hn=>by
  obtain ⟨g,iv,h1,h2,h3,h4,h5⟩:=hn
  exact ⟨g,iv,h1,h2,h3,f.keep hg h4 (by decide),h5.ex f hg⟩
 | h+1,.inl t,S,v,_,hn=>hn
 | h+1,.inr x,S,v,hS,hn=>by
  obtain ⟨g,iv,gc,oc,cc,Sk,h1,h2,h3,h4,h5,h6,h7,h8,⟨cs',h9⟩,h10,h11⟩:=hn
  subst h1
  have hgg:g≠gb:=fun q=>hS (by rw [q];simp)
  have hc:=f.keep hg h9 (by decide)
  refine ⟨g,iv,gc,oc,cc,Sk,rfl,h2,h3,?_,h5.ex f hg,h6,h7,h8,⟨cs',hc⟩,h10,fun i k Si hi hSi=>?_⟩
  ·rw [f.2 g (lO h4) (by simpa using hgg)];exact h4
  ·obtain ⟨vk,q1,q2⟩:=h11 i k Si hi hSi
   refine ⟨vk,(World.cell?_of_block (by rw [hc,h9])).trans q1,NV.ex f hg (fun q=>hS ?_) q2⟩
   refine List.mem_cons_of_mem _ (List.mem_flatten.2 ⟨Si,mG hSi,q⟩)
theorem split_ok:∀ {h:Nat} (e:ED h) {S:List Nat} {v:Value},PF B B1 w gb l cv->B<=B1->B1<=w.heap.size->l.length<=4->cv.length<=5->i<=l.length->cv[i]?=some v->NV B B1 w h e S v->gb∉S->isNew e->(itE e).length=5->ShE h 5 e ->
  Calls prog 203 #[.pointer (some ⟨gb,0,none⟩),.int .i64 (i:Int)] w fun e' w'=>e'=.returned (.tuple #[])/\(∃ lv rv gl gr g5 A C,PV B B1 w' gb (l.take i++midE e::l.drop i) (cv.take i++(lv::rv::cv.drop (i+1)))/\NV B B1 w' h (lefE e) (gl::A) lv/\NV B B1 w' h (rigE e) (gr::C) rv/\S=g5::(A++C)/\gl≠gr/\w.heap.size<=gl/\w.heap.size<=gr)/\Ex B [gb] w w'
 | 0,.inr l5,S,v,hPF,hB,hBw,hl4,hc5,hi,hcv,hnv,hgS,_,h5,hsh=>by
  obtain ⟨g5,iv,rfl,rfl,hg1,hg2,hIV⟩:=hnv
  have h5:l5.length=5:=h5
  obtain ⟨gq,oq,cq,it,ka,kc,va,vc,rfl,hcq,hit,k1,k2,b1,b2⟩:=hIV.five h5
  obtain ⟨sa,sc,ys,⟨gc,p1,p2,p3⟩,hIC,hIns⟩:=hPF.ins (by omega) hi b1 b2
  have hin:i<cv.length:=(lL hcv)
  refine (split_leaf (B:=B) p1 (nT hB hPF.bb) (by omega) p3 rfl (by omega) hin hcv hPF.one hg2 hcq k1 k2 hIns).mono ?_
  rintro e' w' ⟨rfl,⟨gl,gr,gn,c,gm,c2,q1,q2,q3,q4,q5,q6,q7,q8,q9,q10,q11,q12,q13,q14⟩,hEx⟩
  have hIVw:=hIV.ex hEx p1
  have hmid:midE (h:=0) (.inr l5)=it:=by
   show (l5.getD (l5.length / 2) _)=_;rw [h5,List.getD_eq_getElem?_getD];show (l5[2]?).getD _=_;rw [hit];rfl
  have e1:(cv.take i++(lfP gl::lfP gr::cv.drop (i+1))).length=cv.length+1:=by simp;omega
  have e2:(l.take i++it::l.drop i).length=l.length+1:=by simp;omega
  refine ⟨rfl,⟨lfP gl,lfP gr,gl,gr,g5,[],[],⟨hPF.bb,_,gm,c2,by rw [e1];exact q1,by omega,by rw [e1];exact q13,q14,q3,?_⟩,?_,?_,rfl,q6,q7,q8⟩,hEx⟩
  ·rw [hmid,<-e2];exact IV.row q2 (hIC.ft (hEx.ft p1 (by decide))) (by omega) (by rw [e2];exact q11) q12
  ·refine ⟨gl,_,rfl,rfl,by omega,q4,?_⟩;show IV B B1 w' _ (l5.take (l5.length / 2));rw [h5];exact hIVw.take (by omega)
  ·refine ⟨gr,_,rfl,rfl,by omega,q5,?_⟩;show IV B B1 w' _ (l5.drop (l5.length / 2+1));rw [h5];exact hIVw.drop (m:=3) (by omega)
 | h+1,.inr x,S,v,hPF,hB,hBw,hl4,hc5,hi,hcv,hnv,hgS,_,h5,⟨hs1,hs2,hs3⟩=>by
  obtain ⟨g5,iv,gk,ok,ck,Sk,rfl,rfl,hg1,hg2,hIV,hk1,hk2,hk3,hk4,hk5,hk6⟩:=hnv;have h5:x.1.length=5:=h5;have h6:x.2.length=6:=by have:x.2.length=x.1.length+1:=hs2;omega
  obtain ⟨gq,oq,cq,it,ka,kc,va,vc,rfl,hcq,hit,k1,k2,b1,b2⟩:=hIV.five h5;obtain ⟨sa,sc,ys,⟨gc,p1,p2,p3⟩,hIC,hIns⟩:=hPF.ins (by omega) hi b1 b2;have hin:i<cv.length:=(lL hcv);rw [h6] at hg2 hk2 hk5;refine (split_branch (B:=B) p1 (nT hB hPF.bb) (by omega) p3 rfl (by omega) hin hcv hPF.one hg2 hcq hk2 k1 k2 hIns).mono ?_;rintro e' w' ⟨rfl,⟨gl,gr,gn,c,gm,c2,q1,q2,q3,q4,q5,q6,q7,q8,q9,q10,q11,q12,q13,q14⟩,hEx⟩;have hIVw:=hIV.ex hEx p1;have hmid:midE (h:=h+1) (.inr x)=it:=by
   show (x.1.getD (x.1.length / 2) _)=_;rw [h5,List.getD_eq_getElem?_getD];show (x.1[2]?).getD _=_;rw [hit];rfl
  have e1:(cv.take i++(brP gl::brP gr::cv.drop (i+1))).length=cv.length+1:=by simp;omega
  have e2:(l.take i++it::l.drop i).length=l.length+1:=by simp;omega
  have hft:=hEx.ft p1 (by decide);obtain ⟨cs4,hk4⟩:=hk4;have hkk:=hEx.keep p1 hk4 (by decide);have hkid:∀ j k Si,x.2[j]?=some k->Sk[j]?=some Si->∃ vk,w'.cell? ⟨gk,ok+j,none⟩=some vk/\NV B B1 w' h k Si vk:=by
   intro j k Si hj hSi;obtain ⟨vk,r1,r2⟩:=hk6 j k Si hj hSi;exact ⟨vk,(World.cell?_of_block (by rw [hkk,hk4])).trans r1,NV.ex hEx p1 (fun q=>hgS (List.mem_cons_of_mem _ (List.mem_flatten.2 ⟨Si,mG hSi,q⟩))) r2⟩
  have hsk:Sk.flatten=(Sk.take 3).flatten++(Sk.drop 3).flatten:=by rw [<-List.flatten_append,List.take_append_drop]
  refine ⟨rfl,⟨brP gl,brP gr,gl,gr,g5,(Sk.take 3).flatten,(Sk.drop 3).flatten,⟨hPF.bb,_,gm,c2,by rw [e1];exact q1,by omega,by rw [e1];exact q13,q14,q3,?_⟩,?_,?_,by rw [hsk],q6,q7,q8⟩,hEx⟩
  ·rw [hmid,<-e2];exact IV.row q2 (hIC.ft hft) (by omega) (by rw [e2];exact q11) q12
  ·have e3:((x.2.take (x.1.length / 2+1)).length:Nat)=3:=by rw [List.length_take];omega
   show NV B B1 w' (h+1) (.inr (x.1.take (x.1.length / 2),x.2.take (x.1.length / 2+1))) _ _;refine ⟨gl,_,gk,ok,ck,Sk.take 3,rfl,rfl,by omega,by rw [e3];exact q4,?_,hk1,by rw [e3];omega,hk3,⟨cs4,hkk⟩,by rw [e3,List.length_take];omega,fun j k Si hj hSi=>?_⟩
   ·show IV B B1 w' _ (x.1.take (x.1.length / 2));rw [h5];exact hIVw.take (by omega)
   ·have hj:(x.2.take (x.1.length / 2+1))[j]?=some k:=hj;have hj3:j<3:=by have:=(lL hj);omega
    rw [List.getElem?_take_of_lt (by omega)] at hj;rw [List.getElem?_take_of_lt hj3] at hSi;exact hkid j k Si hj hSi
  ·have e3:((x.2.drop (x.1.length / 2+1)).length:Nat)=3:=by rw [List.length_drop];omega
   show NV B B1 w' (h+1) (.inr (x.1.drop (x.1.length / 2+1),x.2.drop (x.1.length / 2+1))) _ _;refine ⟨gr,_,gk,ok+3,ck-3,Sk.drop 3,rfl,rfl,by omega,by rw [e3];exact q5,?_,hk1,by rw [e3];omega,by omega,⟨cs4,hkk⟩,by rw [e3,List.length_drop];omega,fun j k Si hj hSi=>?_⟩
   ·show IV B B1 w' _ (x.1.drop (x.1.length / 2+1));rw [h5];exact hIVw.drop (m:=3) (by omega)
   ·have hj:(x.2.drop (x.1.length / 2+1))[j]?=some k:=hj;rw [List.getElem?_drop,show x.1.length / 2+1+j=3+j by omega] at hj;rw [List.getElem?_drop] at hSi;obtain ⟨vk,r1,r2⟩:=hkid (3+j) k Si hj hSi;exact ⟨vk,by rw [show ok+3+j=ok+(3+j) by omega];exact r1,r2⟩
theorem IV.len (h:IV B B1 w v l):∃ a c,v=.slice a l.length c:=by
 obtain ⟨a,c,h1,_⟩:=h;exact ⟨a,c,h1⟩
def Spl (B B1:Nat) (w:World) (gb i h:Nat) (e:ED h) (S:List Nat) (l:List It) (cv:List Value) (w':World):Prop :=
 (∃ lv rv gl gr g5 A C,PV B B1 w' gb (l.take i++midE e::l.drop i) (cv.take i++(lv::rv::cv.drop (i+1)))/\NV B B1 w' h (lefE e) (gl::A) lv/\NV B B1 w' h (rigE e) (gr::C) rv/\S=g5::(A++C)/\gl≠gr/\w.heap.size<=gl/\w.heap.size<=gr)/\Ex B [gb] w w'
theorem settleT_ok {e:ED h} {hh:Int} (hPF:PF B B1 w gb l cv) (hB:B<=B1) (hBw:B1<=w.heap.size) (hl4:l.length<=4) (hc5:cv.length<=5) (hi:i<=l.length) (hcv:cv[i]?=some v) (hn:NV B B1 w h e S v) (hgS:gb∉S) (hnew:isNew e) (h2:2<=(itE e).length) (hsh:ShE h 5 e) :
  Calls prog 202 #[.pointer (some ⟨px,0,none⟩),.pointer (some ⟨gb,0,none⟩),.int .i64 (i:Int),.int .i64 hh] w fun e' w'=>e'=.returned (.tuple #[])/\(if 4<(itE e).length then Spl B B1 w gb i h e S l cv w' else w'=w):=by
 have hle5:(itE e).length<=5:=by
  match h,e,hsh with
  | 0,e,hs=>exact hs
  | h+1,e,hs=>exact hs.1
 have HIO:=zH (aGs hn hnew);obtain ⟨sa,sc,gc,p1,p2,p3,p4⟩:=id hPF.hx;have hin:i<cv.length:=(lL hcv);have r1:w.cell? ⟨gb,1,none⟩=some (.slice (some ⟨gc,0,none⟩) cv.length cv.length):=aAa p1;have r2:w.cell? ⟨gc,i,none⟩=some v:=by rw [aAa p3,List.getElem?_toArray];exact hcv
 have xi:(i:Int)<((cv.length:Nat):Int):=by omega
 have HSP:Hid ((itE e).length=5->Calls prog 203 #[.pointer (some ⟨gb,0,none⟩),.int .i64 (i:Int)] w fun e' w'=>e'=.returned (.tuple #[])/\Spl B B1 w gb i h e S l cv w'):=fun h5=>split_ok e hPF hB hBw hl4 hc5 hi hcv hn hgS hnew h5 hsh
 generalize hSP:Spl B B1 w gb i h e S l cv=SP at *
 clear hPF hn hsh hgS p1 p2 p3 p4 hcv;generalize cv.length=n at *
 go_enter func202,ntmps202;go_wp2_with fail;refine HIO.o.mono ?_;rintro e' w1 ⟨iv,rfl,hiv,hw⟩;have hw:=hw.symm;subst hw;obtain ⟨a1,c1,rfl⟩:=hiv.len;clear hiv;have x2:¬ (((itE e).length:Nat):Int)<2:=by omega
 generalize hL:(itE e).length=L at *
 go_wp2_with fail;refine HIO.o.mono ?_;rintro e' w1 ⟨iv,rfl,hiv,hw⟩;have hw:=hw.symm;subst hw;obtain ⟨a2,c2,rfl⟩:=hiv.len;clear hiv;rw [hL];by_cases h4:4<L
 ·have x4:(4:Int)<(L:Int):=by omega
  have HS5:=zH (HSP.o (by omega));go_wp2_with fail;refine HS5.o.mono ?_;rintro e' w2 ⟨rfl,hq⟩;have HQ:=zH hq;clear hq;go_wp2;go_end0;exact ⟨rfl,HQ.o⟩
 ·have x4:¬ (4:Int)<(L:Int):=by omega
  go_wp2;go_end0;exact ⟨rfl,rfl⟩
structure PgI (s:DS) (t:PS) (i:Nat) (b:List Nat):Prop where
 lt:i<s.n
 of:t.of (i:Int)=2
 pg:pageOf (pad (s.show i))=some b
 ln:b.length<=8192
 bt:∀ c∈b,c<256
structure ItsOk (l:List It):Prop where
 n1:1<=l.length
 n4:l.length<=4
 ok:∀ x∈l,ItOk x
 so:Srt l
def OnD (s:DS) (t:PS):(h:Nat)->BT h->Prop
 | 0,b=>PgI s t b.1 (leafB b.2)/\ItsOk b.2
 | h+1,b=>PgI s t b.1 (branB b.2.1 (b.2.2.map BT.id))/\ItsOk b.2.1/\b.2.2.length=b.2.1.length+1/\(∀ k∈b.2.2,BT.id k<9223372036854775808)/\∀ k∈b.2.2,OnD s t h k
def pthB:(h:Nat)->BT h->List Nat->List Nat
 | 0,b,_=>[b.1]
 | h+1,b,k=>b.1::if hasI b.2.1 k then [] else match b.2.2[fndI b.2.1 k]? with
  | some c=>pthB h c k
  | none=>[]
def nwB:(h:Nat)->BT h->List Nat->Bool
 | 0,b,k=>!hasI b.2 k
 | h+1,b,k=>if hasI b.2.1 k then false else match b.2.2[fndI b.2.1 k]? with
  | some c=>nwB h c k
  | none=>false
theorem Ex.fe {B px gl:Nat} {w w':World} {cs:Array Value} {w0:World} (h:Ex B [gl,px] w w') (f:FE B w0 w) (hp:w.heap[px]?=some (.cells cs 279 (0,0))) (hg:w0.heap.size<=gl):FE B w0 w':=by
 refine ⟨f.1.trans h.1,fun k cs' t fz e n1 n2=>?_⟩;have e1:=f.2 k cs' t fz e n1 n2;rw [h.2 k (lO e1) ?_,e1];intro q;simp only [List.mem_cons,List.not_mem_nil,or_false] at q;rcases q with rfl | rfl
 ·have:=(lO e);omega
 ·rw [hp] at e1;simp only [oI,cI] at e1;exact n1 e1.2.1.symm
theorem Ex.fe1 (h:Ex B [gl] w w') (f:FE B w0 w) (hg:w0.heap.size<=gl):FE B w0 w':=by
 refine ⟨f.1.trans h.1,fun k cs' t fz e n1 n2=>?_⟩;have e1:=f.2 k cs' t fz e n1 n2;rw [h.2 k (lO e1) ?_,e1];intro q;simp only [List.mem_singleton] at q;subst q;have:=(lO e);omega
theorem Ex.ft2 {cs2:Array Value} {t:TypeId} (h:Ex B [gl,px] w w') (hg:w.heap[gl]?=some (.cells cs t (0,0))) (ht:t≠5) (hp:w.heap[px]?=some (.cells cs2 279 (0,0))):FT B w w':=by
 refine ⟨h.1,fun k cs' fz e=>?_⟩;rw [h.2 k (lO e) ?_,e];intro q;simp only [List.mem_cons,List.not_mem_nil,or_false] at q;rcases q with rfl | rfl
 ·rw [hg] at e;simp only [oI,cI] at e;exact ht e.2.1
 ·rw [hp] at e;simp only [oI,cI] at e;exact absurd e.2.1 (by decide)
def PutR (B:Nat) (w:World) (px q:Nat) (rv:Value) (d n:Int) (gone:List Nat) (h:Nat) (b:BT h) (it:It) (v:Value) (w':World):Prop :=
 (∃ S,NV B w.heap.size w' h (putE h (old b) it) S v/\S.Nodup)/\EV B w' px q rv d (if nwB h b it.1 then n+1 else n) (gone++pthB h b it.1)/\FE B w w'
theorem putIn_leaf [Gd] {n:Int} (hg0:True) (hST:ST B p q s t w) (hB:B<=w.heap.size) (hlf:s.life=t.life) (hd:s.down=false) (hE:EV B w px q rv d n gone) (hlen:gone.length<900) (hn0:0<=n) (hn1:n<1000000) (b:BT 0) (hb:OnD s t 0 b) (it:It) {ka va:Option Addr} {kc vc:Nat} (hk:BK B w ka it.1.length kc it.1) (hv:BK B w va it.2.length vc it.2) :
  Calls prog 180 #[.pointer (some ⟨px,0,none⟩),plV b.1,.int .i64 1,.agg #[.slice ka it.1.length kc,.slice va it.2.length vc]] w fun e w'=>∃ v,e=.returned v/\PutR B w px q rv d n gone 0 b it v w':=by
 obtain ⟨hpg,hit⟩:=hb;have HBX:=zH (aAc w (.cells #[.slice ka it.1.length kc,.slice va it.2.length vc] 245));have HNX:Hid ((w.alloc (.cells #[.slice ka it.1.length kc,.slice va it.2.length vc] 245)).heap[w.heap.size]?=some (.cells #[.slice ka it.1.length kc,.slice va it.2.length vc] 245 (0,0))):=heap_alloc_new w _;have HOP:=zH (aGo hg0 (hST.later HBX.o) (nT hB HBX.o.size) (hE.later HBX.o) (by omega) (i:=b.1) (hh:=1) (fun ww v w'=>LfN B ww.heap.size w' v b.2) (fun ww hs hBB=>aDy b.1 hs hBB hlf hpg.lt (by rw [hpg.of];decide) hd b.2 hpg.pg hit.n1 hit.n4 hit.ok hit.so hpg.ln hpg.bt));have HK:=zH hk;have HV:=zH hv;have HB:=zH hB;have HIT:=zH hit;have HEB:=zH hE.hB;clear hST hE hpg hit hk hv hB hlf hd;unfold plV at HOP ⊢;generalize hkn:it.1.length=kn at *
 generalize hvn:it.2.length=vn at *
 go_enter func180,ntmps180;go_wp2_with fail;refine HOP.o.mono ?_;rintro e w3 ⟨v3,w1,rfl,hF1,hs1,⟨gl,gi,rfl,z1,z2,z3,z4⟩,hb3,hE3⟩;have HF1:=zH ((FE.of HBX.o HB.o).trans hF1);have HS1:=zH (nT HBX.o.size hs1);have HZ3:=zH z3;have HZ4:=zH z4;have HE3:=zH hE3;have HB3:=zH hb3;have HNX3:Hid (w3.heap[w.heap.size]?=some (.cells #[.slice ka kn kc,.slice va vn vc] 245 (0,0))):=(hb3.block _ (lO (hF1.2 _ _ _ _ HNX.o (by decide) (by decide)))).trans (hF1.2 _ _ _ _ HNX.o (by decide) (by decide));have ta:=aAx (.pointer (some ⟨gl,0,none⟩)) w3;have tb:=aEa (.pointer (some ⟨gl,0,none⟩)) w3;have r0:w3.cell? ⟨w.heap.size,0,none⟩=some (.slice ka kn kc):=aAa HNX3.o;have r1:w3.cell? ⟨w.heap.size,1,none⟩=some (.slice va vn vc):=aAa HNX3.o;clear hF1 hs1 z3 z4 hb3 hE3 HOP;go_wp2_with fail;have HF3:=zH (HF1.o.trans (FE.of HB3.o (nT HB.o HS1.o)));have hk3:=HK.o.ft HF3.o.ft;have hv3:=HV.o.ft HF3.o.ft;have HBw3:Hid (B<=w3.heap.size):=nT (nT HB.o HS1.o) HB3.o.size;have HSw3:Hid (w.heap.size<=w3.heap.size):=nT HS1.o HB3.o.size;have hfind:∀ ww,Below w3.heap.size w3 ww->Calls prog 166 #[.slice (some ⟨gi,0,none⟩) b.2.length b.2.length,.slice ka kn kc] ww fun e w'=>e=.returned (.tuple #[.int .i64 (fndI b.2 it.1:Int),.bool (hasI b.2 it.1)])/\Below ww.heap.size ww w':=fun ww hb=>find_ok (HZ4.o.later hb HBw3.o) (nT HBw3.o hb.size) (hk3.1.later hb (nR _)) (by have:=HIT.o.n4;omega) HIT.o.so rfl
 have hgli:w.heap.size<=gl:=nT HS1.o z1;have hgii:w.heap.size<=gi:=nT HS1.o z2;have hfle:=aBj b.2 it.1;have hn4:=HIT.o.n4;have hn1':=HIT.o.n1;by_cases hh:hasI b.2 it.1=true
 ·rw [hh] at hfind;obtain ⟨kf,vf,hg1,hg2⟩:=HZ4.o;have hlt:fndI b.2 it.1<b.2.length:=by
   obtain ⟨x,hx,_⟩:=(HIT.o.so.has it.1).1 hh;exact (lL hx)
  have HPL:=zH (aHj HE3.o HZ3.o hg1 HBw3.o (nT HB.o hgii) (by omega) hlt hfind (va:=va) (vn:=vn) (vc:=vc));have HKV:Hid (KV B w3 (.slice ka kn kc) it.1/\KV B w3 (.slice va vn vc) it.2):=⟨⟨ka,kc,by rw [hkn],by rw [hkn];exact hk3⟩,⟨va,vc,by rw [hvn],by rw [hvn];exact hv3⟩⟩;have HG1:=zH hg1;have HG2:=zH hg2;clear hfind hk3 hv3 hg1 hg2;refine HPL.o.mono ?_;rintro e w4 ⟨rfl,h41,h42,h43⟩;have HFT4:=zH (h43.ft HG1.o (by decide));have hIR:=IR.set rfl HG2.o HFT4.o h41 (HKV.o.1.ft HFT4.o) (HKV.o.2.ft HFT4.o) hlt;have HIR:=zH hIR;have HE4:=zH h42;have HZ34:=zH (h43.keep HG1.o HZ3.o (by decide));have HF4:=zH (h43.fe1 HF3.o hgii);clear h41 h42 h43 hIR ta tb r0 r1;go_wp2;go_ret;have e1:putE 0 (old b) it=.inr (b.2.set (fndI b.2 it.1) it):=by
   show (Sum.inr (putL b.2 it):ED 0)=_;unfold putL;rw [if_pos hh]
  have e2:nwB 0 b it.1=false:=by show (!hasI b.2 it.1)=false;rw [hh];rfl
  refine ⟨_,rfl,⟨[gl],?_,by simp⟩,?_,HF4.o⟩
  ·rw [e1];refine ⟨gl,_,rfl,rfl,hgli,HZ34.o,?_⟩;have:=HIR.o.iv (B1:=w.heap.size) hgii (by rw [List.length_set];omega);rw [List.length_set] at this;exact this
  ·rw [e2];exact HE4.o
 ·have hh:hasI b.2 it.1=false:=by simpa using hh
  rw [hh] at hfind;obtain ⟨ys,hg1,hg2⟩:=HZ4.o.itc;have hk3':BK B w3 ka it.1.length kc it.1:=by rw [hkn];exact hk3
  have hv3':BK B w3 va it.2.length vc it.2:=by rw [hvn];exact hv3
  have HNI:=zH (hg2.insert hfle hk3' hv3');rw [hkn,hvn] at HNI
  have HPL:=zH (aDq hn1 hn0 HE3.o HZ3.o HBw3.o (nT HB.o hgli) (ys.take (fndI b.2 it.1*2)++(.slice ka kn kc::.slice va vn vc::ys.drop (fndI b.2 it.1*2))) hfind (fun ww gv hb hg=>by
   have hgi:=(hb.block gi (lO hg1)).trans hg1;by_cases e:fndI b.2 it.1=b.2.length
   ·have:=aGw hgi hg2.1 (by omega) (by omega) hg hg2.one rfl rfl;have e1:ys.take (b.2.length*2)=ys:=List.take_of_length_le (by rw [hg2.1];exact nR _);have e2:ys.drop (b.2.length*2)=[]:=List.drop_of_length_le (by rw [hg2.1];exact nR _);rw [e,e1,e2];exact this
   ·exact aGv hgi hg2.1 (by omega) (by omega) hg hg2.one rfl rfl))
  obtain ⟨gv0,hpx,_⟩:=HE3.o.hx;have HPX:=zH hpx;clear hfind hk3 hv3 hg1 hg2 hk3' hv3' hpx;refine HPL.o.mono ?_;rintro e w4 ⟨rfl,⟨gn,c4,h41,h44,h45,h46,h47⟩,h42,h43⟩;have HFT4:=zH (h43.ft2 HZ3.o (by decide) HPX.o);have HE4:=zH h42;have HZ34:=zH h41;have HROW:=zH h47;have HF4:=zH (h43.fe HF3.o HPX.o hgli);clear h41 h42 h43 h47 ta tb r0 r1;go_wp2;go_ret;have e1:putE 0 (old b) it=.inr (b.2.take (fndI b.2 it.1)++it::b.2.drop (fndI b.2 it.1)):=by
   show (Sum.inr (putL b.2 it):ED 0)=_;unfold putL;rw [hh];rfl
  have e2:nwB 0 b it.1=true:=by show (!hasI b.2 it.1)=true;rw [hh];rfl
  have e3:(b.2.take (fndI b.2 it.1)++it::b.2.drop (fndI b.2 it.1)).length=b.2.length+1:=by simp;omega
  refine ⟨_,rfl,⟨[gl],?_,by simp⟩,?_,HF4.o⟩
  ·rw [e1];refine ⟨gl,_,rfl,rfl,hgli,HZ34.o,?_⟩;have:=IV.row HROW.o (HNI.o.ft HFT4.o) (B1:=w.heap.size) (c:=c4) (nT HSw3.o h44) (by rw [e3];exact h45) h46;rw [e3] at this;exact this
  ·rw [e2];exact HE4.o
theorem NV.lo:∀ {h:Nat} {e:ED h} {S:List Nat} {v:Value},NV B B1 w h e S v->∀ g∈S,B1<=g/\g<w.heap.size
 | 0,.inl t,S,v,hn,g,hg=>by rw [hn.1] at hg;cases hg
 | 0,.inr l,S,v,hn,g,hg=>by
  obtain ⟨g',iv,rfl,h2,h3,h4,h5⟩:=hn
  simp only [List.mem_singleton] at hg
  subst hg
  exact ⟨h3,(lO h4)⟩
 | h+1,.inl t,S,v,hn,g,hg=>by rw [hn.1] at hg;cases hg
 | h+1,.inr x,S,v,hn,g,hg=>by
  obtain ⟨g',iv,gc,oc,cc,Sk,rfl,h2,h3,h4,h5,h6,h7,h8,h9,h10,h11⟩:=hn
  rcases List.mem_cons.1 hg with rfl | hg
  ·exact ⟨h3,(lO h4)⟩
  ·obtain ⟨Si,hSi,hgi⟩:=List.mem_flatten.1 hg
   obtain ⟨i,hi⟩:=List.mem_iff_getElem?.1 hSi
   have hlt:=(lL hi)
   obtain ⟨k,hk⟩:∃ k,x.2[i]?=some k:=⟨_,gE (by omega)⟩
   obtain ⟨vk,_,q⟩:=h11 i k Si hk hi
   exact NV.lo q g hgi
theorem nv_mk {c:List (ED h)} {Sk:List (List Nat)} (hp:PV B B1 w gb l cv) (h1:cv.length=c.length) (h2:Sk.length=c.length) (hk:∀ (j:Nat) k Sj v,c[j]?=some k->Sk[j]?=some Sj->cv[j]?=some v->NV B B1 w h k Sj v):NV B B1 w (h+1) (.inr (l,c)) (gb::Sk.flatten) (brP gb):=by
 obtain ⟨iv,gc,cc,e1,e2,e3,e4,⟨row,e5⟩,e6⟩:=hp.hx;refine ⟨gb,iv,gc,0,cc,Sk,rfl,rfl,hp.bb,by rw [show (l,c).2.length=cv.length from h1.symm];exact e1,e6,e2,by rw [show (l,c).2.length=cv.length from h1.symm];exact e3,e4,⟨_,e5⟩,h2,fun i k Si hi hSi=>?_⟩;have hlt:=(lL hSi);obtain ⟨v,hv⟩:∃ v,cv[i]?=some v:=⟨_,gE (by omega)⟩;refine ⟨v,?_,hk i k Si v hi hSi hv⟩;rw [aAa e5,Nat.zero_add,List.getElem?_toArray,List.getElem?_append_left (by omega)];exact hv
def skOne (n F:Nat) (S:List Nat):List (List Nat):=List.replicate F []++(S::List.replicate (n-F-1) [])
theorem skOne_len {F:Nat} (h:F<n):(skOne n F S).length=n:=by simp [skOne];omega
theorem skOne_flat (n F:Nat) (S:List Nat):(skOne n F S).flatten=S:=by simp [skOne,List.flatten_append]
theorem skOne_at {F:Nat} {Sj:List Nat} (h:(skOne n F S)[j]?=some Sj):if j=F then Sj=S else Sj=[]:=by
 unfold skOne at h;split
 ·rename_i e
  subst e;rw [List.getElem?_append_right (by simp),List.length_replicate,Nat.sub_self,List.getElem?_cons_zero] at h;exact (Option.some.inj h).symm
 ·rename_i e
  by_cases q:j<F
  ·rw [List.getElem?_append_left (by simpa using q)] at h;exact List.eq_of_mem_replicate (mG h)
  ·rw [List.getElem?_append_right (by simp;omega),List.length_replicate,show j-F=(j-F-1)+1 by omega,List.getElem?_cons_succ] at h;exact List.eq_of_mem_replicate (mG h)
def skTwo (n F:Nat) (S T:List Nat):List (List Nat):=List.replicate F []++(S::T::List.replicate (n-F-1) [])
theorem skTwo_len {F:Nat} (h:F<n):(skTwo n F S T).length=n+1:=by simp [skTwo];omega
theorem skTwo_flat (n F:Nat) (S T:List Nat):(skTwo n F S T).flatten=S++T:=by simp [skTwo,List.flatten_append]
theorem skTwo_at {F:Nat} {Sj:List Nat} (h:(skTwo n F S T)[j]?=some Sj):if j=F then Sj=S else if j=F+1 then Sj=T else Sj=[]:=by
 unfold skTwo at h;by_cases e:j=F
 ·subst e;rw [if_pos rfl];rw [List.getElem?_append_right (by simp),List.length_replicate,Nat.sub_self,List.getElem?_cons_zero] at h;exact (Option.some.inj h).symm
 ·rw [if_neg e];by_cases e2:j=F+1
  ·subst e2;rw [if_pos rfl];rw [List.getElem?_append_right (by simp),List.length_replicate,show F+1-F=0+1 by omega,List.getElem?_cons_succ,List.getElem?_cons_zero] at h;exact (Option.some.inj h).symm
  ·rw [if_neg e2];by_cases q:j<F
   ·rw [List.getElem?_append_left (by simpa using q)] at h;exact List.eq_of_mem_replicate (mG h)
   ·rw [List.getElem?_append_right (by simp;omega),List.length_replicate,show j-F=(j-F-2)+1+1 by omega,List.getElem?_cons_succ,List.getElem?_cons_succ] at h;exact List.eq_of_mem_replicate (mG h)
theorem nv_one {F:Nat} {ks:List (BT h)} {e:ED h} (hp:PV B B1 w gb l ((ks.map fun k=>plV k.id).set F v)) (hF:F<ks.length) (hn:NV B B1 w h e S v):NV B B1 w (h+1) (.inr (l,(ks.map old).set F e)) (gb::S) (brP gb):=by
 have:=nv_mk (Sk:=skOne ks.length F S) (c:=(ks.map old).set F e) hp (by simp) (by rw [skOne_len hF];simp) (fun j k Sj u hk hS hu=>by
  have h1:=skOne_at hS;by_cases q:j=F
  ·subst q;rw [if_pos rfl] at h1;rw [List.getElem?_set_self (by simpa using hF)] at hk hu;simp only [oI] at hk hu;subst hk hu h1;exact hn
  ·rw [if_neg q] at h1;rw [List.getElem?_set_ne (by omega),List.getElem?_map] at hk hu
   cases hkk:ks[j]? with
   | none=>rw [hkk] at hk;cases hk
   | some b =>
    rw [hkk] at hk hu;simp only [Option.map_some,oI] at hk hu;subst hk hu h1
    exact NV.old _ _ _ b)
 rw [skOne_flat] at this;exact this
theorem nv_none {ks:List (BT h)} (hp:PV B B1 w gb l (ks.map fun k=>plV k.id)):NV B B1 w (h+1) (.inr (l,ks.map old)) [gb] (brP gb):=by
 have:=nv_mk (Sk:=List.replicate ks.length []) (c:=ks.map old) hp (by simp) (by simp) (fun j k Sj u hk hS hu=>by
  have h1:Sj=[]:=List.eq_of_mem_replicate (mG hS);rw [List.getElem?_map] at hk hu
  cases hkk:ks[j]? with
  | none=>rw [hkk] at hk;cases hk
  | some b =>
   rw [hkk] at hk hu;simp only [Option.map_some,oI] at hk hu;subst hk hu h1
   exact NV.old _ _ _ b)
 rw [show (List.replicate ks.length ([]:List Nat)).flatten=[] by simp] at this;exact this
theorem nv_two {F:Nat} {ks:List (BT h)} {e1 e2 e:ED h} (hF:F<ks.length) (hp:PV B B1 w gb l (((ks.map fun k=>plV k.id).set F v).take F++(lv::rv::((ks.map fun k=>plV k.id).set F v).drop (F+1)))) (hn1:NV B B1 w h e1 S lv) (hn2:NV B B1 w h e2 T rv) :
  NV B B1 w (h+1) (.inr (l,((ks.map old).set F e).take F++(e1::e2::((ks.map old).set F e).drop (F+1)))) (gb::(S++T)) (brP gb):=by
 have:=nv_mk (Sk:=skTwo ks.length F S T) (c:=((ks.map old).set F e).take F++(e1::e2::((ks.map old).set F e).drop (F+1))) hp (by simp) (by rw [skTwo_len hF];simp;omega) (fun j k Sj u hk hS hu=>by
  have h1:=skTwo_at hS;have tl1:(((ks.map old).set F e).take F).length=F:=by simp;omega
  have tl2:(((ks.map fun k=>plV k.id).set F v).take F).length=F:=by simp;omega
  rcases Nat.lt_trichotomy j F with q | q | q
  ·rw [if_neg (by omega),if_neg (by omega)] at h1;rw [List.getElem?_append_left (by omega),List.getElem?_take_of_lt q,List.getElem?_set_ne (by omega),List.getElem?_map] at hk hu
   cases hkk:ks[j]? with
   | none=>rw [hkk] at hk;cases hk
   | some b =>
    rw [hkk] at hk hu;simp only [Option.map_some,oI] at hk hu;subst hk hu h1;exact NV.old _ _ _ b
  ·subst q;rw [if_pos rfl] at h1;rw [List.getElem?_append_right (by omega),tl1,Nat.sub_self,List.getElem?_cons_zero] at hk;rw [List.getElem?_append_right (by omega),tl2,Nat.sub_self,List.getElem?_cons_zero] at hu;simp only [oI] at hk hu;subst hk hu h1;exact hn1
  ·by_cases q2:j=F+1
   ·subst q2;rw [if_neg (by omega),if_pos rfl] at h1;rw [List.getElem?_append_right (by omega),tl1,show F+1-F=0+1 by omega,List.getElem?_cons_succ,List.getElem?_cons_zero] at hk;rw [List.getElem?_append_right (by omega),tl2,show F+1-F=0+1 by omega,List.getElem?_cons_succ,List.getElem?_cons_zero] at hu;simp only [oI] at hk hu;subst hk hu h1;exact hn2
   ·rw [if_neg (by omega),if_neg q2] at h1;rw [List.getElem?_append_right (by omega),tl1,show j-F=(j-F-2)+1+1 by omega,List.getElem?_cons_succ,List.getElem?_cons_succ,List.getElem?_drop,List.getElem?_set_ne (by omega),List.getElem?_map] at hk;rw [List.getElem?_append_right (by omega),tl2,show j-F=(j-F-2)+1+1 by omega,List.getElem?_cons_succ,List.getElem?_cons_succ,List.getElem?_drop,List.getElem?_set_ne (by omega),List.getElem?_map] at hu
    cases hkk:ks[F+1+(j-F-2)]? with
    | none=>rw [hkk] at hk;cases hk
    | some b =>
     rw [hkk] at hk hu;simp only [Option.map_some,oI] at hk hu;subst hk hu h1
     exact NV.old _ _ _ b)
 rw [skTwo_flat] at this;exact this
def OnDs:{h:Nat}->BT h->Prop
 | 0,_=>True
 | _+1,b=>b.2.2.length=b.2.1.length+1
theorem isNew_put:∀ {h:Nat} (b:BT h) (it:It),OnDs b->isNew (putE h (old b) it)
 | 0,b,it,_=>trivial
 | h+1,b,it,hc=>by
  by_cases c1:hasI (opS (old b)).1 it.1=true
  ·rw [aBl c1];exact trivial
  ·rw [aB4 c1 (gE (by
    have:=aBj (opS (old b)).1 it.1
    show fndI (opS (old b)).1 it.1<(b.2.2.map old).length
    rw [List.length_map]
    have h2:b.2.2.length=b.2.1.length+1:=hc
    have h3:(opS (old b)).1.length=b.2.1.length:=rfl
    omega))]
   exact trivial
theorem EV.ex {n:Int} (h:EV B w px q rv d n gone) (f:Ex B [gb] w w') (hg:w.heap[gb]?=some (.cells cs 251 (0,0))):EV B w' px q rv d n gone:=by
 obtain ⟨gv,h1,h2⟩:=h.hx;exact ⟨h.hB,⟨gv,f.keep hg h1 (by decide),aAl h2 fun k cs' _ e=>f.keep hg e (by decide)⟩,h.hn⟩
theorem NV.cells:∀ {h:Nat} {e:ED h} {S:List Nat} {v:Value},NV B B1 w h e S v->∃ x:TypeId×Value,v=.iface x.1 x.2
 | 0,.inl t,S,v,hn=>⟨(_,_),hn.2⟩
 | 0,.inr l,S,v,hn=>by obtain ⟨g,iv,h1,h2,_⟩:=hn;exact ⟨(_,_),h2⟩
 | h+1,.inl t,S,v,hn=>⟨(_,_),hn.2⟩
 | h+1,.inr x,S,v,hn=>by obtain ⟨g,iv,gc,oc,cc,Sk,h1,h2,_⟩:=hn;exact ⟨(_,_),h2⟩
theorem NV.cell {e:ED h} (hn:NV B B1 w h e S v):v.oneCell'=true:=by
 obtain ⟨x,rfl⟩:=NV.cells hn;rfl
def PutIH [Gd] (B p q px:Nat) (s:DS) (t:PS) (h:Nat):Prop:=∀ (w:World) (rv:Value) (d n:Int) (gone:List Nat) (b:BT h) (it:It) (ka va:Option Addr) (kc vc:Nat),ST B p q s t w->B<=w.heap.size->EV B w px q rv d n gone->gone.length+h<900->0<=n->n<1000000->OnD s t h b->ShB h b->BK B w ka it.1.length kc it.1->BK B w va it.2.length vc it.2 ->
 Calls prog 180 #[.pointer (some ⟨px,0,none⟩),plV b.id,.int .i64 ((h+1:Nat):Int),.agg #[.slice ka it.1.length kc,.slice va it.2.length vc]] w fun e w'=>∃ v,e=.returned v/\PutR B w px q rv d n gone h b it v w'
theorem putIn_branch [Gd] (hg0:True) (hlf:s.life=t.life) (hd:s.down=false) (hIH:PutIH B p q px s t h):PutIH B p q px s t (h+1):=by
 intro w rv d n gone b it ka va kc vc hST hB hE hlen hn0 hn1 hb hsh hk hv;obtain ⟨hpg,hit,hcl0,hidb,hkids⟩:=hb;obtain ⟨hs1,hs2,hs3⟩:=hsh;have HBX:=zH (aAc w (.cells #[.slice ka it.1.length kc,.slice va it.2.length vc] 245));have HNX:Hid ((w.alloc (.cells #[.slice ka it.1.length kc,.slice va it.2.length vc] 245)).heap[w.heap.size]?=some (.cells #[.slice ka it.1.length kc,.slice va it.2.length vc] 245 (0,0))):=heap_alloc_new w _;have hidm:(b.2.2.map BT.id).length=b.2.1.length+1:=by rw [List.length_map];exact hcl0
 have HOP:=zH (aGo hg0 (hST.later HBX.o) (nT hB HBX.o.size) (hE.later HBX.o) (by omega) (i:=b.1) (hh:=((h+1+1:Nat):Int)) (fun ww v w'=>BrN B ww.heap.size w' v b.2.1 (b.2.2.map BT.id)) (fun ww hs hBB=>aCv b.1 (h+1+1) (by omega) hs hBB hlf hpg.lt (by rw [hpg.of];decide) hd b.2.1 (b.2.2.map BT.id) hpg.pg hidm (fun x hx=>by obtain ⟨k,hk,rfl⟩:=List.mem_map.1 hx;exact hidb k hk) hit.n1 hit.n4 hit.ok hit.so hpg.ln hpg.bt));have HK:=zH hk;have HV:=zH hv;have HB:=zH hB;have HST:=zH hST;have HIT:=zH hit;have HEB:=zH hE.hB;have HIH:=zH hIH;have HKD:=zH hkids;have HS3:=zH hs3;have hfle:=aBj b.2.1 it.1;have hn4:=hit.n4;clear hE hpg hit hk hv hB hIH hkids hs3 hidb hST;show Calls prog 180 #[.pointer (some ⟨px,0,none⟩),plV b.1,.int .i64 ((h+1+1:Nat):Int),.agg #[.slice ka it.1.length kc,.slice va it.2.length vc]] w fun e w'=>∃ v,e=.returned v/\PutR B w px q rv d n gone (h+1) b it v w'
 unfold plV at HOP ⊢;generalize hkn:it.1.length=kn at *
 generalize hvn:it.2.length=vn at *
 generalize hLL:b.2.1.length=L at *
 generalize hFi:fndI b.2.1 it.1=Fi at *
 obtain ⟨hb0,hhb⟩:∃ x,hasI b.2.1 it.1=x:=⟨_,rfl⟩;obtain ⟨n2,hcl⟩:∃ x,b.2.2.length=x:=⟨_,rfl⟩;have hidl:(b.2.2.map BT.id).length=n2:=by rw [List.length_map];exact hcl
 have hn2:n2=L+1:=by omega
 obtain ⟨H,hH⟩:∃ H,h+1+1=H:=⟨_,rfl⟩;have hH1:(H:Int)-1=((h+1:Nat):Int):=by omega
 have hHs:H<1000:=by omega
 rw [hH] at HOP ⊢;go_enter func180,ntmps180;go_wp2_with fail;refine HOP.o.mono ?_;rintro e w3 ⟨v3,w1,rfl,hF1,hs1,⟨gb,gi,gc,rfl,z1,z2,z5,z3,z4,z6⟩,hb3,hE3⟩;rw [hLL,hidl] at z3;have HF1:=zH ((FE.of HBX.o HB.o).trans hF1);have HS1:=zH (nT HBX.o.size hs1);have HZ3:=zH z3;have HZ4:=zH z4;have HZ6:=zH z6;have HE3:=zH hE3;have HB3:=zH hb3;have HNX3:Hid (w3.heap[w.heap.size]?=some (.cells #[.slice ka kn kc,.slice va vn vc] 245 (0,0))):=(hb3.block _ (lO (hF1.2 _ _ _ _ HNX.o (by decide) (by decide)))).trans (hF1.2 _ _ _ _ HNX.o (by decide) (by decide));have ta:=aAy (.pointer (some ⟨gb,0,none⟩)) w3;clear hF1 hs1 z3 z4 z6 hb3 hE3 HOP;have HF3:=zH (HF1.o.trans (FE.of HB3.o (nT HB.o HS1.o)));have hk3:=HK.o.ft HF3.o.ft;have hv3:=HV.o.ft HF3.o.ft;have HK3:=zH hk3;have HV3:=zH hv3;have HBw3:Hid (B<=w3.heap.size):=nT (nT HB.o HS1.o) HB3.o.size;have HSw3:Hid (w.heap.size<=w3.heap.size):=nT HS1.o HB3.o.size;have hgbw:w.heap.size<=gb:=nT HS1.o z1;have hgiw:w.heap.size<=gi:=nT HS1.o z2;have hgcw:w.heap.size<=gc:=nT HS1.o z5;have HFI:Hid (∀ ww,Below w3.heap.size w3 ww->Calls prog 166 #[.slice (some ⟨gi,0,none⟩) L L,.slice ka kn kc] ww fun e w'=>e=.returned (.tuple #[.int .i64 (Fi:Int),.bool hb0])/\Below ww.heap.size ww w'):=fun ww hb=>by
  have:=find_ok (HZ4.o.later hb HBw3.o) (nT HBw3.o hb.size) (HK3.o.1.later hb (nR _)) (by have:=HIT.o.n4;omega) HIT.o.so hLL;rw [hFi,hhb] at this;exact this
 clear hk3 hv3;go_upto_region 7 with fail;generalize hG:w.heap.size=G at *
 have hGS:G<w3.heap.size:=(lO HNX3.o);have HX0:Hid ((fun wx=>wx.cell? ⟨gb,0,none⟩=some (.slice (some ⟨gi,0,none⟩) L L)/\wx.cell? ⟨G,0,none⟩=some (.slice ka kn kc)) w3.drew):=⟨aAa HZ3.o,aAa HNX3.o⟩;refine wp_region_noPanic ?_;refine wp_region_held_drew (S:=fun wx=>wx.cell? ⟨gb,0,none⟩=some (.slice (some ⟨gi,0,none⟩) L L)/\wx.cell? ⟨G,0,none⟩=some (.slice ka kn kc)) (by kernel_rfl) HX0.o (fun hHeld=>?_);refine kT 0 34 ?_;refine kT 1 35 ?_;refine kT 2 36 ?_;refine kT 3 37 ?_;refine kT 4 38 ?_;refine kT 5 39 ?_;refine kC 6 ?_;intro K hK;go_simp;refine (HFI.o w3.drew (Below.refl _ _).drew).mono ?_;rintro e w4 ⟨rfl,hb4⟩;have HB4:=zH ((Below.refl w3.heap.size w3).drew.trans hb4);have HX1:Hid ((fun wx=>wx.cell? ⟨gb,0,none⟩=some (.slice (some ⟨gi,0,none⟩) L L)/\wx.cell? ⟨G,0,none⟩=some (.slice ka kn kc)) w4):=⟨(hb4.cell (p:=⟨gb,0,none⟩) (lO HZ3.o)).trans (aAa (w:=w3) HZ3.o),(hb4.cell (p:=⟨G,0,none⟩) hGS).trans (aAa (w:=w3) HNX3.o)⟩;clear hb4 hHeld;refine hK.out _ _ HX1.o (fun hHeld=>?_);clear hK K
 try simp only [Act.put,siT,scZ,scS]
 refine kT 7 33 ?_;refine kT 8 41 ?_;refine kT 9 42 ?_;refine kT 10 12 ?_;refine kT 11 13 ?_;refine wpAnyH_done (by kernel_rfl) ?_ _;refine NoPanic.normal ?_;clear hHeld HX0 HX1;have HF4:=zH (HF3.o.trans (FE.of HB4.o HBw3.o));have HGB4:=zH ((HB4.o.block gb (lO HZ3.o)).trans HZ3.o);have HGC4:=zH ((HB4.o.block gc (lO HZ6.o)).trans HZ6.o);have HNX4:=zH ((HB4.o.block G hGS).trans HNX3.o);have HE4:=zH (HE3.o.later HB4.o);have HIR4:=zH (HZ4.o.later HB4.o HBw3.o);have HK4:=zH (HK3.o.later HB4.o HBw3.o);have HV4:=zH (HV3.o.later HB4.o HBw3.o);have HBw4:Hid (B<=w4.heap.size):=nT HBw3.o HB4.o.size;have HSw4:Hid (G<=w4.heap.size):=nT HSw3.o HB4.o.size;have y1:w4.cell? ⟨G,0,none⟩=some (.slice ka kn kc):=aAa HNX4.o;have y2:w4.cell? ⟨G,1,none⟩=some (.slice va vn vc):=aAa HNX4.o;have y0:w4.cell? ⟨gb,0,none⟩=some (.slice (some ⟨gi,0,none⟩) L L):=aAa HGB4.o;clear HZ3 HZ4 HZ6 HE3 HB3 HNX3 ta HK3 HV3 HFI HNX HBX
 cases hb0 with
 | true =>
  obtain ⟨kf,vf,hg1,hg2⟩:=HIR4.o;rw [hLL] at hg1;have hFL:Fi<L:=by
   obtain ⟨x,hx,_⟩:=(HIT.o.so.has it.1).1 hhb;rw [hFi] at hx;have:=(lL hx);omega
  have HG1:=zH hg1;have HG2:=zH hg2;have y5:w4.cell? ⟨gi,Fi*2,none⟩=some (kf Fi):=by rw [aAa hg1,List.getElem?_toArray];exact aA0 kf vf Fi L hFL
  have y6:w4.cell? ⟨gi,Fi*2+1,none⟩=some (vf Fi):=by rw [aAa hg1,List.getElem?_toArray];exact aA2 kf vf Fi L hFL
  have f5:w4.frozen? ⟨gi,Fi*2,none⟩=false:=aAb hg1;have f6:w4.frozen? ⟨gi,Fi*2+1,none⟩=false:=aAb hg1;have xF:(Fi:Int)<(L:Int):=by omega
  clear hg1 hg2 HIR4;go_upto_region 9 with fail;go_region;go_wp2;go_ret;have h5:(w4.setCell ⟨gi,Fi*2,none⟩ (.slice ka kn kc)).heap[gi]?=some (.cells (two (upd kf Fi (.slice ka kn kc)) vf L).toArray 245 (0,0)):=by
   rw [heap_setCell_same _ _ _ _ _ _ HG1.o,List.setIfInBounds_toArray,aDi _ _ _ _ _ hFL]
  have hex:Ex B [gi] w4 ((w4.setCell ⟨gi,Fi*2,none⟩ (.slice ka kn kc)).setCell ⟨gi,Fi*2+1,none⟩ (.slice va vn vc)).drew:=by
   refine ⟨((((Below.refl B w4).setCell (p:=⟨gi,Fi*2,none⟩) (nT HB.o hgiw) _)).setCell (p:=⟨gi,Fi*2+1,none⟩) (nT HB.o hgiw) _).drew,fun k hk hn=>?_⟩;simp only [List.mem_cons,List.not_mem_nil,or_false] at hn;show ((w4.setCell ⟨gi,Fi*2,none⟩ (.slice ka kn kc)).setCell ⟨gi,Fi*2+1,none⟩ (.slice va vn vc)).heap[k]?=_;rw [heap_setCell_other _ _ _ _ (by exact hn),heap_setCell_other _ _ _ _ (by exact hn)]
  have hft:=hex.ft HG1.o (by decide);have hir:IR B ((w4.setCell ⟨gi,Fi*2,none⟩ (.slice ka kn kc)).setCell ⟨gi,Fi*2+1,none⟩ (.slice va vn vc)).drew gi (b.2.1.set Fi it):=by
   refine IR.set (kf:=kf) (vf:=vf) hLL HG2.o hft ?_ ⟨ka,kc,by rw [hkn],?_⟩ ⟨va,vc,by rw [hvn],?_⟩ hFL
   ·show ((w4.setCell ⟨gi,Fi*2,none⟩ (.slice ka kn kc)).setCell ⟨gi,Fi*2+1,none⟩ (.slice va vn vc)).heap[gi]?=_;rw [heap_setCell_same _ _ _ _ _ _ h5,List.setIfInBounds_toArray,aC0 _ _ _ _ _ hFL]
   ·rw [hkn];exact HK4.o.ft hft
   ·rw [hvn];exact HV4.o.ft hft
  have hev:=(((HE4.o).set (o:=Fi*2) (u:=.slice ka kn kc) HG1.o (by decide) (by decide)).set (o:=Fi*2+1) (u:=.slice va vn vc) h5 (by decide) (by decide)).later (Below.refl _ _).drew;have e1:putE (h+1) (old b) it=.inr (b.2.1.set Fi it,b.2.2.map old):=by
   rw [aBl (e:=old b) (it:=it) hhb];show (Sum.inr (b.2.1.set (fndI b.2.1 it.1) it,b.2.2.map old):ED (h+1))=_;rw [hFi]
  have e2:nwB (h+1) b it.1=false:=by
   show (if hasI b.2.1 it.1 then false else _)=false;rw [hhb];rfl
  have e3:pthB (h+1) b it.1=[b.1]:=by
   show b.1::(if hasI b.2.1 it.1 then [] else _)=_;rw [hhb];rfl
  refine ⟨_,rfl,⟨[gb],?_,by simp⟩,?_,hex.fe1 HF4.o (by omega)⟩
  ·rw [e1];have hl2:(b.2.1.set Fi it).length=L:=by rw [List.length_set];exact hLL
   have hiv:=hir.iv (B1:=G) (by omega) (by rw [hl2];omega);rw [hl2] at hiv;rw [hG];refine nv_none ⟨by omega,_,gc,(b.2.2.map fun k=>plV k.id).length,?_,by omega,nR _,by rw [List.length_map];omega,⟨[],?_⟩,hiv⟩
   ·rw [show (b.2.2.map fun k=>plV k.id).length=n2 by rw [List.length_map];exact hcl];exact hex.keep HG1.o HGB4.o (by decide)
   ·rw [List.append_nil];have:=hex.keep HG1.o HGC4.o (by decide);rw [List.map_map] at this;exact this
  ·rw [e2,e3];exact hev
 | false =>
  have hFn:Fi<n2:=by omega
  obtain ⟨kb,hkb⟩:∃ kb,b.2.2[Fi]?=some kb:=⟨_,gE (by omega)⟩;have hkm:=mG hkb;have hshk:=HS3.o kb hkm;have r1:w4.cell? ⟨gb,1,none⟩=some (.slice (some ⟨gc,0,none⟩) n2 n2):=aAa HGB4.o;have r2:w4.cell? ⟨gc,Fi,none⟩=some (.iface 217 (.int .i64 (kb.id:Int))):=by
   rw [aAa HGC4.o,List.getElem?_toArray,List.getElem?_map,List.getElem?_map,hkb];rfl
  have xF:(Fi:Int)<(n2:Int):=by omega
  have HRC:=zH (HIH.o w4.drew rv d n (gone++[b.1]) kb it ka va kc vc ((HF4.o.st HST.o hg0).later (Below.refl _ _).drew) HBw4.o (HE4.o.later (Below.refl _ _).drew) (by rw [lA,List.length_singleton];omega) hn0 hn1 (HKD.o kb hkm) hshk.1 (by rw [hkn];exact HK4.o.later (Below.refl _ _).drew HBw4.o) (by rw [hvn];exact HV4.o.later (Below.refl _ _).drew HBw4.o));unfold plV at HRC;rw [hkn,hvn,show ((h+1:Nat):Int)=(h:Int)+1 by omega] at HRC;have hwH:IntKind.i64.wrap ((h:Int)+1)=(h:Int)+1:=by rw [IntKind.wrap_i64];omega
  have hgbl:=(lO HGB4.o);have hgcl:=(lO HGC4.o);obtain ⟨ys,hgi1,hgi2⟩:=HIR4.o.itc;have HGI1:=zH hgi1;have HGI2:=zH hgi2;clear hgi1 hgi2;go_upto_region 11 with fail;have HX2:Hid ((fun wx=>wx.cell? ⟨gb,1,none⟩=some (.slice (some ⟨gc,0,none⟩) n2 n2)/\wx.cell? ⟨G,0,none⟩=some (.slice ka kn kc)/\wx.cell? ⟨G,1,none⟩=some (.slice va vn vc)) w4.drew):=⟨r1,y1,y2⟩;refine wp_region_noPanic ?_;refine wp_region_held_drew (S:=fun wx=>wx.cell? ⟨gb,1,none⟩=some (.slice (some ⟨gc,0,none⟩) n2 n2)/\wx.cell? ⟨G,0,none⟩=some (.slice ka kn kc)/\wx.cell? ⟨G,1,none⟩=some (.slice va vn vc)) (by kernel_rfl) HX2.o (fun hHeld=>?_);refine kT 0 53 ?_;refine kT 1 54 ?_;refine kT 2 55 ?_;refine kT 3 56 ?_;refine kT 4 57 ?_;refine kT 5 58 ?_;refine kT 6 59 ?_;refine kT 7 60 ?_;refine kT 8 61 ?_;refine kT 9 62 ?_;refine kT 10 63 ?_;refine aAe (i:=11) (d:=64) (v:=?vc11) (by kernel_rfl) (by kernel_rfl) (by kernel_rfl) (by kernel_rfl) (fun _ _ _ h=>h) ?hyc11 (by assumption) ?restc11
  case hyc11 =>
   intro oi ho;simp only [List.getElem?_toArray,List.getElem?_cons_succ,List.getElem?_cons_zero,oI] at ho;subst ho;refine Or.inl ⟨by rfl,?_⟩;intro wx hSw
   try dsimp only at hSw
   go_simp
   try rfl
   rw [if_pos (by omega)]
  try simp only [Act.put,siT,scZ,scS]
  refine kT 13 66 ?_;refine kT 14 67 ?_;refine kT 15 68 ?_;refine kC 12 ?_;intro K hK;go_simp;refine hK.out _ _ HX2.o (fun hHeld=>?_);clear hK K;refine kC 16 ?_;intro K hK;go_simp;refine HRC.o.mono ?_;rintro e w5 ⟨v5,rfl,hP5⟩;obtain ⟨⟨vt,vv⟩,hve⟩:=NV.cells hP5.1.choose_spec.1;subst hve;have HGC5:Hid (w5.heap[gc]?=some (.cells ((b.2.2.map BT.id).map plV).toArray 238 (0,0))):=hP5.2.2.2 _ _ _ _ (show w4.drew.heap[gc]?=_ from HGC4.o) (by decide) (by decide);have HGB5:Hid (w5.heap[gb]?=some (.cells #[.slice (some ⟨gi,0,none⟩) L L,.slice (some ⟨gc,0,none⟩) n2 n2] 251 (0,0))):=hP5.2.2.2 _ _ _ _ (show w4.drew.heap[gb]?=_ from HGB4.o) (by decide) (by decide);have HNX5:Hid (w5.heap[G]?=some (.cells #[.slice ka kn kc,.slice va vn vc] 245 (0,0))):=hP5.2.2.2 _ _ _ _ (show w4.drew.heap[G]?=_ from HNX4.o) (by decide) (by decide);have HX5:Hid ((fun wx=>wx.cell? ⟨gb,1,none⟩=some (.slice (some ⟨gc,0,none⟩) n2 n2)/\wx.cell? ⟨G,0,none⟩=some (.slice ka kn kc)/\wx.cell? ⟨G,1,none⟩=some (.slice va vn vc)) w5):=⟨aAa HGB5.o,aAa HNX5.o,aAa HNX5.o⟩;have HP5:=zH hP5;clear hP5 hHeld;refine hK.out _ _ HX5.o (fun hHeld=>?_);clear hK K;refine aAe (i:=17) (d:=70) (v:=?vc17) (by kernel_rfl) (by kernel_rfl) (by kernel_rfl) (by kernel_rfl) (fun _ _ _ h=>h) ?hyc17 (by assumption) ?restc17
  case hyc17 =>
   intro oi ho;simp only [List.getElem?_toArray,List.getElem?_cons_succ,List.getElem?_cons_zero,oI] at ho;subst ho;refine Or.inl ⟨by rfl,?_⟩;intro wx hSw
   try dsimp only at hSw
   go_simp
   try rfl
   rw [if_pos (by omega)]
  try simp only [Act.put,siT,scZ,scS]
  have q2:w5.cell? ⟨gc,Fi,none⟩=some (.iface 217 (.int .i64 (kb.id:Int))):=by
   rw [aAa HGC5.o,List.getElem?_toArray,List.getElem?_map,List.getElem?_map,hkb];rfl
  have f2:w5.frozen? ⟨gc,Fi,none⟩=false:=aAb HGC5.o;obtain ⟨⟨SS,hNV5,hND5⟩,hEV5,hFE5⟩:=HP5.o;have HGC6:Hid ((w5.setCell ⟨gc,Fi,none⟩ (.iface vt vv)).heap[gc]?=some (.cells (((b.2.2.map BT.id).map plV).set Fi (.iface vt vv)).toArray 238 (0,0))):=by
   show _=_;rw [heap_setCell_same _ _ _ _ _ _ HGC5.o,List.setIfInBounds_toArray]
  have hoc:(Value.iface vt vv).oneCell'=true:=NV.cell hNV5;have HOT:Hid (∀ k,k≠gc->(w5.setCell ⟨gc,Fi,none⟩ (.iface vt vv)).heap[k]?=w5.heap[k]?):=fun k hk=>heap_setCell_other _ _ _ _ hk
  have hgbc:gb≠gc:=by
   intro q9;have h9:=HGB5.o;rw [q9,HGC5.o] at h9;simp only [oI,cI] at h9;exact absurd h9.2.1 (by decide)
  have hGc:G≠gc:=by
   intro q9;have h9:=HNX5.o;rw [q9,HGC5.o] at h9;simp only [oI,cI] at h9;exact absurd h9.2.1 (by decide)
  have HX6:Hid ((fun wx=>wx.cell? ⟨gb,1,none⟩=some (.slice (some ⟨gc,0,none⟩) n2 n2)/\wx.cell? ⟨G,0,none⟩=some (.slice ka kn kc)/\wx.cell? ⟨G,1,none⟩=some (.slice va vn vc)) (w5.setCell ⟨gc,Fi,none⟩ (.iface vt vv))):=⟨aAa ((HOT.o gb hgbc).trans HGB5.o),aAa ((HOT.o G hGc).trans HNX5.o),aAa ((HOT.o G hGc).trans HNX5.o)⟩;have HNV5:=zH hNV5;have HND5:=zH hND5;have HEV5:=zH hEV5;have HFE5:=zH hFE5;clear hNV5 hND5 hEV5 hFE5;refine kC 18 ?_;intro K hK;go_simp;refine hK.out _ _ HX6.o (fun hHeld=>?_);clear hK K
  try simp only [Act.put,siT,scZ,scS]
  refine wpAnyH_done (by kernel_rfl) ?_ _;refine NoPanic.normal ?_;clear hHeld q2 f2 HX2 HX5 HX6;have hsE:=aCy kb hshk.1;have h2e:2<=(itE (putE h (old kb) it)).length:=by
   have:=(aBz (old kb) it hsE).1;rw [aFs] at this;have:=hshk.2;omega
  have hlow:=NV.lo HNV5.o;have hw45:w4.heap.size<=w5.heap.size:=HFE5.o.1.size;have HBs6:Hid ((w5.setCell ⟨gc,Fi,none⟩ (.iface vt vv)).heap.size=w5.heap.size):=by show _=_;simp [World.setCell]
  have HFT6:Hid (FT B w5 (w5.setCell ⟨gc,Fi,none⟩ (.iface vt vv))):=FT.set HGC5.o (nT HB.o hgcw) (by decide);have HNV6:Hid (NV B G (w5.setCell ⟨gc,Fi,none⟩ (.iface vt vv)) h (putE h (old kb) it) SS (.iface vt vv)):=NV.up HFT6.o (fun k hk _=>HOT.o k (by have h9:gc<w4.heap.size:=hgcl;have h8:w4.drew.heap.size<=k:=hk;have h7:w4.drew.heap.size=w4.heap.size:=rfl;omega)) HSw4.o HNV5.o;have HEV6:=zH (HEV5.o.set (o:=Fi) (u:=.iface vt vv) HGC5.o (by decide) (by decide));have HFE6:Hid (FE B w (w5.setCell ⟨gc,Fi,none⟩ (.iface vt vv))):=by
   have hch:=(HF4.o.trans (FE.of (Below.refl _ _).drew HBw4.o)).trans HFE5.o;refine ⟨hch.1.trans ((Below.refl B w5).setCell (p:=⟨gc,Fi,none⟩) (nT HB.o hgcw) _),fun k cs t' fz e n1' n2'=>?_⟩;have e5:=hch.2 k cs t' fz e n1' n2';have hk:=(lO e);rw [HOT.o k (by omega)];exact e5
  have hGIk:=HFE5.o.2 _ _ _ _ (show w4.drew.heap[gi]?=_ from HGI1.o) (by decide) (by decide);have HPF:Hid (PF B G (w5.setCell ⟨gc,Fi,none⟩ (.iface vt vv)) gb b.2.1 ((b.2.2.map fun k=>plV k.id).set Fi (.iface vt vv))):=by
   refine ⟨by omega,⟨some ⟨gi,0,none⟩,L,gc,?_,by omega,?_,Or.inr ⟨gi,ys,rfl,hLL.symm,by omega,?_,(HGI2.o.ft ((FT.of (Below.refl _ _).drew HBw4.o).trans HFE5.o.ft)).ft HFT6.o,by intro q9;have h9:=HIT.o.n1;rw [q9] at h9;simp at h9⟩⟩,?_⟩
   ·rw [show ((b.2.2.map fun k=>plV k.id).set Fi (.iface vt vv)).length=n2 by rw [List.length_set,List.length_map];exact hcl,hLL,HOT.o gb hgbc];exact HGB5.o
   ·have:=HGC6.o;rw [List.map_map] at this;exact this
   ·rw [HOT.o gi ?_,hGIk];intro q9;have h9:=hGIk;rw [q9,HGC5.o] at h9;simp only [oI,cI] at h9;exact absurd h9.2.1 (by decide)
   ·intro u hu;rcases List.mem_or_eq_of_mem_set hu with hu | rfl
    ·obtain ⟨k,_,rfl⟩:=List.mem_map.1 hu;rfl
    ·rfl
  have hgS:gb∉SS:=fun q9=>by
   have h9:=(hlow gb q9).1;have h8:w4.drew.heap.size=w4.heap.size:=rfl;omega
  have HSET:=zH (settleT_ok (px:=px) (i:=Fi) (hh:=(h:Int)+1) HPF.o HB.o (by rw [HBs6.o];omega) (by omega) (by rw [List.length_set,List.length_map];omega) (by omega) (List.getElem?_set_self (by rw [List.length_map];omega)) HNV6.o hgS (isNew_put kb it (by
   match h,kb,hshk.1 with
   | 0,_,_=>exact trivial
   | h+1,_,hq=>exact hq.2.1)) h2e (aG3 _ it hsE))
  generalize hw6:w5.setCell ⟨gc,Fi,none⟩ (.iface vt vv)=w6 at *
  go_wp2_with fail;refine HSET.o.mono ?_;rintro e w7 ⟨rfl,hq7⟩;have HQ7:=zH hq7;clear hq7 HSET;go_wp2;go_ret;have hno:¬ hasI (opS (old b)).1 it.1=true:=by
   show ¬ hasI b.2.1 it.1=true;rw [hhb];simp
  have hget:(opS (old b)).2[fndI (opS (old b)).1 it.1]?=some (old kb):=by
   show (b.2.2.map old)[fndI b.2.1 it.1]?=_;rw [hFi,List.getElem?_map,hkb];rfl
  have e1:putE (h+1) (old b) it=.inr (setl b.2.1 ((b.2.2.map old).set Fi (putE h (old kb) it)) Fi):=by
   rw [aB4 hno hget];show (Sum.inr (setl b.2.1 ((b.2.2.map old).set (fndI b.2.1 it.1) (putE h (old kb) it)) (fndI b.2.1 it.1)):ED (h+1))=_;rw [hFi]
  have e2:nwB (h+1) b it.1=nwB h kb it.1:=by
   show (if hasI b.2.1 it.1 then false else match b.2.2[fndI b.2.1 it.1]? with | some c=>nwB h c it.1 | none=>false)=_;rw [hhb,hFi,hkb];rfl
  have e3:pthB (h+1) b it.1=b.1::pthB h kb it.1:=by
   show b.1::(if hasI b.2.1 it.1 then [] else match b.2.2[fndI b.2.1 it.1]? with | some c=>pthB h c it.1 | none=>[])=_;rw [hhb,hFi,hkb];rfl
  have e4:((b.2.2.map old).set Fi (putE h (old kb) it))[Fi]?=some (putE h (old kb) it):=List.getElem?_set_self (by rw [List.length_map];omega);have hq:=HQ7.o;by_cases h4:4<(itE (putE h (old kb) it)).length
  ·rw [if_pos h4] at hq;obtain ⟨⟨lv,rv,gl,gr,g5,A,C,hPV,hN1,hN2,hS,hne,hl1,hl2⟩,hEx⟩:=hq;have e5:setl b.2.1 ((b.2.2.map old).set Fi (putE h (old kb) it)) Fi=(b.2.1.take Fi++midE (putE h (old kb) it)::b.2.1.drop Fi,((b.2.2.map old).set Fi (putE h (old kb) it)).take Fi++lefE (putE h (old kb) it)::rigE (putE h (old kb) it)::((b.2.2.map old).set Fi (putE h (old kb) it)).drop (Fi+1)):=by
    unfold setl;rw [e4];simp only;rw [if_pos h4]
   refine ⟨_,rfl,⟨gb::((gl::A)++(gr::C)),?_,?_⟩,?_,?_⟩
   ·rw [e1,e5,hG];exact nv_two (by omega) hPV hN1 hN2
   ·have hnd:=HND5.o;rw [hS] at hnd;have hnd2:=(List.nodup_cons.1 hnd).2;have hac:=List.nodup_append.1 hnd2;have hlt:∀ g∈A++C,g<w6.heap.size:=fun g hg=>by
     have:=(hlow g (by rw [hS];exact List.mem_cons_of_mem _ hg)).2;have:=HBs6.o;omega
    have hgbl6:gb<w6.heap.size:=by have:=HBs6.o;omega
    have hgb':gb∉A++C:=fun q9=>hgS (by rw [hS];exact List.mem_cons_of_mem _ q9)
    refine List.nodup_cons.2 ⟨?_,List.nodup_append.2 ⟨List.nodup_cons.2 ⟨?_,hac.1⟩,List.nodup_cons.2 ⟨?_,hac.2.1⟩,?_⟩⟩
    ·intro q9;rcases List.mem_append.1 q9 with q9 | q9
     ·rcases List.mem_cons.1 q9 with q9 | q9
      ·omega
      ·exact hgb' (List.mem_append_left _ q9)
     ·rcases List.mem_cons.1 q9 with q9 | q9
      ·omega
      ·exact hgb' (List.mem_append_right _ q9)
    ·intro q9;have:=hlt gl (List.mem_append_left _ q9);omega
    ·intro q9;have:=hlt gr (List.mem_append_right _ q9);omega
    ·intro x hx y hy hxy;subst hxy;rcases List.mem_cons.1 hx with q1 | q1
     ·rcases List.mem_cons.1 hy with q2 | q2
      ·exact hne (q1.symm.trans q2)
      ·have:=hlt x (List.mem_append_right _ q2);omega
     ·rcases List.mem_cons.1 hy with q2 | q2
      ·have:=hlt x (List.mem_append_left _ q1);omega
      ·exact hac.2.2 x q1 x q2 rfl
   ·rw [e2,e3];obtain ⟨sa',sc',gc',hgb6,_⟩:=HPF.o.hx;have:=HEV6.o.ex hEx hgb6;rw [List.append_assoc] at this;exact this
   ·exact hEx.fe1 HFE6.o (by omega)
  ·rw [if_neg h4] at hq;subst hq;have e5:setl b.2.1 ((b.2.2.map old).set Fi (putE h (old kb) it)) Fi=(b.2.1,(b.2.2.map old).set Fi (putE h (old kb) it)):=by
    unfold setl;rw [e4];simp only;rw [if_neg h4]
   refine ⟨_,rfl,⟨gb::SS,?_,List.nodup_cons.2 ⟨hgS,HND5.o⟩⟩,?_,HFE6.o⟩
   ·rw [e1,e5,hG];exact nv_one (HPF.o.pv (by omega) (by rw [List.length_set,List.length_map];omega)) (by omega) HNV6.o
   ·rw [e2,e3];have:=HEV6.o;rw [List.append_assoc] at this;exact this
theorem putIn_ok [Gd] (hg0:True) (hlf:s.life=t.life) (hd:s.down=false):∀ h,PutIH B p q px s t h
 | 0=>fun w rv d n gone b it ka va kc vc hST hB hE hlen hn0 hn1 hb _ hk hv=>putIn_leaf hg0 hST hB hlf hd hE (by omega) hn0 hn1 b hb it hk hv
 | h+1=>putIn_branch hg0 hlf hd (putIn_ok hg0 hlf hd h)
theorem NV.asr:∀ {h:Nat} {e:ED h} {S:List Nat} {v:Value},NV B B1 w h e S v->isNew e->∃ (pv:Value) (ok:Bool),∀ ww,(Instr.typeAssert v 238 247 true).run prog ww=.ok (.tuple #[pv,.bool ok]) ww
 | 0,.inr l,S,v,hn,_=>by
  obtain ⟨g,iv,h1,rfl,_⟩:=hn
  exact ⟨_,_,fun ww=>aAx _ ww⟩
 | h+1,.inr x,S,v,hn,_=>by
  obtain ⟨g,iv,gc,oc,cc,Sk,h1,rfl,_⟩:=hn
  exact ⟨_,_,fun ww=>aAy _ ww⟩
def rootE (h:Nat) (e:ED h):Σ h,ED h:=if 4<(itE e).length then ⟨h+1,.inr ([midE e],[lefE e,rigE e])⟩ else ⟨h,e⟩
theorem fl_root {e:ED h} (hs:ShE h 5 e):flE (rootE h e).1 (rootE h e).2=flE h e:=by
 unfold rootE;by_cases c:4<(itE e).length
 ·rw [if_pos c];show weave [midE e] [flE h (lefE e),flE h (rigE e)]=_;rw [aGy e hs c];simp [weave]
 ·rw [if_neg c]
theorem Sh_root {e:ED h} (hs:ShE h 5 e):ShE (rootE h e).1 4 (rootE h e).2:=by
 unfold rootE;by_cases c:4<(itE e).length
 ·rw [if_pos c];have hh:=Sh_halves e hs c;refine ⟨by show 1<=4;omega,rfl,fun k hk=>?_⟩;have hk:k∈[lefE e,rigE e]:=hk;simp only [List.mem_cons,List.not_mem_nil,or_false] at hk;rcases hk with rfl | rfl
  ·exact hh.1
  ·exact hh.2
 ·rw [if_neg c]
  match h,e,hs,c with
  | 0,e,_,c=>show (op0 e).length<=4;simp only [itE] at c;omega
  | h+1,e,⟨_,q2,q3⟩,c=>exact ⟨by show (opS e).1.length<=4;have c:¬ 4<(opS e).1.length:=c;omega,q2,q3⟩
theorem EV.cellsx {n:Int} (h:EV B w px q rv d n gone):w.cell? ⟨px,0,none⟩=some (.pointer (some ⟨q,0,none⟩))/\w.cell? ⟨px,1,none⟩=some rv/\w.cell? ⟨px,2,none⟩=some (.int .i64 d)/\w.cell? ⟨px,3,none⟩=some (.int .i64 n)/\∀ i,w.frozen? ⟨px,i,none⟩=false:=by
 obtain ⟨gv,h1,h2⟩:=h.hx;exact ⟨aAa h1,aAa h1,aAa h1,aAa h1,fun i=>aAb h1⟩
theorem EV.turn {rv':Value} {n d':Int} (h:EV B w px q rv d n gone):EV B ((w.setCell ⟨px,1,none⟩ rv').setCell ⟨px,2,none⟩ (.int .i64 d')) px q rv' d' n gone/\FE B w ((w.setCell ⟨px,1,none⟩ rv').setCell ⟨px,2,none⟩ (.int .i64 d')):=by
 obtain ⟨gv,h1,h2⟩:=h.hx;have e1:(w.setCell ⟨px,1,none⟩ rv').heap[px]?=some (.cells (edV q rv' d n gv (.slice none 0 0)) 279 (0,0)):=by
  rw [heap_setCell_same _ _ _ _ _ _ h1];rfl
 have oth:∀ k,k≠px->((w.setCell ⟨px,1,none⟩ rv').setCell ⟨px,2,none⟩ (.int .i64 d')).heap[k]?=w.heap[k]?:=fun k hk=>by
  rw [heap_setCell_other _ _ _ _ hk,heap_setCell_other _ _ _ _ hk]
 have ne:∀ (k:Nat) (cs:Array Value) (t:TypeId) (fz:Nat×Nat),w.heap[k]?=some (.cells cs t fz)->t≠279->k≠px:=by
  intro k cs t fz e ht q9;subst q9;rw [h1] at e;simp only [oI,cI] at e;exact ht e.2.1.symm
 refine ⟨⟨h.hB,⟨gv,?_,aAl h2 fun k cs _ e=>by rw [oth k (ne k cs _ _ e (by decide)),e]⟩,h.hn⟩,⟨((Below.refl B w).setCell (p:=⟨px,1,none⟩) h.hB _).setCell (p:=⟨px,2,none⟩) h.hB _,fun k cs t fz e n1 _=>by rw [oth k (ne k cs t fz e n1),e]⟩⟩;rw [heap_setCell_same _ _ _ _ _ _ e1];rfl
theorem aDl {n:Int} {e:ED h} (hE:EV B w px q v d n gone) (hn:NV B B1 w h e S v) (hnew:isNew e) (h1:1<=(itE e).length) (hsh:ShE h 5 e) (hnd:S.Nodup) (hB:B<=B1) (hBw:B1<=w.heap.size) (hpx:px<B1) (hd0:0<=d) (hd1:d<1000) :
  Calls prog 181 #[.pointer (some ⟨px,0,none⟩)] w fun e' w'=>e'=.returned (.tuple #[])/\∃ rv' S',EV B w' px q rv' (if 4<(itE e).length then d+1 else d) n gone/\NV B B1 w' (rootE h e).1 (rootE h e).2 S' rv'/\S'.Nodup/\FE B w w':=by
 obtain ⟨pv,ok,hta⟩:=NV.asr hn hnew;have HIO:=zH (aGs hn hnew);obtain ⟨c0,c1,c2,c3,fz⟩:=hE.cellsx;obtain ⟨⟨vt,vv⟩,hve⟩:=NV.cells hn;subst hve;have HE:=zH hE;have HN:=zH hn;have HSH:=zH hsh;have HND:=zH hnd;have ta:=hta w;have hle5:(itE e).length<=5:=by
  match h,e,hsh with
  | 0,e,hs=>exact hs
  | h+1,e,hs=>exact hs.1
 clear hE hn hsh hnd hta;by_cases h4:4<(itE e).length
 ·have HRT:Hid (rootE h e=⟨h+1,.inr ([midE e],[lefE e,rigE e])⟩):=by show _=_;unfold rootE;rw [if_pos h4]
  have hL5:(itE e).length=5:=by omega
  obtain ⟨q1,q2,q3⟩:=aFf w #[.iface vt vv] #[.slice none 0 0,.slice (some ⟨w.heap.size,0,none⟩) 1 1] 238 251;have HQ1:Hid (((w.alloc (.cells #[.iface vt vv] 238)).alloc (.cells #[.slice none 0 0,.slice (some ⟨w.heap.size,0,none⟩) 1 1] 251)).heap[w.heap.size]?=some (.cells #[.iface vt vv] 238 (0,0))):=q1;have HQ2:Hid (((w.alloc (.cells #[.iface vt vv] 238)).alloc (.cells #[.slice none 0 0,.slice (some ⟨w.heap.size,0,none⟩) 1 1] 251)).heap[w.heap.size+1]?=some (.cells #[.slice none 0 0,.slice (some ⟨w.heap.size,0,none⟩) 1 1] 251 (0,0))):=q2;have HQ3:Hid (Below w.heap.size w ((w.alloc (.cells #[.iface vt vv] 238)).alloc (.cells #[.slice none 0 0,.slice (some ⟨w.heap.size,0,none⟩) 1 1] 251))):=(aAc w _).trans ((aAc (w.alloc (.cells #[.iface vt vv] 238)) _).mono (aAc w (.cells #[.iface vt vv] 238)).size);have HPS:Hid (px<w.heap.size):=by show _<_;omega
  clear q1 q2 q3;rw [if_pos h4];have x4:(4:Int)<((itE e).length:Int):=by omega
  go_enter func181,ntmps181;go_wp2_with fail;refine HIO.o.mono ?_;rintro e' w1 ⟨iv,rfl,hiv,hw⟩;have hw:=hw.symm;subst hw;obtain ⟨a1,c9,rfl⟩:=hiv.len;clear hiv;go_upto_region 4 with fail;generalize hG:(w.alloc (.cells #[.iface vt vv] 238)).alloc (.cells #[.slice none 0 0,.slice (some ⟨w.heap.size,0,none⟩) 1 1] 251)=w2 at *
  clear hG;have HN2:=zH (HN.o.later HQ3.o (nT hB hBw) (nR _));have HE2:=zH (HE.o.later HQ3.o);have hgS:w.heap.size+1∉S:=fun q9=>by have:=(NV.lo HN.o _ q9).2;omega
  have HPF:Hid (PF B B1 w2 (w.heap.size+1) [] [.iface vt vv]):=⟨by omega,⟨none,0,w.heap.size,HQ2.o,by omega,HQ1.o,Or.inl ⟨rfl,rfl,rfl⟩⟩,by intro u hu;simp only [List.mem_singleton] at hu;subst hu;rfl⟩;have HSP:=zH (split_ok (i:=0) e HPF.o hB (nT hBw HQ3.o.size) (by simp) (by simp) (nR _) rfl HN2.o hgS hnew hL5 HSH.o);generalize hgb:w.heap.size+1=gb at *
  go_wp2_with fail;refine HSP.o.mono ?_;rintro e' w3 ⟨rfl,⟨lv,rv,gl,gr,g5,A,C,hPV,hN1,hN2,hS,hne,hl1,hl2⟩,hEx⟩;have HE3:=zH (HE2.o.ex hEx HQ2.o);have HEX:=zH hEx;have HPV:=zH hPV;have HNA:=zH hN1;have HNC:=zH hN2;clear hEx hPV hN1 hN2;obtain ⟨d0',d1',d2',d3',fz'⟩:=HE3.o.cellsx;have f1:=fz' 1;have f2:=fz' 2;clear c0 c1 c2 c3 fz fz' HSP ta;go_wp2;go_end0;obtain ⟨t1,t2⟩:=HE3.o.turn (rv':=brP gb) (d':=d+1);have hlt:∀ g∈A++C,g<w2.heap.size:=fun g hg=>(NV.lo HN2.o g (by rw [hS];exact List.mem_cons_of_mem _ hg)).2
  have hgb2:gb<w2.heap.size:=(lO HQ2.o);have hfe3:FE B w w3:=HEX.o.fe1 (FE.of HQ3.o (nT hB hBw)) (by omega);have hnv:NV B B1 w3 (h+1) (.inr ([midE e],[lefE e,rigE e])) (gb::[gl::A,gr::C].flatten) (brP gb):=by
   refine nv_mk (cv:=[lv,rv]) HPV.o rfl rfl (fun j k Sj u hk hSj hu=>?_)
   match j,hk,hSj,hu with
   | 0,hk,hSj,hu =>
    simp only [List.getElem?_cons_zero,oI] at hk hSj hu;subst hk hSj hu;exact HNA.o
   | 1,hk,hSj,hu =>
    simp only [List.getElem?_cons_succ,List.getElem?_cons_zero,oI] at hk hSj hu;subst hk hSj hu;exact HNC.o
   | j+2,hk,_,_=>simp at hk
  refine ⟨rfl,brP gb,gb::[gl::A,gr::C].flatten,t1,?_,?_,hfe3.trans t2⟩
  ·rw [HRT.o];refine NV.up t2.ft (fun k hk hks=>?_) (nR _) hnv;rw [heap_setCell_other _ _ _ _ (by show k≠px;omega),heap_setCell_other _ _ _ _ (by show k≠px;omega)]
  ·have hnd:=HND.o;rw [hS] at hnd;have hac:=List.nodup_append.1 (List.nodup_cons.1 hnd).2;have hgb':gb∉A++C:=fun q9=>hgS (by rw [hS];exact List.mem_cons_of_mem _ q9)
   simp only [List.flatten_cons,List.flatten_nil,List.append_nil];refine List.nodup_cons.2 ⟨?_,List.nodup_append.2 ⟨List.nodup_cons.2 ⟨?_,hac.1⟩,List.nodup_cons.2 ⟨?_,hac.2.1⟩,?_⟩⟩
   ·intro q9;rcases List.mem_append.1 q9 with q9 | q9
    ·rcases List.mem_cons.1 q9 with q9 | q9
     ·omega
     ·exact hgb' (List.mem_append_left _ q9)
    ·rcases List.mem_cons.1 q9 with q9 | q9
     ·omega
     ·exact hgb' (List.mem_append_right _ q9)
   ·intro q9;have:=hlt gl (List.mem_append_left _ q9);omega
   ·intro q9;have:=hlt gr (List.mem_append_right _ q9);omega
   ·intro x hx y hy hxy;subst hxy;rcases List.mem_cons.1 hx with q1 | q1
    ·rcases List.mem_cons.1 hy with q2 | q2
     ·exact hne (q1.symm.trans q2)
     ·have:=hlt x (List.mem_append_right _ q2);omega
    ·rcases List.mem_cons.1 hy with q2 | q2
     ·have:=hlt x (List.mem_append_left _ q1);omega
     ·exact hac.2.2 x q1 x q2 rfl
 ·have HRT:Hid (rootE h e=⟨h,e⟩):=by show _=_;unfold rootE;rw [if_neg h4]
  rw [if_neg h4];generalize hL:(itE e).length=L at *
  have x4:¬ (4:Int)<(L:Int):=by omega
  have x0:((L:Int) == 0)=false:=by simp;omega
  go_enter func181,ntmps181;go_wp2_with fail;refine HIO.o.mono ?_;rintro e' w1 ⟨iv,rfl,hiv,hw⟩;have hw:=hw.symm;subst hw;obtain ⟨a1,c9,rfl⟩:=hiv.len;rw [hL];clear hiv;go_wp2;go_end0;refine ⟨rfl,_,S,HE.o,?_,HND.o,FE.refl _ _⟩;rw [HRT.o];exact HN.o
theorem EV.root {rv':Value} {n:Int} (h:EV B w px q rv d n gone):EV B (w.setCell ⟨px,1,none⟩ rv') px q rv' d n gone/\FE B w (w.setCell ⟨px,1,none⟩ rv'):=by
 obtain ⟨gv,h1,h2⟩:=h.hx;have oth:∀ k,k≠px->(w.setCell ⟨px,1,none⟩ rv').heap[k]?=w.heap[k]?:=fun k hk=>heap_setCell_other _ _ _ _ hk
 have ne:∀ (k:Nat) (cs:Array Value) (t:TypeId) (fz:Nat×Nat),w.heap[k]?=some (.cells cs t fz)->t≠279->k≠px:=by
  intro k cs t fz e ht q9;subst q9;rw [h1] at e;simp only [oI,cI] at e;exact ht e.2.1.symm
 refine ⟨⟨h.hB,⟨gv,?_,aAl h2 fun k cs _ e=>by rw [oth k (ne k cs _ _ e (by decide)),e]⟩,h.hn⟩,⟨(Below.refl B w).setCell (p:=⟨px,1,none⟩) h.hB _,fun k cs t fz e n1 _=>by rw [oth k (ne k cs t fz e n1),e]⟩⟩;rw [heap_setCell_same _ _ _ _ _ _ h1];rfl
theorem search_nil (k:Value) :
  Calls prog 187 #[.slice none 0 0,k,.func (Fn.func 188) #[] #[]] w fun e w'=>e=.returned (.tuple #[.int .i64 0,.bool false])/\w'=w:=by
 go_enter func187,ntmps187;go_wp2_with fail;go_loopw [9,10] (fun i j wx=>i=.int .i64 0/\j=.int .i64 0/\wx=w) (fun i j _=>0)
 case atStart=>exact ⟨rfl,rfl,rfl⟩
 case round =>
  obtain ⟨rfl,rfl,rfl⟩:=hrel;go_wp2;go_ret2;exact ⟨rfl,rfl⟩
theorem find_nil (k:Value) :
  Calls prog 166 #[.slice none 0 0,k] w fun e w'=>e=.returned (.tuple #[.int .i64 0,.bool false])/\w'=w:=by
 have HC:=zH (search_nil (w:=w) k);go_enter func166,ntmps166;go_wp2_with fail;refine HC.o.mono ?_;rintro e w3 ⟨rfl,rfl⟩;go_wp2;go_ret2;exact ⟨rfl,rfl⟩
theorem opened_new (x:Value) (g:Nat) (hh:Int) :
  Calls prog 200 #[x,lfP g,.int .i64 hh] w fun e w'=>e=.returned (lfP g)/\w'=w:=by
 have ta:=aEz (.pointer (some ⟨g,0,none⟩)) w;unfold lfP;go_enter func200,ntmps200;go_wp2;go_ret;exact ⟨rfl,rfl⟩
theorem putIn_nil {n:Int} (hn1:n<1000000) (hn0:0<=n) (hE:EV B w px q rv d n gone) (hgl:w.heap[gl]?=some (.cells #[.slice none 0 0] 267 (0,0))) (hB:B<=w.heap.size) (hglB:B<=gl) :
  Calls prog 180 #[.pointer (some ⟨px,0,none⟩),lfP gl,.int .i64 1,.agg #[.slice ka kn kc,.slice va vn vc]] w fun e w'=>e=.returned (lfP gl)/\(∃ gn c,w'.heap[gl]?=some (.cells #[.slice (some ⟨gn,0,none⟩) 1 c] 267 (0,0))/\w.heap.size<=gn/\1<=c/\c<=9223372036854775807/\RowN w' gn 245 [.slice ka kn kc,.slice va vn vc])/\EV B w' px q rv d (n+1) gone/\Ex B [gl,px] w w':=by
 have HBX:=zH (aAc w (.cells #[.slice ka kn kc,.slice va vn vc] 245));have HNX:Hid ((w.alloc (.cells #[.slice ka kn kc,.slice va vn vc] 245)).heap[w.heap.size]?=some (.cells #[.slice ka kn kc,.slice va vn vc] 245 (0,0))):=heap_alloc_new w _;have HPL:=zH (aDq hn1 hn0 (hE.later HBX.o) ((HBX.o.block gl (lO hgl)).trans hgl) (nT hB HBX.o.size) hglB [.slice ka kn kc,.slice va vn vc] (ka:=ka) (kn:=kn) (kc:=kc) (va:=va) (vn:=vn) (vc:=vc) (Fi:=0) (fun ww hb=>(find_nil _).mono fun e w' ⟨h1,h2⟩=>⟨h1,by rw [h2];exact Below.refl _ _⟩) (fun ww gv hb hg=>aGu hg rfl rfl));have HOP:=zH (opened_new (w:=w.alloc (.cells #[.slice ka kn kc,.slice va vn vc] 245)) (.pointer (some ⟨px,0,none⟩)) gl 1);have ta:=aAx (.pointer (some ⟨gl,0,none⟩)) (w.alloc (.cells #[.slice ka kn kc,.slice va vn vc] 245));have tb:=aEa (.pointer (some ⟨gl,0,none⟩)) (w.alloc (.cells #[.slice ka kn kc,.slice va vn vc] 245));have r0:(w.alloc (.cells #[.slice ka kn kc,.slice va vn vc] 245)).cell? ⟨w.heap.size,0,none⟩=some (.slice ka kn kc):=aAa HNX.o;have r1:(w.alloc (.cells #[.slice ka kn kc,.slice va vn vc] 245)).cell? ⟨w.heap.size,1,none⟩=some (.slice va vn vc):=aAa HNX.o;have HB:=zH hB;unfold lfP at HOP ⊢;clear hE hgl hB hglB;go_enter func180,ntmps180;go_upto_region 1 with fail;generalize w.alloc (.cells #[.slice ka kn kc,.slice va vn vc] 245)=w1 at *
 go_wp2_with fail;refine HOP.o.mono ?_;rintro e w2 ⟨rfl,hw⟩;have hw:=hw.symm;subst hw;go_wp2_with fail;refine HPL.o.mono ?_;rintro e w4 ⟨rfl,⟨gn,c4,h41,h44,h45,h46,h47⟩,h42,h43⟩;have H1:=zH h41;have H2:=zH h42;have H3:=zH h43;have H7:=zH h47;clear h41 h42 h43 h47 ta tb r0 r1;go_wp2;go_ret;refine ⟨rfl,⟨gn,c4,H1.o,nT HBX.o.size h44,h45,h46,H7.o⟩,H2.o,(HBX.o.mono HB.o).trans H3.o.1,fun k hk hn=>?_⟩;rw [H3.o.2 k (Nat.lt_of_lt_of_le hk HBX.o.size) hn,HBX.o.block k hk]
end Go.Proofs.YtdfjjhlhnfindaaGreat
