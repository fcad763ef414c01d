/- The law TableMany holds for every input: called with whatever values of its parameters' types it returns true, and each argument reads afterwards as it read before. No condition beyond the form's own reach. -/
import Derived.Test.YtgckjkocmkedfabGreatZ77
import Derived.Test.YtgckjkocmkedfabGreatZ74
set_option maxRecDepth 100000
set_option maxHeartbeats 16000000
set_option linter.unusedVariables false
namespace Go.Proofs.YtgckjkocmkedfabGreat
open Go.RowKit
def TbD [Gd] (B p q g ls db:Nat) (W w0:World) (N:Nat) (T:List Tbl) (w:World):Prop:=∃ v cs,DR B p q g ls db v cs W w0 w∧Inv cs T∧cs.length≤N
def KTb (w w':World):Prop:=∀ (i:Nat) (c:Array Value) (t:TypeId) (fz:Nat×Nat),w.heap[i]?=some (.cells c t fz)→t≠120→t≠127→w'.heap[i]?=some (.cells c t fz)
theorem insM_len (R:List (List Val)) (k:Int):(insO (TbM R) ⟨#[98]⟩ (rw1 k)).m.length≤1:=by
 rw [insM]
 split
 ·exact Nat.zero_le _
 ·exact nR _
theorem delM_len (R:List (List Val)) (k:Int):(delO (TbM R) ⟨#[98]⟩ (nV k)).m.length≤1:=by
 rw [aHi (TM_b R) (t:=⟨schM ⟨#[98]⟩,R⟩) rfl,if_neg (by rw [nV_err];decide)]
 split
 ·exact Nat.zero_le _
 ·exact nR _
section
variable [Gd] {B p q g ls db N:Nat} {W w0 w w':World} {T:List Tbl}
theorem TbD.later (h:TbD B p q g ls db W w0 N T w) (hb:Below w.heap.size w w'):TbD B p q g ls db W w0 N T w':=by
 obtain ⟨v,cs,h1,h2,h3⟩:=h
 exact ⟨v,cs,h1.later hb,h2,h3⟩
theorem TbD.bel (h:TbD B p q g ls db W w0 N T w):Below B W w:=by
 obtain ⟨v,cs,h1,h2,h3⟩:=h
 exact h1.bel
theorem OpR.td {v:Value} {cs:List Ch} {o:Out} {e:Ending} (h:DR B p q g ls db v cs W w0 w) (I:Inv (cs++o.m) o.T) (hl:cs.length≤N) (hm:o.m.length≤1) (hp:OpR B p q g ls db v cs W w0 w o e w'):e=.returned (.int .i64 o.e)∧TbD B p q g ls db W w0 (N+1) o.T w'∧KTb w w':=by
 obtain ⟨v',rfl,hd,hf⟩:=hp
 refine ⟨rfl,⟨v',_,hd,I,by rw [lA];omega⟩,?_⟩
 intro i c t fz hi h1 h2
 rw [hf.blk i (lO hi) ?_ ?_,hi]
 ·intro e
  have h3:=h.dd.blk
  rw [←e,hi] at h3
  simp only [oI,cI] at h3
  exact h1 h3.2.1
 ·intro q
  obtain ⟨_,_,cur,h3⟩:=h.dd.row.blk q
  rw [hi] at h3
  simp only [oI,cI] at h3
  exact h2 h3.2.1
theorem TbD.create {j cl cc xl xc:Nat} {ca xa:Option Addr} (h:TbD B p q g ls db W w0 N (stM j) w) (hN:N≤990) (hj:j<5) (hsc:SC w ca cl cc xa xl xc (schM (nmAt j))) :
  Calls Tryz.prog 10 #[.pointer (some ⟨db,0,none⟩),.agg #[.string (nmAt j),.slice ca cl cc,.slice xa xl xc]] w fun e w'=>e=.returned (.int .i64 (if j<4 then 0 else 2))∧TbD B p q g ls db W w0 (N+1) (stM (j+1)) w'∧KTb w w':=by
 obtain ⟨v,cs,h1,h2,h3⟩:=h
 obtain ⟨c1,c2,c3⟩:=crM_all hj
 refine (aHv h1 h2 (by omega) hsc).mono ?_
 intro e w' hp
 have h4:=OpR.td (o:=crM j) h1 (h2.creO _) h3 c3 hp
 rw [c1,c2] at h4
 exact h4
theorem TbD.ins {R R':List (List Val)} {k ec:Int} {a:Option Addr} {c:Nat} (h:TbD B p q g ls db W w0 N (TbM R) w) (hN:N≤990) (hk:-10≤k∧k≤1000000) (hp:SVK fV 3 w a 1 c (rw1 k)) (hi:(insO (TbM R) ⟨#[98]⟩ (rw1 k)).T=TbM R'∧(insO (TbM R) ⟨#[98]⟩ (rw1 k)).e=ec) :
  Calls Tryz.prog 11 #[.pointer (some ⟨db,0,none⟩),.string ⟨#[98]⟩,.slice a 1 c] w fun e w'=>e=.returned (.int .i64 ec)∧TbD B p q g ls db W w0 (N+1) (TbM R') w'∧KTb w w':=by
 obtain ⟨v,cs,h1,h2,h3⟩:=h
 refine (aCi h1 h2 (by omega) ⟨#[98]⟩ hp (rw1_ok hk)).mono ?_
 intro e w' hp
 have h4:=OpR.td h1 (h2.insO ⟨#[98]⟩ fun x hx=>(rw1_ok hk x hx).1) h3 (insM_len R k) hp
 rw [hi.1,hi.2] at h4
 exact h4
theorem TbD.del {R:List (List Val)} {k:Int} (h:TbD B p q g ls db W w0 N (TbM R) w) (hN:N≤990) (hk:-10≤k∧k≤1000000) (hr:rw1 k∈R) :
  Calls Tryz.prog 12 #[.pointer (some ⟨db,0,none⟩),.string ⟨#[98]⟩,.agg #[.int .i64 1,.int .i64 k,.string ⟨#[]⟩]] w fun e w'=>e=.returned (.int .i64 0)∧TbD B p q g ls db W w0 (N+1) (TbM (cutV (nV k) R)) w'∧KTb w w':=by
 obtain ⟨v,cs,h1,h2,h3⟩:=h
 refine (tdelete_ok h1 h2 (by omega) ⟨#[98]⟩ (x:=nV k) (nV_ok hk).1 (nV_ok hk).2).mono ?_
 intro e w' hp
 have h4:=OpR.td h1 (h2.delO ⟨#[98]⟩ (nV k)) h3 (delM_len R k) hp
 rw [(del_yes hr).1,(del_yes hr).2] at h4
 exact h4
theorem TbD.len {nm:ByteArray} {x:Int} (h:TbD B p q g ls db W w0 N T w) (hN:N≤990) (hx:lenO T nm=(x,0)) :
  Calls Tryz.prog 13 #[.pointer (some ⟨db,0,none⟩),.string nm] w fun e w'=>e=.returned (.tuple #[.int .i64 x,.int .i64 0])∧Below w.heap.size w w':=by
 obtain ⟨v,cs,h1,h2,h3⟩:=h
 have h4:=tlen_ok h1 h2 (by omega) nm
 rw [hx] at h4
 exact h4
theorem TbD.scan {R:List (List Val)} {k:Int} (h:TbD B p q g ls db W w0 N (TbM (rw1 k::R)) w) (hN:N≤990) :
  Calls Tryz.prog 14 #[.pointer (some ⟨db,0,none⟩),.string ⟨#[98]⟩,.int .i64 0,.agg #[.int .i64 0,.int .i64 0,.string ⟨#[]⟩],.agg #[.int .i64 0,.int .i64 0,.string ⟨#[]⟩],.int .i64 1] w fun e w'=>(∃ b o k1 b2 o2 c2,e=.returned (.tuple #[.slice (some ⟨b,o,none⟩) 1 k1,.int .i64 0])∧w'.cell? ⟨b,o,none⟩=some (.slice (some ⟨b2,o2,none⟩) 1 c2)∧w'.cell? ⟨b2,o2+1,none⟩=some (.int .i64 k)∧b<w'.heap.size∧b2<w'.heap.size)∧Below w.heap.size w w':=by
 obtain ⟨v,cs,h1,h2,h3⟩:=h
 refine (tscanP_ok h1 h2 (by omega) ⟨#[98]⟩ (c:=0) (limit:=1) (lo:=vz) (hi:=vz) (aFf 0 0 (by omega) (by omega)) (aFf 0 0 (by omega) (by omega))).mono ?_
 rintro e w' ⟨⟨a,n,k1,rfl,es,hs,hl,hv⟩,hb⟩
 rw [scan_low h2] at hl hv ⊢
 obtain rfl:1=n:=by rw [←hs.hl,hl];rfl
 obtain ⟨x,rfl⟩:∃ x,es=[x]:=List.length_eq_one_iff.1 hl
 have h5:=hv 0 x (rw1 k) rfl rfl
 obtain ⟨b,o,rfl,hlt,hc⟩:=hs.pl (by omega)
 obtain ⟨a2,n2,c2⟩:=x
 obtain rfl:1=n2:=h5.hl
 obtain ⟨b2,o2,e2,hlt2,hc2⟩:=h5.pl (by show 0<1;omega)
 have e2:a2=some ⟨b2,o2,none⟩:=e2
 subst e2
 exact ⟨⟨b,o,k1,b2,o2,c2,rfl,hc 0 _ rfl 0 (by omega),hc2 0 (nV k) rfl 1 (by omega),hlt,hlt2⟩,hb⟩
end
theorem KTb.later {w w':World} (h:Below w.heap.size w w'):KTb w w':=fun i c t fz hi _ _=>(h.block i (lO hi)).trans hi
def namesV:Array Value:=#[.string ⟨#[97]⟩,.string ⟨#[98]⟩,.string ⟨#[99]⟩,.string ⟨#[100]⟩,.string ⟨#[101]⟩]
theorem names_at {j:Nat} (h:j<5):namesV[j]?=some (.string (nmAt j)):=by
 have:j=0∨j=1∨j=2∨j=3∨j=4:=by omega
 rcases this with rfl | rfl | rfl | rfl | rfl<;>rfl
theorem aI2 {w:World} {g:Nat} {k:Int} {fz:Nat×Nat} (h:w.heap[g]?=some (.cells #[.int .i64 1,.int .i64 k,.string ⟨#[]⟩] 37 fz)):SVK fV 3 w (some ⟨g,0,none⟩) 1 1 (rw1 k):=SVK.whole fV_len rfl (by omega) h
theorem aHr (a0 a1:Int) (w:World) (_w0:(Lit.int .i64 a0).wf=true) (_w1:(Lit.int .i64 a1).wf=true):Calls Tryz.prog 3 #[.int .i64 a0,.int .i64 a1] w fun e w'=>e=.returned (.bool true)∧Below w.heap.size w w':=by
 letI:Gd:=⟨fun _=>False⟩
 have HNW:=hide (lnew_ok w (fun _ h=>False.elim h))
 obtain ⟨B,hB⟩:∃ B,w.heap.size=B:=⟨_,rfl⟩
 rw [hB] at HNW ⊢
 clear hB _w0 _w1
 have hm0:=i64_mask a0 16 (by omega) 65535 (by decide)
 have hm1:=i64_mask a1 6 (by omega) 63 (by decide)
 obtain ⟨f,hf⟩:∃ f,bits .and .i64 a0 65535=f:=⟨_,rfl⟩
 obtain ⟨o,ho⟩:∃ o,bits .and .i64 a1 63=o:=⟨_,rfl⟩
 have HFO:Hid ((0≤f∧f≤65535)∧(0≤o∧o≤63)):=by
  rw [hf] at hm0
  rw [ho] at hm1
  have e16:(2:Int) ^ 16=65536:=by decide
  have e6:(2:Int) ^ 6=64:=by decide
  rw [e16] at hm0
  rw [e6] at hm1
  exact ⟨by omega,by omega⟩
 clear hm0 hm1
 go_enter Tryz.func3,Tryz.ntmps3
 go_wp2_with fail
 refine HNW.out.mono ?_
 rintro e w1 ⟨p,q,g,ls,db,w0,rfl,hd1,hb1⟩
 have HD1:Hid (TbD B p q g ls db w w0 0 (stM 0) w1):=⟨_,_,hd1,Inv.nil,nR _⟩
 clear hd1 hb1 HNW
 have hbx:=aAf w1 (.cells namesV 9)
 have HD2:=aAb (HD1.out.later hbx)
 have HNM:Hid ((w1.alloc (.cells namesV 9)).heap[w1.heap.size]?=some (.cells namesV 9 (0,0))):=boxed w1 _
 clear hbx HD1
 unfold namesV at HD2 HNM
 go_upto_region 5 with fail
 generalize w1.alloc (.cells #[.string ⟨#[97]⟩,.string ⟨#[98]⟩,.string ⟨#[99]⟩,.string ⟨#[100]⟩,.string ⟨#[101]⟩] 9)=w2 at *
 generalize w1.heap.size=G at *
 go_wp2_with fail
 go_loopg [8] 5 (fun gh s8 wx=>∃ j:Nat,j+gh=5∧s8=.int .i64 (j:Int)∧TbD B p q g ls db w w0 j (stM j) wx∧wx.heap[G]?=some (.cells namesV 9 (0,0)))
 case atStart=>exact ⟨0,by omega,rfl,HD2.out,HNM.out⟩
 case round =>
  obtain ⟨j,hj,rfl,hd3,hn3⟩:=hrel
  by_cases hj5:j<5
  ·have HD3:=aAb hd3
   have HN3:=aAb hn3
   clear hd3 hn3 HD2 HNM
   have HJ5:=aAb hj5
   have x5:(j:Int)<5:=by omega
   have x0:(0:Int)≤(j:Int):=by omega
   have c0:wr.cell? ⟨G,j,none⟩=some (.string (nmAt j)):=(aAa HN3.out).trans (names_at hj5)
   have hbx:=aAf wr (.cells #[.string ⟨#[107]⟩,.int .i64 1,.int .i64 0] 30)
   have HSC:Hid (SC (wr.alloc (.cells #[.string ⟨#[107]⟩,.int .i64 1,.int .i64 0] 30)) (some ⟨wr.heap.size,0,none⟩) 1 1 none 0 0 (schM (nmAt j))):=⟨SVK.whole aHc (l:=[(⟨#[107]⟩,1,0)]) rfl (by omega) (boxed _ _),SVK.nil _ _ _⟩
   have HD4:=aAb (HD3.out.later hbx)
   have HN4:=aAb (KTb.later hbx _ _ _ _ HN3.out (by decide) (by decide))
   clear hbx HD3 HN3
   have HC:=aAb (HD4.out.create (by omega) hj5 HSC.out)
   obtain ⟨nm,hnm⟩:∃ nm,nmAt j=nm:=⟨_,rfl⟩
   rw [hnm] at c0 HC
   clear hnm HSC HD4 hj5
   by_cases hj4:j<4
   ·have x4:(j:Int)<4:=by omega
    have x4n:¬ (j:Int)=4:=by omega
    rw [if_pos hj4] at HC
    go_wp2_with fail
    generalize wr.alloc (.cells #[.string ⟨#[107]⟩,.int .i64 1,.int .i64 0] 30)=w4 at *
    refine HC.out.mono ?_
    rintro e w5 ⟨rfl,hd5,hk5⟩
    have HD5:=aAb hd5
    have HN5:=aAb (hk5 _ _ _ _ HN4.out (by decide) (by decide))
    clear hd5 hk5 HC HN4 c0
    go_wp2
    go_roundg (gk-1)
    case measure=>omega
    case rel=>exact ⟨j+1,by omega,rfl,HD5.out,HN5.out⟩
   ·obtain rfl:j=4:=by have:=HJ5.out;omega
    rw [if_neg hj4] at HC
    go_wp2_with fail
    generalize wr.alloc (.cells #[.string ⟨#[107]⟩,.int .i64 1,.int .i64 0] 30)=w4 at *
    refine HC.out.mono ?_
    rintro e w5 ⟨rfl,hd5,hk5⟩
    have HD5:=aAb hd5
    have HN5:=aAb (hk5 _ _ _ _ HN4.out (by decide) (by decide))
    clear hd5 hk5 HC HN4 c0
    go_wp2
    go_roundg (gk-1)
    case measure=>omega
    case rel=>exact ⟨4+1,by omega,rfl,HD5.out,HN5.out⟩
  ·obtain rfl:j=5:=by omega
   have HD6:=aAb hd3
   clear hd3 hn3 HD2 HNM hj5
   rw [stM_end] at HD6
   have hf0:0≤f:=HFO.out.1.1
   have hf1:f≤65535:=HFO.out.1.2
   go_upto_region 13 with fail
   go_wp2_with fail
   go_loopg [10] 66 (fun gh s10 wx=>∃ j:Nat,j+gh=66∧s10=.int .i64 (j:Int)∧TbD B p q g ls db w w0 (5+j) (TbM (RM f (min j 64))) wx)
   case atStart=>exact ⟨0,by omega,rfl,HD6.out⟩
   case round =>
    obtain ⟨j,hj,rfl,hd7⟩:=hrel
    by_cases hj6:j<66
    ·have HD7:=aAb hd7
     clear hd7 HD6
     have HJ6:=aAb hj6
     have x5:(j:Int)<66:=by omega
     have x0:(0:Int)≤(j:Int):=by omega
     have hbx:=aAf wr (.cells #[.int .i64 1,.int .i64 (f+(j:Int)),.string ⟨#[]⟩] 37)
     have HKR:=aAb (aI2 (boxed wr (.cells #[.int .i64 1,.int .i64 (f+(j:Int)),.string ⟨#[]⟩] 37)))
     have HD8:=aAb (HD7.out.later hbx)
     clear hbx HD7 hj6
     by_cases hj4:j<64
     ·have x4:(j:Int)<64:=by omega
      have x4n:¬ 64≤(j:Int):=by omega
      have HC:=HD8.out
      rw [show min j 64=j from by omega] at HC
      have HC:=aAb (HC.ins (by omega) (by omega) HKR.out (ins_more (by omega) hj4))
      clear HKR HD8
      have HJ4:=aAb hj4
      clear hj4
      go_wp2_with fail
      generalize wr.alloc (.cells #[.int .i64 1,.int .i64 (f+(j:Int)),.string ⟨#[]⟩] 37)=w8 at *
      refine HC.out.mono ?_
      rintro e w9 ⟨rfl,hd9,_⟩
      have HD9:=aAb hd9
      clear hd9 HC
      go_wp2
      go_roundg (gk-1)
      case measure=>omega
      case rel=>exact ⟨j+1,by omega,rfl,by rw [show min (j+1) 64=j+1 from by have:=HJ4.out;omega];exact HD9.out⟩
     ·have x4:¬ (j:Int)<64:=by omega
      have x4n:64≤(j:Int):=by omega
      have HC:=HD8.out
      rw [show min j 64=64 from by omega] at HC
      have HC:=aAb (HC.ins (by omega) (by omega) HKR.out (ins_full (fun r hr=>by
       obtain ⟨i,hi,rfl⟩:=mem_RM.1 hr
       rw [aC0]
       intro e
       have:=nV_inj e
       omega) (RM_len f 64)))
      clear HKR HD8
      have HJ4:=aAb hj4
      clear hj4
      go_wp2_with fail
      generalize wr.alloc (.cells #[.int .i64 1,.int .i64 (f+(j:Int)),.string ⟨#[]⟩] 37)=w8 at *
      refine HC.out.mono ?_
      rintro e w9 ⟨rfl,hd9,_⟩
      have HD9:=aAb hd9
      clear hd9 HC
      go_wp2
      go_roundg (gk-1)
      case measure=>omega
      case rel=>exact ⟨j+1,by omega,rfl,by rw [show min (j+1) 64=64 from by have:=HJ4.out;omega];exact HD9.out⟩
    ·obtain rfl:j=66:=by omega
     have HD7:Hid (TbD B p q g ls db w w0 71 (TbM (RM f 64)) wr):=hd7
     clear hd7 HD6 hj6
     have ho0:0≤o:=HFO.out.2.1
     have ho1:o≤63:=HFO.out.2.2
     have HZF:=aAb (RZ_facts (f:=f) (k:=f+o) ⟨hf0,hf1⟩ (by omega))
     have HKK:Hid (-10≤f+o∧f+o≤1000000):=⟨by omega,by omega⟩
     have hbx:=aAf wr (.cells #[.int .i64 1,.int .i64 (f+o),.string ⟨#[]⟩] 37)
     have HKY:Hid ((wr.alloc (.cells #[.int .i64 1,.int .i64 (f+o),.string ⟨#[]⟩] 37)).heap[wr.heap.size]?=some (.cells #[.int .i64 1,.int .i64 (f+o),.string ⟨#[]⟩] 37 (0,0))):=boxed wr _
     have HD8:=aAb (HD7.out.later hbx)
     clear hbx HD7
     go_upto_region 19 with fail
     generalize wr.alloc (.cells #[.int .i64 1,.int .i64 (f+o),.string ⟨#[]⟩] 37)=w8 at *
     generalize wr.heap.size=K at *
     have k0:w8.cell? ⟨K,0,none⟩=some (.int .i64 1):=aAa HKY.out
     have k1:w8.cell? ⟨K,1,none⟩=some (.int .i64 (f+o)):=aAa HKY.out
     have k2:w8.cell? ⟨K,2,none⟩=some (.string ⟨#[]⟩):=aAa HKY.out
     have hbx:=aAf w8 (.cells #[.int .i64 1,.int .i64 (f+o),.string ⟨#[]⟩] 37)
     have HKR:=aAb (aI2 (boxed w8 (.cells #[.int .i64 1,.int .i64 (f+o),.string ⟨#[]⟩] 37)))
     have HD9:=aAb (HD8.out.later hbx)
     have HKY9:=aAb (KTb.later hbx _ _ _ _ HKY.out (by decide) (by decide))
     have HC:=aAb (HD9.out.ins (by omega) HKK.out HKR.out (ins_have HZF.out.1))
     clear hbx HD8 HKY
     go_wp2_with fail
     generalize w8.alloc (.cells #[.int .i64 1,.int .i64 (f+o),.string ⟨#[]⟩] 37)=w9 at *
     refine HC.out.mono ?_
     rintro e w10 ⟨rfl,hd10,hk10⟩
     have HD10:=aAb hd10
     have HKY10:=aAb (hk10 _ _ _ _ HKY9.out (by decide) (by decide))
     clear hd10 hk10 HC HKR HD9 HKY9 k0 k1 k2
     have k0:w10.cell? ⟨K,0,none⟩=some (.int .i64 1):=aAa HKY10.out
     have k1:w10.cell? ⟨K,1,none⟩=some (.int .i64 (f+o)):=aAa HKY10.out
     have k2:w10.cell? ⟨K,2,none⟩=some (.string ⟨#[]⟩):=aAa HKY10.out
     have HC:=aAb (HD10.out.del (by omega) HKK.out HZF.out.1)
     go_wp2_with fail
     refine HC.out.mono ?_
     rintro e w11 ⟨rfl,hd11,hk11⟩
     have HD11:=aAb hd11
     have HKY11:=aAb (hk11 _ _ _ _ HKY10.out (by decide) (by decide))
     clear hd11 hk11 HC HD10 HKY10 k0 k1 k2
     have hbx:=aAf w11 (.cells #[.int .i64 1,.int .i64 (f-1),.string ⟨#[]⟩] 37)
     have HKR:=aAb (aI2 (boxed w11 (.cells #[.int .i64 1,.int .i64 (f-1),.string ⟨#[]⟩] 37)))
     have HD12:=aAb (HD11.out.later hbx)
     have HKY12:=aAb (KTb.later hbx _ _ _ _ HKY11.out (by decide) (by decide))
     have HC:=aAb (HD12.out.ins (by omega) (by omega) HKR.out (ins_low HZF.out.2.2.1 (by have:=HZF.out.2.1;omega)))
     clear hbx HD11 HKY11
     go_wp2_with fail
     generalize w11.alloc (.cells #[.int .i64 1,.int .i64 (f-1),.string ⟨#[]⟩] 37)=w12 at *
     refine HC.out.mono ?_
     rintro e w13 ⟨rfl,hd13,hk13⟩
     have HD13:Hid (TbD B p q g ls db w w0 (71+1+1+1) (TbM (RZ f (f+o))) w13):=hd13
     have HKY13:=aAb (hk13 _ _ _ _ HKY12.out (by decide) (by decide))
     clear hd13 hk13 HC HKR HD12 HKY12
     have k0:w13.cell? ⟨K,0,none⟩=some (.int .i64 1):=aAa HKY13.out
     have k1:w13.cell? ⟨K,1,none⟩=some (.int .i64 (f+o)):=aAa HKY13.out
     have k2:w13.cell? ⟨K,2,none⟩=some (.string ⟨#[]⟩):=aAa HKY13.out
     have hbx:=aAf w13 (.cells #[.int .i64 1,.int .i64 (f+o),.string ⟨#[]⟩] 37)
     have HKR:=aAb (aI2 (boxed w13 (.cells #[.int .i64 1,.int .i64 (f+o),.string ⟨#[]⟩] 37)))
     have HD14:=aAb (HD13.out.later hbx)
     have HC:=aAb (HD14.out.ins (by omega) HKK.out HKR.out (ins_full HZF.out.2.2.2.2 HZF.out.2.2.2.1))
     clear hbx HD13 HKY13
     go_wp2_with fail
     generalize w13.alloc (.cells #[.int .i64 1,.int .i64 (f+o),.string ⟨#[]⟩] 37)=w14 at *
     refine HC.out.mono ?_
     rintro e w15 ⟨rfl,hd15,_⟩
     have HD15:=aAb hd15
     clear hd15 HC HKR HD14 k0 k1 k2
     have HC:=aAb (HD15.out.len (nm:=⟨#[98]⟩) (x:=64) (by omega) (by rw [len_b,HZF.out.2.2.2.1];rfl))
     go_wp2_with fail
     refine HC.out.mono ?_
     rintro e w16 ⟨rfl,hb16⟩
     have HD16:=aAb (HD15.out.later hb16)
     clear hb16 HC HD15
     have HC:=aAb (HD16.out.scan (by omega))
     go_wp2_with fail
     refine HC.out.mono ?_
     rintro e w17 ⟨⟨b,o1,k1,b2,o2,c2,rfl,hc1,hc2,hl1,hl2⟩,hb17⟩
     have HD17:=aAb (HD16.out.later hb17)
     have HCC:Hid ((w17.cell? ⟨b,o1,none⟩=some (.slice (some ⟨b2,o2,none⟩) 1 c2)∧w17.cell? ⟨b2,o2+1,none⟩=some (.int .i64 (f-1)))∧b<w17.heap.size∧b2<w17.heap.size):=⟨⟨hc1,hc2⟩,hl1,hl2⟩
     clear hb17 HC HD16 hc1 hc2 hl1 hl2
     have HC:=aAb (HD17.out.len (nm:=⟨#[99]⟩) (x:=0) (by omega) (len_c _))
     go_wp2_with fail
     refine HC.out.mono ?_
     rintro e w18 ⟨rfl,hb18⟩
     have HD18:=aAb (HD17.out.later hb18)
     have HCD:Hid ((w18.cell? ⟨b,o1,none⟩=some (.slice (some ⟨b2,o2,none⟩) 1 c2)∧w18.cell? ⟨b2,o2+1,none⟩=some (.int .i64 (f-1)))∧b<w18.heap.size∧b2<w18.heap.size):=⟨⟨(hb18.cell HCC.out.2.1).trans HCC.out.1.1,(hb18.cell HCC.out.2.2).trans HCC.out.1.2⟩,Nat.lt_of_lt_of_le HCC.out.2.1 hb18.size,Nat.lt_of_lt_of_le HCC.out.2.2 hb18.size⟩
     clear hb18 HC HD17 HCC
     go_wp2_with fail
     refine (told15 w18).mono ?_
     rintro e w19 ⟨rfl,hb19⟩
     have HBE:=aAb (HD18.out.later hb19).bel
     have c1:w19.cell? ⟨b,o1,none⟩=some (.slice (some ⟨b2,o2,none⟩) 1 c2):=(hb19.cell HCD.out.2.1).trans HCD.out.1.1
     have c2':w19.cell? ⟨b2,o2+1,none⟩=some (.int .i64 (f-1)):=(hb19.cell HCD.out.2.2).trans HCD.out.1.2
     clear hb19 HD18 HCD
     go_wp2
     go_ret
     exact ⟨rfl,HBE.out⟩
end Go.Proofs.YtgckjkocmkedfabGreat
namespace Go.Proofs.YtgckjkocmkedfabGreat
open Go.ChangeShapes Go.WideShapes Go.ChangeAt Go.RowKit
set_option linter.unusedVariables false
theorem aFz (os:Os) (started:os.Started) (H:Type) (enc:TypeId×Value→H) :
  ReturnsInHanded {} Tryz.checked os 3 .any (Rows.tableManySpec.pre6 enc Tryz.prog Tryz.f3 Rows.tableManyRow.domain false) (Rows.tableManySpec.post enc Tryz.prog Tryz.f3 false true false false):=by
 refine returnsInHanded_of_change_sized (C:=Tryz.checked) own started (by kernel_rfl) Tryz.func3
  (ChangeSpec.witness6 (enc:=enc) (C:=Tryz.checked) false ⟨#[],#[.int .i64 0,.int .i64 0],[]⟩ 8 (by kernel_rfl) (by kernel_rfl) (by kernel_rfl) (by kernel_rfl)) ?_
 intro W base args ds gs before hval0 hW hcnd hsz0 _
 have hval:∀ (j:Nat) t v,Tryz.f3.params[j]?=some t→args[j]?=some v→Value.okWide Tryz.prog W .any base t v:=hval0
 have hsz:(DataW.weightsEach Tryz.prog (Tryz.f3.params.toList++Rows.tableManySpec.plain.varTypes Tryz.prog) (ds++gs)).all (·≤reachBytes)=true:=hsz0
 have hW':=hW
 obtain ⟨p,q,hA0,hV,rfl,hfz,hnd⟩:=hW
 have hA:DataW.TrodAll enc Tryz.prog W 0 (fun _=>true) true Tryz.f3.params.toList args.toList ds p:=hA0
 rw [Tryz.params3] at hA hval hsz
 obtain ⟨v0,vs0,d0,ds0,p0,q0,hargs,rfl,rfl,h0,r0⟩:=trodAll_cons hA
 obtain ⟨v1,vs1,d1,ds1,p1,q1,rfl,rfl,rfl,h1,r1⟩:=trodAll_cons r0
 obtain ⟨rfl,rfl,rfl⟩:=trodAll_nil r1
 obtain rfl:args=#[v0,v1]:=by cases args;simp_all
 obtain ⟨rfl,rfl⟩:=trodVars_none hV
 obtain ⟨a0,rfl,rfl,rfl,w0⟩:=open_int Tryz.underlying3 (hval 0 3 v0 rfl rfl) h0
 obtain ⟨a1,rfl,rfl,rfl,w1⟩:=open_int Tryz.underlying3 (hval 1 3 v1 rfl rfl) h1
 clear hA0 hval0 hsz0
 refine (aHr a0 a1 W w0 w1).mono fun e W' ⟨he,bel⟩=>?_
 subst he
 exact ⟨_,rfl,_,_,_,[],_,[],hW',trodAll_mk1 (shut_bool Tryz.underlying4 _),(trodAll_cons_mk (shut_int Tryz.underlying3 w0) (trodAll_cons_mk (shut_int Tryz.underlying3 w1) trodAll_mk0)),rfl,bel.frame _,fun h=>by cases h⟩
theorem tableMany_holds:Rows.TableManySaid :=
 OpenClaim.holds_of_wide 3 Tryz.f3 rfl rfl rfl rfl rfl rfl rfl ⟨rfl,rfl,rfl,rfl,rfl⟩ rfl rfl rfl rfl rfl (by kernel_rfl) Tryz.func3 (by kernel_rfl)
  (of_decide_eq_true (by kernel_rfl)) (by unfold Func.isWrapper;first | (rw [if_pos (by decide +kernel)];kernel_rfl) | (rw [if_neg (by decide +kernel)];exact ⟨rfl,rfl⟩))
  (fun os started H enc _=>aFz os started H enc)
#print axioms tableMany_holds
end Go.Proofs.YtgckjkocmkedfabGreat
