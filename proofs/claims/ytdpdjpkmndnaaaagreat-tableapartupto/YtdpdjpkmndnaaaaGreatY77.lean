/- The walk of the law. -/
import Derived.Test.YtdpdjpkmndnaaaaGreatY75
import Derived.Test.YtdpdjpkmndnaaaaGreatY70
set_option maxRecDepth 100000
set_option maxHeartbeats 16000000
set_option linter.unusedVariables false
namespace Go.Proofs.YtdpdjpkmndnaaaaGreat
open Go.RowKit
variable {B N b c cc cl db g i j k ls most n o p pc q xc xl:Nat} {T:List Tbl} {W w w' w0 w2:World} {a ca pa xa:Option Addr} {b0 b1 v:Value} {cs:List Ch} {fz:Nat×Nat} {nm:ByteArray} {t:TypeId}
def OldR (t:Tbl) (x:Val) (ge:Int) (q1:Option Addr) (q2 q3:Nat) (q4:Option Addr) (q5 q6:Nat) (w:World):Prop :=
 (rowAt t.rows x=none->ge=4)/\∀ o,rowAt t.rows x=some o->ge=0/\q2=o.length/\q5=o.length/\RHd w q1 q3 q4 q6 o
section
variable {t:Tbl} {x:Val} {ge:Int} {q1 q4:Option Addr} {q2 q3 q5 q6:Nat} {w w':World}
theorem OldR.later (h:OldR t x ge q1 q2 q3 q4 q5 q6 w) (hb:Below w.heap.size w w'):OldR t x ge q1 q2 q3 q4 q5 q6 w' :=
 ⟨h.1,fun o ho=>⟨(h.2 o ho).1,(h.2 o ho).2.1,(h.2 o ho).2.2.1,(h.2 o ho).2.2.2.later hb⟩⟩
theorem OldR.set {Q:Nat} (h:OldR t x ge q1 q2 q3 q4 q5 q6 w) (hQ:w.heap[Q]?=some (.cells #[.slice none 0 0,.slice none 0 0] 119 (0,0))):OldR t x ge q1 q2 q3 q4 q5 q6 ((w.setCell ⟨Q,0,none⟩ b0).setCell ⟨Q,1,none⟩ b1) :=
 ⟨h.1,fun o ho=>⟨(h.2 o ho).1,(h.2 o ho).2.1,(h.2 o ho).2.2.1,(h.2 o ho).2.2.2.oth hQ (by decide) aE4 (aC0 (Below.refl 0 w) (Nat.zero_le _)) (fun _ hb=>aBn hb)⟩⟩
end
theorem DFr.keep {v':Value} {c:Array Value} (d:DD B db ls v cs w) (f:DFr B db v w v' w') (hi:w.heap[i]?=some (.cells c t fz)) (h1:t≠124) (h2:t≠164):w'.heap[i]?=some (.cells c t fz):=by
 rw [f.blk i (lO hi) ?_ ?_,hi]
 ·intro e;have h3:=d.blk;rw [<-e,hi] at h3;simp only [oI,cI] at h3;exact h1 h3.2.1
 ·intro q;obtain ⟨_,_,cur,h3⟩:=d.row.blk q;rw [hi] at h3;simp only [oI,cI] at h3;exact h2 h3.2.1
theorem aHk {r:List Val} {t:Tbl} (h1:tAt T nm=some i) (h2:T[i]?=some t):updO T nm r=if t.s.fits r≠0 then ⟨T,[],t.s.fits r⟩ else match rowAt t.rows (fst r) with
 | none=>⟨T,[],4⟩
 | some o=>if clash t.s t.rows r then ⟨T,[],64⟩ else ⟨setT T i t (insV r (cutV (fst r) t.rows)),goneR i t.s o++laidR i t.s r,0⟩:=by
 unfold updO;rw [h1];dsimp only;rw [h2];rfl
theorem aHl {r:List Val} (h1:tAt T nm=none):updO T nm r=⟨T,[],60⟩:=by unfold updO;rw [h1]
theorem aI1 (w:World) (a b:Obj):Below w.heap.size w ((w.alloc a).alloc b):=(aAg w a).trans ((aAg _ b).mono (aAg w a).size)
theorem tupdate_ok [Gd] {r:List Val} (h:DR B p q g ls db v cs W w0 w) (I:Inv cs T) (hl:cs.length<=990) (nm:ByteArray) (hp:SVK fV 3 w pa n pc r) (hok:∀ x∈r,x.ok/\x.2.2.size<=1048576) :
  Calls Tryz.prog 28 #[.pointer (some ⟨db,0,none⟩),.string nm,.slice pa n pc] w fun e w'=>OpR B p q g ls db v cs W w0 w (updO T nm r) e w':=by
 have HD:=aAc h;have HI:=aAc I;have HLN:Hid (cs.length<=1000):=by show _<=_;omega
 have HLM:=aAc hl;have HNL:=aAc hp.hl;have HFI:=aAc (aJe h I (by omega) nm hp hok);obtain ⟨uo,huo⟩:∃ uo,updO T nm r=uo:=⟨_,rfl⟩;have HUU:=aAc huo;rw [huo];clear h I hl hp huo;have HOKS:=aAc hok;clear hok;go_enter Tryz.func28,Tryz.ntmps28;go_wp2_with fail;refine HFI.o.mono ?_;rintro e w2 ⟨hfi,hb2⟩;have HB2:=aAc hb2;have HFR:=aAc hfi;clear hfi hb2 HFI
 cases hta:tAt T nm with
 | none =>
  have he:=HFR.o.1 hta;unfold zT zR at he;subst he;have HTA:=aAc hta;have hbx:=aI1 w2 (.cells #[.pointer none,.int .u8 0,.string ⟨#[]⟩,.slice none 0 0,.slice none 0 0] 101) (.cells #[.slice none 0 0,.slice none 0 0] 119);have HB3:=aAc (HB2.o.trans (hbx.mono HB2.o.size));clear hbx hta HFR;go_wp2;go_ret;rw [<-HUU.o,aHl HTA.o];exact OpR.no HD.o HB3.o
 | some i =>
  obtain ⟨t,hti,htn,htm⟩:=aA2 hta;subst htn;have hft:=HFR.o.2 i t hta hti;have HTA:=aAc hta;have HTI:=aAc hti;have HOK:=aAc (HI.o.ok t htm);have HIO:=aAc (HUU.o.symm.trans (aHk (r:=r) hta hti));clear hta hti htm HFR;by_cases hf0:t.s.fits r=0
  ·obtain ⟨ca,cc,xa,xc,va,vc,he,hsc,hrh⟩:=hft.2 hf0;unfold tblV at he;subst he;have HRO:Hid (RowOk t.s r):=aIf HOK.o (fun x hx=>(HOKS.o x hx).1) hf0;have HUO:=aAc (HIO.o.trans (if_neg (by rw [hf0];simp)));have hx0:TRX w2.heap.size (w2.heap.size+1) (.pointer (some ⟨db,0,none⟩)) i t.s.nm ca t.s.cs.length cc xa t.s.xs.length xc (.slice pa r.length pc) va r.length vc w2 ((w2.alloc (.cells #[.pointer (some ⟨db,0,none⟩),.int .u8 (i:Int),.string t.s.nm,.slice ca t.s.cs.length cc,.slice xa t.s.xs.length xc] 101)).alloc (.cells #[.slice pa r.length pc,.slice va r.length vc] 119)):=TRX.new w2;have HX1:=aAc hx0;have HSC:=aAc hsc;have HV:=aAc hrh;have HD2:=aAc (HD.o.later HB2.o);have HFV:Hid ((fst r).ok/\(fst r).err=0/\(fst r).bytes.length<=28):=HRO.o.val (HRO.o.fmem HOK.o);have HFP:Hid (0<(fst r).bytes.length):=by
    obtain ⟨h9,_,_,h8⟩:=aB8 [] HFV.o.1 HFV.o.2.1;exact List.length_pos_iff.2 h8
   have HF0:Hid (r[0]?=some (fst r)):=by
    show _=_;have:=HRO.o.pos HOK.o;rw [gE this];unfold fst;rw [List.getD_eq_getElem?_getD,gE this];rfl
   have hi4:i<256:=by have:=(lL HTI.o);have:=HI.o.len;omega
   have HI4:=aAc hi4;clear hft hf0 hsc hrh hx0 HIO hi4;go_upto_region 4 with fail;generalize (w2.alloc (.cells #[.pointer (some ⟨db,0,none⟩),.int .u8 (i:Int),.string t.s.nm,.slice ca t.s.cs.length cc,.slice xa t.s.xs.length xc] 101)).alloc (.cells #[.slice pa r.length pc,.slice va r.length vc] 119)=w1 at *
   obtain ⟨L,hL⟩:∃ L,w2.heap.size=L:=⟨_,rfl⟩;obtain ⟨M,hM⟩:∃ M,L+1=M:=⟨_,rfl⟩;have HLL:=aAc hL;rw [hL,hM] at HX1
   try simp only [hL,hM]
   clear hL hM;go_cut [9,10] from 23 to 48 (fun s9 s10 wx=>∃ Q q1 q2 q3 q4 q5 q6 ge,s9=.int .i64 ge/\s10=.pointer (some ⟨Q,0,none⟩)/\TRX L M (.pointer (some ⟨db,0,none⟩)) i t.s.nm ca t.s.cs.length cc xa t.s.xs.length xc (.slice pa r.length pc) va r.length vc w2 wx/\wx.heap[Q]?=some (.cells #[.slice q1 q2 q3,.slice q4 q5 q6] 119 (0,0))/\OldR t (fst r) ge q1 q2 q3 q4 q5 q6 wx)
   case first =>
    have HX1:=aAc (HX1.o.next (Below.refl _ _).drew);have HX0:Hid ((fun wx:World=>wx.cell? ⟨L,0,none⟩=some (.pointer (some ⟨db,0,none⟩))/\wx.cell? ⟨L,1,none⟩=some (.int .u8 (i:Int))/\wx.cell? ⟨L,2,none⟩=some (.string t.s.nm)/\wx.cell? ⟨L,3,none⟩=some (.slice ca t.s.cs.length cc)/\wx.cell? ⟨L,4,none⟩=some (.slice xa t.s.xs.length xc)/\wx.cell? ⟨M,0,none⟩=some (.slice pa r.length pc)/\wx.cell? ⟨M,1,none⟩=some (.slice va r.length vc)) w1.drew):=HX1.o.sm;refine wp_region_noPanic ?_;refine wp_region_held_drew (S:=fun wx=>wx.cell? ⟨L,0,none⟩=some (.pointer (some ⟨db,0,none⟩))/\wx.cell? ⟨L,1,none⟩=some (.int .u8 (i:Int))/\wx.cell? ⟨L,2,none⟩=some (.string t.s.nm)/\wx.cell? ⟨L,3,none⟩=some (.slice ca t.s.cs.length cc)/\wx.cell? ⟨L,4,none⟩=some (.slice xa t.s.xs.length xc)/\wx.cell? ⟨M,0,none⟩=some (.slice pa r.length pc)/\wx.cell? ⟨M,1,none⟩=some (.slice va r.length vc)) (by kernel_rfl) HX0.o (fun hHeld=>?_);generalize w1.drew=w3 at *
    have HX3:=HX1;refine aAb 0 24 ?_;refine aAb 1 25 ?_;refine aAo (i:=2) (j:=7) (by kernel_rfl) (by kernel_rfl) (by kernel_rfl) ?ya7 ?yb7
    case ya7 =>
     intro o ho K hK;simp only [tG,sG,zG,oI] at ho;subst ho;go_simp;refine (aEi (HV.o.later HX3.o.be).v.hvs HF0.o).mono ?_;rintro e w4 ⟨ka,kn,kc,rfl,hbs,hb⟩;have HX4:=aAc (HX3.o.next hb);have HB4:=aAc (hbs.later hb (nR _));have HKN:Hid (kn<=28/\0<kn):=by have h8:(fst r).bytes.length=kn:=hbs.hlen;have:=HFV.o.2.2;have:=HFP.o;exact ⟨by omega,by omega⟩
     clear hbs hb hHeld;refine hK.out _ _ HX4.o.sm (fun hHeld=>?_);clear hK K
     try simp only [Act.put,siT,scZ,scS]
     refine aAo (i:=3) (j:=7) (by kernel_rfl) (by kernel_rfl) (by kernel_rfl) ?ya8 ?yb8
     case ya8 =>
      intro o ho K hK;simp only [tG,sG,zG,oI] at ho;subst ho;go_simp;refine (aF7 (HD2.o.later HX4.o.be) HI.o HLN.o HTI.o HFV.o.1 HFV.o.2.1 (HSC.o.later HX4.o.be) HB4.o (by have:=HKN.o;omega) HKN.o.2).mono ?_;rintro e w5 ⟨hg,hb⟩;have HX5:=aAc (HX4.o.next hb);have hee:∃ (ra:Option Addr×Nat×Nat×Option Addr×Nat×Nat) (ge:Int),e=.returned (.tuple #[.agg #[.slice ra.1 ra.2.1 ra.2.2.1,.slice ra.2.2.2.1 ra.2.2.2.2.1 ra.2.2.2.2.2],.int .i64 ge])/\OldR t (fst r) ge ra.1 ra.2.1 ra.2.2.1 ra.2.2.2.1 ra.2.2.2.2.1 ra.2.2.2.2.2 w5:=by
       cases hra:rowAt t.rows (fst r) with
       | none=>exact ⟨(none,0,0,none,0,0),4,hg.1 hra,fun _=>rfl,fun o ho=>by rw [hra] at ho;cases ho⟩
       | some o =>
        obtain ⟨pa,pc,va,vc,he,hh⟩:=hg.2 o hra;exact ⟨(pa,o.length,pc,va,o.length,vc),0,he,fun q=>by (rw [hra] at q;cases q),fun o2 ho=>by (rw [hra] at ho;cases ho;exact ⟨rfl,rfl,rfl,hh⟩)⟩
      obtain ⟨⟨q1,q2,q3,q4,q5,q6⟩,ge,rfl,ho⟩:=hee;have HO5:Hid (OldR t (fst r) ge q1 q2 q3 q4 q5 q6 w5):=ho;clear hg hb hHeld ho;dsimp only;refine hK.out _ _ HX5.o.sm (fun hHeld=>?_);clear hK K
      try simp only [Act.put,siT,scZ,scS]
      refine aAb 4 23 ?_;refine aAb 5 28 ?_;refine aAb 6 29 ?_;refine aAf 7 ?_;intro K hK;go_simp;have hbx:=aAg w5 (.cells #[.slice none 0 0,.slice none 0 0] 119);have HX6:=aAc (HX5.o.next hbx);have HQ6:Hid ((w5.alloc (.cells #[.slice none 0 0,.slice none 0 0] 119)).heap[w5.heap.size]?=some (.cells #[.slice none 0 0,.slice none 0 0] 119 (0,0))):=boxed w5 _
      skip
      have HO6:=aAc (HO5.o.later hbx);have HNE:Hid (L<w5.heap.size/\M<w5.heap.size):=⟨aAe HX5.o.t,aAe HX5.o.r⟩;clear hbx hHeld;refine hK.out _ _ HX6.o.sm (fun hHeld=>?_);generalize w5.alloc (.cells #[.slice none 0 0,.slice none 0 0] 119)=w6 at *
      generalize w5.heap.size=Q at *
      clear hK K
      try simp only [Act.put,siT,scZ,scS]
      refine aAf 8 ?_;intro K hK;have z0:w6.cell? ⟨Q,0,none⟩=some (.slice none 0 0):=aAa HQ6.o;have zf0:w6.frozen? ⟨Q,0,none⟩=false:=aAi HQ6.o;have z1:w6.cell? ⟨Q,1,none⟩=some (.slice none 0 0):=aAa HQ6.o;have zf1:w6.frozen? ⟨Q,1,none⟩=false:=aAi HQ6.o;go_simp;clear z0 zf0 z1 zf1 hHeld;have HXZ:=aAc (HX6.o.set2 (b0:=.slice q1 q2 q3) (b1:=.slice q4 q5 q6) (show L≠Q by have:=HNE.o;omega) (show M≠Q by have:=HNE.o;omega) (by rw [HLL.o];have:=HNE.o;omega));have HQZ:=aAc (aEz (b0:=.slice q1 q2 q3) (b1:=.slice q4 q5 q6) HQ6.o);have HOZ:=aAc (HO6.o.set (b0:=.slice q1 q2 q3) (b1:=.slice q4 q5 q6) HQ6.o);refine hK.out _ _ HXZ.o.sm (fun hHeld=>?_);clear hK K
      try simp only [Act.put,siT,scZ,scS]
      refine aAb 9 9 ?_;refine wpAnyH_done (by kernel_rfl) ?_ _;refine NoPanic.normal ?_;clear hHeld;go_wp2;go_meet;exact ⟨Q,q1,q2,q3,q4,q5,q6,ge,rfl,rfl,HXZ.o,HQZ.o,HOZ.o⟩
     case yb8 =>
      intro o ho K hK;simp only [tG,sG,zG,oI] at ho;subst ho;go_simp;have hbx:=aAg w4 (.cells #[.slice none 0 0,.slice none 0 0] 119);have HX5:=aAc (HX4.o.next hbx);have HQ5:Hid ((w4.alloc (.cells #[.slice none 0 0,.slice none 0 0] 119)).heap[w4.heap.size]?=some (.cells #[.slice none 0 0,.slice none 0 0] 119 (0,0))):=boxed w4 _;have HB5:=aAc (HB4.o.later hbx (nR _))
      skip
      have HNE:Hid (L<w4.heap.size/\M<w4.heap.size):=⟨aAe HX4.o.t,aAe HX4.o.r⟩;clear hbx hHeld;refine hK.out _ _ HX5.o.sm (fun hHeld=>?_);generalize w4.alloc (.cells #[.slice none 0 0,.slice none 0 0] 119)=w5 at *
      generalize w4.heap.size=Q at *
      clear hK K
      try simp only [Act.put,siT,scZ,scS]
      refine aAf 3 ?_;intro K hK;go_simp;refine (aF7 (HD2.o.later HX5.o.be) HI.o HLN.o HTI.o HFV.o.1 HFV.o.2.1 (HSC.o.later HX5.o.be) HB5.o (by have:=HKN.o;omega) HKN.o.2).mono ?_;rintro e w6 ⟨hg,hb⟩;have HX6:=aAc (HX5.o.next hb);have HQ6:=aAc ((hb.block Q (aAe HQ5.o)).trans HQ5.o);have hee:∃ (ra:Option Addr×Nat×Nat×Option Addr×Nat×Nat) (ge:Int),e=.returned (.tuple #[.agg #[.slice ra.1 ra.2.1 ra.2.2.1,.slice ra.2.2.2.1 ra.2.2.2.2.1 ra.2.2.2.2.2],.int .i64 ge])/\OldR t (fst r) ge ra.1 ra.2.1 ra.2.2.1 ra.2.2.2.1 ra.2.2.2.2.1 ra.2.2.2.2.2 w6:=by
       cases hra:rowAt t.rows (fst r) with
       | none=>exact ⟨(none,0,0,none,0,0),4,hg.1 hra,fun _=>rfl,fun o ho=>by rw [hra] at ho;cases ho⟩
       | some o =>
        obtain ⟨pa,pc,va,vc,he,hh⟩:=hg.2 o hra;exact ⟨(pa,o.length,pc,va,o.length,vc),0,he,fun q=>by (rw [hra] at q;cases q),fun o2 ho=>by (rw [hra] at ho;cases ho;exact ⟨rfl,rfl,rfl,hh⟩)⟩
      obtain ⟨⟨q1,q2,q3,q4,q5,q6⟩,ge,rfl,ho⟩:=hee;have HO6:Hid (OldR t (fst r) ge q1 q2 q3 q4 q5 q6 w6):=ho;clear hg hb hHeld ho;dsimp only;refine hK.out _ _ HX6.o.sm (fun hHeld=>?_);clear hK K
      try simp only [Act.put,siT,scZ,scS]
      refine aAb 4 23 ?_;refine aAb 5 28 ?_;refine aAb 6 29 ?_;refine aAf 8 ?_;intro K hK;have z0:w6.cell? ⟨Q,0,none⟩=some (.slice none 0 0):=aAa HQ6.o;have zf0:w6.frozen? ⟨Q,0,none⟩=false:=aAi HQ6.o;have z1:w6.cell? ⟨Q,1,none⟩=some (.slice none 0 0):=aAa HQ6.o;have zf1:w6.frozen? ⟨Q,1,none⟩=false:=aAi HQ6.o;go_simp;clear z0 zf0 z1 zf1 hHeld;have HXZ:=aAc (HX6.o.set2 (b0:=.slice q1 q2 q3) (b1:=.slice q4 q5 q6) (show L≠Q by have:=HNE.o;omega) (show M≠Q by have:=HNE.o;omega) (by rw [HLL.o];have:=HNE.o;omega));have HQZ:=aAc (aEz (b0:=.slice q1 q2 q3) (b1:=.slice q4 q5 q6) HQ6.o);have HOZ:=aAc (HO6.o.set (b0:=.slice q1 q2 q3) (b1:=.slice q4 q5 q6) HQ6.o);refine hK.out _ _ HXZ.o.sm (fun hHeld=>?_);clear hK K
      try simp only [Act.put,siT,scZ,scS]
      refine aAb 9 9 ?_;refine wpAnyH_done (by kernel_rfl) ?_ _;refine NoPanic.normal ?_;clear hHeld;go_wp2;go_meet;exact ⟨Q,q1,q2,q3,q4,q5,q6,ge,rfl,rfl,HXZ.o,HQZ.o,HOZ.o⟩
    case yb7 =>
     intro o ho K hK;simp only [tG,sG,zG,oI] at ho;subst ho;go_simp;have hbx:=aAg w3 (.cells #[.slice none 0 0,.slice none 0 0] 119);have HX4:=aAc (HX3.o.next hbx);have HQ4:Hid ((w3.alloc (.cells #[.slice none 0 0,.slice none 0 0] 119)).heap[w3.heap.size]?=some (.cells #[.slice none 0 0,.slice none 0 0] 119 (0,0))):=boxed w3 _
     skip
     skip
     have HNE:Hid (L<w3.heap.size/\M<w3.heap.size):=⟨aAe HX3.o.t,aAe HX3.o.r⟩;clear hbx hHeld;refine hK.out _ _ HX4.o.sm (fun hHeld=>?_);generalize w3.alloc (.cells #[.slice none 0 0,.slice none 0 0] 119)=w4 at *
     generalize w3.heap.size=Q at *
     clear hK K
     try simp only [Act.put,siT,scZ,scS]
     refine aAf 2 ?_;intro K hK;go_simp;refine (aEi (HV.o.later HX4.o.be).v.hvs HF0.o).mono ?_;rintro e w5 ⟨ka,kn,kc,rfl,hbs,hb⟩;have HX5:=aAc (HX4.o.next hb);have HQ5:=aAc ((hb.block Q (aAe HQ4.o)).trans HQ4.o);have HB5:=aAc (hbs.later hb (nR _));have HKN:Hid (kn<=28/\0<kn):=by have h8:(fst r).bytes.length=kn:=hbs.hlen;have:=HFV.o.2.2;have:=HFP.o;exact ⟨by omega,by omega⟩
     clear hbs hb hHeld;refine hK.out _ _ HX5.o.sm (fun hHeld=>?_);clear hK K
     try simp only [Act.put,siT,scZ,scS]
     refine aAf 3 ?_;intro K hK;go_simp;refine (aF7 (HD2.o.later HX5.o.be) HI.o HLN.o HTI.o HFV.o.1 HFV.o.2.1 (HSC.o.later HX5.o.be) HB5.o (by have:=HKN.o;omega) HKN.o.2).mono ?_;rintro e w6 ⟨hg,hb⟩;have HX6:=aAc (HX5.o.next hb);have HQ6:=aAc ((hb.block Q (aAe HQ5.o)).trans HQ5.o);have hee:∃ (ra:Option Addr×Nat×Nat×Option Addr×Nat×Nat) (ge:Int),e=.returned (.tuple #[.agg #[.slice ra.1 ra.2.1 ra.2.2.1,.slice ra.2.2.2.1 ra.2.2.2.2.1 ra.2.2.2.2.2],.int .i64 ge])/\OldR t (fst r) ge ra.1 ra.2.1 ra.2.2.1 ra.2.2.2.1 ra.2.2.2.2.1 ra.2.2.2.2.2 w6:=by
      cases hra:rowAt t.rows (fst r) with
      | none=>exact ⟨(none,0,0,none,0,0),4,hg.1 hra,fun _=>rfl,fun o ho=>by rw [hra] at ho;cases ho⟩
      | some o =>
       obtain ⟨pa,pc,va,vc,he,hh⟩:=hg.2 o hra;exact ⟨(pa,o.length,pc,va,o.length,vc),0,he,fun q=>by (rw [hra] at q;cases q),fun o2 ho=>by (rw [hra] at ho;cases ho;exact ⟨rfl,rfl,rfl,hh⟩)⟩
     obtain ⟨⟨q1,q2,q3,q4,q5,q6⟩,ge,rfl,ho⟩:=hee;have HO6:Hid (OldR t (fst r) ge q1 q2 q3 q4 q5 q6 w6):=ho;clear hg hb hHeld ho;dsimp only;refine hK.out _ _ HX6.o.sm (fun hHeld=>?_);clear hK K
     try simp only [Act.put,siT,scZ,scS]
     refine aAb 4 23 ?_;refine aAb 5 28 ?_;refine aAb 6 29 ?_;refine aAf 8 ?_;intro K hK;have z0:w6.cell? ⟨Q,0,none⟩=some (.slice none 0 0):=aAa HQ6.o;have zf0:w6.frozen? ⟨Q,0,none⟩=false:=aAi HQ6.o;have z1:w6.cell? ⟨Q,1,none⟩=some (.slice none 0 0):=aAa HQ6.o;have zf1:w6.frozen? ⟨Q,1,none⟩=false:=aAi HQ6.o;go_simp;clear z0 zf0 z1 zf1 hHeld;have HXZ:=aAc (HX6.o.set2 (b0:=.slice q1 q2 q3) (b1:=.slice q4 q5 q6) (show L≠Q by have:=HNE.o;omega) (show M≠Q by have:=HNE.o;omega) (by rw [HLL.o];have:=HNE.o;omega));have HQZ:=aAc (aEz (b0:=.slice q1 q2 q3) (b1:=.slice q4 q5 q6) HQ6.o);have HOZ:=aAc (HO6.o.set (b0:=.slice q1 q2 q3) (b1:=.slice q4 q5 q6) HQ6.o);refine hK.out _ _ HXZ.o.sm (fun hHeld=>?_);clear hK K
     try simp only [Act.put,siT,scZ,scS]
     refine aAb 9 9 ?_;refine wpAnyH_done (by kernel_rfl) ?_ _;refine NoPanic.normal ?_;clear hHeld;go_wp2;go_meet;exact ⟨Q,q1,q2,q3,q4,q5,q6,ge,rfl,rfl,HXZ.o,HQZ.o,HOZ.o⟩
   case rest =>
    obtain ⟨Q,q1,q2,q3,q4,q5,q6,ge,rfl,rfl,hx5,hq5,ho5⟩:=hcut;have HX5:=aAc hx5;have HQ5:=aAc hq5;have HB5:=aAc (HB2.o.trans (hx5.be.mono HB2.o.size))
    cases hra:rowAt t.rows (fst r) with
    | none =>
     obtain rfl:=ho5.1 hra;have HE:Hid (uo=⟨T,[],4⟩):=by show _=_;rw [HUO.o,hra]
     clear hx5 hq5 ho5 hra HX1;go_wp2;go_ret;rw [HE.o];exact OpR.no HD.o HB5.o
    | some o =>
     obtain ⟨rfl,rfl,rfl,hh⟩:=ho5.2 o hra;have HO5:=aAc hh;have HOO:Hid (RowOk t.s o):=HI.o.row t (at_mem HTI.o) o (aC3 hra).1;have HUA:Hid (uo=if clash t.s t.rows r then ⟨T,[],64⟩ else ⟨setT T i t (insV r (cutV (fst r) t.rows)),goneR i t.s o++laidR i t.s r,0⟩):=by show _=_;rw [HUO.o,hra]
     have HMS:=aAc (aH1 (pv:=.slice pa r.length pc) (ca:=ca) (cc:=cc) (HD2.o.later HX5.o.be) HI.o HLN.o HTI.o HRO.o (HV.o.later HX5.o.be).v.hvs (HSC.o.later HX5.o.be).x);obtain ⟨cb,hcb⟩:∃ cb,clash t.s t.rows r=cb:=⟨_,rfl⟩;rw [hcb] at HMS HUA;obtain ⟨y0,y1,y2,y3,y4,m0,m1⟩:=HX5.o.sm;clear hx5 hq5 ho5 hra hh HX1 hcb HUO
     cases cb with
     | true =>
      rw [if_pos rfl] at HMS HUA;go_wp2_with fail;refine HMS.o.mono ?_;rintro e w6 ⟨rfl,hb6⟩;have HB6:=aAc (HB5.o.trans (hb6.mono HB5.o.size));clear hb6 HMS y0 y1 y2 y3 y4 m0 m1;go_wp2;go_ret;rw [HUA.o];exact OpR.no HD.o HB6.o
     | false =>
      rw [if_neg (by decide)] at HMS HUA;have HUO2:=HUA;go_wp2_with fail;refine HMS.o.mono ?_;rintro e w6 ⟨rfl,hb6⟩;have HX7:=aAc (HX5.o.next (hb6.trans (Below.refl _ _).drew));have HQ7:Hid (w6.drew.heap[Q]?=some (.cells #[.slice q1 o.length q3,.slice q4 o.length q6] 119 (0,0))):=(hb6.block Q (aAe HQ5.o)).trans HQ5.o;have HO7:Hid (RHd w6.drew q1 q3 q4 q6 o):=HO5.o.later (hb6.trans (Below.refl _ _).drew);clear hb6 HMS y0 y1 y2 y3 y4 m0 m1 HX5 HQ5 HO5 HB5;go_upto_region 10 with fail;have HX0:Hid ((fun wx:World=>wx.cell? ⟨L,0,none⟩=some (.pointer (some ⟨db,0,none⟩))/\wx.cell? ⟨L,1,none⟩=some (.int .u8 (i:Int))/\wx.cell? ⟨L,2,none⟩=some (.string t.s.nm)/\wx.cell? ⟨L,3,none⟩=some (.slice ca t.s.cs.length cc)/\wx.cell? ⟨L,4,none⟩=some (.slice xa t.s.xs.length xc)/\wx.cell? ⟨M,0,none⟩=some (.slice pa r.length pc)/\wx.cell? ⟨M,1,none⟩=some (.slice va r.length vc)/\wx.cell? ⟨Q,0,none⟩=some (.slice q1 o.length q3)/\wx.cell? ⟨Q,1,none⟩=some (.slice q4 o.length q6)) w6.drew):=(by obtain ⟨y0,y1,y2,y3,y4,m0,m1⟩:=HX7.o.sm;exact ⟨y0,y1,y2,y3,y4,m0,m1,aAa HQ7.o,aAa HQ7.o⟩);refine wp_region_noPanic ?_;refine wp_region_held_drew (S:=fun wx=>wx.cell? ⟨L,0,none⟩=some (.pointer (some ⟨db,0,none⟩))/\wx.cell? ⟨L,1,none⟩=some (.int .u8 (i:Int))/\wx.cell? ⟨L,2,none⟩=some (.string t.s.nm)/\wx.cell? ⟨L,3,none⟩=some (.slice ca t.s.cs.length cc)/\wx.cell? ⟨L,4,none⟩=some (.slice xa t.s.xs.length xc)/\wx.cell? ⟨M,0,none⟩=some (.slice pa r.length pc)/\wx.cell? ⟨M,1,none⟩=some (.slice va r.length vc)/\wx.cell? ⟨Q,0,none⟩=some (.slice q1 o.length q3)/\wx.cell? ⟨Q,1,none⟩=some (.slice q4 o.length q6)) (by kernel_rfl) HX0.o (fun hHeld=>?_);generalize w6.drew=w7 at *
      refine aAb 0 39 ?_;refine aAb 1 40 ?_;refine aAb 2 41 ?_;refine aAb 4 43 ?_;refine aAb 5 44 ?_;refine aAf 3 ?_;intro K hK;go_simp;refine (aDn (dv:=.pointer (some ⟨db,0,none⟩)) (nm:=t.s.nm) (ca:=ca) (cl:=t.s.cs.length) (cc:=cc) (gone:=true) B HI4.o HOK.o HOO.o (HSC.o.later HX7.o.be).x HO7.o.p HO7.o.v.hvs).mono ?_;rintro e w8 ⟨v1,rfl,hc1,hb⟩;obtain ⟨a1,c1,e1⟩:=hc1.form;obtain ⟨n1,hn1⟩:∃ n1,(chL (keysR i t.s o) (rowB o) true).length=n1:=⟨_,rfl⟩;rw [hn1] at e1;subst e1;have HX8:=aAc (HX7.o.next hb);have HQ8:=aAc ((hb.block Q (aAe HQ7.o)).trans HQ7.o);have HC8:=aAc hc1;have HBE8:=aAc hb;clear hc1 hn1 hb hHeld;refine hK.out _ _ (by obtain ⟨y0,y1,y2,y3,y4,m0,m1⟩:=HX8.o.sm;exact ⟨y0,y1,y2,y3,y4,m0,m1,aAa HQ8.o,aAa HQ8.o⟩) (fun hHeld=>?_);clear hK K
      try simp only [Act.put,siT,scZ,scS]
      refine aAf 6 ?_;intro K hK;go_simp;refine (aDn (dv:=.pointer (some ⟨db,0,none⟩)) (nm:=t.s.nm) (ca:=ca) (cl:=t.s.cs.length) (cc:=cc) (gone:=false) B HI4.o HOK.o HRO.o (HSC.o.later HX8.o.be).x (HV.o.later HX8.o.be).p (HV.o.later HX8.o.be).v.hvs).mono ?_;rintro e w9 ⟨v2,rfl,hc2,hb⟩;obtain ⟨a2,c2,e2⟩:=hc2.form;obtain ⟨n2,hn2⟩:∃ n2,(chL (keysR i t.s r) (rowB r) false).length=n2:=⟨_,rfl⟩;rw [hn2] at e2;subst e2;have HX9:=aAc (HX8.o.next hb);have HQ9:=aAc ((hb.block Q (aAe HQ8.o)).trans HQ8.o);have HC9:=aAc (HC8.o.later hb (HD2.o.later HX8.o.be).bw);have HG9:=aAc hc2;have HBE9:=aAc (HBE8.o.trans (hb.mono HBE8.o.size));clear hc2 hn2 hb hHeld;refine hK.out _ _ (by obtain ⟨y0,y1,y2,y3,y4,m0,m1⟩:=HX9.o.sm;exact ⟨y0,y1,y2,y3,y4,m0,m1,aAa HQ9.o,aAa HQ9.o⟩) (fun hHeld=>?_);clear hK K
      try simp only [Act.put,siT,scZ,scS]
      refine aAf 7 ?_;intro K hK;rw [if_pos (by rfl)];have hsz:(chL (keysR i t.s o) (rowB o) true).length+(chL (keysR i t.s r) (rowB r) false).length<=8:=by
       rw [aKu,aKu];have h1:=aC7 i o HOK.o;have h2:=aC7 i r HOK.o;omega
      refine aCc (.tmp 42) (.tmp 45) rfl rfl rfl HC9.o (HG9.o.rv aBi) (HD2.o.later HX7.o.be).bw HBE9.o.size (by omega) ?_;intro v3 w10 p1 _ _ p4 _;have hbe:=HBE9.o.trans p4
      obtain ⟨ma,mc,em,hcall⟩:=aE5 ((HD2.o.later HX7.o.be).later hbe).dd (HD2.o.later HX7.o.be).dd rfl p1 (by rw [lA];have:=HLM.o;omega) (by
       intro c hc;rcases List.mem_append.1 hc with h9 | h9
       ·exact aKt HOK.o HOO.o c h9
       ·exact aKt HOK.o HRO.o c h9)
      rw [List.map_append,chL_gone,chL_laid] at hcall;obtain ⟨n3,hn3⟩:∃ n3,(chL (keysR i t.s o) (rowB o) true++chL (keysR i t.s r) (rowB r) false).length=n3:=⟨_,rfl⟩;rw [hn3] at em hcall;subst em;have HX10:=aAc (HX7.o.next hbe);have HQ10:=aAc ((hbe.block Q (aAe HQ7.o)).trans HQ7.o);have HCA:=aAc hcall;clear p1 p4 hbe hn3 hcall hsz hHeld;refine hK.out _ _ (by obtain ⟨y0,y1,y2,y3,y4,m0,m1⟩:=HX10.o.sm;exact ⟨y0,y1,y2,y3,y4,m0,m1,aAa HQ10.o,aAa HQ10.o⟩) (fun hHeld=>?_);clear hK K
      try simp only [Act.put,siT,scZ,scS]
      refine aAf 8 ?_;intro K hK;go_simp;refine HCA.o.mono ?_;rintro e w11 ⟨v6,rfl,hd6,hf6⟩;have hdd:=(HD2.o.later HX10.o.be).dd;have HT11:=aAc (hf6.keep hdd HX10.o.t (by decide) (by decide));have HM11:=aAc (hf6.keep hdd HX10.o.r (by decide) (by decide));have HQ11:=aAc (hf6.keep hdd HQ10.o (by decide) (by decide));have HR11:Hid (OpR B p q g ls db v cs W w0 w uo (.returned (.int .i64 0)) w11):=by
       rw [HUO2.o];have hb10:=HB2.o.trans (HX10.o.be.mono HB2.o.size);exact ⟨v6,rfl,(HD.o.later hb10).fr hd6 hf6,(DFr.of hb10 HD.o.bw).trans hf6⟩
      clear hd6 hf6 hdd HCA hHeld;refine hK.out _ _ ⟨aAa HT11.o,aAa HT11.o,aAa HT11.o,aAa HT11.o,aAa HT11.o,aAa HM11.o,aAa HM11.o,aAa HQ11.o,aAa HQ11.o⟩ (fun hHeld=>?_);clear hK K
      try simp only [Act.put,siT,scZ,scS]
      refine aAb 9 6 ?_;refine wpAnyH_done (by kernel_rfl) ?_ _;refine NoPanic.normal ?_;clear hHeld;go_wp2;go_ret;exact HR11.o
  ·have he:=hft.1 hf0;unfold zT zR at he;obtain ⟨fv,hfv⟩:∃ fv,t.s.fits r=fv:=⟨_,rfl⟩;have HFV:=aAc hfv;rw [hfv] at he hf0;subst he;have HF0:=aAc hf0;have hf1:(fv == 0)=false:=by simpa using hf0
   have hf2:(fv != 0)=true:=by simpa using hf0
   have hbx:=aI1 w2 (.cells #[.pointer none,.int .u8 0,.string ⟨#[]⟩,.slice none 0 0,.slice none 0 0] 101) (.cells #[.slice none 0 0,.slice none 0 0] 119);have HB3:=aAc (HB2.o.trans (hbx.mono HB2.o.size));clear hbx hft hfv;go_wp2;go_ret;rw [HIO.o,if_pos (by rw [HFV.o];exact HF0.o),HFV.o];exact OpR.no HD.o HB3.o
theorem laid_len (i:Nat) {s:Sch} (r:List Val) (hs:s.ok=true):(laidR i s r).length<=4:=by
 unfold laidR;rw [List.length_map];exact aC7 i r hs
theorem gone_len (i:Nat) {s:Sch} (r:List Val) (hs:s.ok=true):(goneR i s r).length<=4:=by
 unfold goneR;rw [List.length_map];exact aC7 i r hs
theorem insO_len (I:Inv cs T) (nm:ByteArray) (r:List Val):(insO T nm r).m.length<=8:=by
 cases h1:tAt T nm with
 | none=>rw [aIa h1];exact Nat.zero_le _
 | some i =>
  obtain ⟨t,h2,_,h3⟩:=aA2 h1;rw [aH9 h1 h2];have:=laid_len i r (I.ok t h3);split
  ·exact Nat.zero_le _
  ·split
   ·exact Nat.zero_le _
   ·show (laidR i t.s r).length<=8;omega
theorem delO_len (I:Inv cs T) (nm:ByteArray) (x:Val):(delO T nm x).m.length<=8:=by
 cases h1:tAt T nm with
 | none=>rw [aIo h1];exact Nat.zero_le _
 | some i =>
  obtain ⟨t,h2,_,h3⟩:=aA2 h1;rw [aIn h1 h2];split
  ·exact Nat.zero_le _
  ·cases h4:rowAt t.rows x with
   | none=>exact Nat.zero_le _
   | some r =>
    have:=gone_len i r (I.ok t h3);show (goneR i t.s r).length<=8;omega
theorem updO_len (I:Inv cs T) (nm:ByteArray) (r:List Val):(updO T nm r).m.length<=8:=by
 cases h1:tAt T nm with
 | none=>rw [aHl h1];exact Nat.zero_le _
 | some i =>
  obtain ⟨t,h2,_,h3⟩:=aA2 h1;rw [aHk h1 h2];split
  ·exact Nat.zero_le _
  ·cases h4:rowAt t.rows (fst r) with
   | none=>exact Nat.zero_le _
   | some o =>
    dsimp only;split
    ·exact Nat.zero_le _
    ·have h5:=gone_len i o (I.ok t h3);have h6:=laid_len i r (I.ok t h3);show (goneR i t.s o++laidR i t.s r).length<=8;rw [lA];omega
theorem creO_len (T:List Tbl) (s:Sch):(creO T s).m.length<=8:=by
 unfold creO;split
 ·exact Nat.zero_le _
 ·split
  ·exact Nat.zero_le _
  ·split
   ·exact Nat.zero_le _
   ·show (1:Nat)<=8;omega
section
variable [Gd] {B p q g ls db N:Nat} {W w0 w:World} {T:List Tbl}
end
def TbF [Gd] (F:Nat->Prop) (B p q g ls db:Nat) (W w0:World) (N:Nat) (T:List Tbl) (w:World):Prop:=∃ v cs,DR B p q g ls db v cs W w0 w/\Inv cs T/\cs.length<=N/\∀ i,F i->i<w.heap.size/\i≠db/\v.ownBlock≠some i
def KpF (F:Nat->Prop) (w w':World):Prop:=∀ i,F i->w'.heap[i]?=w.heap[i]?
theorem KpF.trans {F:Nat->Prop} (h:KpF F w w') (k:KpF F w' w2):KpF F w w2:=fun i hi=>(k i hi).trans (h i hi)
section
variable [Gd] {F:Nat->Prop} {B p q g ls db N M:Nat} {W w0 w w':World} {T:List Tbl}
theorem TbF.td (h:TbF F B p q g ls db W w0 N T w):TbD B p q g ls db W w0 N T w:=by
 obtain ⟨v,cs,h1,h2,h3,_⟩:=h;exact ⟨v,cs,h1,h2,h3⟩
theorem TbD.tf (h:TbD B p q g ls db W w0 N T w) (hb:Below w.heap.size w w') (hF:∀ i,F i->w.heap.size<=i/\i<w'.heap.size):TbF F B p q g ls db W w0 N T w':=by
 obtain ⟨v,cs,h1,h2,h3⟩:=h;refine ⟨v,cs,h1.later hb,h2,h3,fun i hi=>?_⟩;obtain ⟨f1,f2⟩:=hF i hi;have f3:=h1.dd.bw;refine ⟨f2,by omega,fun q=>?_⟩;have:=(h1.dd.row.blk q).2.1;omega
theorem TbD.tf0 (h:TbD B p q g ls db W w0 N T w):TbF (fun _=>False) B p q g ls db W w0 N T w:=h.tf (Below.refl _ _) fun _ h=>False.elim h
theorem TbF.later (h:TbF F B p q g ls db W w0 N T w) (hb:Below w.heap.size w w'):TbF F B p q g ls db W w0 N T w':=by
 obtain ⟨v,cs,h1,h2,h3,h4⟩:=h;exact ⟨v,cs,h1.later hb,h2,h3,fun i hi=>⟨Nat.lt_of_lt_of_le (h4 i hi).1 hb.size,(h4 i hi).2⟩⟩
theorem TbF.kp (h:TbF F B p q g ls db W w0 N T w) (hb:Below w.heap.size w w'):KpF F w w':=by
 obtain ⟨v,cs,h1,h2,h3,h4⟩:=h;exact fun i hi=>hb.block i (h4 i hi).1
theorem TbF.bel (h:TbF F B p q g ls db W w0 N T w):Below B W w:=h.td.bel
theorem TbF.more (h:TbF F B p q g ls db W w0 N T w) (hm:N<=M):TbF F B p q g ls db W w0 M T w:=by
 obtain ⟨v,cs,h1,h2,h3,h4⟩:=h;exact ⟨v,cs,h1,h2,by omega,h4⟩
theorem TbF.inv (h:TbF F B p q g ls db W w0 N T w):∃ cs,Inv cs T:=by
 obtain ⟨v,cs,_,h2,_⟩:=h;exact ⟨cs,h2⟩
theorem OpR.tf {o:Out} {e:Ending} (h:DR B p q g ls db v cs W w0 w) (I:Inv (cs++o.m) o.T) (hl:cs.length<=N) (hm:o.m.length<=8) (hF:∀ i,F i->i<w.heap.size/\i≠db/\v.ownBlock≠some i) (hp:OpR B p q g ls db v cs W w0 w o e w'):e=.returned (.int .i64 o.e)/\TbF F B p q g ls db W w0 (N+8) o.T w'/\KpF F w w':=by
 obtain ⟨v',rfl,hd,hf⟩:=hp;refine ⟨rfl,⟨v',_,hd,I,by rw [lA];omega,fun i hi=>?_⟩,fun i hi=>hf.blk i (hF i hi).1 (hF i hi).2.1 (hF i hi).2.2⟩;obtain ⟨f1,f2,f3⟩:=hF i hi;refine ⟨Nat.lt_of_lt_of_le f1 hf.siz,f2,fun q=>?_⟩;rcases hf.own i q with q | q
 ·exact f3 q
 ·omega
theorem TbF.cre {s:Sch} (h:TbF F B p q g ls db W w0 N T w) (hN:N<=990) (hsc:SC w ca cl cc xa xl xc s) :
  Calls Tryz.prog 30 #[.pointer (some ⟨db,0,none⟩),.agg #[.string s.nm,.slice ca cl cc,.slice xa xl xc]] w fun e w'=>e=.returned (.int .i64 (creO T s).e)/\TbF F B p q g ls db W w0 (N+8) (creO T s).T w'/\KpF F w w':=by
 obtain ⟨v,cs,h1,h2,h3,h4⟩:=h;exact (aI2 h1 h2 (by omega) hsc).mono fun e w' hp=>OpR.tf h1 (h2.creO _) h3 (creO_len _ _) h4 hp
theorem TbF.insert {r:List Val} (h:TbF F B p q g ls db W w0 N T w) (hN:N<=990) (nm:ByteArray) (hp:SVK fV 3 w a n c r) (hok:∀ x∈r,x.ok/\x.2.2.size<=1048576) :
  Calls Tryz.prog 26 #[.pointer (some ⟨db,0,none⟩),.string nm,.slice a n c] w fun e w'=>e=.returned (.int .i64 (insO T nm r).e)/\TbF F B p q g ls db W w0 (N+8) (insO T nm r).T w'/\KpF F w w':=by
 obtain ⟨v,cs,h1,h2,h3,h4⟩:=h;exact (aCz h1 h2 (by omega) nm hp hok).mono fun e w' hp=>OpR.tf h1 (h2.insO nm fun x hx=>(hok x hx).1) h3 (insO_len h2 _ _) h4 hp
theorem TbF.update {r:List Val} (h:TbF F B p q g ls db W w0 N T w) (hN:N<=990) (nm:ByteArray) (hp:SVK fV 3 w a n c r) (hok:∀ x∈r,x.ok/\x.2.2.size<=1048576) :
  Calls Tryz.prog 28 #[.pointer (some ⟨db,0,none⟩),.string nm,.slice a n c] w fun e w'=>e=.returned (.int .i64 (updO T nm r).e)/\TbF F B p q g ls db W w0 (N+8) (updO T nm r).T w'/\KpF F w w':=by
 obtain ⟨v,cs,h1,h2,h3,h4⟩:=h;exact (tupdate_ok h1 h2 (by omega) nm hp hok).mono fun e w' hp=>OpR.tf h1 (h2.updO nm fun x hx=>(hok x hx).1) h3 (updO_len h2 _ _) h4 hp
theorem TbF.delete {x:Val} (h:TbF F B p q g ls db W w0 N T w) (hN:N<=990) (nm:ByteArray) (hx:x.ok/\x.2.2.size<=1048576) :
  Calls Tryz.prog 27 #[.pointer (some ⟨db,0,none⟩),.string nm,.agg #[.int .i64 x.1,.int .i64 x.2.1,.string x.2.2]] w fun e w'=>e=.returned (.int .i64 (delO T nm x).e)/\TbF F B p q g ls db W w0 (N+8) (delO T nm x).T w'/\KpF F w w':=by
 obtain ⟨v,cs,h1,h2,h3,h4⟩:=h;exact (tdelete_ok h1 h2 (by omega) nm hx.1 hx.2).mono fun e w' hp=>OpR.tf h1 (h2.delO nm x) h3 (delO_len h2 _ _) h4 hp
end
theorem aJt {t u:Tbl} {R:List (List Val)} (hi:T[i]?=some u) (h:t∈T) (hne:u.s.nm≠t.s.nm):t∈setT T i u R:=by
 obtain ⟨j,hj⟩:=List.mem_iff_getElem?.1 h;have e:j≠i:=by
  rintro rfl;rw [hj] at hi;cases hi;exact hne rfl
 exact mG ((aCt hi).2 (Or.inr ⟨e,hj⟩))
theorem insO_oth {r:List Val} {t:Tbl} (h:t∈T) (hne:nm≠t.s.nm):t∈(insO T nm r).T:=by
 cases h1:tAt T nm with
 | none=>rw [aIa h1];exact h
 | some i =>
  obtain ⟨u,h2,h3,_⟩:=aA2 h1;subst h3;rw [aH9 h1 h2]
  repeat' split
  all_goals first | exact h | exact aJt h2 h hne
theorem delO_oth {x:Val} {t:Tbl} (h:t∈T) (hne:nm≠t.s.nm):t∈(delO T nm x).T:=by
 cases h1:tAt T nm with
 | none=>rw [aIo h1];exact h
 | some i =>
  obtain ⟨u,h2,h3,_⟩:=aA2 h1;subst h3;rw [aIn h1 h2]
  repeat' split
  all_goals first | exact h | exact aJt h2 h hne
theorem updO_oth {r:List Val} {t:Tbl} (h:t∈T) (hne:nm≠t.s.nm):t∈(updO T nm r).T:=by
 cases h1:tAt T nm with
 | none=>rw [aHl h1];exact h
 | some i =>
  obtain ⟨u,h2,h3,_⟩:=aA2 h1;subst h3;rw [aHk h1 h2]
  repeat' split
  all_goals first | exact h | exact aJt h2 h hne
theorem creO_oth {s:Sch} {t:Tbl} (h:t∈T):t∈(creO T s).T:=by
 unfold creO
 repeat' split
 all_goals first | exact h | exact List.mem_append_left _ h
theorem lrun_ok [Gd] {F:Nat->Prop} {ys:List OpV} (h:TbF F W.heap.size p q g ls db W w0 N T w) (hm:N+8*most<=900) (hl:SVK fO 17 W a n c ys) (hp:∀ y∈ys,OpP W y) :
  Calls Tryz.prog 19 #[.pointer (some ⟨db,0,none⟩),.slice a n c,.int .i64 (most:Int)] w fun e w'=>e=.returned (.tuple #[])/\∃ T',TbF F W.heap.size p q g ls db W w0 (N+8*most) T' w'/\KpF F w w'/\∀ t,(∀ y∈ys,y.nm≠t.s.nm)->t∈T->t∈T':=by
 obtain ⟨M,hM⟩:∃ M,M=min n most:=⟨_,rfl⟩;have HM:=aAc hM;have HMO:=aAc hm;have HL:=aAc hl;have HP:=aAc hp;have HD:=aAc h;have x9:(n:Int)<=9223372036854775807:=by have:=hl.hc;have:=hl.hm;omega
 obtain ⟨B,hB⟩:∃ B,W.heap.size=B:=⟨_,rfl⟩;have HBB:=aAc hB;rw [hB] at HD ⊢;clear h hm hl hp hM hB;go_enter Tryz.func19,Tryz.ntmps19;go_wp2_with fail;go_loopg [6] M (fun gh s6 wx=>∃ (j:Nat) (T':List Tbl),j+gh=M/\s6=.int .i64 (j:Int)/\TbF F B p q g ls db W w0 (N+8*j) T' wx/\KpF F w wx/\∀ t,(∀ y∈ys,y.nm≠t.s.nm)->t∈T->t∈T')
 case atStart=>exact ⟨0,T,by omega,rfl,HD.o,(fun _ _=>rfl),fun _ _ h=>h⟩
 case round =>
  obtain ⟨j,T',hj,rfl,hd1,hk1,ho1⟩:=hrel;have HD1:=aAc hd1;have HK1:=aAc hk1;have HO1:=aAc ho1;clear hd1 hk1 ho1 HD;by_cases hjm:j<M
  ·have x1:(j:Int)<(n:Int):=by have:=HM.o;omega
   have x2:(j:Int)<(most:Int):=by have:=HM.o;omega
   have x0:(0:Int)<=(j:Int):=by omega
   have HJM:=aAc hjm;have hjn:j<n:=by omega
   have hjmo:j<most:=by omega
   have HJ:Hid (N+8*j<=990/\N+8*j+8<=N+8*(j+1)):=by have:=HMO.o;exact ⟨by omega,by omega⟩
   obtain ⟨y,hy⟩:∃ y,ys[j]?=some y:=⟨_,gE (by rw [HL.o.hl];exact hjn)⟩;have hbw:Below W.heap.size W wr:=by rw [HBB.o];exact HD1.o.bel
   obtain ⟨b,o,ea,_,hcell⟩:=(HL.o.later hbw).pl (by omega);subst ea;have HYJ:=aAc hy;have HY:Hid (OpP wr y):=(HP.o y (mG hy)).later hbw;have c0:wr.cell? ⟨b,o+j*17,none⟩=some (.int .i64 y.kind):=hcell j y hy 0 (by omega);have c1:wr.cell? ⟨b,o+j*17+1,none⟩=some (.string y.nm):=hcell j y hy 1 (by omega);have c2:wr.cell? ⟨b,o+j*17+2,none⟩=some (.string y.s.nm):=hcell j y hy 2 (by omega);have c3:wr.cell? ⟨b,o+j*17+3,none⟩=some (.slice y.ca y.cl y.cc):=hcell j y hy 3 (by omega);have c4:wr.cell? ⟨b,o+j*17+4,none⟩=some (.slice y.xa y.xl y.xc):=hcell j y hy 4 (by omega);have c5:wr.cell? ⟨b,o+j*17+5,none⟩=some (.slice y.ra y.rl y.rc):=hcell j y hy 5 (by omega);have c6:wr.cell? ⟨b,o+j*17+6,none⟩=some (.int .i64 y.key.1):=hcell j y hy 6 (by omega);have c7:wr.cell? ⟨b,o+j*17+7,none⟩=some (.int .i64 y.key.2.1):=hcell j y hy 7 (by omega);have c8:wr.cell? ⟨b,o+j*17+8,none⟩=some (.string y.key.2.2):=hcell j y hy 8 (by omega);have c9:wr.cell? ⟨b,o+j*17+9,none⟩=some (.int .i64 y.col):=hcell j y hy 9 (by omega);have c10:wr.cell? ⟨b,o+j*17+10,none⟩=some (.int .i64 y.lo.1):=hcell j y hy 10 (by omega);have c11:wr.cell? ⟨b,o+j*17+11,none⟩=some (.int .i64 y.lo.2.1):=hcell j y hy 11 (by omega);have c12:wr.cell? ⟨b,o+j*17+12,none⟩=some (.string y.lo.2.2):=hcell j y hy 12 (by omega);have c13:wr.cell? ⟨b,o+j*17+13,none⟩=some (.int .i64 y.hi.1):=hcell j y hy 13 (by omega);have c14:wr.cell? ⟨b,o+j*17+14,none⟩=some (.int .i64 y.hi.2.1):=hcell j y hy 14 (by omega);have c15:wr.cell? ⟨b,o+j*17+15,none⟩=some (.string y.hi.2.2):=hcell j y hy 15 (by omega);have c16:wr.cell? ⟨b,o+j*17+16,none⟩=some (.int .i64 y.lim):=hcell j y hy 16 (by omega);have HOP:Hid (Calls Tryz.prog 10 #[.agg #[.int .i64 y.kind,.string y.nm,.string y.s.nm,.slice y.ca y.cl y.cc,.slice y.xa y.xl y.xc,.slice y.ra y.rl y.rc,.int .i64 y.key.1,.int .i64 y.key.2.1,.string y.key.2.2,.int .i64 y.col,.int .i64 y.lo.1,.int .i64 y.lo.2.1,.string y.lo.2.2,.int .i64 y.hi.1,.int .i64 y.hi.2.1,.string y.hi.2.2,.int .i64 y.lim]] wr fun e w'=>∃ z:OpV,e=.returned (.agg #[.int .i64 z.kind,.string z.nm,.string z.s.nm,.slice z.ca z.cl z.cc,.slice z.xa z.xl z.xc,.slice z.ra z.rl z.rc,.int .i64 z.key.1,.int .i64 z.key.2.1,.string z.key.2.2,.int .i64 z.col,.int .i64 z.lo.1,.int .i64 z.lo.2.1,.string z.lo.2.2,.int .i64 z.hi.1,.int .i64 z.hi.2.1,.string z.hi.2.2,.int .i64 z.lim])/\OpP w' z/\z.nm=y.nm/\Below wr.heap.size wr w'):=(op_ok y HY.o).mono fun e w' hh=>by obtain ⟨z,h1,h2,h3,h4,_⟩:=hh;exact ⟨z,h1,h3,h2.2.1,h4⟩
   clear hcell hy hbw hjm;go_wp2_with fail;refine HOP.o.mono ?_;rintro e w2 ⟨z,rfl,hz,hzn,hb2⟩;have HZN:Hid (∀ t:Tbl,(∀ y∈ys,y.nm≠t.s.nm)->z.nm≠t.s.nm):=fun t ht=>by rw [hzn];exact ht y (mG HYJ.o)
   have HK2:=aAc (HK1.o.trans ((HD1.o.kp hb2).trans ((HD1.o.later hb2).kp (aAg w2 (.cells #[.int .i64 z.kind,.string z.nm,.string z.s.nm,.slice z.ca z.cl z.cc,.slice z.xa z.xl z.xc,.slice z.ra z.rl z.rc,.int .i64 z.key.1,.int .i64 z.key.2.1,.string z.key.2.2,.int .i64 z.col,.int .i64 z.lo.1,.int .i64 z.lo.2.1,.string z.lo.2.2,.int .i64 z.hi.1,.int .i64 z.hi.2.1,.string z.hi.2.2,.int .i64 z.lim] 38)))));clear hzn HK1;have hbx:=aAg w2 (.cells #[.int .i64 z.kind,.string z.nm,.string z.s.nm,.slice z.ca z.cl z.cc,.slice z.xa z.xl z.xc,.slice z.ra z.rl z.rc,.int .i64 z.key.1,.int .i64 z.key.2.1,.string z.key.2.2,.int .i64 z.col,.int .i64 z.lo.1,.int .i64 z.lo.2.1,.string z.lo.2.2,.int .i64 z.hi.1,.int .i64 z.hi.2.1,.string z.hi.2.2,.int .i64 z.lim] 38);have HB3:Hid ((w2.alloc (.cells #[.int .i64 z.kind,.string z.nm,.string z.s.nm,.slice z.ca z.cl z.cc,.slice z.xa z.xl z.xc,.slice z.ra z.rl z.rc,.int .i64 z.key.1,.int .i64 z.key.2.1,.string z.key.2.2,.int .i64 z.col,.int .i64 z.lo.1,.int .i64 z.lo.2.1,.string z.lo.2.2,.int .i64 z.hi.1,.int .i64 z.hi.2.1,.string z.hi.2.2,.int .i64 z.lim] 38)).heap[w2.heap.size]?=some (.cells #[.int .i64 z.kind,.string z.nm,.string z.s.nm,.slice z.ca z.cl z.cc,.slice z.xa z.xl z.xc,.slice z.ra z.rl z.rc,.int .i64 z.key.1,.int .i64 z.key.2.1,.string z.key.2.2,.int .i64 z.col,.int .i64 z.lo.1,.int .i64 z.lo.2.1,.string z.lo.2.2,.int .i64 z.hi.1,.int .i64 z.hi.2.1,.string z.hi.2.2,.int .i64 z.lim] 38 (0,0))):=boxed w2 _;have HD3:=aAc ((HD1.o.later hb2).later hbx);have HZ3:=aAc (hz.later hbx);clear hz hb2 hbx HOP c0 c1 c2 c3 c4 c5 c6 c7 c8 c9 c10 c11 c12 c13 c14 c15 c16 HD1 HY;go_upto_region 4 with fail;generalize w2.alloc (.cells #[.int .i64 z.kind,.string z.nm,.string z.s.nm,.slice z.ca z.cl z.cc,.slice z.xa z.xl z.xc,.slice z.ra z.rl z.rc,.int .i64 z.key.1,.int .i64 z.key.2.1,.string z.key.2.2,.int .i64 z.col,.int .i64 z.lo.1,.int .i64 z.lo.2.1,.string z.lo.2.2,.int .i64 z.hi.1,.int .i64 z.hi.2.1,.string z.hi.2.2,.int .i64 z.lim] 38)=w4 at *
   generalize w2.heap.size=K1 at *
   obtain ⟨kd,hkd⟩:∃ kd,z.kind=kd:=⟨_,rfl⟩;have k0:w4.cell? ⟨K1,0,none⟩=some (.int .i64 kd):=by rw [<-hkd];exact aAa HB3.o
   have k1:w4.cell? ⟨K1,1,none⟩=some (.string z.nm):=aAa HB3.o;have k2:w4.cell? ⟨K1,2,none⟩=some (.string z.s.nm):=aAa HB3.o;have k3:w4.cell? ⟨K1,3,none⟩=some (.slice z.ca z.cl z.cc):=aAa HB3.o;have k4:w4.cell? ⟨K1,4,none⟩=some (.slice z.xa z.xl z.xc):=aAa HB3.o;have k5:w4.cell? ⟨K1,5,none⟩=some (.slice z.ra z.rl z.rc):=aAa HB3.o;have k6:w4.cell? ⟨K1,6,none⟩=some (.int .i64 z.key.1):=aAa HB3.o;have k7:w4.cell? ⟨K1,7,none⟩=some (.int .i64 z.key.2.1):=aAa HB3.o;have k8:w4.cell? ⟨K1,8,none⟩=some (.string z.key.2.2):=aAa HB3.o;clear hkd;by_cases q1:kd=1
   ·subst q1;have HC:=aAc (HD3.o.cre HJ.o.1 HZ3.o.sc);go_wp2_with fail;refine HC.o.mono ?_;rintro e w5 ⟨rfl,hd5,hk5⟩;have HD5:=aAc hd5;have HK5:=aAc (HK2.o.trans hk5);clear hd5 hk5 HC HK2 k0 k1 k2 k3 k4 k5 k6 k7 k8;go_wp2;go_roundg (gk-1)
    case measure=>(have:=HJM.o;omega)
    case rel=>exact ⟨j+1,_,(by have:=HJM.o;omega),rfl,HD5.o.more HJ.o.2,HK5.o,fun t ht h=>creO_oth (HO1.o t ht h)⟩
   by_cases q2:kd=2
   ·subst q2;have HC:=aAc (HD3.o.insert HJ.o.1 z.nm HZ3.o.rw_ HZ3.o.rp);go_wp2_with fail;refine HC.o.mono ?_;rintro e w5 ⟨rfl,hd5,hk5⟩;have HD5:=aAc hd5;have HK5:=aAc (HK2.o.trans hk5);clear hd5 hk5 HC HK2 k0 k1 k2 k3 k4 k5 k6 k7 k8;go_wp2;go_roundg (gk-1)
    case measure=>(have:=HJM.o;omega)
    case rel=>exact ⟨j+1,_,(by have:=HJM.o;omega),rfl,HD5.o.more HJ.o.2,HK5.o,fun t ht h=>insO_oth (HO1.o t ht h) (HZN.o t ht)⟩
   by_cases q3:kd=3
   ·subst q3;have HC:=aAc (HD3.o.update HJ.o.1 z.nm HZ3.o.rw_ HZ3.o.rp);go_wp2_with fail;refine HC.o.mono ?_;rintro e w5 ⟨rfl,hd5,hk5⟩;have HD5:=aAc hd5;have HK5:=aAc (HK2.o.trans hk5);clear hd5 hk5 HC HK2 k0 k1 k2 k3 k4 k5 k6 k7 k8;go_wp2;go_roundg (gk-1)
    case measure=>(have:=HJM.o;omega)
    case rel=>exact ⟨j+1,_,(by have:=HJM.o;omega),rfl,HD5.o.more HJ.o.2,HK5.o,fun t ht h=>updO_oth (HO1.o t ht h) (HZN.o t ht)⟩
   by_cases q4:kd=4
   ·subst q4;have HC:=aAc (HD3.o.delete HJ.o.1 z.nm HZ3.o.key);go_wp2_with fail;refine HC.o.mono ?_;rintro e w5 ⟨rfl,hd5,hk5⟩;have HD5:=aAc hd5;have HK5:=aAc (HK2.o.trans hk5);clear hd5 hk5 HC HK2 k0 k1 k2 k3 k4 k5 k6 k7 k8;go_wp2;go_roundg (gk-1)
    case measure=>(have:=HJM.o;omega)
    case rel=>exact ⟨j+1,_,(by have:=HJM.o;omega),rfl,HD5.o.more HJ.o.2,HK5.o,fun t ht h=>delO_oth (HO1.o t ht h) (HZN.o t ht)⟩
   clear k1 k2 k3 k4 k5 k6 k7 k8;go_wp2;go_roundg (gk-1)
   case measure=>(have:=HJM.o;omega)
   case rel=>exact ⟨j+1,_,(by have:=HJM.o;omega),rfl,HD3.o.more (by have:=HJ.o.2;omega),HK2.o,HO1.o⟩
  ·obtain rfl:j=M:=by omega
   have HD2:Hid (TbF F B p q g ls db W w0 (N+8*most) T' wr):=HD1.o.more (by have:=HM.o;omega);clear HD1;by_cases hn:n<=most
   ·have x1:¬ (j:Int)<(n:Int):=by have:=HM.o;omega
    go_wp2;go_end0;exact ⟨rfl,T',HD2.o,HK1.o,HO1.o⟩
   ·have x1:(j:Int)<(n:Int):=by have:=HM.o;omega
    have x2:¬ (j:Int)<(most:Int):=by have:=HM.o;omega
    go_wp2;go_end0;exact ⟨rfl,T',HD2.o,HK1.o,HO1.o⟩
theorem aGm {a':Option Addr} {l:List (List Val)} (h:RWs w a n c l) (h':RWs w a' n k l) (hn:n<=1000) (hr:∀ r∈l,r.length<=1000) :
  Calls Tryz.prog 29 #[.slice a n c,.slice a' n k] w fun e w'=>e=.returned (.bool true)/\Below w.heap.size w w':=by
 obtain ⟨es,h1,h2,h3⟩:=h;obtain ⟨es',h1',h2',h3'⟩:=h';have hc9:(n:Int)<=9223372036854775807:=by omega
 have hnn:((n:Int) != (n:Int))=false:=by simp
 have H1:=aAc h1;have H2:=aAc h2;have H3:=aAc h3;have H1':=aAc h1';have H2':=aAc h2';have H3':=aAc h3';have HR:=aAc hr;clear h1 h2 h3 h1' h2' h3' hr;go_enter Tryz.func29,Tryz.ntmps29;go_wp2_with fail;go_loopg [5] n (fun gh s5 wx=>∃ j:Nat,j+gh=n/\s5=.int .i64 (j:Int)/\Below w.heap.size w wx)
 case atStart=>exact ⟨0,by omega,rfl,Below.refl _ _⟩
 case round =>
  obtain ⟨j,hj,rfl,hbr⟩:=hrel;have HBR:=aAc hbr;clear hbr;by_cases hjn:j<n
  ·have xj:(j:Int)<(n:Int):=by omega
   have x0:(0:Int)<=(j:Int):=by omega
   obtain ⟨e1,he1⟩:∃ e,es[j]?=some e:=⟨_,gE (by rw [H1.o.hl];exact hjn)⟩;obtain ⟨e2,he2⟩:∃ e,es'[j]?=some e:=⟨_,gE (by rw [H1'.out.hl];exact hjn)⟩;obtain ⟨r,hr1⟩:∃ r,l[j]?=some r:=⟨_,gE (by rw [<-H2.o,H1.o.hl];exact hjn)⟩;obtain ⟨b,o,q1,hb,hcs⟩:=H1.o.pl (by omega);obtain ⟨b',o',q1',hb',hcs'⟩:=H1'.out.pl (by omega);subst q1 q1';have c1:wr.cell? ⟨b,o+j,none⟩=some (.slice e1.1 e1.2.1 e1.2.2):=(HBR.o.cell (p:=⟨b,o+j,none⟩) hb).trans (by have:=hcs j e1 he1 0 (by omega);rw [Nat.mul_one,Nat.add_zero] at this;exact this);have c2:wr.cell? ⟨b',o'+j,none⟩=some (.slice e2.1 e2.2.1 e2.2.2):=(HBR.o.cell (p:=⟨b',o'+j,none⟩) hb').trans (by have:=hcs' j e2 he2 0 (by omega);rw [Nat.mul_one,Nat.add_zero] at this;exact this);have HBD:Hid (Below w.heap.size w wr.drew):=HBR.o.drew;have HLT:Hid (b<wr.drew.heap.size/\b'<wr.drew.heap.size):=⟨Nat.lt_of_lt_of_le hb HBD.o.size,Nat.lt_of_lt_of_le hb' HBD.o.size⟩;have HX0:Hid ((fun wx:World=>wx.cell? ⟨b,o+j,none⟩=some (.slice e1.1 e1.2.1 e1.2.2)/\wx.cell? ⟨b',o'+j,none⟩=some (.slice e2.1 e2.2.1 e2.2.2)) wr.drew):=⟨c1,c2⟩;have HS1:Hid (SVK fV 3 wr.drew e1.1 e1.2.1 e1.2.2 r):=(H3.o j e1 r he1 hr1).later HBD.o;have HS2:Hid (SVK fV 3 wr.drew e2.1 e2.2.1 e2.2.2 r):=(H3'.out j e2 r he2 hr1).later HBD.o;have HCT:Hid (Calls Tryz.prog 12 #[.slice e1.1 e1.2.1 e1.2.2,.slice e2.1 e2.2.1 e2.2.2] wr.drew fun e w'=>e=.returned (.bool true)/\Below wr.drew.heap.size wr.drew w'):=(refsame2_any HS1.o HS2.o (by rw [<-HS1.o.hl];exact HR.o r (mG hr1))).mono fun e w' hh=>⟨hh.1.trans (by rw [decide_eq_true rfl]),hh.2⟩
   clear c1 c2 hcs hcs' he1 he2 hr1 hb hb' HS1 HS2;go_upto_region 6 with fail;refine wp_region_noPanic ?_;refine wp_region_held_drew (S:=fun wx=>wx.cell? ⟨b,o+j,none⟩=some (.slice e1.1 e1.2.1 e1.2.2)/\wx.cell? ⟨b',o'+j,none⟩=some (.slice e2.1 e2.2.1 e2.2.2)) (by kernel_rfl) HX0.o (fun hHeld=>?_);generalize wr.drew=wd at *
   refine aAb 0 17 ?_;refine aAb 1 18 ?_;refine aAb 2 19 ?_;refine aAb 3 20 ?_;refine aAb 4 21 ?_;refine aAb 5 22 ?_;refine aAb 6 23 ?_;refine aAb 7 24 ?_;refine aAf 8 ?_;intro K hK;go_simp;refine HCT.o.mono ?_;rintro e w9 ⟨rfl,hb9⟩;have HB9:Hid (Below w.heap.size w w9):=HBD.o.trans (hb9.mono HBD.o.size);have HC9:Hid ((fun wx:World=>wx.cell? ⟨b,o+j,none⟩=some (.slice e1.1 e1.2.1 e1.2.2)/\wx.cell? ⟨b',o'+j,none⟩=some (.slice e2.1 e2.2.1 e2.2.2)) w9):=⟨(hb9.cell HLT.o.1).trans HX0.o.1,(hb9.cell HLT.o.2).trans HX0.o.2⟩;clear hb9 hHeld;refine hK.out _ _ HC9.o (fun hHeld=>?_);clear hK K
   try simp only [Act.put,siT,scZ,scS]
   refine aAb 9 26 ?_;refine wpAnyH_done (by kernel_rfl) ?_ _;refine NoPanic.normal ?_;clear hHeld;go_wp2;go_roundg (gk-1)
   case measure=>omega
   case rel=>exact ⟨j+1,by omega,rfl,HB9.o⟩
  ·have ej:j=n:=by omega
   subst ej;have xj:¬ (j:Int)<(j:Int):=by omega
   go_wp2;go_ret;exact ⟨rfl,HBR.o⟩
theorem TbD.more [Gd] {M:Nat} (h:TbD B p q g ls db W w0 N T w) (hm:N<=M):TbD B p q g ls db W w0 M T w:=by
 obtain ⟨v,cs,h1,h2,h3⟩:=h;exact ⟨v,cs,h1,h2,by omega⟩
theorem TbD.names [Gd] (h:TbD B p q g ls db W w0 N T w) (hN:N<=990) :
  Calls Tryz.prog 14 #[.pointer (some ⟨db,0,none⟩)] w fun e w'=>∃ a c nms,e=.returned (.tuple #[.slice a T.length c,.int .i64 0])/\SVK fN 1 w' a T.length c nms/\(∀ nm∈nms,∃ i t,tAt T nm=some i/\T[i]?=some t/\t.s.nm=nm)/\Below w.heap.size w w'/\∀ ad,a=some ad->w.heap.size<=ad.block:=by
 obtain ⟨v,cs,h1,h2,h3⟩:=h;refine (tnames_ok h1 h2 (by omega)).mono ?_;rintro e w' ⟨a,c,e1,e2,e3,e4⟩;refine ⟨a,c,_,e1,e2,fun nm hnm=>?_,e3,e4⟩;obtain ⟨x,hx,rfl⟩:=List.mem_map.1 hnm;obtain ⟨i,t,hi,rfl⟩:=(h2.l0 x).1 hx;have e:str (slK t.s.nm)=t.s.nm:=aHq _;refine ⟨i,t,?_,hi,e.symm⟩;show tAt T (str (slK t.s.nm))=some i;rw [e];exact h2.tAt hi
def BlkOf (a:Option Addr) (n i:Nat):Prop:=0<n/\∃ ad,a=some ad/\ad.block=i
theorem SVK.kp {α:Type} {f:α->List Value} {l:List α} (h:SVK f k w a n c l) (hk:∀ i,BlkOf a n i->w'.heap[i]?=w.heap[i]?):SVK f k w' a n c l:=by
 refine ⟨h.hl,h.hc,h.hm,h.hn,fun h0=>?_⟩;obtain ⟨b,o,e1,e2,e3⟩:=h.pl h0;have h9:=hk b ⟨h0,_,e1,rfl⟩;rw [Array.getElem?_eq_getElem e2] at h9;exact ⟨b,o,e1,(lO h9),fun i x hx t ht=>(World.cell?_of_block (hk b ⟨h0,_,e1,rfl⟩)).trans (e3 i x hx t ht)⟩
theorem SVK.blt {α:Type} {f:α->List Value} {l:List α} (h:SVK f k w a n c l) (hi:BlkOf a n i):i<w.heap.size:=by
 obtain ⟨h0,ad,h1,h2⟩:=hi;obtain ⟨b,o,e1,e2,_⟩:=h.pl h0;rw [e1] at h1;cases h1;rw [<-h2];exact e2
structure RWx (w:World) (a:Option Addr) (n c:Nat) (es:List SEt) (l:List (List Val)):Prop where
 s:SVK fS 1 w a n c es
 ll:es.length=l.length
 r:RWv w es l
def RwF (a:Option Addr) (n:Nat) (es:List SEt) (i:Nat):Prop:=BlkOf a n i\/∃ e∈es,BlkOf e.1 e.2.1 i
section
variable {w w':World} {a:Option Addr} {n c B:Nat} {es:List SEt} {l:List (List Val)}
theorem RWx.rws (h:RWx w a n c es l):RWs w a n c l:=⟨es,h.s,h.ll,h.r⟩
theorem RWx.kp (h:RWx w a n c es l) (hk:∀ i,RwF a n es i->w'.heap[i]?=w.heap[i]?):RWx w' a n c es l :=
 ⟨h.s.kp fun i hi=>hk i (Or.inl hi),h.ll,fun j e r h1 h2=>(h.r j e r h1 h2).kp fun i hi=>hk i (Or.inr ⟨e,mG h1,hi⟩)⟩
theorem RWx.later (h:RWx w a n c es l) (hb:Below w.heap.size w w'):RWx w' a n c es l:=⟨h.s.later hb,h.ll,h.r.later hb⟩
theorem RWn.x (h:RWn B w a n c l):∃ es,RWx w a n c es l/\∀ i,RwF a n es i->B<=i/\i<w.heap.size:=by
 obtain ⟨es,h1,h2,h3,h4,h5⟩:=h;refine ⟨es,⟨h1,h2,h3⟩,fun i hi=>?_⟩;rcases hi with hi | ⟨e,he,hi⟩
 ·have q:=h1.blt hi;obtain ⟨_,ad,e1,e2⟩:=hi;exact ⟨by rw [<-e2];exact h4 ad e1,q⟩
 ·obtain ⟨j,hj⟩:=List.mem_iff_getElem?.1 he;have hl:=(lL hj);obtain ⟨r,hr⟩:∃ r,l[j]?=some r:=⟨_,gE (by omega)⟩;have q:=(h3 j e r hj hr).blt hi;obtain ⟨_,ad,e1,e2⟩:=hi;exact ⟨by rw [<-e2];exact h5 e he ad e1,q⟩
end
theorem TbF.find [Gd] {F:Nat->Prop} {t:Tbl} (h:TbF F B p q g ls db W w0 N T w) (ht:t∈T):∃ i,tAt T t.s.nm=some i/\T[i]?=some t:=by
 obtain ⟨cs,I⟩:=h.inv;obtain ⟨i,hi⟩:=List.mem_iff_getElem?.1 ht;exact ⟨i,I.tAt hi,hi⟩
theorem TbF.rows3 [Gd] {F:Nat->Prop} {t:Tbl} (h:TbF F B p q g ls db W w0 N T w) (ht:t∈T):t.rows.length<=64/\∀ r∈t.rows,r.length<=1000:=by
 obtain ⟨cs,I⟩:=h.inv;exact ⟨I.cnt t ht,fun r hr=>by rw [(I.row t ht r hr).len];have:=(Sch.c3 (I.ok t ht)).2;omega⟩
theorem one_op {a:Option Addr} {ys:List OpV} {y:OpV} (h:SVK fO 17 w (some ⟨b,o,none⟩) n c ys) (hj:ys[j]?=some y):SVK fO 17 w (some ⟨b,o+j*17,none⟩) 1 (c-j) [y]:=by
 have hl:=(lL hj);have h1:=h.hl;have h2:=h.hc;refine ⟨rfl,by omega,by have:=h.hm;omega,(fun q=>by cases q),fun _=>?_⟩;obtain ⟨b',o',e1,e2,e3⟩:=h.pl (by omega);cases e1;refine ⟨b,o+j*17,rfl,e2,fun i x hx t ht=>?_⟩;have hi:=(lL hx);simp only [List.length_singleton] at hi;obtain rfl:i=0:=by omega
 obtain rfl:y=x:=by simpa using hx
 rw [Nat.zero_mul,Nat.add_zero];exact e3 j y hj t ht
theorem ba_eqL {a b:ByteArray} (h:a≠b):(a.toList == b.toList)=false:=by rw [ba_beq];exact decide_eq_false h
theorem aHp (a:Option Addr) (n c:Nat) (xs:List OpV) (b:Option Addr) (m d:Nat) (ys:List OpV) (w:World) (hx:SVK fO 17 w a n c xs) (px:∀ y∈xs,OpP w y) (hy:SVK fO 17 w b m d ys) (py:∀ y∈ys,OpP w y):Calls Tryz.prog 7 #[.slice a n c,.slice b m d] w fun e w'=>e=.returned (.bool true)/\Below w.heap.size w w':=by
 letI:Gd:=⟨fun _=>False⟩;have HNW:=zH (lnew_ok w (fun _ h=>False.elim h));obtain ⟨B,hB⟩:∃ B,w.heap.size=B:=⟨_,rfl⟩;have HBB:=aAc hB;rw [hB] at HNW ⊢;have HX:=aAc hx;have HPX:=aAc px;have HY:=aAc hy;have HPY:=aAc py;have xd:(m:Int)<=9223372036854775807:=by have:=hy.hc;have:=hy.hm;omega
 have xd2:(d:Int)<=9223372036854775807:=by have:=hy.hm;omega
 have xmd:(m:Int)<=(d:Int):=by have:=hy.hc;omega
 clear hB hx px hy py;go_enter Tryz.func7,Tryz.ntmps7;go_wp2_with fail;refine HNW.o.mono ?_;rintro e w1 ⟨p,q,g,ls,db,w0,rfl,hd1,hb1⟩;have HD1:Hid (TbF (fun _=>False) w.heap.size p q g ls db w w0 0 [] w1):=TbD.tf0 (by rw [HBB.o];exact ⟨_,_,hd1,Inv.nil,nR _⟩);clear hd1 hb1 HNW;have HR1:=aAc (lrun_ok (most:=25) HD1.o (by omega) HX.o HPX.o);go_wp2_with fail;refine HR1.o.mono ?_;rintro e w2 ⟨rfl,T,hd2,_,_⟩;have HD2:=aAc hd2.td;have HNM:=aAc (hd2.td.names (by omega));clear hd2 HD1 HR1;go_wp2_with fail;refine HNM.o.mono ?_;rintro e w3 ⟨na,nc,nms,rfl,hsn,hnm,hb3,hfr⟩;have HD3:=aAc (HD2.o.later hb3);have HSN:=aAc hsn;have HNS:=aAc hnm;have HFR:=aAc hfr;have HB3:=aAc hb3;obtain ⟨k,hk⟩:∃ k,T.length=k:=⟨_,rfl⟩;have HK:=aAc hk;rw [hk] at HSN;rw [hk];have xk:(k:Int)<=9223372036854775807:=by have:=HSN.o.hc;have:=HSN.o.hm;omega
 clear hsn hnm hb3 hfr hk HNM;have HT:=aAc told15;by_cases h0:k=0
 ·subst h0;go_wp2_with fail;refine (HT.o w3).mono ?_;rintro e w4 ⟨rfl,hb4⟩;have HE:Hid (Below B w w4):=by have:=(HD3.o.later hb4).bel;rw [HBB.o] at this;exact this
  clear hb4 HT;go_wp2;go_ret;exact ⟨rfl,HE.o⟩
 ·obtain ⟨nb,no,ena,hnb,hnc⟩:=HSN.o.pl (by omega);obtain ⟨nm,hn0⟩:∃ nm,nms[0]?=some nm:=⟨_,gE (by rw [HSN.o.hl];omega)⟩;subst ena;have n0:w3.cell? ⟨nb,no,none⟩=some (.string nm):=by have:=hnc 0 nm hn0 0 (by omega);exact this
  obtain ⟨i,t,hti,hTi,htn⟩:=HNS.o nm (mG hn0);have HTM:Hid (t∈T):=at_mem hTi;have HTN:=aAc htn;have xk0:(0:Int)<(k:Int):=by omega
  have xk1:((k:Int) == 0)=false:=by simp;omega
  have HNB:Hid (nb<w3.heap.size):=hnb;have HN0:=aAc n0;have HKP:Hid (0<k):=by show 0<k;omega
  have HW1:=aAc (lwalk_ok HD3.o (by omega) hti hTi);clear hnb hnc hn0 hti hTi htn h0;obtain ⟨R,hR⟩:∃ R,t.rows=R:=⟨_,rfl⟩;have HRR:=aAc hR;obtain ⟨len,hlen⟩:∃ n,R.length=n:=⟨_,rfl⟩;rw [hR,hlen] at HW1;have HLEN:=aAc hlen;clear hR hlen;go_wp2_with fail;refine HW1.o.mono ?_;rintro e w4 ⟨⟨wa,wc,rfl,hrn⟩,hb4⟩;obtain ⟨es,hrx,hfx⟩:=hrn.x;have HRX:=aAc hrx;have HF4:Hid (TbF (fun i=>BlkOf (some ⟨nb,no,none⟩) k i\/RwF wa len es i) w.heap.size p q g ls db w w0 200 T w4):=by
   refine TbD.tf HD2.o (HB3.o.trans (hb4.mono HB3.o.size)) fun i hi=>?_
   rcases hi with hi | hi
   ·have h7:=(HSN.o.later hb4).blt hi;obtain ⟨_,ad,e1,e2⟩:=hi;exact ⟨by rw [<-e2];exact HFR.o ad e1,h7⟩
   ·have:=hfx i hi;have:=HB3.o.size;omega
  have n4:w4.cell? ⟨nb,no,none⟩=some (.string nm):=(hb4.cell HNB.o).trans n0;have HN4:=aAc n4;have HB4:=aAc hb4;clear hrn hrx hfx hb4 n0 n4 HW1 HN0 HD2 HD3;go_wp2_with fail;obtain ⟨M,hM⟩:∃ M,M=min m 20:=⟨_,rfl⟩;have HM:=aAc hM;clear hM;go_loopg [11] M (fun gh s11 wx=>∃ (j:Nat) (T':List Tbl),j+gh=M/\s11=.int .i64 (j:Int)/\t∈T'/\TbF (fun i=>BlkOf (some ⟨nb,no,none⟩) k i\/RwF wa len es i) w.heap.size p q g ls db w w0 (200+8*j) T' wx/\KpF (fun i=>BlkOf (some ⟨nb,no,none⟩) k i\/RwF wa len es i) w4 wx)
  case atStart=>exact ⟨0,T,by omega,rfl,HTM.o,HF4.o,fun _ _=>rfl⟩
  case round =>
   obtain ⟨j,T',hj,rfl,htm,hd5,hk5⟩:=hrel;have HT5:=aAc htm;have HD5:=aAc hd5;have HK5:=aAc hk5;have n5:wr.cell? ⟨nb,no,none⟩=some (.string nm):=(World.cell?_of_block (hk5 nb (Or.inl ⟨HKP.o,_,rfl,rfl⟩))).trans HN4.o;clear htm hd5 hk5;by_cases hjm:j<M
   ·have x1:(j:Int)<(m:Int):=by have:=HM.o;omega
    have x2:(j:Int)<20:=by have:=HM.o;omega
    have x0:(0:Int)<=(j:Int):=by omega
    have x3:(j:Int)+1<=(d:Int):=by omega
    have x4:(j:Int)<=(j:Int)+1:=by omega
    have hw1:IntKind.i64.wrap ((j:Int)+1)=(j:Int)+1:=by rw [IntKind.wrap_i64];omega
    have HJM:Hid (j<m/\j<20/\j<M):=by have:=HM.o;exact ⟨by omega,by omega,hjm⟩
    obtain ⟨y,hyj⟩:∃ y,ys[j]?=some y:=⟨_,gE (by rw [HY.o.hl];omega)⟩;obtain ⟨mb,mo,eb,hmb,hmc⟩:=HY.o.pl (by omega);subst eb;have hbw:Below w.heap.size w wr:=HD5.o.bel;have m1:wr.cell? ⟨mb,mo+j*17+1,none⟩=some (.string y.nm):=(hbw.cell hmb).trans (hmc j y hyj 1 (by omega));have HOY:Hid (OpP w y):=HPY.o y (mG hyj);have HS1:=aAc (one_op (a:=none) HY.o hyj);have HJ9:=aAc hj;clear hmb hmc hyj hbw hjm hj;by_cases hne:y.nm=nm
    ·rw [hne] at m1;have HNE:=aAc hne;clear hne;go_wp2_with fail;go_quiet (fail);go_wp2;go_roundg (M-(j+1))
     case measure=>(have:=HJ9.o;have:=HJM.o.2.2;omega)
     case rel=>exact ⟨j+1,T',by have:=HJM.o.2.2;omega,rfl,HT5.o,(HD5.o.more (by omega)).later (aB7 (Below.refl _ _) _),HK5.o.trans (HD5.o.kp (aB7 (Below.refl _ _) _))⟩
    ·have f1:(y.nm.toList == nm.toList)=false:=ba_eqL hne;have f2:(y.nm != nm)=true:=ba_ne hne;have HNE:Hid (∀ z∈[y],z.nm≠t.s.nm):=fun z hz=>by rw [List.mem_singleton.1 hz,HTN.o];exact hne
     clear hne;go_wp2_with fail;go_quiet (fail);have HR6:=aAc (fun wx (hb:Below wr.heap.size wr wx)=>lrun_ok (most:=1) (N:=200+8*j) (HD5.o.later hb) (by have:=HJM.o;omega) HS1.o (fun z hz=>by rw [List.mem_singleton.1 hz];exact HOY.o));go_wp2_with fail;refine (HR6.o _ (aB7 (Below.refl _ _) _)).mono ?_;rintro e w6 ⟨rfl,T2,hd6,hk6,ho6⟩;have HD6:=aAc (hd6.more (M:=200+8*(j+1)) (by omega));have HK6:=aAc ((HK5.o.trans (HD5.o.kp (aB7 (Below.refl _ _) _))).trans hk6);have HT6:=aAc (ho6 t HNE.o HT5.o);clear hd6 hk6 ho6 HR6;go_wp2;go_roundg (M-(j+1))
     case measure=>(have:=HJ9.o;have:=HJM.o.2.2;omega)
     case rel=>exact ⟨j+1,T2,by have:=HJM.o.2.2;omega,rfl,HT6.o,HD6.o,HK6.o⟩
   ·have ej:j=M:=by omega
    subst ej;obtain ⟨i2,hti,hTi⟩:=HD5.o.find HT5.o;rw [HTN.o] at hti;have HW2:=aAc (lwalk_ok (HD5.o.td.more (M:=900) (by have:=HM.o;omega)) (by omega) hti hTi);have HR3:=aAc (HD5.o.rows3 HT5.o);rw [HRR.o] at HW2 HR3;rw [HLEN.o] at HW2 HR3;clear hti hTi hjm hj;by_cases hn:m<=20
    ·have x1:¬ (j:Int)<(m:Int):=by have:=HM.o;omega
     go_wp2_with fail;refine HW2.o.mono ?_;rintro e w6 ⟨⟨va,vc,rfl,hrn⟩,hb6⟩;have HD6:=aAc (HD5.o.later hb6);have HRN:=aAc hrn;have HR6:=aAc (HRX.o.kp (w':=w6) fun i hi=>((HD5.o.kp hb6) i (Or.inr hi)).trans (HK5.o i (Or.inr hi)));clear hrn hb6 HW2;go_wp2_with fail;refine (HT.o w6).mono ?_;rintro e w7 ⟨rfl,hb7⟩;have HD7:=aAc (HD6.o.later hb7);have HSM:=aAc (aGm (HR6.o.later hb7).rws (HRN.o.later hb7).rws (by have:=HR3.o.1;omega) HR3.o.2);clear hb7;go_wp2_with fail;refine HSM.o.mono ?_;rintro e w8 ⟨rfl,hb8⟩;have HE:Hid (Below B w w8):=by have:=(HD7.o.later hb8).bel;rw [HBB.o] at this;exact this
     clear hb8 HSM;go_wp2;go_ret;exact ⟨rfl,HE.o⟩
    ·have x1:(j:Int)<(m:Int):=by have:=HM.o;omega
     have x2:¬ (j:Int)<20:=by have:=HM.o;omega
     go_wp2_with fail;refine HW2.o.mono ?_;rintro e w6 ⟨⟨va,vc,rfl,hrn⟩,hb6⟩;have HD6:=aAc (HD5.o.later hb6);have HRN:=aAc hrn;have HR6:=aAc (HRX.o.kp (w':=w6) fun i hi=>((HD5.o.kp hb6) i (Or.inr hi)).trans (HK5.o i (Or.inr hi)));clear hrn hb6 HW2;go_wp2_with fail;refine (HT.o w6).mono ?_;rintro e w7 ⟨rfl,hb7⟩;have HD7:=aAc (HD6.o.later hb7);have HSM:=aAc (aGm (HR6.o.later hb7).rws (HRN.o.later hb7).rws (by have:=HR3.o.1;omega) HR3.o.2);clear hb7;go_wp2_with fail;refine HSM.o.mono ?_;rintro e w8 ⟨rfl,hb8⟩;have HE:Hid (Below B w w8):=by have:=(HD7.o.later hb8).bel;rw [HBB.o] at this;exact this
     clear hb8 HSM;go_wp2;go_ret;exact ⟨rfl,HE.o⟩
end Go.Proofs.YtdpdjpkmndnaaaaGreat
