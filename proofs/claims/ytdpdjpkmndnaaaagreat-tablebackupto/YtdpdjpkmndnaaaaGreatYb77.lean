import Derived.Test.YtdpdjpkmndnaaaaGreatYb75
import Derived.Test.YtdpdjpkmndnaaaaGreatYb70
set_option maxRecDepth 100000
set_option maxHeartbeats 16000000
set_option linter.unusedVariables false
namespace Go.Proofs.YtdpdjpkmndnaaaaGreat
open Go.RowKit _root_.Go.Proofs.Tryz
variable {B B1 N c cc cl db g i k ls most n p pc q u xc xl:Nat} {F cs:List Ch} {T:List Tbl} {W w w' w0 w2:World} {a ca pa xa:Option Addr} {b0 b1 v:Value} {cur:Array Value} {fz:Nat×Nat} {l:List It} {nm:ByteArray} {rows:List (List Val)} {t:TypeId} {xs:List Nat}
def OldR (t:Tbl) (x:Val) (ge:Int) (q1:Option Addr) (q2 q3:Nat) (q4:Option Addr) (q5 q6:Nat) (w:World):Prop :=
 (rowAt t.rows x=none->ge=4)/\∀ o,rowAt t.rows x=some o->ge=0/\q2=o.length/\q5=o.length/\RHd w q1 q3 q4 q6 o
section
variable {t:Tbl} {x:Val} {ge:Int} {q1 q4:Option Addr} {q2 q3 q5 q6:Nat} {w w':World}
theorem OldR.later (h:OldR t x ge q1 q2 q3 q4 q5 q6 w) (hb:Below w.heap.size w w'):OldR t x ge q1 q2 q3 q4 q5 q6 w' :=
 ⟨h.1,fun o ho=>⟨(h.2 o ho).1,(h.2 o ho).2.1,(h.2 o ho).2.2.1,(h.2 o ho).2.2.2.later hb⟩⟩
theorem OldR.set {Q:Nat} (h:OldR t x ge q1 q2 q3 q4 q5 q6 w) (hQ:w.heap[Q]?=some (.cells #[.slice none 0 0,.slice none 0 0] 119 (0,0))):OldR t x ge q1 q2 q3 q4 q5 q6 ((w.setCell ⟨Q,0,none⟩ b0).setCell ⟨Q,1,none⟩ b1) :=
 ⟨h.1,fun o ho=>⟨(h.2 o ho).1,(h.2 o ho).2.1,(h.2 o ho).2.2.1,(h.2 o ho).2.2.2.oth hQ (by decide) aFa (aC6 (kBh 0 w) (kAm _)) (fun _ hb=>aBo hb)⟩⟩
end
theorem DFr.keep {v':Value} {c:Array Value} (d:DD B db ls v cs w) (f:DFr B db v w v' w') (hi:w.heap[i]?=some (.cells c t fz)) (h1:t≠124) (h2:t≠164):w'.heap[i]?=some (.cells c t fz):=by
 rw [f.blk i (lO hi) ?_ ?_,hi]
 ·intro e;have h3:=d.blk;rw [<-e,hi] at h3;simp only [oI,cI] at h3;exact h1 h3.2.1
 ·intro q;obtain ⟨_,_,cur,h3⟩:=d.row.blk q;rw [hi] at h3;simp only [oI,cI] at h3;exact h2 h3.2.1
theorem aCh {r:List Val} {t:Tbl} (h1:tAt T nm=some i) (h2:T[i]?=some t):updO T nm r=if t.s.fits r≠0 then ⟨T,[],t.s.fits r⟩ else match rowAt t.rows (fst r) with
 | none=>⟨T,[],4⟩
 | some o=>if clash t.s t.rows r then ⟨T,[],64⟩ else ⟨bA5 T i t (bAy r (cutV (fst r) t.rows)),bA2 i t.s o++bAp i t.s r,0⟩:=by
 unfold updO;rw [h1];dsimp only;rw [h2];rfl
theorem aFg {r:List Val} (h1:tAt T nm=none):updO T nm r=⟨T,[],60⟩:=by unfold updO;rw [h1]
theorem aJa (w:World) (a b:Obj):Below w.heap.size w ((w.alloc a).alloc b):=(aAg w a).trans ((aAg _ b).mono (aAg w a).size)
theorem aJb [Gd] {r:List Val} (h:DR B p q g ls db v cs W w0 w) (I:Inv cs T) (hl:cs.length<=990) (nm:ByteArray) (hp:SVK fV 3 w pa n pc r) (hok:∀ x∈r,x.ok/\x.2.2.size<=1048576) :
  Calls prog 28 #[.pointer (some ⟨db,0,none⟩),.string nm,.slice pa n pc] w fun e w'=>OpR B p q g ls db v cs W w0 w (updO T nm r) e w':=by
 have HD:=aAc h;have HI:=aAc I;have HLN:Hid (cs.length<=1000):=by show _<=_;omega
 have HLM:=aAc hl;have HNL:=aAc hp.hl;have HFI:=aAc (aJn h I (by omega) nm hp hok);obtain ⟨uo,huo⟩:∃ uo,updO T nm r=uo:=⟨_,rfl⟩;have HUU:=aAc huo;rw [huo];clear h I hl hp huo;have HOKS:=aAc hok;clear hok;go_enter func28,ntmps28;go_wp2_with fail;refine HFI.o.mono ?_;rintro e w2 ⟨hfi,hb2⟩;have HB2:=aAc hb2;have HFR:=aAc hfi;clear hfi hb2 HFI
 cases hta:tAt T nm with
 | none =>
  have he:=HFR.o.1 hta;unfold zT zR at he;subst he;have HTA:=aAc hta;have hbx:=aJa w2 (.cells #[.pointer none,.int .u8 0,.string ⟨#[]⟩,.slice none 0 0,.slice none 0 0] 101) (.cells #[.slice none 0 0,.slice none 0 0] 119);have HB3:=aAc (HB2.o.trans (hbx.mono HB2.o.size));clear hbx hta HFR;go_wp2;go_ret;rw [<-HUU.o,aFg HTA.o];exact OpR.no HD.o HB3.o
 | some i =>
  obtain ⟨t,hti,htn,htm⟩:=aAy hta;subst htn;have hft:=HFR.o.2 i t hta hti;have HTA:=aAc hta;have HTI:=aAc hti;have HOK:=aAc (HI.o.ok t htm);have HIO:=aAc (HUU.o.symm.trans (aCh (r:=r) hta hti));clear hta hti htm HFR;by_cases hf0:t.s.fits r=0
  ·obtain ⟨ca,cc,xa,xc,va,vc,he,hsc,hrh⟩:=hft.2 hf0;unfold bIk at he;subst he;have HRO:Hid (RowOk t.s r):=aGs HOK.o (fun x hx=>(HOKS.o x hx).1) hf0;have HUO:=aAc (HIO.o.trans (kAb (by rw [hf0];simp)));have hx0:TRX w2.heap.size (w2.heap.size+1) (.pointer (some ⟨db,0,none⟩)) i t.s.nm ca t.s.cs.length cc xa t.s.xs.length xc (.slice pa r.length pc) va r.length vc w2 ((w2.alloc (.cells #[.pointer (some ⟨db,0,none⟩),.int .u8 (i:Int),.string t.s.nm,.slice ca t.s.cs.length cc,.slice xa t.s.xs.length xc] 101)).alloc (.cells #[.slice pa r.length pc,.slice va r.length vc] 119)):=TRX.new w2;have HX1:=aAc hx0;have HSC:=aAc hsc;have HV:=aAc hrh;have HD2:=aAc (HD.o.later HB2.o);have HFV:Hid ((fst r).ok/\(fst r).err=0/\(fst r).bytes.length<=28):=HRO.o.val (HRO.o.fmem HOK.o);have HFP:Hid (0<(fst r).bytes.length):=by
    obtain ⟨h9,_,_,h8⟩:=aCb [] HFV.o.1 HFV.o.2.1;exact kA4.2 h8
   have HF0:Hid (r[0]?=some (fst r)):=by
    show _=_;have:=HRO.o.pos HOK.o;rw [gE this];unfold fst;rw [kAa,gE this];rfl
   have hi4:i<256:=by have:=(lL HTI.o);have:=HI.o.len;omega
   have HI4:=aAc hi4;clear hft hf0 hsc hrh hx0 HIO hi4;go_upto_region 4 with fail;generalize (w2.alloc (.cells #[.pointer (some ⟨db,0,none⟩),.int .u8 (i:Int),.string t.s.nm,.slice ca t.s.cs.length cc,.slice xa t.s.xs.length xc] 101)).alloc (.cells #[.slice pa r.length pc,.slice va r.length vc] 119)=w1 at *;obtain ⟨L,hL⟩:∃ L,w2.heap.size=L:=⟨_,rfl⟩;obtain ⟨M,hM⟩:∃ M,L+1=M:=⟨_,rfl⟩;have HLL:=aAc hL;rw [hL,hM] at HX1
   try simp only [hL,hM]
   clear hL hM;go_cut [9,10] from 23 to 48 (fun s9 s10 wx=>∃ Q q1 q2 q3 q4 q5 q6 ge,s9=.int .i64 ge/\s10=.pointer (some ⟨Q,0,none⟩)/\TRX L M (.pointer (some ⟨db,0,none⟩)) i t.s.nm ca t.s.cs.length cc xa t.s.xs.length xc (.slice pa r.length pc) va r.length vc w2 wx/\wx.heap[Q]?=some (.cells #[.slice q1 q2 q3,.slice q4 q5 q6] 119 (0,0))/\OldR t (fst r) ge q1 q2 q3 q4 q5 q6 wx)
   case first =>
    have HX1:=aAc (HX1.o.next (kBh _ _).drew);have HX0:Hid ((fun wx:World=>wx.cell? ⟨L,0,none⟩=some (.pointer (some ⟨db,0,none⟩))/\wx.cell? ⟨L,1,none⟩=some (.int .u8 (i:Int))/\wx.cell? ⟨L,2,none⟩=some (.string t.s.nm)/\wx.cell? ⟨L,3,none⟩=some (.slice ca t.s.cs.length cc)/\wx.cell? ⟨L,4,none⟩=some (.slice xa t.s.xs.length xc)/\wx.cell? ⟨M,0,none⟩=some (.slice pa r.length pc)/\wx.cell? ⟨M,1,none⟩=some (.slice va r.length vc)) w1.drew):=HX1.o.sm;refine kBj ?_;refine kBi (S:=fun wx=>wx.cell? ⟨L,0,none⟩=some (.pointer (some ⟨db,0,none⟩))/\wx.cell? ⟨L,1,none⟩=some (.int .u8 (i:Int))/\wx.cell? ⟨L,2,none⟩=some (.string t.s.nm)/\wx.cell? ⟨L,3,none⟩=some (.slice ca t.s.cs.length cc)/\wx.cell? ⟨L,4,none⟩=some (.slice xa t.s.xs.length xc)/\wx.cell? ⟨M,0,none⟩=some (.slice pa r.length pc)/\wx.cell? ⟨M,1,none⟩=some (.slice va r.length vc)) (by kernel_rfl) HX0.o (fun hHeld=>?_);generalize w1.drew=w3 at *;have HX3:=HX1;refine aAb 0 24 ?_;refine aAb 1 25 ?_;refine aAo (i:=2) (j:=7) (by kernel_rfl) (by kernel_rfl) (by kernel_rfl) ?ya7 ?yb7
    case ya7 =>
     intro o ho K hK;simp only [tG,sG,zG,oI] at ho;subst ho;go_simp;refine (aEp (HV.o.later HX3.o.be).v.hvs HF0.o).mono ?_;rintro e w4 ⟨ka,kn,kc,rfl,hbs,hb⟩;have HX4:=aAc (HX3.o.next hb);have HB4:=aAc (hbs.later hb (nR _));have HKN:Hid (kn<=28/\0<kn):=by have h8:(fst r).bytes.length=kn:=hbs.hlen;have:=HFV.o.2.2;have:=HFP.o;exact ⟨by omega,by omega⟩
     clear hbs hb hHeld;refine hK.out _ _ HX4.o.sm (fun hHeld=>?_);clear hK K
     try simp only [Act.put,siT,scZ,scS]
     refine aAo (i:=3) (j:=7) (by kernel_rfl) (by kernel_rfl) (by kernel_rfl) ?ya8 ?yb8
     case ya8 =>
      intro o ho K hK;simp only [tG,sG,zG,oI] at ho;subst ho;go_simp;refine (aGj (HD2.o.later HX4.o.be) HI.o HLN.o HTI.o HFV.o.1 HFV.o.2.1 (HSC.o.later HX4.o.be) HB4.o (by have:=HKN.o;omega) HKN.o.2).mono ?_;rintro e w5 ⟨hg,hb⟩;have HX5:=aAc (HX4.o.next hb);have hee:∃ (ra:Option Addr×Nat×Nat×Option Addr×Nat×Nat) (ge:Int),e=.returned (.tuple #[.agg #[.slice ra.1 ra.2.1 ra.2.2.1,.slice ra.2.2.2.1 ra.2.2.2.2.1 ra.2.2.2.2.2],.int .i64 ge])/\OldR t (fst r) ge ra.1 ra.2.1 ra.2.2.1 ra.2.2.2.1 ra.2.2.2.2.1 ra.2.2.2.2.2 w5:=by
       cases hra:rowAt t.rows (fst r) with
       | none=>exact ⟨(none,0,0,none,0,0),4,hg.1 hra,fun _=>rfl,fun o ho=>by rw [hra] at ho;cases ho⟩
       | some o =>
        obtain ⟨pa,pc,va,vc,he,hh⟩:=hg.2 o hra;exact ⟨(pa,o.length,pc,va,o.length,vc),0,he,fun q=>by (rw [hra] at q;cases q),fun o2 ho=>by (rw [hra] at ho;cases ho;exact ⟨rfl,rfl,rfl,hh⟩)⟩
      obtain ⟨⟨q1,q2,q3,q4,q5,q6⟩,ge,rfl,ho⟩:=hee;have HO5:Hid (OldR t (fst r) ge q1 q2 q3 q4 q5 q6 w5):=ho;clear hg hb hHeld ho;dsimp only;refine hK.out _ _ HX5.o.sm (fun hHeld=>?_);clear hK K
      try simp only [Act.put,siT,scZ,scS]
      refine aAb 4 23 ?_;refine aAb 5 28 ?_;refine aAb 6 29 ?_;refine aAf 7 ?_;intro K hK;go_simp;have hbx:=aAg w5 (.cells #[.slice none 0 0,.slice none 0 0] 119);have HX6:=aAc (HX5.o.next hbx);have HQ6:Hid ((w5.alloc (.cells #[.slice none 0 0,.slice none 0 0] 119)).heap[w5.heap.size]?=some (.cells #[.slice none 0 0,.slice none 0 0] 119 (0,0))):=boxed w5 _
      skip
      have HO6:=aAc (HO5.o.later hbx);have HNE:Hid (L<w5.heap.size/\M<w5.heap.size):=⟨aAe HX5.o.t,aAe HX5.o.r⟩;clear hbx hHeld;refine hK.out _ _ HX6.o.sm (fun hHeld=>?_);generalize w5.alloc (.cells #[.slice none 0 0,.slice none 0 0] 119)=w6 at *;generalize w5.heap.size=Q at *;clear hK K
      try simp only [Act.put,siT,scZ,scS]
      refine aAf 8 ?_;intro K hK;have z0:w6.cell? ⟨Q,0,none⟩=some (.slice none 0 0):=aAa HQ6.o;have zf0:w6.frozen? ⟨Q,0,none⟩=false:=aAh HQ6.o;have z1:w6.cell? ⟨Q,1,none⟩=some (.slice none 0 0):=aAa HQ6.o;have zf1:w6.frozen? ⟨Q,1,none⟩=false:=aAh HQ6.o;go_simp;clear z0 zf0 z1 zf1 hHeld;have HXZ:=aAc (HX6.o.set2 (b0:=.slice q1 q2 q3) (b1:=.slice q4 q5 q6) (show L≠Q by have:=HNE.o;omega) (show M≠Q by have:=HNE.o;omega) (by rw [HLL.o];have:=HNE.o;omega));have HQZ:=aAc (aE5 (b0:=.slice q1 q2 q3) (b1:=.slice q4 q5 q6) HQ6.o);have HOZ:=aAc (HO6.o.set (b0:=.slice q1 q2 q3) (b1:=.slice q4 q5 q6) HQ6.o);refine hK.out _ _ HXZ.o.sm (fun hHeld=>?_);clear hK K
      try simp only [Act.put,siT,scZ,scS]
      refine aAb 9 9 ?_;refine kBn (by kernel_rfl) ?_ _;refine kBk ?_;clear hHeld;go_wp2;go_meet;exact ⟨Q,q1,q2,q3,q4,q5,q6,ge,rfl,rfl,HXZ.o,HQZ.o,HOZ.o⟩
     case yb8 =>
      intro o ho K hK;simp only [tG,sG,zG,oI] at ho;subst ho;go_simp;have hbx:=aAg w4 (.cells #[.slice none 0 0,.slice none 0 0] 119);have HX5:=aAc (HX4.o.next hbx);have HQ5:Hid ((w4.alloc (.cells #[.slice none 0 0,.slice none 0 0] 119)).heap[w4.heap.size]?=some (.cells #[.slice none 0 0,.slice none 0 0] 119 (0,0))):=boxed w4 _;have HB5:=aAc (HB4.o.later hbx (nR _))
      skip
      have HNE:Hid (L<w4.heap.size/\M<w4.heap.size):=⟨aAe HX4.o.t,aAe HX4.o.r⟩;clear hbx hHeld;refine hK.out _ _ HX5.o.sm (fun hHeld=>?_);generalize w4.alloc (.cells #[.slice none 0 0,.slice none 0 0] 119)=w5 at *;generalize w4.heap.size=Q at *;clear hK K
      try simp only [Act.put,siT,scZ,scS]
      refine aAf 3 ?_;intro K hK;go_simp;refine (aGj (HD2.o.later HX5.o.be) HI.o HLN.o HTI.o HFV.o.1 HFV.o.2.1 (HSC.o.later HX5.o.be) HB5.o (by have:=HKN.o;omega) HKN.o.2).mono ?_;rintro e w6 ⟨hg,hb⟩;have HX6:=aAc (HX5.o.next hb);have HQ6:=aAc ((hb.block Q (aAe HQ5.o)).trans HQ5.o);have hee:∃ (ra:Option Addr×Nat×Nat×Option Addr×Nat×Nat) (ge:Int),e=.returned (.tuple #[.agg #[.slice ra.1 ra.2.1 ra.2.2.1,.slice ra.2.2.2.1 ra.2.2.2.2.1 ra.2.2.2.2.2],.int .i64 ge])/\OldR t (fst r) ge ra.1 ra.2.1 ra.2.2.1 ra.2.2.2.1 ra.2.2.2.2.1 ra.2.2.2.2.2 w6:=by
       cases hra:rowAt t.rows (fst r) with
       | none=>exact ⟨(none,0,0,none,0,0),4,hg.1 hra,fun _=>rfl,fun o ho=>by rw [hra] at ho;cases ho⟩
       | some o =>
        obtain ⟨pa,pc,va,vc,he,hh⟩:=hg.2 o hra;exact ⟨(pa,o.length,pc,va,o.length,vc),0,he,fun q=>by (rw [hra] at q;cases q),fun o2 ho=>by (rw [hra] at ho;cases ho;exact ⟨rfl,rfl,rfl,hh⟩)⟩
      obtain ⟨⟨q1,q2,q3,q4,q5,q6⟩,ge,rfl,ho⟩:=hee;have HO6:Hid (OldR t (fst r) ge q1 q2 q3 q4 q5 q6 w6):=ho;clear hg hb hHeld ho;dsimp only;refine hK.out _ _ HX6.o.sm (fun hHeld=>?_);clear hK K
      try simp only [Act.put,siT,scZ,scS]
      refine aAb 4 23 ?_;refine aAb 5 28 ?_;refine aAb 6 29 ?_;refine aAf 8 ?_;intro K hK;have z0:w6.cell? ⟨Q,0,none⟩=some (.slice none 0 0):=aAa HQ6.o;have zf0:w6.frozen? ⟨Q,0,none⟩=false:=aAh HQ6.o;have z1:w6.cell? ⟨Q,1,none⟩=some (.slice none 0 0):=aAa HQ6.o;have zf1:w6.frozen? ⟨Q,1,none⟩=false:=aAh HQ6.o;go_simp;clear z0 zf0 z1 zf1 hHeld;have HXZ:=aAc (HX6.o.set2 (b0:=.slice q1 q2 q3) (b1:=.slice q4 q5 q6) (show L≠Q by have:=HNE.o;omega) (show M≠Q by have:=HNE.o;omega) (by rw [HLL.o];have:=HNE.o;omega));have HQZ:=aAc (aE5 (b0:=.slice q1 q2 q3) (b1:=.slice q4 q5 q6) HQ6.o);have HOZ:=aAc (HO6.o.set (b0:=.slice q1 q2 q3) (b1:=.slice q4 q5 q6) HQ6.o);refine hK.out _ _ HXZ.o.sm (fun hHeld=>?_);clear hK K
      try simp only [Act.put,siT,scZ,scS]
      refine aAb 9 9 ?_;refine kBn (by kernel_rfl) ?_ _;refine kBk ?_;clear hHeld;go_wp2;go_meet;exact ⟨Q,q1,q2,q3,q4,q5,q6,ge,rfl,rfl,HXZ.o,HQZ.o,HOZ.o⟩
    case yb7 =>
     intro o ho K hK;simp only [tG,sG,zG,oI] at ho;subst ho;go_simp;have hbx:=aAg w3 (.cells #[.slice none 0 0,.slice none 0 0] 119);have HX4:=aAc (HX3.o.next hbx);have HQ4:Hid ((w3.alloc (.cells #[.slice none 0 0,.slice none 0 0] 119)).heap[w3.heap.size]?=some (.cells #[.slice none 0 0,.slice none 0 0] 119 (0,0))):=boxed w3 _
     skip
     skip
     have HNE:Hid (L<w3.heap.size/\M<w3.heap.size):=⟨aAe HX3.o.t,aAe HX3.o.r⟩;clear hbx hHeld;refine hK.out _ _ HX4.o.sm (fun hHeld=>?_);generalize w3.alloc (.cells #[.slice none 0 0,.slice none 0 0] 119)=w4 at *;generalize w3.heap.size=Q at *;clear hK K
     try simp only [Act.put,siT,scZ,scS]
     refine aAf 2 ?_;intro K hK;go_simp;refine (aEp (HV.o.later HX4.o.be).v.hvs HF0.o).mono ?_;rintro e w5 ⟨ka,kn,kc,rfl,hbs,hb⟩;have HX5:=aAc (HX4.o.next hb);have HQ5:=aAc ((hb.block Q (aAe HQ4.o)).trans HQ4.o);have HB5:=aAc (hbs.later hb (nR _));have HKN:Hid (kn<=28/\0<kn):=by have h8:(fst r).bytes.length=kn:=hbs.hlen;have:=HFV.o.2.2;have:=HFP.o;exact ⟨by omega,by omega⟩
     clear hbs hb hHeld;refine hK.out _ _ HX5.o.sm (fun hHeld=>?_);clear hK K
     try simp only [Act.put,siT,scZ,scS]
     refine aAf 3 ?_;intro K hK;go_simp;refine (aGj (HD2.o.later HX5.o.be) HI.o HLN.o HTI.o HFV.o.1 HFV.o.2.1 (HSC.o.later HX5.o.be) HB5.o (by have:=HKN.o;omega) HKN.o.2).mono ?_;rintro e w6 ⟨hg,hb⟩;have HX6:=aAc (HX5.o.next hb);have HQ6:=aAc ((hb.block Q (aAe HQ5.o)).trans HQ5.o);have hee:∃ (ra:Option Addr×Nat×Nat×Option Addr×Nat×Nat) (ge:Int),e=.returned (.tuple #[.agg #[.slice ra.1 ra.2.1 ra.2.2.1,.slice ra.2.2.2.1 ra.2.2.2.2.1 ra.2.2.2.2.2],.int .i64 ge])/\OldR t (fst r) ge ra.1 ra.2.1 ra.2.2.1 ra.2.2.2.1 ra.2.2.2.2.1 ra.2.2.2.2.2 w6:=by
      cases hra:rowAt t.rows (fst r) with
      | none=>exact ⟨(none,0,0,none,0,0),4,hg.1 hra,fun _=>rfl,fun o ho=>by rw [hra] at ho;cases ho⟩
      | some o =>
       obtain ⟨pa,pc,va,vc,he,hh⟩:=hg.2 o hra;exact ⟨(pa,o.length,pc,va,o.length,vc),0,he,fun q=>by (rw [hra] at q;cases q),fun o2 ho=>by (rw [hra] at ho;cases ho;exact ⟨rfl,rfl,rfl,hh⟩)⟩
     obtain ⟨⟨q1,q2,q3,q4,q5,q6⟩,ge,rfl,ho⟩:=hee;have HO6:Hid (OldR t (fst r) ge q1 q2 q3 q4 q5 q6 w6):=ho;clear hg hb hHeld ho;dsimp only;refine hK.out _ _ HX6.o.sm (fun hHeld=>?_);clear hK K
     try simp only [Act.put,siT,scZ,scS]
     refine aAb 4 23 ?_;refine aAb 5 28 ?_;refine aAb 6 29 ?_;refine aAf 8 ?_;intro K hK;have z0:w6.cell? ⟨Q,0,none⟩=some (.slice none 0 0):=aAa HQ6.o;have zf0:w6.frozen? ⟨Q,0,none⟩=false:=aAh HQ6.o;have z1:w6.cell? ⟨Q,1,none⟩=some (.slice none 0 0):=aAa HQ6.o;have zf1:w6.frozen? ⟨Q,1,none⟩=false:=aAh HQ6.o;go_simp;clear z0 zf0 z1 zf1 hHeld;have HXZ:=aAc (HX6.o.set2 (b0:=.slice q1 q2 q3) (b1:=.slice q4 q5 q6) (show L≠Q by have:=HNE.o;omega) (show M≠Q by have:=HNE.o;omega) (by rw [HLL.o];have:=HNE.o;omega));have HQZ:=aAc (aE5 (b0:=.slice q1 q2 q3) (b1:=.slice q4 q5 q6) HQ6.o);have HOZ:=aAc (HO6.o.set (b0:=.slice q1 q2 q3) (b1:=.slice q4 q5 q6) HQ6.o);refine hK.out _ _ HXZ.o.sm (fun hHeld=>?_);clear hK K
     try simp only [Act.put,siT,scZ,scS]
     refine aAb 9 9 ?_;refine kBn (by kernel_rfl) ?_ _;refine kBk ?_;clear hHeld;go_wp2;go_meet;exact ⟨Q,q1,q2,q3,q4,q5,q6,ge,rfl,rfl,HXZ.o,HQZ.o,HOZ.o⟩
   case rest =>
    obtain ⟨Q,q1,q2,q3,q4,q5,q6,ge,rfl,rfl,hx5,hq5,ho5⟩:=hcut;have HX5:=aAc hx5;have HQ5:=aAc hq5;have HB5:=aAc (HB2.o.trans (hx5.be.mono HB2.o.size))
    cases hra:rowAt t.rows (fst r) with
    | none =>
     obtain rfl:=ho5.1 hra;have HE:Hid (uo=⟨T,[],4⟩):=by show _=_;rw [HUO.o,hra]
     clear hx5 hq5 ho5 hra HX1;go_wp2;go_ret;rw [HE.o];exact OpR.no HD.o HB5.o
    | some o =>
     obtain ⟨rfl,rfl,rfl,hh⟩:=ho5.2 o hra;have HO5:=aAc hh;have HOO:Hid (RowOk t.s o):=HI.o.row t (at_mem HTI.o) o (aBy hra).1;have HUA:Hid (uo=if clash t.s t.rows r then ⟨T,[],64⟩ else ⟨bA5 T i t (bAy r (cutV (fst r) t.rows)),bA2 i t.s o++bAp i t.s r,0⟩):=by show _=_;rw [HUO.o,hra]
     have HMS:=aAc (aId (pv:=.slice pa r.length pc) (ca:=ca) (cc:=cc) (HD2.o.later HX5.o.be) HI.o HLN.o HTI.o HRO.o (HV.o.later HX5.o.be).v.hvs (HSC.o.later HX5.o.be).x);obtain ⟨cb,hcb⟩:∃ cb,clash t.s t.rows r=cb:=⟨_,rfl⟩;rw [hcb] at HMS HUA;obtain ⟨y0,y1,y2,y3,y4,m0,m1⟩:=HX5.o.sm;clear hx5 hq5 ho5 hra hh HX1 hcb HUO
     cases cb with
     | true =>
      rw [kAg rfl] at HMS HUA;go_wp2_with fail;refine HMS.o.mono ?_;rintro e w6 ⟨rfl,hb6⟩;have HB6:=aAc (HB5.o.trans (hb6.mono HB5.o.size));clear hb6 HMS y0 y1 y2 y3 y4 m0 m1;go_wp2;go_ret;rw [HUA.o];exact OpR.no HD.o HB6.o
     | false =>
      rw [kAb (by decide)] at HMS HUA;have HUO2:=HUA;go_wp2_with fail;refine HMS.o.mono ?_;rintro e w6 ⟨rfl,hb6⟩;have HX7:=aAc (HX5.o.next (hb6.trans (kBh _ _).drew));have HQ7:Hid (w6.drew.heap[Q]?=some (.cells #[.slice q1 o.length q3,.slice q4 o.length q6] 119 (0,0))):=(hb6.block Q (aAe HQ5.o)).trans HQ5.o;have HO7:Hid (RHd w6.drew q1 q3 q4 q6 o):=HO5.o.later (hb6.trans (kBh _ _).drew);clear hb6 HMS y0 y1 y2 y3 y4 m0 m1 HX5 HQ5 HO5 HB5;go_upto_region 10 with fail;have HX0:Hid ((fun wx:World=>wx.cell? ⟨L,0,none⟩=some (.pointer (some ⟨db,0,none⟩))/\wx.cell? ⟨L,1,none⟩=some (.int .u8 (i:Int))/\wx.cell? ⟨L,2,none⟩=some (.string t.s.nm)/\wx.cell? ⟨L,3,none⟩=some (.slice ca t.s.cs.length cc)/\wx.cell? ⟨L,4,none⟩=some (.slice xa t.s.xs.length xc)/\wx.cell? ⟨M,0,none⟩=some (.slice pa r.length pc)/\wx.cell? ⟨M,1,none⟩=some (.slice va r.length vc)/\wx.cell? ⟨Q,0,none⟩=some (.slice q1 o.length q3)/\wx.cell? ⟨Q,1,none⟩=some (.slice q4 o.length q6)) w6.drew):=(by obtain ⟨y0,y1,y2,y3,y4,m0,m1⟩:=HX7.o.sm;exact ⟨y0,y1,y2,y3,y4,m0,m1,aAa HQ7.o,aAa HQ7.o⟩);refine kBj ?_;refine kBi (S:=fun wx=>wx.cell? ⟨L,0,none⟩=some (.pointer (some ⟨db,0,none⟩))/\wx.cell? ⟨L,1,none⟩=some (.int .u8 (i:Int))/\wx.cell? ⟨L,2,none⟩=some (.string t.s.nm)/\wx.cell? ⟨L,3,none⟩=some (.slice ca t.s.cs.length cc)/\wx.cell? ⟨L,4,none⟩=some (.slice xa t.s.xs.length xc)/\wx.cell? ⟨M,0,none⟩=some (.slice pa r.length pc)/\wx.cell? ⟨M,1,none⟩=some (.slice va r.length vc)/\wx.cell? ⟨Q,0,none⟩=some (.slice q1 o.length q3)/\wx.cell? ⟨Q,1,none⟩=some (.slice q4 o.length q6)) (by kernel_rfl) HX0.o (fun hHeld=>?_);generalize w6.drew=w7 at *;refine aAb 0 39 ?_;refine aAb 1 40 ?_;refine aAb 2 41 ?_;refine aAb 4 43 ?_;refine aAb 5 44 ?_;refine aAf 3 ?_;intro K hK;go_simp;refine (aDs (dv:=.pointer (some ⟨db,0,none⟩)) (nm:=t.s.nm) (ca:=ca) (cl:=t.s.cs.length) (cc:=cc) (gone:=true) B HI4.o HOK.o HOO.o (HSC.o.later HX7.o.be).x HO7.o.p HO7.o.v.hvs).mono ?_;rintro e w8 ⟨v1,rfl,hc1,hb⟩;obtain ⟨a1,c1,e1⟩:=hc1.form;obtain ⟨n1,hn1⟩:∃ n1,(chL (bAh i t.s o) (bAm o) true).length=n1:=⟨_,rfl⟩;rw [hn1] at e1;subst e1;have HX8:=aAc (HX7.o.next hb);have HQ8:=aAc ((hb.block Q (aAe HQ7.o)).trans HQ7.o);have HC8:=aAc hc1;have HBE8:=aAc hb;clear hc1 hn1 hb hHeld;refine hK.out _ _ (by obtain ⟨y0,y1,y2,y3,y4,m0,m1⟩:=HX8.o.sm;exact ⟨y0,y1,y2,y3,y4,m0,m1,aAa HQ8.o,aAa HQ8.o⟩) (fun hHeld=>?_);clear hK K
      try simp only [Act.put,siT,scZ,scS]
      refine aAf 6 ?_;intro K hK;go_simp;refine (aDs (dv:=.pointer (some ⟨db,0,none⟩)) (nm:=t.s.nm) (ca:=ca) (cl:=t.s.cs.length) (cc:=cc) (gone:=false) B HI4.o HOK.o HRO.o (HSC.o.later HX8.o.be).x (HV.o.later HX8.o.be).p (HV.o.later HX8.o.be).v.hvs).mono ?_;rintro e w9 ⟨v2,rfl,hc2,hb⟩;obtain ⟨a2,c2,e2⟩:=hc2.form;obtain ⟨n2,hn2⟩:∃ n2,(chL (bAh i t.s r) (bAm r) false).length=n2:=⟨_,rfl⟩;rw [hn2] at e2;subst e2;have HX9:=aAc (HX8.o.next hb);have HQ9:=aAc ((hb.block Q (aAe HQ8.o)).trans HQ8.o);have HC9:=aAc (HC8.o.later hb (HD2.o.later HX8.o.be).bw);have HG9:=aAc hc2;have HBE9:=aAc (HBE8.o.trans (hb.mono HBE8.o.size));clear hc2 hn2 hb hHeld;refine hK.out _ _ (by obtain ⟨y0,y1,y2,y3,y4,m0,m1⟩:=HX9.o.sm;exact ⟨y0,y1,y2,y3,y4,m0,m1,aAa HQ9.o,aAa HQ9.o⟩) (fun hHeld=>?_);clear hK K
      try simp only [Act.put,siT,scZ,scS]
      refine aAf 7 ?_;intro K hK;rw [kAg (by rfl)];have hsz:(chL (bAh i t.s o) (bAm o) true).length+(chL (bAh i t.s r) (bAm r) false).length<=8:=by
       rw [aK4,aK4];have h1:=aDd i o HOK.o;have h2:=aDd i r HOK.o;omega
      refine aCg (.tmp 42) (.tmp 45) rfl rfl rfl HC9.o (HG9.o.rv aBi) (HD2.o.later HX7.o.be).bw HBE9.o.size (by omega) ?_;intro v3 w10 p1 _ _ p4 _;have hbe:=HBE9.o.trans p4
      obtain ⟨ma,mc,em,hcall⟩:=aFb ((HD2.o.later HX7.o.be).later hbe).dd (HD2.o.later HX7.o.be).dd rfl p1 (by rw [lA];have:=HLM.o;omega) (by
       intro c hc;rcases kAz.1 hc with h9 | h9
       ·exact aK3 HOK.o HOO.o c h9
       ·exact aK3 HOK.o HRO.o c h9)
      rw [List.map_append,bGp,bGo] at hcall;obtain ⟨n3,hn3⟩:∃ n3,(chL (bAh i t.s o) (bAm o) true++chL (bAh i t.s r) (bAm r) false).length=n3:=⟨_,rfl⟩;rw [hn3] at em hcall;subst em;have HX10:=aAc (HX7.o.next hbe);have HQ10:=aAc ((hbe.block Q (aAe HQ7.o)).trans HQ7.o);have HCA:=aAc hcall;clear p1 p4 hbe hn3 hcall hsz hHeld;refine hK.out _ _ (by obtain ⟨y0,y1,y2,y3,y4,m0,m1⟩:=HX10.o.sm;exact ⟨y0,y1,y2,y3,y4,m0,m1,aAa HQ10.o,aAa HQ10.o⟩) (fun hHeld=>?_);clear hK K
      try simp only [Act.put,siT,scZ,scS]
      refine aAf 8 ?_;intro K hK;go_simp;refine HCA.o.mono ?_;rintro e w11 ⟨v6,rfl,hd6,hf6⟩;have hdd:=(HD2.o.later HX10.o.be).dd;have HT11:=aAc (hf6.keep hdd HX10.o.t (by decide) (by decide));have HM11:=aAc (hf6.keep hdd HX10.o.r (by decide) (by decide));have HQ11:=aAc (hf6.keep hdd HQ10.o (by decide) (by decide));have HR11:Hid (OpR B p q g ls db v cs W w0 w uo (.returned (.int .i64 0)) w11):=by
       rw [HUO2.o];have hb10:=HB2.o.trans (HX10.o.be.mono HB2.o.size);exact ⟨v6,rfl,(HD.o.later hb10).fr hd6 hf6,(DFr.of hb10 HD.o.bw).trans hf6⟩
      clear hd6 hf6 hdd HCA hHeld;refine hK.out _ _ ⟨aAa HT11.o,aAa HT11.o,aAa HT11.o,aAa HT11.o,aAa HT11.o,aAa HM11.o,aAa HM11.o,aAa HQ11.o,aAa HQ11.o⟩ (fun hHeld=>?_);clear hK K
      try simp only [Act.put,siT,scZ,scS]
      refine aAb 9 6 ?_;refine kBn (by kernel_rfl) ?_ _;refine kBk ?_;clear hHeld;go_wp2;go_ret;exact HR11.o
  ·have he:=hft.1 hf0;unfold zT zR at he;obtain ⟨fv,hfv⟩:∃ fv,t.s.fits r=fv:=⟨_,rfl⟩;have HFV:=aAc hfv;rw [hfv] at he hf0;subst he;have HF0:=aAc hf0;have hf1:(fv == 0)=false:=by simpa using hf0
   have hf2:(fv != 0)=true:=by simpa using hf0
   have hbx:=aJa w2 (.cells #[.pointer none,.int .u8 0,.string ⟨#[]⟩,.slice none 0 0,.slice none 0 0] 101) (.cells #[.slice none 0 0,.slice none 0 0] 119);have HB3:=aAc (HB2.o.trans (hbx.mono HB2.o.size));clear hbx hft hfv;go_wp2;go_ret;rw [HIO.o,kAg (by rw [HFV.o];exact HF0.o),HFV.o];exact OpR.no HD.o HB3.o
theorem bFo (i:Nat) {s:Sch} (r:List Val) (hs:s.ok=true):(bAp i s r).length<=4:=by
 unfold bAp;rw [kAp];exact aDd i r hs
theorem bF4 (i:Nat) {s:Sch} (r:List Val) (hs:s.ok=true):(bA2 i s r).length<=4:=by
 unfold bA2;rw [kAp];exact aDd i r hs
theorem bFy (I:Inv cs T) (nm:ByteArray) (r:List Val):(insO T nm r).m.length<=8:=by
 cases h1:tAt T nm with
 | none=>rw [aEe h1];exact kAm _
 | some i =>
  obtain ⟨t,h2,_,h3⟩:=aAy h1;rw [aEd h1 h2];have:=bFo i r (I.ok t h3);split
  ·exact kAm _
  ·split
   ·exact kAm _
   ·show (bAp i t.s r).length<=8;omega
theorem bOq (I:Inv cs T) (nm:ByteArray) (x:Val):(delO T nm x).m.length<=8:=by
 cases h1:tAt T nm with
 | none=>rw [aIw h1];exact kAm _
 | some i =>
  obtain ⟨t,h2,_,h3⟩:=aAy h1;rw [aGb h1 h2];split
  ·exact kAm _
  ·cases h4:rowAt t.rows x with
   | none=>exact kAm _
   | some r =>
    have:=bF4 i r (I.ok t h3);show (bA2 i t.s r).length<=8;omega
theorem aJv (I:Inv cs T) (nm:ByteArray) (r:List Val):(updO T nm r).m.length<=8:=by
 cases h1:tAt T nm with
 | none=>rw [aFg h1];exact kAm _
 | some i =>
  obtain ⟨t,h2,_,h3⟩:=aAy h1;rw [aCh h1 h2];split
  ·exact kAm _
  ·cases h4:rowAt t.rows (fst r) with
   | none=>exact kAm _
   | some o =>
    dsimp only;split
    ·exact kAm _
    ·have h5:=bF4 i o (I.ok t h3);have h6:=bFo i r (I.ok t h3);show (bA2 i t.s o++bAp i t.s r).length<=8;rw [lA];omega
theorem bOt (T:List Tbl) (s:Sch):(creO T s).m.length<=8:=by
 unfold creO;split
 ·exact kAm _
 ·split
  ·exact kAm _
  ·split
   ·exact kAm _
   ·show (1:Nat)<=8;omega
section
variable [Gd] {B p q g ls db N:Nat} {W w0 w:World} {T:List Tbl}
end
def TbF [Gd] (F:Nat->Prop) (B p q g ls db:Nat) (W w0:World) (N:Nat) (T:List Tbl) (w:World):Prop:=∃ v cs,DR B p q g ls db v cs W w0 w/\Inv cs T/\cs.length<=N/\∀ i,F i->i<w.heap.size/\i≠db/\v.ownBlock≠some i
def KpF (F:Nat->Prop) (w w':World):Prop:=∀ i,F i->w'.heap[i]?=w.heap[i]?
theorem KpF.trans {F:Nat->Prop} (h:KpF F w w') (k:KpF F w' w2):KpF F w w2:=fun i hi=>(k i hi).trans (h i hi)
section
variable [Gd] {F:Nat->Prop} {B p q g ls db N M:Nat} {W w0 w w':World} {T:List Tbl}
theorem TbF.td (h:TbF F B p q g ls db W w0 N T w):TbD B p q g ls db W w0 N T w:=by
 obtain ⟨v,cs,h1,h2,h3,_⟩:=h;exact ⟨v,cs,h1,h2,h3⟩
theorem TbD.tf (h:TbD B p q g ls db W w0 N T w) (hb:Below w.heap.size w w') (hF:∀ i,F i->w.heap.size<=i/\i<w'.heap.size):TbF F B p q g ls db W w0 N T w':=by
 obtain ⟨v,cs,h1,h2,h3⟩:=h;refine ⟨v,cs,h1.later hb,h2,h3,fun i hi=>?_⟩;obtain ⟨f1,f2⟩:=hF i hi;have f3:=h1.dd.bw;refine ⟨f2,by omega,fun q=>?_⟩;have:=(h1.dd.row.blk q).2.1;omega
theorem TbD.tf0 (h:TbD B p q g ls db W w0 N T w):TbF (fun _=>False) B p q g ls db W w0 N T w:=h.tf (kBh _ _) fun _ h=>False.elim h
theorem TbF.later (h:TbF F B p q g ls db W w0 N T w) (hb:Below w.heap.size w w'):TbF F B p q g ls db W w0 N T w':=by
 obtain ⟨v,cs,h1,h2,h3,h4⟩:=h;exact ⟨v,cs,h1.later hb,h2,h3,fun i hi=>⟨kAi (h4 i hi).1 hb.size,(h4 i hi).2⟩⟩
theorem TbF.kp (h:TbF F B p q g ls db W w0 N T w) (hb:Below w.heap.size w w'):KpF F w w':=by
 obtain ⟨v,cs,h1,h2,h3,h4⟩:=h;exact fun i hi=>hb.block i (h4 i hi).1
theorem TbF.bel (h:TbF F B p q g ls db W w0 N T w):Below B W w:=h.td.bel
theorem TbF.more (h:TbF F B p q g ls db W w0 N T w) (hm:N<=M):TbF F B p q g ls db W w0 M T w:=by
 obtain ⟨v,cs,h1,h2,h3,h4⟩:=h;exact ⟨v,cs,h1,h2,by omega,h4⟩
theorem TbF.inv (h:TbF F B p q g ls db W w0 N T w):∃ cs,Inv cs T:=by
 obtain ⟨v,cs,_,h2,_⟩:=h;exact ⟨cs,h2⟩
theorem OpR.tf {o:Out} {e:Ending} (h:DR B p q g ls db v cs W w0 w) (I:Inv (cs++o.m) o.T) (hl:cs.length<=N) (hm:o.m.length<=8) (hF:∀ i,F i->i<w.heap.size/\i≠db/\v.ownBlock≠some i) (hp:OpR B p q g ls db v cs W w0 w o e w'):e=.returned (.int .i64 o.e)/\TbF F B p q g ls db W w0 (N+8) o.T w'/\KpF F w w':=by
 obtain ⟨v',rfl,hd,hf⟩:=hp;refine ⟨rfl,⟨v',_,hd,I,by rw [lA];omega,fun i hi=>?_⟩,fun i hi=>hf.blk i (hF i hi).1 (hF i hi).2.1 (hF i hi).2.2⟩;obtain ⟨f1,f2,f3⟩:=hF i hi;refine ⟨kAi f1 hf.siz,f2,fun q=>?_⟩;rcases hf.own i q with q | q
 ·exact f3 q
 ·omega
theorem TbF.cre {s:Sch} (h:TbF F B p q g ls db W w0 N T w) (hN:N<=990) (hsc:SC w ca cl cc xa xl xc s) :
  Calls prog 30 #[.pointer (some ⟨db,0,none⟩),.agg #[.string s.nm,.slice ca cl cc,.slice xa xl xc]] w fun e w'=>e=.returned (.int .i64 (creO T s).e)/\TbF F B p q g ls db W w0 (N+8) (creO T s).T w'/\KpF F w w':=by
 obtain ⟨v,cs,h1,h2,h3,h4⟩:=h;exact (aJc h1 h2 (by omega) hsc).mono fun e w' hp=>OpR.tf h1 (h2.creO _) h3 (bOt _ _) h4 hp
theorem TbF.insert {r:List Val} (h:TbF F B p q g ls db W w0 N T w) (hN:N<=990) (nm:ByteArray) (hp:SVK fV 3 w a n c r) (hok:∀ x∈r,x.ok/\x.2.2.size<=1048576) :
  Calls prog 26 #[.pointer (some ⟨db,0,none⟩),.string nm,.slice a n c] w fun e w'=>e=.returned (.int .i64 (insO T nm r).e)/\TbF F B p q g ls db W w0 (N+8) (insO T nm r).T w'/\KpF F w w':=by
 obtain ⟨v,cs,h1,h2,h3,h4⟩:=h;exact (aCe h1 h2 (by omega) nm hp hok).mono fun e w' hp=>OpR.tf h1 (h2.insO nm fun x hx=>(hok x hx).1) h3 (bFy h2 _ _) h4 hp
theorem TbF.update {r:List Val} (h:TbF F B p q g ls db W w0 N T w) (hN:N<=990) (nm:ByteArray) (hp:SVK fV 3 w a n c r) (hok:∀ x∈r,x.ok/\x.2.2.size<=1048576) :
  Calls prog 28 #[.pointer (some ⟨db,0,none⟩),.string nm,.slice a n c] w fun e w'=>e=.returned (.int .i64 (updO T nm r).e)/\TbF F B p q g ls db W w0 (N+8) (updO T nm r).T w'/\KpF F w w':=by
 obtain ⟨v,cs,h1,h2,h3,h4⟩:=h;exact (aJb h1 h2 (by omega) nm hp hok).mono fun e w' hp=>OpR.tf h1 (h2.updO nm fun x hx=>(hok x hx).1) h3 (aJv h2 _ _) h4 hp
theorem TbF.delete {x:Val} (h:TbF F B p q g ls db W w0 N T w) (hN:N<=990) (nm:ByteArray) (hx:x.ok/\x.2.2.size<=1048576) :
  Calls prog 27 #[.pointer (some ⟨db,0,none⟩),.string nm,.agg #[.int .i64 x.1,.int .i64 x.2.1,.string x.2.2]] w fun e w'=>e=.returned (.int .i64 (delO T nm x).e)/\TbF F B p q g ls db W w0 (N+8) (delO T nm x).T w'/\KpF F w w':=by
 obtain ⟨v,cs,h1,h2,h3,h4⟩:=h;exact (bGu h1 h2 (by omega) nm hx.1 hx.2).mono fun e w' hp=>OpR.tf h1 (h2.delO nm x) h3 (bOq h2 _ _) h4 hp
end
theorem aJ3 {t u:Tbl} {R:List (List Val)} (hi:T[i]?=some u) (h:t∈T) (hne:u.s.nm≠t.s.nm):t∈bA5 T i u R:=by
 obtain ⟨j,hj⟩:=List.mem_iff_getElem?.1 h;have e:j≠i:=by
  rintro rfl;rw [hj] at hi;cases hi;exact hne rfl
 exact mG ((aCa hi).2 (Or.inr ⟨e,hj⟩))
theorem bN3 {r:List Val} {t:Tbl} (h:t∈T) (hne:nm≠t.s.nm):t∈(insO T nm r).T:=by
 cases h1:tAt T nm with
 | none=>rw [aEe h1];exact h
 | some i =>
  obtain ⟨u,h2,h3,_⟩:=aAy h1;subst h3;rw [aEd h1 h2]
  repeat' split
  all_goals first | exact h | exact aJ3 h2 h hne
theorem bOp {x:Val} {t:Tbl} (h:t∈T) (hne:nm≠t.s.nm):t∈(delO T nm x).T:=by
 cases h1:tAt T nm with
 | none=>rw [aIw h1];exact h
 | some i =>
  obtain ⟨u,h2,h3,_⟩:=aAy h1;subst h3;rw [aGb h1 h2]
  repeat' split
  all_goals first | exact h | exact aJ3 h2 h hne
theorem bMl {r:List Val} {t:Tbl} (h:t∈T) (hne:nm≠t.s.nm):t∈(updO T nm r).T:=by
 cases h1:tAt T nm with
 | none=>rw [aFg h1];exact h
 | some i =>
  obtain ⟨u,h2,h3,_⟩:=aAy h1;subst h3;rw [aCh h1 h2]
  repeat' split
  all_goals first | exact h | exact aJ3 h2 h hne
theorem bOs {s:Sch} {t:Tbl} (h:t∈T):t∈(creO T s).T:=by
 unfold creO
 repeat' split
 all_goals first | exact h | exact List.mem_append_left _ h
theorem bRa [Gd] {F:Nat->Prop} {ys:List OpV} (h:TbF F W.heap.size p q g ls db W w0 N T w) (hm:N+8*most<=900) (hl:SVK fO 17 W a n c ys) (hp:∀ y∈ys,OpP W y) :
  Calls prog 19 #[.pointer (some ⟨db,0,none⟩),.slice a n c,.int .i64 (most:Int)] w fun e w'=>e=.returned (.tuple #[])/\∃ T',TbF F W.heap.size p q g ls db W w0 (N+8*most) T' w'/\KpF F w w'/\∀ t,(∀ y∈ys,y.nm≠t.s.nm)->t∈T->t∈T':=by
 obtain ⟨M,hM⟩:∃ M,M=min n most:=⟨_,rfl⟩;have HM:=aAc hM;have HMO:=aAc hm;have HL:=aAc hl;have HP:=aAc hp;have HD:=aAc h;have x9:(n:Int)<=9223372036854775807:=by have:=hl.hc;have:=hl.hm;omega
 obtain ⟨B,hB⟩:∃ B,W.heap.size=B:=⟨_,rfl⟩;have HBB:=aAc hB;rw [hB] at HD ⊢;clear h hm hl hp hM hB;go_enter func19,ntmps19;go_wp2_with fail;go_loopg [6] M (fun gh s6 wx=>∃ (j:Nat) (T':List Tbl),j+gh=M/\s6=.int .i64 (j:Int)/\TbF F B p q g ls db W w0 (N+8*j) T' wx/\KpF F w wx/\∀ t,(∀ y∈ys,y.nm≠t.s.nm)->t∈T->t∈T')
 case atStart=>exact ⟨0,T,by omega,rfl,HD.o,(fun _ _=>rfl),fun _ _ h=>h⟩
 case round =>
  obtain ⟨j,T',hj,rfl,hd1,hk1,ho1⟩:=hrel;have HD1:=aAc hd1;have HK1:=aAc hk1;have HO1:=aAc ho1;clear hd1 hk1 ho1 HD;by_cases hjm:j<M
  ·have x1:(j:Int)<(n:Int):=by have:=HM.o;omega
   have x2:(j:Int)<(most:Int):=by have:=HM.o;omega
   have x0:(0:Int)<=(j:Int):=by omega
   have HJM:=aAc hjm;have hjn:j<n:=by omega
   have hjmo:j<most:=by omega
   have HJ:Hid (N+8*j<=990/\N+8*j+8<=N+8*(j+1)):=by have:=HMO.o;exact ⟨by omega,by omega⟩
   obtain ⟨y,hy⟩:∃ y,ys[j]?=some y:=⟨_,gE (by rw [HL.o.hl];exact hjn)⟩;have hbw:Below W.heap.size W wr:=by rw [HBB.o];exact HD1.o.bel
   obtain ⟨b,o,ea,_,hcell⟩:=(HL.o.later hbw).pl (by omega);subst ea;have HYJ:=aAc hy;have HY:Hid (OpP wr y):=(HP.o y (mG hy)).later hbw;have c0:wr.cell? ⟨b,o+j*17,none⟩=some (.int .i64 y.kind):=hcell j y hy 0 (by omega);have c1:wr.cell? ⟨b,o+j*17+1,none⟩=some (.string y.nm):=hcell j y hy 1 (by omega);have c2:wr.cell? ⟨b,o+j*17+2,none⟩=some (.string y.s.nm):=hcell j y hy 2 (by omega);have c3:wr.cell? ⟨b,o+j*17+3,none⟩=some (.slice y.ca y.cl y.cc):=hcell j y hy 3 (by omega);have c4:wr.cell? ⟨b,o+j*17+4,none⟩=some (.slice y.xa y.xl y.xc):=hcell j y hy 4 (by omega);have c5:wr.cell? ⟨b,o+j*17+5,none⟩=some (.slice y.ra y.rl y.rc):=hcell j y hy 5 (by omega);have c6:wr.cell? ⟨b,o+j*17+6,none⟩=some (.int .i64 y.key.1):=hcell j y hy 6 (by omega);have c7:wr.cell? ⟨b,o+j*17+7,none⟩=some (.int .i64 y.key.2.1):=hcell j y hy 7 (by omega);have c8:wr.cell? ⟨b,o+j*17+8,none⟩=some (.string y.key.2.2):=hcell j y hy 8 (by omega);have c9:wr.cell? ⟨b,o+j*17+9,none⟩=some (.int .i64 y.col):=hcell j y hy 9 (by omega);have c10:wr.cell? ⟨b,o+j*17+10,none⟩=some (.int .i64 y.lo.1):=hcell j y hy 10 (by omega);have c11:wr.cell? ⟨b,o+j*17+11,none⟩=some (.int .i64 y.lo.2.1):=hcell j y hy 11 (by omega);have c12:wr.cell? ⟨b,o+j*17+12,none⟩=some (.string y.lo.2.2):=hcell j y hy 12 (by omega);have c13:wr.cell? ⟨b,o+j*17+13,none⟩=some (.int .i64 y.hi.1):=hcell j y hy 13 (by omega);have c14:wr.cell? ⟨b,o+j*17+14,none⟩=some (.int .i64 y.hi.2.1):=hcell j y hy 14 (by omega);have c15:wr.cell? ⟨b,o+j*17+15,none⟩=some (.string y.hi.2.2):=hcell j y hy 15 (by omega);have c16:wr.cell? ⟨b,o+j*17+16,none⟩=some (.int .i64 y.lim):=hcell j y hy 16 (by omega);have HOP:Hid (Calls prog 10 #[.agg #[.int .i64 y.kind,.string y.nm,.string y.s.nm,.slice y.ca y.cl y.cc,.slice y.xa y.xl y.xc,.slice y.ra y.rl y.rc,.int .i64 y.key.1,.int .i64 y.key.2.1,.string y.key.2.2,.int .i64 y.col,.int .i64 y.lo.1,.int .i64 y.lo.2.1,.string y.lo.2.2,.int .i64 y.hi.1,.int .i64 y.hi.2.1,.string y.hi.2.2,.int .i64 y.lim]] wr fun e w'=>∃ z:OpV,e=.returned (.agg #[.int .i64 z.kind,.string z.nm,.string z.s.nm,.slice z.ca z.cl z.cc,.slice z.xa z.xl z.xc,.slice z.ra z.rl z.rc,.int .i64 z.key.1,.int .i64 z.key.2.1,.string z.key.2.2,.int .i64 z.col,.int .i64 z.lo.1,.int .i64 z.lo.2.1,.string z.lo.2.2,.int .i64 z.hi.1,.int .i64 z.hi.2.1,.string z.hi.2.2,.int .i64 z.lim])/\OpP w' z/\z.nm=y.nm/\Below wr.heap.size wr w'):=(bS4 y HY.o).mono fun e w' hh=>by obtain ⟨z,h1,h2,h3,h4,_⟩:=hh;exact ⟨z,h1,h3,h2.2.1,h4⟩
   clear hcell hy hbw hjm;go_wp2_with fail;refine HOP.o.mono ?_;rintro e w2 ⟨z,rfl,hz,hzn,hb2⟩;have HZN:Hid (∀ t:Tbl,(∀ y∈ys,y.nm≠t.s.nm)->z.nm≠t.s.nm):=fun t ht=>by rw [hzn];exact ht y (mG HYJ.o)
   have HK2:=aAc (HK1.o.trans ((HD1.o.kp hb2).trans ((HD1.o.later hb2).kp (aAg w2 (.cells #[.int .i64 z.kind,.string z.nm,.string z.s.nm,.slice z.ca z.cl z.cc,.slice z.xa z.xl z.xc,.slice z.ra z.rl z.rc,.int .i64 z.key.1,.int .i64 z.key.2.1,.string z.key.2.2,.int .i64 z.col,.int .i64 z.lo.1,.int .i64 z.lo.2.1,.string z.lo.2.2,.int .i64 z.hi.1,.int .i64 z.hi.2.1,.string z.hi.2.2,.int .i64 z.lim] 38)))));clear hzn HK1;have hbx:=aAg w2 (.cells #[.int .i64 z.kind,.string z.nm,.string z.s.nm,.slice z.ca z.cl z.cc,.slice z.xa z.xl z.xc,.slice z.ra z.rl z.rc,.int .i64 z.key.1,.int .i64 z.key.2.1,.string z.key.2.2,.int .i64 z.col,.int .i64 z.lo.1,.int .i64 z.lo.2.1,.string z.lo.2.2,.int .i64 z.hi.1,.int .i64 z.hi.2.1,.string z.hi.2.2,.int .i64 z.lim] 38);have HB3:Hid ((w2.alloc (.cells #[.int .i64 z.kind,.string z.nm,.string z.s.nm,.slice z.ca z.cl z.cc,.slice z.xa z.xl z.xc,.slice z.ra z.rl z.rc,.int .i64 z.key.1,.int .i64 z.key.2.1,.string z.key.2.2,.int .i64 z.col,.int .i64 z.lo.1,.int .i64 z.lo.2.1,.string z.lo.2.2,.int .i64 z.hi.1,.int .i64 z.hi.2.1,.string z.hi.2.2,.int .i64 z.lim] 38)).heap[w2.heap.size]?=some (.cells #[.int .i64 z.kind,.string z.nm,.string z.s.nm,.slice z.ca z.cl z.cc,.slice z.xa z.xl z.xc,.slice z.ra z.rl z.rc,.int .i64 z.key.1,.int .i64 z.key.2.1,.string z.key.2.2,.int .i64 z.col,.int .i64 z.lo.1,.int .i64 z.lo.2.1,.string z.lo.2.2,.int .i64 z.hi.1,.int .i64 z.hi.2.1,.string z.hi.2.2,.int .i64 z.lim] 38 (0,0))):=boxed w2 _;have HD3:=aAc ((HD1.o.later hb2).later hbx);have HZ3:=aAc (hz.later hbx);clear hz hb2 hbx HOP c0 c1 c2 c3 c4 c5 c6 c7 c8 c9 c10 c11 c12 c13 c14 c15 c16 HD1 HY;go_upto_region 4 with fail;generalize w2.alloc (.cells #[.int .i64 z.kind,.string z.nm,.string z.s.nm,.slice z.ca z.cl z.cc,.slice z.xa z.xl z.xc,.slice z.ra z.rl z.rc,.int .i64 z.key.1,.int .i64 z.key.2.1,.string z.key.2.2,.int .i64 z.col,.int .i64 z.lo.1,.int .i64 z.lo.2.1,.string z.lo.2.2,.int .i64 z.hi.1,.int .i64 z.hi.2.1,.string z.hi.2.2,.int .i64 z.lim] 38)=w4 at *;generalize w2.heap.size=K1 at *;obtain ⟨kd,hkd⟩:∃ kd,z.kind=kd:=⟨_,rfl⟩;have k0:w4.cell? ⟨K1,0,none⟩=some (.int .i64 kd):=by rw [<-hkd];exact aAa HB3.o
   have k1:w4.cell? ⟨K1,1,none⟩=some (.string z.nm):=aAa HB3.o;have k2:w4.cell? ⟨K1,2,none⟩=some (.string z.s.nm):=aAa HB3.o;have k3:w4.cell? ⟨K1,3,none⟩=some (.slice z.ca z.cl z.cc):=aAa HB3.o;have k4:w4.cell? ⟨K1,4,none⟩=some (.slice z.xa z.xl z.xc):=aAa HB3.o;have k5:w4.cell? ⟨K1,5,none⟩=some (.slice z.ra z.rl z.rc):=aAa HB3.o;have k6:w4.cell? ⟨K1,6,none⟩=some (.int .i64 z.key.1):=aAa HB3.o;have k7:w4.cell? ⟨K1,7,none⟩=some (.int .i64 z.key.2.1):=aAa HB3.o;have k8:w4.cell? ⟨K1,8,none⟩=some (.string z.key.2.2):=aAa HB3.o;clear hkd;by_cases q1:kd=1
   ·subst q1;have HC:=aAc (HD3.o.cre HJ.o.1 HZ3.o.sc);go_wp2_with fail;refine HC.o.mono ?_;rintro e w5 ⟨rfl,hd5,hk5⟩;have HD5:=aAc hd5;have HK5:=aAc (HK2.o.trans hk5);clear hd5 hk5 HC HK2 k0 k1 k2 k3 k4 k5 k6 k7 k8;go_wp2;go_roundg (gk-1)
    case measure=>(have:=HJM.o;omega)
    case rel=>exact ⟨j+1,_,(by have:=HJM.o;omega),rfl,HD5.o.more HJ.o.2,HK5.o,fun t ht h=>bOs (HO1.o t ht h)⟩
   by_cases q2:kd=2
   ·subst q2;have HC:=aAc (HD3.o.insert HJ.o.1 z.nm HZ3.o.rw_ HZ3.o.rp);go_wp2_with fail;refine HC.o.mono ?_;rintro e w5 ⟨rfl,hd5,hk5⟩;have HD5:=aAc hd5;have HK5:=aAc (HK2.o.trans hk5);clear hd5 hk5 HC HK2 k0 k1 k2 k3 k4 k5 k6 k7 k8;go_wp2;go_roundg (gk-1)
    case measure=>(have:=HJM.o;omega)
    case rel=>exact ⟨j+1,_,(by have:=HJM.o;omega),rfl,HD5.o.more HJ.o.2,HK5.o,fun t ht h=>bN3 (HO1.o t ht h) (HZN.o t ht)⟩
   by_cases q3:kd=3
   ·subst q3;have HC:=aAc (HD3.o.update HJ.o.1 z.nm HZ3.o.rw_ HZ3.o.rp);go_wp2_with fail;refine HC.o.mono ?_;rintro e w5 ⟨rfl,hd5,hk5⟩;have HD5:=aAc hd5;have HK5:=aAc (HK2.o.trans hk5);clear hd5 hk5 HC HK2 k0 k1 k2 k3 k4 k5 k6 k7 k8;go_wp2;go_roundg (gk-1)
    case measure=>(have:=HJM.o;omega)
    case rel=>exact ⟨j+1,_,(by have:=HJM.o;omega),rfl,HD5.o.more HJ.o.2,HK5.o,fun t ht h=>bMl (HO1.o t ht h) (HZN.o t ht)⟩
   by_cases q4:kd=4
   ·subst q4;have HC:=aAc (HD3.o.delete HJ.o.1 z.nm HZ3.o.key);go_wp2_with fail;refine HC.o.mono ?_;rintro e w5 ⟨rfl,hd5,hk5⟩;have HD5:=aAc hd5;have HK5:=aAc (HK2.o.trans hk5);clear hd5 hk5 HC HK2 k0 k1 k2 k3 k4 k5 k6 k7 k8;go_wp2;go_roundg (gk-1)
    case measure=>(have:=HJM.o;omega)
    case rel=>exact ⟨j+1,_,(by have:=HJM.o;omega),rfl,HD5.o.more HJ.o.2,HK5.o,fun t ht h=>bOp (HO1.o t ht h) (HZN.o t ht)⟩
   clear k1 k2 k3 k4 k5 k6 k7 k8;go_wp2;go_roundg (gk-1)
   case measure=>(have:=HJM.o;omega)
   case rel=>exact ⟨j+1,_,(by have:=HJM.o;omega),rfl,HD3.o.more (by have:=HJ.o.2;omega),HK2.o,HO1.o⟩
  ·obtain rfl:j=M:=by omega
   have HD2:Hid (TbF F B p q g ls db W w0 (N+8*most) T' wr):=HD1.o.more (by have:=HM.o;omega);clear HD1;by_cases hn:n<=most
   ·have x1:¬ (j:Int)<(n:Int):=by have:=HM.o;omega
    go_wp2;go_end0;exact ⟨rfl,T',HD2.o,HK1.o,HO1.o⟩
   ·have x1:(j:Int)<(n:Int):=by have:=HM.o;omega
    have x2:¬ (j:Int)<(most:Int):=by have:=HM.o;omega
    go_wp2;go_end0;exact ⟨rfl,T',HD2.o,HK1.o,HO1.o⟩
theorem aCt {a':Option Addr} {l:List (List Val)} (h:RWs w a n c l) (h':RWs w a' n k l) (hn:n<=1000) (hr:∀ r∈l,r.length<=1000) :
  Calls prog 29 #[.slice a n c,.slice a' n k] w fun e w'=>e=.returned (.bool true)/\Below w.heap.size w w':=by
 obtain ⟨es,h1,h2,h3⟩:=h;obtain ⟨es',h1',h2',h3'⟩:=h';have hc9:(n:Int)<=9223372036854775807:=by omega
 have hnn:((n:Int) != (n:Int))=false:=by simp
 have H1:=aAc h1;have H2:=aAc h2;have H3:=aAc h3;have H1':=aAc h1';have H2':=aAc h2';have H3':=aAc h3';have HR:=aAc hr;clear h1 h2 h3 h1' h2' h3' hr;go_enter func29,ntmps29;go_wp2_with fail;go_loopg [5] n (fun gh s5 wx=>∃ j:Nat,j+gh=n/\s5=.int .i64 (j:Int)/\Below w.heap.size w wx)
 case atStart=>exact ⟨0,by omega,rfl,kBh _ _⟩
 case round =>
  obtain ⟨j,hj,rfl,hbr⟩:=hrel;have HBR:=aAc hbr;clear hbr;by_cases hjn:j<n
  ·have xj:(j:Int)<(n:Int):=by omega
   have x0:(0:Int)<=(j:Int):=by omega
   obtain ⟨e1,he1⟩:∃ e,es[j]?=some e:=⟨_,gE (by rw [H1.o.hl];exact hjn)⟩;obtain ⟨e2,he2⟩:∃ e,es'[j]?=some e:=⟨_,gE (by rw [H1'.out.hl];exact hjn)⟩;obtain ⟨r,hr1⟩:∃ r,l[j]?=some r:=⟨_,gE (by rw [<-H2.o,H1.o.hl];exact hjn)⟩;obtain ⟨b,o,q1,hb,hcs⟩:=H1.o.pl (by omega);obtain ⟨b',o',q1',hb',hcs'⟩:=H1'.out.pl (by omega);subst q1 q1';have c1:wr.cell? ⟨b,o+j,none⟩=some (.slice e1.1 e1.2.1 e1.2.2):=(HBR.o.cell (p:=⟨b,o+j,none⟩) hb).trans (by have:=hcs j e1 he1 0 (by omega);rw [Nat.mul_one,Nat.add_zero] at this;exact this);have c2:wr.cell? ⟨b',o'+j,none⟩=some (.slice e2.1 e2.2.1 e2.2.2):=(HBR.o.cell (p:=⟨b',o'+j,none⟩) hb').trans (by have:=hcs' j e2 he2 0 (by omega);rw [Nat.mul_one,Nat.add_zero] at this;exact this);have HBD:Hid (Below w.heap.size w wr.drew):=HBR.o.drew;have HLT:Hid (b<wr.drew.heap.size/\b'<wr.drew.heap.size):=⟨kAi hb HBD.o.size,kAi hb' HBD.o.size⟩;have HX0:Hid ((fun wx:World=>wx.cell? ⟨b,o+j,none⟩=some (.slice e1.1 e1.2.1 e1.2.2)/\wx.cell? ⟨b',o'+j,none⟩=some (.slice e2.1 e2.2.1 e2.2.2)) wr.drew):=⟨c1,c2⟩;have HS1:Hid (SVK fV 3 wr.drew e1.1 e1.2.1 e1.2.2 r):=(H3.o j e1 r he1 hr1).later HBD.o;have HS2:Hid (SVK fV 3 wr.drew e2.1 e2.2.1 e2.2.2 r):=(H3'.out j e2 r he2 hr1).later HBD.o;have HCT:Hid (Calls prog 12 #[.slice e1.1 e1.2.1 e1.2.2,.slice e2.1 e2.2.1 e2.2.2] wr.drew fun e w'=>e=.returned (.bool true)/\Below wr.drew.heap.size wr.drew w'):=(bCi HS1.o HS2.o (by rw [<-HS1.o.hl];exact HR.o r (mG hr1))).mono fun e w' hh=>⟨hh.1.trans (by rw [kAc rfl]),hh.2⟩
   clear c1 c2 hcs hcs' he1 he2 hr1 hb hb' HS1 HS2;go_upto_region 6 with fail;refine kBj ?_;refine kBi (S:=fun wx=>wx.cell? ⟨b,o+j,none⟩=some (.slice e1.1 e1.2.1 e1.2.2)/\wx.cell? ⟨b',o'+j,none⟩=some (.slice e2.1 e2.2.1 e2.2.2)) (by kernel_rfl) HX0.o (fun hHeld=>?_);generalize wr.drew=wd at *;refine aAb 0 17 ?_;refine aAb 1 18 ?_;refine aAb 2 19 ?_;refine aAb 3 20 ?_;refine aAb 4 21 ?_;refine aAb 5 22 ?_;refine aAb 6 23 ?_;refine aAb 7 24 ?_;refine aAf 8 ?_;intro K hK;go_simp;refine HCT.o.mono ?_;rintro e w9 ⟨rfl,hb9⟩;have HB9:Hid (Below w.heap.size w w9):=HBD.o.trans (hb9.mono HBD.o.size);have HC9:Hid ((fun wx:World=>wx.cell? ⟨b,o+j,none⟩=some (.slice e1.1 e1.2.1 e1.2.2)/\wx.cell? ⟨b',o'+j,none⟩=some (.slice e2.1 e2.2.1 e2.2.2)) w9):=⟨(hb9.cell HLT.o.1).trans HX0.o.1,(hb9.cell HLT.o.2).trans HX0.o.2⟩;clear hb9 hHeld;refine hK.out _ _ HC9.o (fun hHeld=>?_);clear hK K
   try simp only [Act.put,siT,scZ,scS]
   refine aAb 9 26 ?_;refine kBn (by kernel_rfl) ?_ _;refine kBk ?_;clear hHeld;go_wp2;go_roundg (gk-1)
   case measure=>omega
   case rel=>exact ⟨j+1,by omega,rfl,HB9.o⟩
  ·have ej:j=n:=by omega
   subst ej;have xj:¬ (j:Int)<(j:Int):=by omega
   go_wp2;go_ret;exact ⟨rfl,HBR.o⟩
theorem TbD.more [Gd] {M:Nat} (h:TbD B p q g ls db W w0 N T w) (hm:N<=M):TbD B p q g ls db W w0 M T w:=by
 obtain ⟨v,cs,h1,h2,h3⟩:=h;exact ⟨v,cs,h1,h2,by omega⟩
theorem TbD.names [Gd] (h:TbD B p q g ls db W w0 N T w) (hN:N<=990) :
  Calls prog 14 #[.pointer (some ⟨db,0,none⟩)] w fun e w'=>∃ a c nms,e=.returned (.tuple #[.slice a T.length c,.int .i64 0])/\SVK fN 1 w' a T.length c nms/\(∀ nm∈nms,∃ i t,tAt T nm=some i/\T[i]?=some t/\t.s.nm=nm)/\Below w.heap.size w w'/\∀ ad,a=some ad->w.heap.size<=ad.block:=by
 obtain ⟨v,cs,h1,h2,h3⟩:=h;refine (bB6 h1 h2 (by omega)).mono ?_;rintro e w' ⟨a,c,e1,e2,e3,e4⟩;refine ⟨a,c,_,e1,e2,fun nm hnm=>?_,e3,e4⟩;obtain ⟨x,hx,rfl⟩:=List.mem_map.1 hnm;obtain ⟨i,t,hi,rfl⟩:=(h2.l0 x).1 hx;have e:str (slK t.s.nm)=t.s.nm:=aH2 _;refine ⟨i,t,?_,hi,e.symm⟩;show tAt T (str (slK t.s.nm))=some i;rw [e];exact h2.tAt hi
def bBi (a:Option Addr) (n i:Nat):Prop:=0<n/\∃ ad,a=some ad/\ad.block=i
theorem SVK.kp {α:Type} {f:α->List Value} {l:List α} (h:SVK f k w a n c l) (hk:∀ i,bBi a n i->w'.heap[i]?=w.heap[i]?):SVK f k w' a n c l:=by
 refine ⟨h.hl,h.hc,h.hm,h.hn,fun h0=>?_⟩;obtain ⟨b,o,e1,e2,e3⟩:=h.pl h0;have h9:=hk b ⟨h0,_,e1,rfl⟩;rw [Array.getElem?_eq_getElem e2] at h9;exact ⟨b,o,e1,(lO h9),fun i x hx t ht=>(kBp (hk b ⟨h0,_,e1,rfl⟩)).trans (e3 i x hx t ht)⟩
theorem SVK.blt {α:Type} {f:α->List Value} {l:List α} (h:SVK f k w a n c l) (hi:bBi a n i):i<w.heap.size:=by
 obtain ⟨h0,ad,h1,h2⟩:=hi;obtain ⟨b,o,e1,e2,_⟩:=h.pl h0;rw [e1] at h1;cases h1;rw [<-h2];exact e2
structure RWx (w:World) (a:Option Addr) (n c:Nat) (es:List SEt) (l:List (List Val)):Prop where
 s:SVK fS 1 w a n c es
 ll:es.length=l.length
 r:RWv w es l
def RwF (a:Option Addr) (n:Nat) (es:List SEt) (i:Nat):Prop:=bBi a n i\/∃ e∈es,bBi e.1 e.2.1 i
section
variable {w w':World} {a:Option Addr} {n c B:Nat} {es:List SEt} {l:List (List Val)}
theorem RWx.rws (h:RWx w a n c es l):RWs w a n c l:=⟨es,h.s,h.ll,h.r⟩
theorem RWx.kp (h:RWx w a n c es l) (hk:∀ i,RwF a n es i->w'.heap[i]?=w.heap[i]?):RWx w' a n c es l :=
 ⟨h.s.kp fun i hi=>hk i (Or.inl hi),h.ll,fun j e r h1 h2=>(h.r j e r h1 h2).kp fun i hi=>hk i (Or.inr ⟨e,mG h1,hi⟩)⟩
theorem RWx.later (h:RWx w a n c es l) (hb:Below w.heap.size w w'):RWx w' a n c es l:=⟨h.s.later hb,h.ll,h.r.later hb⟩
theorem RWn.x (h:RWn B w a n c l):∃ es,RWx w a n c es l/\∀ i,RwF a n es i->B<=i/\i<w.heap.size:=by
 obtain ⟨es,h1,h2,h3,h4,h5⟩:=h;refine ⟨es,⟨h1,h2,h3⟩,fun i hi=>?_⟩;rcases hi with hi | ⟨e,he,hi⟩
 ·have q:=h1.blt hi;obtain ⟨_,ad,e1,e2⟩:=hi;exact ⟨by rw [<-e2];exact h4 ad e1,q⟩
 ·obtain ⟨j,hj⟩:=List.mem_iff_getElem?.1 he;have hl:=(lL hj);obtain ⟨r,hr⟩:∃ r,l[j]?=some r:=⟨_,gE (by omega)⟩;have q:=(h3 j e r hj hr).blt hi;obtain ⟨_,ad,e1,e2⟩:=hi;exact ⟨by rw [<-e2];exact h5 e he ad e1,q⟩
end
theorem TbF.rows3 [Gd] {F:Nat->Prop} {t:Tbl} (h:TbF F B p q g ls db W w0 N T w) (ht:t∈T):t.rows.length<=64/\∀ r∈t.rows,r.length<=1000:=by
 obtain ⟨cs,I⟩:=h.inv;exact ⟨I.cnt t ht,fun r hr=>by rw [(I.row t ht r hr).len];have:=(Sch.c3 (I.ok t ht)).2;omega⟩
section
variable {T:List Tbl} {nm:ByteArray} {i:Nat} {t:Tbl} {r:List Val} {R:List (List Val)} {cs:List Ch}
theorem bRi (h:(insO T nm r).e=0):∃ i t,tAt T nm=some i/\T[i]?=some t/\t.s.fits r=0/\rowAt t.rows (fst r)=none/\(insO T nm r).T=bA5 T i t (bAy r t.rows):=by
 cases h1:tAt T nm with
 | none=>rw [aEe h1] at h;exact absurd h (by simp)
 | some i =>
  obtain ⟨t,h2,_,_⟩:=aAy h1;rw [aEd h1 h2] at h ⊢
  split at h
  ·rename_i q;exact absurd h q
  ·rename_i q1
   rw [kAb q1]
   split at h
   ·rename_i q;exact absurd h q
   ·rename_i q2
    rw [kAb q2];refine ⟨i,t,rfl,h2,Decidable.of_not_not q1,?_,rfl⟩
    cases e:rowAt t.rows (fst r) with
    | none=>rfl
    | some q=>exact absurd (show bL2 t r≠0 by unfold bL2;rw [e];simp) q2
theorem bN1 (h:(insO T nm r).e≠0):(insO T nm r).T=T/\(insO T nm r).m=[]:=by
 cases h1:tAt T nm with
 | none=>rw [aEe h1];exact ⟨rfl,rfl⟩
 | some i =>
  obtain ⟨t,h2,_,_⟩:=aAy h1;rw [aEd h1 h2] at h ⊢;split
  ·exact ⟨rfl,rfl⟩
  ·rename_i q1
   split
   ·exact ⟨rfl,rfl⟩
   ·rename_i q2
    rw [kAb q1,kAb q2] at h;exact absurd rfl h
theorem bKq:∀ {rows:List (List Val)} {o:List Val},(rows.Pairwise fun a b=>bAb (fst a).bytes (fst b).bytes<0)->o∈rows->bAy o (cutV (fst o) rows)=rows
 | d::l,o,hp,ho=>by
  obtain ⟨h1,h2⟩:=kAw.1 hp
  have ne:∀ e∈l,fst e≠fst d:=fun e he q=>by have:=h1 e he;rw [q,aAu] at this;omega
  rcases kAv.1 ho with rfl | ho
  ·have e1:cutV (fst o) (o::l)=l:=by
    unfold cutV;rw [List.filter_cons_of_neg (by simp),List.filter_eq_self];intro e he;exact kAc (ne e he)
   rw [e1]
   cases l with
   | nil=>rfl
   | cons x l=>unfold bAy;rw [kAg (h1 x kAn)]
  ·have e1:cutV (fst o) (d::l)=d::cutV (fst o) l:=by
    unfold cutV;rw [List.filter_cons_of_pos (by simpa using fun q=>ne o ho q.symm)]
   have h3:=h1 o ho;rw [e1];unfold bAy;rw [kAb (by rw [aCx];omega),bKq h2 ho]
end
theorem bEo {r:List Val}:∀ {rows:List (List Val)},(∀ o∈rows,fst o≠fst r)->cutV (fst r) (bAy r rows)=rows
 | [],_=>by
  unfold bAy cutV
  rw [List.filter_cons_of_neg (by simp)]
  rfl
 | d::l,h=>by
  have hd:=h d kAn
  have hl:∀ o∈l,fst o≠fst r:=fun o ho=>h o (kAl _ ho)
  unfold bAy
  split
  ·unfold cutV
   rw [List.filter_cons_of_neg (by simp),List.filter_eq_self]
   intro o ho
   exact kAc (h o ho)
  ·have e:cutV (fst r) (d::bAy r l)=d::cutV (fst r) (bAy r l):=by
    unfold cutV;rw [List.filter_cons_of_pos (by simpa using hd)]
   rw [e,bEo hl]
theorem bCa {t:Tbl} (h:T[i]?=some t):bA5 T i t t.rows=T:=by
 unfold bA5;refine List.ext_getElem? fun j=>?_;by_cases e:i=j
 ·subst e;rw [kA3 (lL h),h]
 ·rw [List.getElem?_set_ne e]
theorem bOx {s:Sch} {r:List Val} (h:∀ x∈s.xs,x.2=true->(col r x.1).1≠0->∀ o∈rows,col o x.1=col r x.1->fst o=fst r):clash s rows r=false:=by
 unfold clash;rw [List.any_eq_false];intro x hx hc;simp only [Bool.and_eq_true,decide_eq_true_eq,List.any_eq_true] at hc;obtain ⟨h1,h2,o,ho,h3,h4⟩:=hc;exact h4 (h x hx h1 h2 o ho h3)
section
variable {T:List Tbl} {nm:ByteArray} {i:Nat} {t:Tbl} {r:List Val} {cs:List Ch}
theorem bN2 (I:Inv cs T) (hok:∀ x∈r,x.ok) (h:(insO T nm r).e=0):(delO (insO T nm r).T nm (fst r)).e=0/\(delO (insO T nm r).T nm (fst r)).T=T:=by
 have I2:=I.insO nm hok;obtain ⟨i,t,h1,h2,h3,h4,h5⟩:=bRi h;obtain ⟨_,h6,h7,h8⟩:=aAy h1;rw [h2] at h6;cases h6;subst h7;rw [h5] at I2 ⊢;have h9:(bA5 T i t (bAy r t.rows))[i]?=some ⟨t.s,bAy r t.rows⟩:=(aCa h2).2 (Or.inl ⟨rfl,rfl⟩);have h10:=I2.tAt h9;have hro:=aGs (I.ok t h8) hok h3;have he:=(hro.val (hro.fmem (I.ok t h8))).2.1;rw [aGb h10 h9,kAb (by rw [he];simp)]
 cases h11:rowAt (bAy r t.rows) (fst r) with
 | none=>exact absurd rfl (aC9 h11 r (aBt.2 (Or.inl rfl)))
 | some q =>
  refine ⟨rfl,?_⟩;show bA5 (bA5 T i t (bAy r t.rows)) i ⟨t.s,bAy r t.rows⟩ (cutV (fst r) (bAy r t.rows))=T;rw [aGl,bEo (aC9 h4),bCa h2]
theorem bMj {o:List Val} (I:Inv cs T) (hok:∀ x∈r,x.ok) (h1:tAt T nm=some i) (h2:T[i]?=some t) (ho:rowAt t.rows (fst r)=some o) (h:(updO T nm r).e=0):(updO (updO T nm r).T nm o).e=0/\(updO (updO T nm r).T nm o).T=T:=by
 have I2:=I.updO nm hok;obtain ⟨_,h6,h7,h8⟩:=aAy h1;rw [h2] at h6;cases h6;subst h7;obtain ⟨h11,h12⟩:=aBy ho;rw [aCh h1 h2,ho] at h;have h5:(updO T t.s.nm r).T=bA5 T i t (bAy r (cutV (fst r) t.rows)):=by
  rw [aCh h1 h2,ho];by_cases q1:t.s.fits r≠0
  ·rw [kAg q1] at h;exact absurd h q1
  ·rw [kAb q1] at h ⊢;dsimp only at h ⊢;by_cases q2:clash t.s t.rows r=true
   ·rw [kAg q2] at h;exact absurd h (by simp)
   ·rw [kAb q2]
 rw [h5] at I2 ⊢;have h9:(bA5 T i t (bAy r (cutV (fst r) t.rows)))[i]?=some ⟨t.s,bAy r (cutV (fst r) t.rows)⟩:=(aCa h2).2 (Or.inl ⟨rfl,rfl⟩);have h10:=I2.tAt h9;have hro:=I.row t h8 o h11;have hc:clash t.s (bAy r (cutV (fst r) t.rows)) o=false:=by
  refine bOx fun x hx hx2 hn q hq he=>?_;rcases aBt.1 hq with rfl | hq
  ·exact h12.symm
  ·have h13:=(aBl.1 hq).1;have:=I.uni t h8 x hx hx2 o h11 q h13 hn he.symm;rw [this]
 rw [aCh h10 h9];show (if t.s.fits o≠0 then _ else _:Out).e=0/\(if t.s.fits o≠0 then _ else _:Out).T=T;rw [kAb (by rw [hro.fit];simp)]
 cases h14:rowAt (bAy r (cutV (fst r) t.rows)) (fst o) with
 | none=>exact absurd h12.symm (aC9 h14 r (aBt.2 (Or.inl rfl)))
 | some q =>
  dsimp only;rw [kAb (by rw [hc];simp)];refine ⟨rfl,?_⟩;show bA5 (bA5 T i t (bAy r (cutV (fst r) t.rows))) i ⟨t.s,bAy r (cutV (fst r) t.rows)⟩ (bAy o (cutV (fst o) (bAy r (cutV (fst r) t.rows))))=T;rw [aGl,h12,bEo (fun q hq=>(aBl.1 hq).2),<-h12,bKq (I.srt t h8) h11,bCa h2]
theorem upd_same (h:(updO T nm r).e≠0):(updO T nm r).T=T/\(updO T nm r).m=[]:=by
 cases h1:tAt T nm with
 | none=>rw [aFg h1];exact ⟨rfl,rfl⟩
 | some i =>
  obtain ⟨t,h2,_,h3⟩:=aAy h1;rw [aCh h1 h2] at h ⊢;by_cases q1:t.s.fits r≠0
  ·rw [kAg q1];exact ⟨rfl,rfl⟩
  ·rw [kAb q1] at h ⊢
   cases h4:rowAt t.rows (fst r) with
   | none=>exact ⟨rfl,rfl⟩
   | some o =>
    rw [h4] at h;dsimp only at h ⊢;by_cases q2:clash t.s t.rows r=true
    ·rw [kAg q2];exact ⟨rfl,rfl⟩
    ·rw [kAb q2] at h;exact absurd rfl h
end
def TbE [Gd] (F:Nat->Prop) (B p q g ls db:Nat) (W w0:World) (N:Nat) (T:List Tbl) (w:World):Prop:=∃ v cs,DR B p q g ls db v cs W w0 w/\Inv cs T/\cs.length=N/\∀ i,F i->i<w.heap.size/\i≠db/\v.ownBlock≠some i
section
variable [Gd] {F:Nat->Prop} {B p q g ls db N M:Nat} {W w0 w w':World} {T:List Tbl}
theorem TbE.tf (h:TbE F B p q g ls db W w0 N T w):TbF F B p q g ls db W w0 N T w:=by
 obtain ⟨v,cs,h1,h2,h3,h4⟩:=h;exact ⟨v,cs,h1,h2,by omega,h4⟩
theorem TbE.later (h:TbE F B p q g ls db W w0 N T w) (hb:Below w.heap.size w w'):TbE F B p q g ls db W w0 N T w':=by
 obtain ⟨v,cs,h1,h2,h3,h4⟩:=h;exact ⟨v,cs,h1.later hb,h2,h3,fun i hi=>⟨kAi (h4 i hi).1 hb.size,(h4 i hi).2⟩⟩
theorem OpR.te {o:Out} {e:Ending} (h:DR B p q g ls db v cs W w0 w) (I:Inv (cs++o.m) o.T) (hl:cs.length=N) (hF:∀ i,F i->i<w.heap.size/\i≠db/\v.ownBlock≠some i) (hp:OpR B p q g ls db v cs W w0 w o e w'):e=.returned (.int .i64 o.e)/\TbE F B p q g ls db W w0 (N+o.m.length) o.T w'/\KpF F w w':=by
 obtain ⟨v',rfl,hd,hf⟩:=hp;refine ⟨rfl,⟨v',_,hd,I,by rw [lA];omega,fun i hi=>?_⟩,fun i hi=>hf.blk i (hF i hi).1 (hF i hi).2.1 (hF i hi).2.2⟩;obtain ⟨f1,f2,f3⟩:=hF i hi;refine ⟨kAi f1 hf.siz,f2,fun q=>?_⟩;rcases hf.own i q with q | q
 ·exact f3 q
 ·omega
theorem TbE.insert {r:List Val} (h:TbE F B p q g ls db W w0 N T w) (hN:N<=980) (nm:ByteArray) (hp:SVK fV 3 w a n c r) (hok:∀ x∈r,x.ok/\x.2.2.size<=1048576) :
  Calls prog 26 #[.pointer (some ⟨db,0,none⟩),.string nm,.slice a n c] w fun e w'=>e=.returned (.int .i64 (insO T nm r).e)/\TbE F B p q g ls db W w0 (N+(insO T nm r).m.length) (insO T nm r).T w'/\KpF F w w':=by
 obtain ⟨v,cs,h1,h2,h3,h4⟩:=h;exact (aCe h1 h2 (by omega) nm hp hok).mono fun e w' hp=>OpR.te h1 (h2.insO nm fun x hx=>(hok x hx).1) h3 h4 hp
theorem TbE.update {r:List Val} (h:TbE F B p q g ls db W w0 N T w) (hN:N<=980) (nm:ByteArray) (hp:SVK fV 3 w a n c r) (hok:∀ x∈r,x.ok/\x.2.2.size<=1048576) :
  Calls prog 28 #[.pointer (some ⟨db,0,none⟩),.string nm,.slice a n c] w fun e w'=>e=.returned (.int .i64 (updO T nm r).e)/\TbE F B p q g ls db W w0 (N+(updO T nm r).m.length) (updO T nm r).T w'/\KpF F w w':=by
 obtain ⟨v,cs,h1,h2,h3,h4⟩:=h;exact (aJb h1 h2 (by omega) nm hp hok).mono fun e w' hp=>OpR.te h1 (h2.updO nm fun x hx=>(hok x hx).1) h3 h4 hp
theorem TbE.mark (h:TbE F B p q g ls db W w0 N T w):Calls prog 25 #[.pointer (some ⟨db,0,none⟩)] w fun e w'=>e=.returned (.int .i64 (N:Int))/\w'=w:=by
 obtain ⟨v,cs,h1,h2,h3,h4⟩:=h;have h5:=bJ9 h1.dd;rw [h3] at h5;exact h5
theorem TbD.getN (h:TbD B p q g ls db W w0 N T w) (hN:N<=990) (nm:ByteArray) {x:Val} (hx:x.ok/\x.2.2.size<=1048576) :
  Calls prog 24 #[.pointer (some ⟨db,0,none⟩),.string nm,.agg #[.int .i64 x.1,.int .i64 x.2.1,.string x.2.2]] w fun e w'=>bVo w.heap.size (bEk T nm x).1 (bEk T nm x).2 e w'/\Below w.heap.size w w':=by
 obtain ⟨v,cs,h1,h2,h3⟩:=h;exact aH1 h1 h2 (by omega) nm hx.1 hx.2
theorem KX.reb (h:KX B p q g N c u l W w) (hs:w.heap.size<=w'.heap.size) (f:∀ (k:Nat) (cs:Array Value) (t:TypeId) (fz:Nat×Nat),w.heap[k]?=some (Obj.cells cs t fz)->t≠38->w'.heap[k]?=some (Obj.cells cs t fz)):KX B p q g N c u l w' w':=by
 obtain ⟨last,s,t,now,left,h⟩:=h;obtain ⟨cg,hg,hT⟩:=h.tm.tv;have hst:ST B p q s t w':=by
  obtain ⟨h1,gs,h2⟩:=h.tm.st;refine ⟨?_,gs,f _ _ _ _ h2.hq (by decide),f _ _ _ _ h2.hs (by decide),h2.qB,h2.gB,h2.ok,h2.hG⟩;exact h1.of_stay (fun k cs t e ht=>f k cs t _ e (by rcases ht with rfl | rfl | rfl | rfl | rfl | rfl | rfl<;>decide))
 exact ⟨last,s,t,now,left,⟨hst,nT h.tm.bw hs,h.tm.bg,⟨cg,f _ _ _ _ hg (by decide),hT⟩,h.tm.lf,h.tm.dn,h.tm.af,h.tm.l1,h.tm.sn,h.tm.hd⟩,h.tr,h.ln,h.sn,h.mu,h.cu,h.nm,h.f3,kBh _ _⟩
end
theorem aC5:∀ (bs:List Value) (g k:Nat) (w:World),(bBq w g k bs).heap.size=w.heap.size
 | [],_,_,_=>rfl
 | x::l,g,k,w=>by
  unfold bBq
  rw [aC5 l g (k+1) _]
  simp
theorem BK.oth8 {t3:Nat} (h:BK B w a n c xs) (hc:w.heap[t3]?=some (.cells cur t fz)) (h8:∀ (o:Nat) (z:Int),cur[o]?≠some (.int .u8 z)) (ht:t≠5) (ho:∀ i,i≠t3->w'.heap[i]?=w.heap[i]?):BK B w' a n c xs:=by
 refine ⟨⟨h.1.hlen,h.1.hcap,h.1.hroom,h.1.hmax,h.1.hbyte,h.1.hnil,fun x hx i hi=>?_⟩,fun x hx=>?_⟩
 ·have h1:=h.1.hcell x hx i hi;have hne:(x.add i).block≠t3:=by
   intro e;unfold World.cell? at h1;rw [e,hc] at h1;dsimp only at h1
   split at h1
   ·cases h1
   ·exact h8 _ _ h1
  unfold World.cell? at h1 ⊢;rw [ho _ hne];exact h1
 ·rcases h.2 x hx with q | ⟨cs,f,q⟩
  ·exact Or.inl q
  ·refine Or.inr ⟨cs,f,(ho _ fun e=>?_).trans q⟩;rw [e,hc] at q;simp only [oI,cI] at q;exact ht q.2.1
theorem RwK.oth8 {te t3:Nat} {f:CE->List Value} (h:RwK te k f B B1 w v F) (hc:w.heap[t3]?=some (.cells cur t fz)) (h8:∀ (o:Nat) (z:Int),cur[o]?≠some (.int .u8 z)) (ht:t≠5) (ho:∀ i,i≠t3->w'.heap[i]?=w.heap[i]?) (hk:∀ i,v.ownBlock=some i->w'.heap[i]?=w.heap[i]?):RwK te k f B B1 w' v F:=by
 obtain ⟨kv,h1,h2,h4⟩:=h;refine ⟨kv,h1,aBs h2 fun i cs e1 e2=>(hk i e1).trans e2,fun i it x e1 e2=>?_⟩;obtain ⟨p1,⟨a,d,p2,p3⟩,⟨b,g,p4,p5⟩⟩:=h4 i it x e1 e2;exact ⟨p1,⟨a,d,p2,p3.oth8 hc h8 ht ho⟩,⟨b,g,p4,p5.oth8 hc h8 ht ho⟩⟩
theorem DR.reb [Gd] {t3:Nat} {bs:List Value} (h:DR B p q g ls db v cs W w0 w) (hc:w.heap[t3]?=some (.cells cur 38 (0,0))) (ht:t3<w0.heap.size) (hn:cur.size=bs.length) (h8:∀ (o:Nat) (z:Int),cur[o]?≠some (.int .u8 z)):DR B p q g ls db v cs (bBq w0 t3 0 bs) (bBq w0 t3 0 bs) (bBq w t3 0 bs):=by
 have hc0:w0.heap[t3]?=some (.cells cur 38 (0,0)):=(h.be.block t3 ht).symm.trans hc;have b0:=aFk (B:=0) (w0:=w0) (g:=t3) (kAm _) bs 0 w0 (kBh 0 w0);have b1:=aFk (B:=0) (w0:=w) (g:=t3) (kAm _) bs 0 w (kBh 0 w);have typ:∀ (u:World),u.heap[t3]?=some (.cells cur 38 (0,0))->∀ (k:Nat) (cs:Array Value) (t:TypeId) (fz:Nat×Nat),u.heap[k]?=some (Obj.cells cs t fz)->t≠38->(bBq u t3 0 bs).heap[k]?=some (Obj.cells cs t fz):=by
  intro u hu k cs t fz hk hne;rw [aDl (fun e=>?_) bs 0 u,hk];rw [e,hu] at hk;simp only [oI,cI] at hk;exact hne hk.2.1.symm
 have hst:LS B p q g ls 1000 0 0 [] (bBq w0 t3 0 bs) (bBq w0 t3 0 bs):=by
  obtain ⟨lv,h1,h2⟩:=h.st.lv;exact ⟨h.st.kx.reb b0.size (typ w0 hc0),h.st.bl,lv,typ w0 hc0 _ _ _ _ h1 (by decide),h2⟩
 refine ⟨hst,⟨b1.os.trans (h.be.os.trans b0.os.symm),b1.tape.trans (h.be.tape.trans b0.tape.symm),b1.output.trans (h.be.output.trans b0.output.symm),?_,fun i hi=>?_⟩,⟨typ w hc _ _ _ _ h.dd.blk (by decide),h.dd.row.oth8 hc h8 (by decide) (fun i hi=>aDl hi bs 0 w) fun i hi=>?_,h.dd.hB⟩,by rw [aC5];exact h.hd⟩
 ·rw [aC5,aC5];exact h.be.size
 ·rw [aC5] at hi;by_cases e:i=t3
  ·subst e;rw [aHi hc hn,aHi hc0 hn]
  ·rw [aDl e,aDl e];exact h.be.block i hi
 ·obtain ⟨_,_,cur2,h8⟩:=h.dd.row.blk hi;rw [typ w hc i _ _ _ h8 (by decide),h8]
end Go.Proofs.YtdpdjpkmndnaaaaGreat
set_option maxRecDepth 100000
set_option maxHeartbeats 16000000
set_option linter.unusedVariables false
namespace Go.Proofs.YtdpdjpkmndnaaaaGreat
open Go.RowKit
section
variable [Gd] {F F':Nat->Prop} {B p q g ls db N M:Nat} {W w0 w w':World} {T:List Tbl}
theorem TbE.ext (h:TbE F B p q g ls db W w0 N T w) (hb:Below w.heap.size w w') (hF:∀ i,F' i->F i\/(w.heap.size<=i/\i<w'.heap.size)):TbE F' B p q g ls db W w0 N T w':=by
 obtain ⟨v,cs,h1,h2,h3,h4⟩:=h;refine ⟨v,cs,h1.later hb,h2,h3,fun i hi=>?_⟩;rcases hF i hi with q | q
 ·exact ⟨kAi (h4 i q).1 hb.size,(h4 i q).2⟩
 ·have f3:=h1.dd.bw;refine ⟨q.2,by omega,fun p=>?_⟩;have:=(h1.dd.row.blk p).2.1;omega
theorem TbD.reb {t3:Nat} {w3:World} {cur:Array Value} {bs:List Value} (h:TbD B p q g ls db W w0 N T w) (hb:Below w.heap.size w w3) (hc:w3.heap[t3]?=some (.cells cur 38 (0,0))) (ht:t3<w0.heap.size) (hn:cur.size=bs.length) (h8:∀ (o:Nat) (z:Int),cur[o]?≠some (.int .u8 z)) (hF:∀ i,F i->i=t3\/(w.heap.size<=i/\i<w3.heap.size)):∃ M,M<=N/\TbE F B p q g ls db (bBq w0 t3 0 bs) (bBq w0 t3 0 bs) M T (bBq w3 t3 0 bs):=by
 obtain ⟨v,cs,h1,h2,h3⟩:=h;refine ⟨cs.length,h3,v,cs,(h1.later hb).reb hc ht hn h8,h2,rfl,fun i hi=>?_⟩;have f3:=h1.dd.bw;have f4:=h1.hd;have f5:=hb.size;rw [aC5];rcases hF i hi with q | q
 ·have h9:=aAe hc;refine ⟨by omega,by omega,fun p=>?_⟩;have:=(h1.dd.row.blk p).1;omega
 ·refine ⟨q.2,by omega,fun p=>?_⟩;have:=(h1.dd.row.blk p).2.1;omega
end
theorem bK6 {T:List Tbl} {nm:ByteArray} {x:Val} {i:Nat} {t:Tbl} (h1:tAt T nm=some i) (h2:T[i]?=some t) (h:(bEk T nm x).2=0):∃ o,rowAt t.rows x=some o/\(bEk T nm x).1=some o:=by
 rw [aCo h1 h2] at h ⊢;by_cases q:x.err≠0
 ·rw [kAg q] at h;exact absurd h (by simp)
 ·rw [kAb q] at h ⊢
  cases h3:rowAt t.rows x with
  | none=>rw [h3] at h;exact absurd h (by simp)
  | some o=>exact ⟨o,rfl,rfl⟩
theorem bQ3 (y:OpV):∀ (o:Nat) (z:Int),(#[.int .i64 y.kind,.string y.nm,.string y.s.nm,.slice y.ca y.cl y.cc,.slice y.xa y.xl y.xc,.slice y.ra y.rl y.rc,.int .i64 y.key.1,.int .i64 y.key.2.1,.string y.key.2.2,.int .i64 y.col,.int .i64 y.lo.1,.int .i64 y.lo.2.1,.string y.lo.2.2,.int .i64 y.hi.1,.int .i64 y.hi.2.1,.string y.hi.2.2,.int .i64 y.lim]:Array Value)[o]?≠some (.int .u8 z):=by
 intro o z
 match o with
 | 0 | 1 | 2 | 3 | 4 | 5 | 6 | 7 | 8 | 9 | 10 | 11 | 12 | 13 | 14 | 15 | 16=>simp
 | o+17=>simp
theorem aI5 (a:Option Addr) (n c:Nat) (xs:List OpV) (y:OpV) (w:World) (hx:SVK fO 17 w a n c xs) (px:∀ y∈xs,OpP w y) (hy:OpP w y):Calls Tryz.prog 5 #[.slice a n c,.agg #[.int .i64 y.kind,.string y.nm,.string y.s.nm,.slice y.ca y.cl y.cc,.slice y.xa y.xl y.xc,.slice y.ra y.rl y.rc,.int .i64 y.key.1,.int .i64 y.key.2.1,.string y.key.2.2,.int .i64 y.col,.int .i64 y.lo.1,.int .i64 y.lo.2.1,.string y.lo.2.2,.int .i64 y.hi.1,.int .i64 y.hi.2.1,.string y.hi.2.2,.int .i64 y.lim]] w fun e w'=>e=.returned (.bool true)/\Below w.heap.size w w':=by
 letI:Gd:=⟨fun _=>False⟩;obtain ⟨K3,hK3⟩:∃ k,w.heap.size=k:=⟨_,rfl⟩;obtain ⟨wA,hwA⟩:∃ wA,wA=w.alloc (.cells #[.int .i64 y.kind,.string y.nm,.string y.s.nm,.slice y.ca y.cl y.cc,.slice y.xa y.xl y.xc,.slice y.ra y.rl y.rc,.int .i64 y.key.1,.int .i64 y.key.2.1,.string y.key.2.2,.int .i64 y.col,.int .i64 y.lo.1,.int .i64 y.lo.2.1,.string y.lo.2.2,.int .i64 y.hi.1,.int .i64 y.hi.2.1,.string y.hi.2.2,.int .i64 y.lim] 38):=⟨_,rfl⟩;have hbA:Below w.heap.size w wA:=by rw [hwA];exact aAg w _
 have hcA:wA.heap[K3]?=some (.cells #[.int .i64 y.kind,.string y.nm,.string y.s.nm,.slice y.ca y.cl y.cc,.slice y.xa y.xl y.xc,.slice y.ra y.rl y.rc,.int .i64 y.key.1,.int .i64 y.key.2.1,.string y.key.2.2,.int .i64 y.col,.int .i64 y.lo.1,.int .i64 y.lo.2.1,.string y.lo.2.2,.int .i64 y.hi.1,.int .i64 y.hi.2.1,.string y.hi.2.2,.int .i64 y.lim] 38 (0,0)):=by rw [hwA,<-hK3];exact boxed w _
 have HCA:=aAc hcA;have HBA:Hid (Below K3 w wA):=by show Below K3 w wA;rw [<-hK3];exact hbA
 have HX:=aAc (hx.later hbA);have HPX:Hid (∀ y∈xs,OpP wA y):=fun y hy=>(px y hy).later hbA;have HY:=aAc (hy.later hbA);have HNW:=aAc (bKd wA (fun _ h=>False.elim h));obtain ⟨B,hB⟩:∃ B,wA.heap.size=B:=⟨_,rfl⟩;have HBB:=aAc hB;have HWA:=aAc hwA;rw [hB] at HNW;rw [hK3];clear hB hx px hy hbA hcA hwA;go_enter Tryz.func5,Tryz.ntmps5;go_upto_region 1 with fail;rw [<-HWA.o]
 try simp only [hK3]
 clear HWA hK3;go_wp2_with fail;refine HNW.o.mono ?_;rintro e w1 ⟨p,q,g,ls,db,w0,rfl,hd1,hb1⟩;have HW0:Hid (K3<w0.heap.size/\K3<=B):=⟨kAi (by rw [<-HBB.o];exact aAe HCA.o) hd1.st.bw,by rw [<-HBB.o];exact kAe (aAe HCA.o)⟩;have HW0B:Hid (Below B wA w0):=hd1.st.kx.be;have HD1:Hid (TbF (fun _=>False) wA.heap.size p q g ls db wA w0 0 [] w1):=TbD.tf0 (by rw [HBB.o];exact ⟨_,_,hd1,Inv.nil,nR _⟩);clear hd1 hb1 HNW;have HR1:=aAc (bRa (most:=20) HD1.o (by omega) HX.o HPX.o);go_wp2_with fail;refine HR1.o.mono ?_;rintro e w2 ⟨rfl,T,hd2,_,_⟩;have HD2:Hid (TbD B p q g ls db wA w0 160 T w2):=by have:=hd2.td;rw [HBB.o] at this;exact this
 have hb2:Below wA.heap.size wA w2:=hd2.bel;have HC2:=aAc ((hb2.block K3 (aAe HCA.o)).trans HCA.o);have HY2:=aAc (HY.o.later hb2);clear hd2 hb2 HD1 HR1 HX HPX HY;have c0:w2.cell? ⟨K3,0,none⟩=some (.int .i64 y.kind):=aAa HC2.o;have c1:w2.cell? ⟨K3,1,none⟩=some (.string y.nm):=aAa HC2.o;have c2:w2.cell? ⟨K3,2,none⟩=some (.string y.s.nm):=aAa HC2.o;have c3:w2.cell? ⟨K3,3,none⟩=some (.slice y.ca y.cl y.cc):=aAa HC2.o;have c4:w2.cell? ⟨K3,4,none⟩=some (.slice y.xa y.xl y.xc):=aAa HC2.o;have c5:w2.cell? ⟨K3,5,none⟩=some (.slice y.ra y.rl y.rc):=aAa HC2.o;have c6:w2.cell? ⟨K3,6,none⟩=some (.int .i64 y.key.1):=aAa HC2.o;have c7:w2.cell? ⟨K3,7,none⟩=some (.int .i64 y.key.2.1):=aAa HC2.o;have c8:w2.cell? ⟨K3,8,none⟩=some (.string y.key.2.2):=aAa HC2.o;have c9:w2.cell? ⟨K3,9,none⟩=some (.int .i64 y.col):=aAa HC2.o;have c10:w2.cell? ⟨K3,10,none⟩=some (.int .i64 y.lo.1):=aAa HC2.o;have c11:w2.cell? ⟨K3,11,none⟩=some (.int .i64 y.lo.2.1):=aAa HC2.o;have c12:w2.cell? ⟨K3,12,none⟩=some (.string y.lo.2.2):=aAa HC2.o;have c13:w2.cell? ⟨K3,13,none⟩=some (.int .i64 y.hi.1):=aAa HC2.o;have c14:w2.cell? ⟨K3,14,none⟩=some (.int .i64 y.hi.2.1):=aAa HC2.o;have c15:w2.cell? ⟨K3,15,none⟩=some (.string y.hi.2.2):=aAa HC2.o;have c16:w2.cell? ⟨K3,16,none⟩=some (.int .i64 y.lim):=aAa HC2.o;have HOP:Hid (Calls Tryz.prog 10 #[.agg #[.int .i64 y.kind,.string y.nm,.string y.s.nm,.slice y.ca y.cl y.cc,.slice y.xa y.xl y.xc,.slice y.ra y.rl y.rc,.int .i64 y.key.1,.int .i64 y.key.2.1,.string y.key.2.2,.int .i64 y.col,.int .i64 y.lo.1,.int .i64 y.lo.2.1,.string y.lo.2.2,.int .i64 y.hi.1,.int .i64 y.hi.2.1,.string y.hi.2.2,.int .i64 y.lim]] w2 fun e w'=>∃ z:OpV,e=.returned (.agg #[.int .i64 z.kind,.string z.nm,.string z.s.nm,.slice z.ca z.cl z.cc,.slice z.xa z.xl z.xc,.slice z.ra z.rl z.rc,.int .i64 z.key.1,.int .i64 z.key.2.1,.string z.key.2.2,.int .i64 z.col,.int .i64 z.lo.1,.int .i64 z.lo.2.1,.string z.lo.2.2,.int .i64 z.hi.1,.int .i64 z.hi.2.1,.string z.hi.2.2,.int .i64 z.lim])/\OpP w' z/\Below w2.heap.size w2 w'/\∀ b o,z.ra=some ⟨b,o,none⟩->w2.heap.size<=b):=(bS4 y HY2.o).mono fun e w' hh=>by obtain ⟨z,h1,_,h3,h4,h5⟩:=hh;exact ⟨z,h1,h3,h4,h5⟩
 go_wp2_with fail;refine HOP.o.mono ?_;rintro e w3 ⟨z,rfl,hz,hb3,hfz⟩;have hc3:=(hb3.block K3 (aAe HC2.o)).trans HC2.o;have HZR:Hid (∀ i,bBi z.ra z.rl i->w2.heap.size<=i/\i<w3.heap.size):=fun i hi=>by
  have h7:=hz.rw_.blt hi;obtain ⟨h8,ad,h9,h10⟩:=hi;obtain ⟨b,o,e1,_⟩:=hz.rw_.pl h8;rw [e1] at h9;cases h9;exact ⟨by rw [<-h10];exact hfz b o e1,h7⟩
 obtain ⟨w4,hw4⟩:∃ w4,w4=bBq w3 K3 0 [.int .i64 z.kind,.string z.nm,.string z.s.nm,.slice z.ca z.cl z.cc,.slice z.xa z.xl z.xc,.slice z.ra z.rl z.rc,.int .i64 z.key.1,.int .i64 z.key.2.1,.string z.key.2.2,.int .i64 z.col,.int .i64 z.lo.1,.int .i64 z.lo.2.1,.string z.lo.2.2,.int .i64 z.hi.1,.int .i64 z.hi.2.1,.string z.hi.2.2,.int .i64 z.lim]:=⟨_,rfl⟩;obtain ⟨W4,hW4⟩:∃ W4,W4=bBq w0 K3 0 [.int .i64 z.kind,.string z.nm,.string z.s.nm,.slice z.ca z.cl z.cc,.slice z.xa z.xl z.xc,.slice z.ra z.rl z.rc,.int .i64 z.key.1,.int .i64 z.key.2.1,.string z.key.2.2,.int .i64 z.col,.int .i64 z.lo.1,.int .i64 z.lo.2.1,.string z.lo.2.2,.int .i64 z.hi.1,.int .i64 z.hi.2.1,.string z.hi.2.2,.int .i64 z.lim]:=⟨_,rfl⟩;obtain ⟨N4,hN4,hte⟩:=HD2.o.reb (F:=fun i=>i=K3\/bBi z.ra z.rl i) (bs:=[.int .i64 z.kind,.string z.nm,.string z.s.nm,.slice z.ca z.cl z.cc,.slice z.xa z.xl z.xc,.slice z.ra z.rl z.rc,.int .i64 z.key.1,.int .i64 z.key.2.1,.string z.key.2.2,.int .i64 z.col,.int .i64 z.lo.1,.int .i64 z.lo.2.1,.string z.lo.2.2,.int .i64 z.hi.1,.int .i64 z.hi.2.1,.string z.hi.2.2,.int .i64 z.lim]) hb3 hc3 HW0.o.1 rfl (bQ3 y) (fun i hi=>hi.elim Or.inl fun q=>Or.inr (HZR.o i q));rw [<-hw4,<-hW4] at hte;have HE4:=aAc hte;have HN7:Hid (N4<=160):=hN4;have HC4:Hid (w4.heap[K3]?=some (.cells #[.int .i64 z.kind,.string z.nm,.string z.s.nm,.slice z.ca z.cl z.cc,.slice z.xa z.xl z.xc,.slice z.ra z.rl z.rc,.int .i64 z.key.1,.int .i64 z.key.2.1,.string z.key.2.2,.int .i64 z.col,.int .i64 z.lo.1,.int .i64 z.lo.2.1,.string z.lo.2.2,.int .i64 z.hi.1,.int .i64 z.hi.2.1,.string z.hi.2.2,.int .i64 z.lim] 38 (0,0))):=by show _=_;rw [hw4];exact aHi hc3 rfl
 have HSV4:Hid (SVK fV 3 w4 z.ra z.rl z.rc z.row):=hz.rw_.kp fun i hi=>by
  rw [hw4];refine aDl (fun e=>?_) _ _ _;have h9:=(HZR.o i hi).1;have h10:=aAe HC2.o;omega
 have HRP:Hid (∀ x∈z.row,x.ok/\x.2.2.size<=1048576):=hz.rp;have HBW:Hid (Below K3 w W4):=by
  have h7:=HBA.o.trans (HW0B.o.mono HW0.o.2);show Below K3 w W4;rw [hW4];exact aFk (nR _) _ 0 w0 h7
 have HBK:Hid (K3<=B):=HW0.o.2;have hnest:(((((((((((((((((w3.setCell ⟨K3,0,none⟩ (.int .i64 z.kind)).setCell ⟨K3,1,none⟩ (.string z.nm)).setCell ⟨K3,2,none⟩ (.string z.s.nm)).setCell ⟨K3,3,none⟩ (.slice z.ca z.cl z.cc)).setCell ⟨K3,4,none⟩ (.slice z.xa z.xl z.xc)).setCell ⟨K3,5,none⟩ (.slice z.ra z.rl z.rc)).setCell ⟨K3,6,none⟩ (.int .i64 z.key.1)).setCell ⟨K3,7,none⟩ (.int .i64 z.key.2.1)).setCell ⟨K3,8,none⟩ (.string z.key.2.2)).setCell ⟨K3,9,none⟩ (.int .i64 z.col)).setCell ⟨K3,10,none⟩ (.int .i64 z.lo.1)).setCell ⟨K3,11,none⟩ (.int .i64 z.lo.2.1)).setCell ⟨K3,12,none⟩ (.string z.lo.2.2)).setCell ⟨K3,13,none⟩ (.int .i64 z.hi.1)).setCell ⟨K3,14,none⟩ (.int .i64 z.hi.2.1)).setCell ⟨K3,15,none⟩ (.string z.hi.2.2)).setCell ⟨K3,16,none⟩ (.int .i64 z.lim))=w4:=by
  rw [hw4];simp only [bBq,Nat.zero_add,Nat.reduceAdd]
 have s0:w3.cell? ⟨K3,0,none⟩=some (.int .i64 y.kind):=aAa hc3;have sf0:w3.frozen? ⟨K3,0,none⟩=false:=aAh hc3;have s1:w3.cell? ⟨K3,1,none⟩=some (.string y.nm):=aAa hc3;have sf1:w3.frozen? ⟨K3,1,none⟩=false:=aAh hc3;have s2:w3.cell? ⟨K3,2,none⟩=some (.string y.s.nm):=aAa hc3;have sf2:w3.frozen? ⟨K3,2,none⟩=false:=aAh hc3;have s3:w3.cell? ⟨K3,3,none⟩=some (.slice y.ca y.cl y.cc):=aAa hc3;have sf3:w3.frozen? ⟨K3,3,none⟩=false:=aAh hc3;have s4:w3.cell? ⟨K3,4,none⟩=some (.slice y.xa y.xl y.xc):=aAa hc3;have sf4:w3.frozen? ⟨K3,4,none⟩=false:=aAh hc3;have s5:w3.cell? ⟨K3,5,none⟩=some (.slice y.ra y.rl y.rc):=aAa hc3;have sf5:w3.frozen? ⟨K3,5,none⟩=false:=aAh hc3;have s6:w3.cell? ⟨K3,6,none⟩=some (.int .i64 y.key.1):=aAa hc3;have sf6:w3.frozen? ⟨K3,6,none⟩=false:=aAh hc3;have s7:w3.cell? ⟨K3,7,none⟩=some (.int .i64 y.key.2.1):=aAa hc3;have sf7:w3.frozen? ⟨K3,7,none⟩=false:=aAh hc3;have s8:w3.cell? ⟨K3,8,none⟩=some (.string y.key.2.2):=aAa hc3;have sf8:w3.frozen? ⟨K3,8,none⟩=false:=aAh hc3;have s9:w3.cell? ⟨K3,9,none⟩=some (.int .i64 y.col):=aAa hc3;have sf9:w3.frozen? ⟨K3,9,none⟩=false:=aAh hc3;have s10:w3.cell? ⟨K3,10,none⟩=some (.int .i64 y.lo.1):=aAa hc3;have sf10:w3.frozen? ⟨K3,10,none⟩=false:=aAh hc3;have s11:w3.cell? ⟨K3,11,none⟩=some (.int .i64 y.lo.2.1):=aAa hc3;have sf11:w3.frozen? ⟨K3,11,none⟩=false:=aAh hc3;have s12:w3.cell? ⟨K3,12,none⟩=some (.string y.lo.2.2):=aAa hc3;have sf12:w3.frozen? ⟨K3,12,none⟩=false:=aAh hc3;have s13:w3.cell? ⟨K3,13,none⟩=some (.int .i64 y.hi.1):=aAa hc3;have sf13:w3.frozen? ⟨K3,13,none⟩=false:=aAh hc3;have s14:w3.cell? ⟨K3,14,none⟩=some (.int .i64 y.hi.2.1):=aAa hc3;have sf14:w3.frozen? ⟨K3,14,none⟩=false:=aAh hc3;have s15:w3.cell? ⟨K3,15,none⟩=some (.string y.hi.2.2):=aAa hc3;have sf15:w3.frozen? ⟨K3,15,none⟩=false:=aAh hc3;have s16:w3.cell? ⟨K3,16,none⟩=some (.int .i64 y.lim):=aAa hc3;have sf16:w3.frozen? ⟨K3,16,none⟩=false:=aAh hc3;clear hz hb3 hfz hc3 hw4 hW4 hN4 hte HOP c0 c1 c2 c3 c4 c5 c6 c7 c8 c9 c10 c11 c12 c13 c14 c15 c16 HD2 HC2 HY2 HCA HBA HW0B HW0;go_upto_region 6 with fail;clear hnest s0 s1 s2 s3 s4 s5 s6 s7 s8 s9 s10 s11 s12 s13 s14 s15 s16 sf0 sf1 sf2 sf3 sf4 sf5 sf6 sf7 sf8 sf9 sf10 sf11 sf12 sf13 sf14 sf15 sf16;have HNM:=aAc (HE4.o.tf.td.names (by have:=HN7.o;omega));go_wp2_with fail;refine HNM.o.mono ?_;rintro e w5 ⟨na,nc,nms,rfl,hsn,hnm,hb5,_⟩;have HE5:=aAc (HE4.o.later hb5);have HD5:=aAc HE5.o.tf;have HSN:=aAc hsn;have HNS:=aAc hnm;have HC5:=aAc ((hb5.block K3 (aAe HC4.o)).trans HC4.o);have HSV5:=aAc (HSV4.o.later hb5);obtain ⟨k,hk⟩:∃ k,T.length=k:=⟨_,rfl⟩;rw [hk] at HSN;rw [hk];have xk:(k:Int)<=9223372036854775807:=by have:=HSN.o.hc;have:=HSN.o.hm;omega
 have xr:(z.rl:Int)<=9223372036854775807:=by have:=HSV5.o.hc;have:=HSV5.o.hm;omega
 have HT:=aAc bSo;have k5:w5.cell? ⟨K3,5,none⟩=some (.slice z.ra z.rl z.rc):=aAa HC5.o;clear hsn hnm hb5 hk HNM HE4 HC4 HSV4;by_cases h0:k=0
 ·subst h0;go_wp2_with fail;refine (HT.o w5).mono ?_;rintro e w11 ⟨rfl,hb11⟩;have HE:Hid (Below K3 w w11):=HBW.o.trans ((HD5.o.later hb11).bel.mono HBK.o);clear hb11 HT;go_wp2;go_ret;exact ⟨rfl,HE.o⟩
 ·have xk1:((k:Int) == 0)=false:=by simp;omega
  by_cases h9:z.rl=0
  ·have xr1:((z.rl:Int) == 0)=true:=by simp [h9]
   go_wp2_with fail;refine (HT.o w5).mono ?_;rintro e w11 ⟨rfl,hb11⟩;have HE:Hid (Below K3 w w11):=HBW.o.trans ((HD5.o.later hb11).bel.mono HBK.o);clear hb11 HT;go_wp2;go_ret;exact ⟨rfl,HE.o⟩
  ·have xr1:((z.rl:Int) == 0)=false:=by simp;omega
   have xr0:(0:Int)<(z.rl:Int):=by omega
   obtain ⟨nb,no,ena,hnb,hnc⟩:=HSN.o.pl (by omega);obtain ⟨nm,hn0⟩:∃ nm,nms[0]?=some nm:=⟨_,gE (by rw [HSN.o.hl];omega)⟩;subst ena;have n0:w5.cell? ⟨nb,no,none⟩=some (.string nm):=by have:=hnc 0 nm hn0 0 (by omega);exact this
   obtain ⟨i,t,hti,hTi,htn⟩:=HNS.o nm (mG hn0);have xk0:(0:Int)<(k:Int):=by omega
   have HTI:=aAc hti;have HTJ:=aAc hTi;have HRLP:Hid (0<z.rl):=by show 0<z.rl;omega
   have HW1:=aAc (aF2 HD5.o.td (by have:=HN7.o;omega) hti hTi);have HR3:=aAc (HD5.o.rows3 (at_mem hTi));obtain ⟨R,hR⟩:∃ R,t.rows=R:=⟨_,rfl⟩;have HRR:=aAc hR;obtain ⟨len,hlen⟩:∃ n,R.length=n:=⟨_,rfl⟩;have HLEN:=aAc hlen;rw [hR] at HW1 HR3;rw [hlen] at HW1 HR3;clear hnb hnc hn0 hti hTi htn h0 h9 hR hlen;go_wp2_with fail;refine HW1.o.mono ?_;rintro e w6 ⟨⟨wa,wc,rfl,hrn⟩,hb6⟩;obtain ⟨es,hrx,hfx⟩:=hrn.x;have HE6:=aAc (HE5.o.later hb6);have HC6:=aAc ((hb6.block K3 (aAe HC5.o)).trans HC5.o);have HSV6:=aAc (HSV5.o.later hb6);have HRX6:=aAc hrx;have HFX:=aAc hfx;have HB6:=aAc hb6;obtain ⟨rb,ro,era,hrb,hrc⟩:=HSV6.o.pl HRLP.o;obtain ⟨x0,hx0⟩:∃ x,z.row[0]?=some x:=⟨_,gE (by rw [HSV6.o.hl];exact HRLP.o)⟩;have HX0:=aAc hx0;have HXP:=aAc (HRP.o x0 (mG hx0));have HFST:Hid (fst z.row=x0):=by
    show _=_;unfold fst;rw [kAa,hx0];rfl
   obtain ⟨x1,x2,x3⟩:=x0;have r6:w6.cell? ⟨K3,5,none⟩=some (.slice (some ⟨rb,ro,none⟩) z.rl z.rc):=by rw [<-era];exact aAa HC6.o
   have r60:w6.cell? ⟨rb,ro,none⟩=some (.int .i64 x1):=hrc 0 _ hx0 0 (by omega);have r61:w6.cell? ⟨rb,ro+1,none⟩=some (.int .i64 x2):=hrc 0 _ hx0 1 (by omega);have r62:w6.cell? ⟨rb,ro+2,none⟩=some (.string x3):=hrc 0 _ hx0 2 (by omega);have HRB:Hid (bBi z.ra z.rl rb):=⟨HRLP.o,_,era,rfl⟩;have HERA:Hid (z.ra=some ⟨rb,ro,none⟩):=era;have HRLT:Hid (rb<w6.heap.size):=hrb;have HG:=aAc (HE6.o.tf.td.getN (by have:=HN7.o;omega) nm HXP.o);obtain ⟨e7,he7⟩:∃ e,(bEk T nm (x1,x2,x3)).2=e:=⟨_,rfl⟩;have HE77:=aAc he7;rw [he7] at HG;clear hrn hrx hfx hb6 hrb hrc hx0 era he7 HW1 k5 n0 HC5 HSV5;go_wp2_with fail;refine HG.o.mono ?_;rintro e w7 ⟨⟨oa,on,oc,rfl,hso,hfo⟩,hb7⟩;have hrx7:=HRX6.o.later hb7;have HRX:=aAc hrx7;have HSO:=aAc hso;have HE7:Hid (TbE (fun i=>RwF wa len es i\/bBi oa on i\/i=K3\/bBi z.ra z.rl i) B p q g ls db W4 W4 (N4) T w7):=by
    refine TbE.ext HE5.o (HB6.o.trans (hb7.mono HB6.o.size)) fun i hi=>?_;rcases hi with hi | hi | hi | hi
    ·have h8:=HFX.o i hi;exact Or.inr ⟨h8.1,kAi h8.2 hb7.size⟩
    ·have h8:=hso.blt hi;obtain ⟨_,ad,e1,e2⟩:=hi;exact Or.inr ⟨nT HB6.o.size (by rw [<-e2];exact hfo ad e1),h8⟩
    ·exact Or.inl (Or.inl hi)
    ·exact Or.inl (Or.inr hi)
   have k7r:w7.cell? ⟨K3,5,none⟩=some (.slice (some ⟨rb,ro,none⟩) z.rl z.rc):=(hb7.cell (aAn r6)).trans r6;have k70:w7.cell? ⟨rb,ro,none⟩=some (.int .i64 x1):=(hb7.cell HRLT.o).trans r60;have k71:w7.cell? ⟨rb,ro+1,none⟩=some (.int .i64 x2):=(hb7.cell HRLT.o).trans r61;have k72:w7.cell? ⟨rb,ro+2,none⟩=some (.string x3):=(hb7.cell HRLT.o).trans r62;have HSV7:Hid (SVK fV 3 w7 (some ⟨rb,ro,none⟩) z.rl z.rc z.row):=by have:=HSV6.o.later hb7;rw [HERA.o] at this;exact this
   clear hso hfo hb7 hrx7 r6 r60 r61 r62 HG HSV6 HE6 HC6 HRX6;have HMK:=aAc HE7.o.mark;go_wp2_with fail;refine HMK.o.mono ?_;rintro e w8 ⟨rfl,hw⟩;have hw:=hw.symm;subst hw;clear hw HMK;by_cases h7:e7=0
   ·obtain ⟨o,ho1,ho2⟩:=bK6 HTI.o HTJ.o (HE77.o.trans h7);have HSO9:Hid (SVK fV 3 w7 oa on oc o):=by have:=HSO.o;rw [ho2] at this;exact this
    have HO1:=aAc ho1;have HOK:Hid (∀ x∈o,x.ok/\x.2.2.size<=1048576):=by
     obtain ⟨cs,I⟩:=HE7.o.tf.inv;have hro:=I.row t (at_mem HTJ.o) o (aBy ho1).1;intro x hx;have hv:=hro.val hx;have:=aB5 hv.2.1 hv.2.2;exact ⟨hv.1,by omega⟩
    have HU:=aAc (HE7.o.update (by have:=HN7.o;omega) nm HSV7.o HRP.o);obtain ⟨uc,huc⟩:∃ uc,(updO T nm z.row).e=uc:=⟨_,rfl⟩;have HUC:=aAc huc;rw [huc] at HU;subst h7;clear ho1 ho2 huc;go_wp2_with fail;refine HU.o.mono ?_;rintro e w9 ⟨rfl,he9,hk9⟩;have HE9:=aAc he9;have HK9:=aAc hk9;clear he9 hk9 HU k7r k70 k71 k72;by_cases u0:uc=0
    ·have HBK2:Hid ((updO (updO T nm z.row).T nm o).e=0/\(updO (updO T nm z.row).T nm o).T=T):=by
      obtain ⟨cs,I⟩:=HE7.o.tf.inv;exact bMj I (fun x hx=>(HRP.o x hx).1) HTI.o HTJ.o (by rw [HFST.o];exact HO1.o) (HUC.o.trans u0)
     have HM8:Hid ((updO T nm z.row).m.length<=8/\(updO (updO T nm z.row).T nm o).m.length<=8):=by
      obtain ⟨cs,I⟩:=HE7.o.tf.inv;obtain ⟨cs2,I2⟩:=HE9.o.tf.inv;exact ⟨aJv I nm z.row,aJv I2 nm o⟩
     have HV:=aAc (HE9.o.update (by have:=HN7.o;have:=HM8.o.1;omega) nm (HSO9.o.kp fun i hi=>HK9.o i (Or.inr (Or.inl hi))) HOK.o);rw [HBK2.o.1,HBK2.o.2] at HV;obtain ⟨nx,hnx⟩:∃ nx,N4+(updO T nm z.row).m.length+(updO (updO T nm z.row).T nm o).m.length=nx:=⟨_,rfl⟩;have HNB:Hid (nx<=900):=by have:=HN7.o;have:=HM8.o;show nx<=900;omega
     rw [hnx] at HV;subst u0;clear hnx;go_wp2_with fail;refine HV.o.mono ?_;rintro e w10 ⟨rfl,he10,hk10⟩;have HD9:=aAc he10.tf;have HK9:=aAc (HK9.o.trans hk10);clear he10 hk10 HV;have HW2:=aAc (aF2 (HD9.o.td.more (M:=900) HNB.o) (by omega) HTI.o HTJ.o);rw [HRR.o] at HW2;rw [HLEN.o] at HW2;go_wp2_with fail;refine HW2.o.mono ?_;rintro e w11 ⟨⟨va,vc,rfl,hrn⟩,hb11⟩;have HD11:=aAc (HD9.o.later hb11);have HRN:=aAc hrn;have HR11:=aAc (HRX.o.kp (w':=w11) fun i hi=>((HD9.o.kp hb11) i (Or.inl hi)).trans (HK9.o i (Or.inl hi)));clear hrn hb11 HW2;go_wp2_with fail;refine (HT.o w11).mono ?_;rintro e w12 ⟨rfl,hb12⟩;have HD12:=aAc (HD11.o.later hb12);have HSM:=aAc (aCt (HR11.o.later hb12).rws (HRN.o.later hb12).rws (by have:=HR3.o.1;omega) HR3.o.2);clear hb12;go_wp2_with fail;refine HSM.o.mono ?_;rintro e w13 ⟨rfl,hb13⟩;have HE:Hid (Below K3 w w13):=HBW.o.trans ((HD12.o.later hb13).bel.mono HBK.o);clear hb13 HSM;go_wp2;go_ret;exact ⟨rfl,HE.o⟩
    ·have HSM0:=upd_same (show _≠(0:Int) by rw [HUC.o];exact u0);have f8:(uc != 0)=true:=by simp [u0]
     have f9:((N4:Int) != (N4:Int))=false:=by simp
     have HD9:Hid (TbF (fun i=>RwF wa len es i\/bBi oa on i\/i=K3\/bBi z.ra z.rl i) B p q g ls db W4 W4 (N4) T w9):=by have:=HE9.o.tf;rw [HSM0.1,HSM0.2] at this;exact this
     have HMK2:Hid (Calls Tryz.prog 25 #[.pointer (some ⟨db,0,none⟩)] w9 fun e w'=>e=.returned (.int .i64 (N4:Int))/\w'=w9):=by have:=HE9.o.mark;rw [HSM0.2] at this;exact this
     have HNB:Hid (N4<=900):=by have:=HN7.o;show N4<=900;omega
     clear u0 HSM0;go_wp2_with fail;refine HMK2.o.mono ?_;rintro e w10 ⟨rfl,hw⟩;have hw:=hw.symm;subst hw;clear hw HMK2;have HW2:=aAc (aF2 (HD9.o.td.more (M:=900) HNB.o) (by omega) HTI.o HTJ.o);rw [HRR.o] at HW2;rw [HLEN.o] at HW2;go_wp2_with fail;refine HW2.o.mono ?_;rintro e w11 ⟨⟨va,vc,rfl,hrn⟩,hb11⟩;have HD11:=aAc (HD9.o.later hb11);have HRN:=aAc hrn;have HR11:=aAc (HRX.o.kp (w':=w11) fun i hi=>((HD9.o.kp hb11) i (Or.inl hi)).trans (HK9.o i (Or.inl hi)));clear hrn hb11 HW2;go_wp2_with fail;refine (HT.o w11).mono ?_;rintro e w12 ⟨rfl,hb12⟩;have HD12:=aAc (HD11.o.later hb12);have HSM:=aAc (aCt (HR11.o.later hb12).rws (HRN.o.later hb12).rws (by have:=HR3.o.1;omega) HR3.o.2);clear hb12;go_wp2_with fail;refine HSM.o.mono ?_;rintro e w13 ⟨rfl,hb13⟩;have HE:Hid (Below K3 w w13):=HBW.o.trans ((HD12.o.later hb13).bel.mono HBK.o);clear hb13 HSM;go_wp2;go_ret;exact ⟨rfl,HE.o⟩
   ·have f7:(e7 != 0)=true:=by simp [h7]
    have HU:=aAc (HE7.o.insert (by have:=HN7.o;omega) nm HSV7.o HRP.o);obtain ⟨uc,huc⟩:∃ uc,(insO T nm z.row).e=uc:=⟨_,rfl⟩;have HUC:=aAc huc;rw [huc] at HU;clear h7 huc;go_wp2_with fail;refine HU.o.mono ?_;rintro e w9 ⟨rfl,he9,hk9⟩;have HE9:=aAc he9;have HK9:=aAc hk9;by_cases u0:uc=0
    ·have HBK2:Hid ((delO (insO T nm z.row).T nm (x1,x2,x3)).e=0/\(delO (insO T nm z.row).T nm (x1,x2,x3)).T=T):=by
      obtain ⟨cs,I⟩:=HE7.o.tf.inv;have:=bN2 I (fun x hx=>(HRP.o x hx).1) (HUC.o.trans u0);rw [HFST.o] at this;exact this
     have HM8:Hid ((insO T nm z.row).m.length<=8):=by
      obtain ⟨cs,I⟩:=HE7.o.tf.inv;exact bFy I nm z.row
     have HV:=aAc (HE9.o.tf.delete (by have:=HN7.o;have:=HM8.o;omega) nm HXP.o);rw [HBK2.o.1,HBK2.o.2] at HV;obtain ⟨nx,hnx⟩:∃ nx,N4+(insO T nm z.row).m.length+8=nx:=⟨_,rfl⟩;have HNB:Hid (nx<=900):=by have:=HN7.o;have:=HM8.o;show nx<=900;omega
     rw [hnx] at HV;subst u0;have k9r:w9.cell? ⟨K3,5,none⟩=some (.slice (some ⟨rb,ro,none⟩) z.rl z.rc):=(kBp (hk9 K3 (Or.inr (Or.inr (Or.inl rfl))))).trans k7r;have k90:w9.cell? ⟨rb,ro,none⟩=some (.int .i64 x1):=(kBp (hk9 rb (Or.inr (Or.inr (Or.inr HRB.o))))).trans k70;have k91:w9.cell? ⟨rb,ro+1,none⟩=some (.int .i64 x2):=(kBp (hk9 rb (Or.inr (Or.inr (Or.inr HRB.o))))).trans k71;have k92:w9.cell? ⟨rb,ro+2,none⟩=some (.string x3):=(kBp (hk9 rb (Or.inr (Or.inr (Or.inr HRB.o))))).trans k72;clear hnx he9 hk9 HU k7r k70 k71 k72;go_wp2_with fail;refine HV.o.mono ?_;rintro e w10 ⟨rfl,hd10,hk10⟩;have HD9:=aAc hd10;have HK9:=aAc (HK9.o.trans hk10);clear hd10 hk10 HV k9r k90 k91 k92;have HW2:=aAc (aF2 (HD9.o.td.more (M:=900) HNB.o) (by omega) HTI.o HTJ.o);rw [HRR.o] at HW2;rw [HLEN.o] at HW2;go_wp2_with fail;refine HW2.o.mono ?_;rintro e w11 ⟨⟨va,vc,rfl,hrn⟩,hb11⟩;have HD11:=aAc (HD9.o.later hb11);have HRN:=aAc hrn;have HR11:=aAc (HRX.o.kp (w':=w11) fun i hi=>((HD9.o.kp hb11) i (Or.inl hi)).trans (HK9.o i (Or.inl hi)));clear hrn hb11 HW2;go_wp2_with fail;refine (HT.o w11).mono ?_;rintro e w12 ⟨rfl,hb12⟩;have HD12:=aAc (HD11.o.later hb12);have HSM:=aAc (aCt (HR11.o.later hb12).rws (HRN.o.later hb12).rws (by have:=HR3.o.1;omega) HR3.o.2);clear hb12;go_wp2_with fail;refine HSM.o.mono ?_;rintro e w13 ⟨rfl,hb13⟩;have HE:Hid (Below K3 w w13):=HBW.o.trans ((HD12.o.later hb13).bel.mono HBK.o);clear hb13 HSM;go_wp2;go_ret;exact ⟨rfl,HE.o⟩
    ·clear he9 hk9 HU k7r k70 k71 k72;have HSM0:=bN1 (show _≠(0:Int) by rw [HUC.o];exact u0);have f8:(uc != 0)=true:=by simp [u0]
     have f9:((N4:Int) != (N4:Int))=false:=by simp
     have HD9:Hid (TbF (fun i=>RwF wa len es i\/bBi oa on i\/i=K3\/bBi z.ra z.rl i) B p q g ls db W4 W4 (N4) T w9):=by have:=HE9.o.tf;rw [HSM0.1,HSM0.2] at this;exact this
     have HMK2:Hid (Calls Tryz.prog 25 #[.pointer (some ⟨db,0,none⟩)] w9 fun e w'=>e=.returned (.int .i64 (N4:Int))/\w'=w9):=by have:=HE9.o.mark;rw [HSM0.2] at this;exact this
     have HNB:Hid (N4<=900):=by have:=HN7.o;show N4<=900;omega
     clear u0 HSM0;go_wp2_with fail;refine HMK2.o.mono ?_;rintro e w10 ⟨rfl,hw⟩;have hw:=hw.symm;subst hw;clear hw HMK2;have HW2:=aAc (aF2 (HD9.o.td.more (M:=900) HNB.o) (by omega) HTI.o HTJ.o);rw [HRR.o] at HW2;rw [HLEN.o] at HW2;go_wp2_with fail;refine HW2.o.mono ?_;rintro e w11 ⟨⟨va,vc,rfl,hrn⟩,hb11⟩;have HD11:=aAc (HD9.o.later hb11);have HRN:=aAc hrn;have HR11:=aAc (HRX.o.kp (w':=w11) fun i hi=>((HD9.o.kp hb11) i (Or.inl hi)).trans (HK9.o i (Or.inl hi)));clear hrn hb11 HW2;go_wp2_with fail;refine (HT.o w11).mono ?_;rintro e w12 ⟨rfl,hb12⟩;have HD12:=aAc (HD11.o.later hb12);have HSM:=aAc (aCt (HR11.o.later hb12).rws (HRN.o.later hb12).rws (by have:=HR3.o.1;omega) HR3.o.2);clear hb12;go_wp2_with fail;refine HSM.o.mono ?_;rintro e w13 ⟨rfl,hb13⟩;have HE:Hid (Below K3 w w13):=HBW.o.trans ((HD12.o.later hb13).bel.mono HBK.o);clear hb13 HSM;go_wp2;go_ret;exact ⟨rfl,HE.o⟩
end Go.Proofs.YtdpdjpkmndnaaaaGreat
