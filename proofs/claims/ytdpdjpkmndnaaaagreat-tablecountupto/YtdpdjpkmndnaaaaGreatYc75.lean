import Derived.Test.YtdpdjpkmndnaaaaGreatYc74
set_option maxRecDepth 100000
set_option maxHeartbeats 16000000
set_option linter.unusedVariables false
namespace Go.Proofs.YtdpdjpkmndnaaaaGreat
open Go.RowKit _root_.Go.Proofs.Tryz
variable {B bx c cap cc cl db g i kc kn len ls n num p pc q xc xl:Nat} {T:List Tbl} {W w w' w0:World} {a ca ka pa xa:Option Addr} {b0 b1 dv v:Value} {cs:List Ch} {fz:Nat×Nat} {nm:ByteArray} {r:List Val} {s:Sch} {t:TypeId} {x:Val}
def OldR (t:Tbl) (x:Val) (ge:Int) (q1:Option Addr) (q2 q3:Nat) (q4:Option Addr) (q5 q6:Nat) (w:World):Prop :=
 (rowAt t.rows x=none->ge=4)/\∀ o,rowAt t.rows x=some o->ge=0/\q2=o.length/\q5=o.length/\RHd w q1 q3 q4 q6 o
section
variable {t:Tbl} {x:Val} {ge:Int} {q1 q4:Option Addr} {q2 q3 q5 q6:Nat} {w w':World}
theorem OldR.later (h:OldR t x ge q1 q2 q3 q4 q5 q6 w) (hb:Below w.heap.size w w'):OldR t x ge q1 q2 q3 q4 q5 q6 w' :=
 ⟨h.1,fun o ho=>⟨(h.2 o ho).1,(h.2 o ho).2.1,(h.2 o ho).2.2.1,(h.2 o ho).2.2.2.later hb⟩⟩
theorem OldR.set {Q:Nat} (h:OldR t x ge q1 q2 q3 q4 q5 q6 w) (hQ:w.heap[Q]?=some (.cells #[.slice none 0 0,.slice none 0 0] 119 (0,0))):OldR t x ge q1 q2 q3 q4 q5 q6 ((w.setCell ⟨Q,0,none⟩ b0).setCell ⟨Q,1,none⟩ b1) :=
 ⟨h.1,fun o ho=>⟨(h.2 o ho).1,(h.2 o ho).2.1,(h.2 o ho).2.2.1,(h.2 o ho).2.2.2.oth hQ (by decide) aEs (aCs (Below.refl 0 w) (Nat.zero_le _)) (fun _ hb=>aBj hb)⟩⟩
end
theorem DFr.keep {v':Value} {c:Array Value} (d:DD B db ls v cs w) (f:DFr B db v w v' w') (hi:w.heap[i]?=some (.cells c t fz)) (h1:t≠124) (h2:t≠164):w'.heap[i]?=some (.cells c t fz):=by
 rw [f.blk i (lO hi) ?_ ?_,hi]
 ·intro e;have h3:=d.blk;rw [<-e,hi] at h3;simp only [oI,cI] at h3;exact h1 h3.2.1
 ·intro q;obtain ⟨_,_,cur,h3⟩:=d.row.blk q;rw [hi] at h3;simp only [oI,cI] at h3;exact h2 h3.2.1
theorem aHd {t:Tbl} (h1:tAt T nm=some i) (h2:T[i]?=some t):updO T nm r=if t.s.fits r≠0 then ⟨T,[],t.s.fits r⟩ else match rowAt t.rows (fst r) with
 | none=>⟨T,[],4⟩
 | some o=>if clash t.s t.rows r then ⟨T,[],64⟩ else ⟨setT T i t (insV r (cutV (fst r) t.rows)),goneR i t.s o++laidR i t.s r,0⟩:=by
 unfold updO;rw [h1];dsimp only;rw [h2];rfl
theorem aHe (h1:tAt T nm=none):updO T nm r=⟨T,[],60⟩:=by unfold updO;rw [h1]
theorem aIm (w:World) (a b:Obj):Below w.heap.size w ((w.alloc a).alloc b):=(aAe w a).trans ((aAe _ b).mono (aAe w a).size)
theorem tupdate_ok [Gd] (h:DR B p q g ls db v cs W w0 w) (I:Inv cs T) (hl:cs.length<=990) (nm:ByteArray) (hp:SVK fV 3 w pa n pc r) (hok:∀ x∈r,x.ok/\x.2.2.size<=1048576) :
  Calls prog 28 #[.pointer (some ⟨db,0,none⟩),.string nm,.slice pa n pc] w fun e w'=>OpR B p q g ls db v cs W w0 w (updO T nm r) e w':=by
 have HD:=aAb h;have HI:=aAb I;have HLN:Hid (cs.length<=1000):=by show _<=_;omega
 have HLM:=aAb hl;have HNL:=aAb hp.hl;have HFI:=aAb (aIy h I (by omega) nm hp hok);obtain ⟨uo,huo⟩:∃ uo,updO T nm r=uo:=⟨_,rfl⟩;have HUU:=aAb huo;rw [huo];clear h I hl hp huo;have HOKS:=aAb hok;clear hok;go_enter func28,ntmps28;go_wp2_with fail;refine HFI.o.mono ?_;rintro e w2 ⟨hfi,hb2⟩;have HB2:=aAb hb2;have HFR:=aAb hfi;clear hfi hb2 HFI
 cases hta:tAt T nm with
 | none =>
  have he:=HFR.o.1 hta;unfold zT zR at he;subst he;have HTA:=aAb hta;have hbx:=aIm w2 (.cells #[.pointer none,.int .u8 0,.string ⟨#[]⟩,.slice none 0 0,.slice none 0 0] 101) (.cells #[.slice none 0 0,.slice none 0 0] 119);have HB3:=aAb (HB2.o.trans (hbx.mono HB2.o.size));clear hbx hta HFR;go_wp2;go_ret;rw [<-HUU.o,aHe HTA.o];exact OpR.no HD.o HB3.o
 | some i =>
  obtain ⟨t,hti,htn,htm⟩:=aAv hta;subst htn;have hft:=HFR.o.2 i t hta hti;have HTA:=aAb hta;have HTI:=aAb hti;have HOK:=aAb (HI.o.ok t htm);have HIO:=aAb (HUU.o.symm.trans (aHd (r:=r) hta hti));clear hta hti htm HFR;by_cases hf0:t.s.fits r=0
  ·obtain ⟨ca,cc,xa,xc,va,vc,he,hsc,hrh⟩:=hft.2 hf0;unfold tblV at he;subst he;have HRO:Hid (RowOk t.s r):=aH4 HOK.o (fun x hx=>(HOKS.o x hx).1) hf0;have HUO:=aAb (HIO.o.trans (if_neg (by rw [hf0];simp)));have hx0:TRX w2.heap.size (w2.heap.size+1) (.pointer (some ⟨db,0,none⟩)) i t.s.nm ca t.s.cs.length cc xa t.s.xs.length xc (.slice pa r.length pc) va r.length vc w2 ((w2.alloc (.cells #[.pointer (some ⟨db,0,none⟩),.int .u8 (i:Int),.string t.s.nm,.slice ca t.s.cs.length cc,.slice xa t.s.xs.length xc] 101)).alloc (.cells #[.slice pa r.length pc,.slice va r.length vc] 119)):=TRX.new w2;have HX1:=aAb hx0;have HSC:=aAb hsc;have HV:=aAb hrh;have HD2:=aAb (HD.o.later HB2.o);have HFV:Hid ((fst r).ok/\(fst r).err=0/\(fst r).bytes.length<=28):=HRO.o.val (HRO.o.fmem HOK.o);have HFP:Hid (0<(fst r).bytes.length):=by
    obtain ⟨h9,_,_,h8⟩:=aB3 [] HFV.o.1 HFV.o.2.1;exact List.length_pos_iff.2 h8
   have HF0:Hid (r[0]?=some (fst r)):=by
    show _=_;have:=HRO.o.pos HOK.o;rw [gE this];unfold fst;rw [List.getD_eq_getElem?_getD,gE this];rfl
   have hi4:i<256:=by have:=(lL HTI.o);have:=HI.o.len;omega
   have HI4:=aAb hi4;clear hft hf0 hsc hrh hx0 HIO hi4;go_upto_region 4 with fail;generalize (w2.alloc (.cells #[.pointer (some ⟨db,0,none⟩),.int .u8 (i:Int),.string t.s.nm,.slice ca t.s.cs.length cc,.slice xa t.s.xs.length xc] 101)).alloc (.cells #[.slice pa r.length pc,.slice va r.length vc] 119)=w1 at *
   obtain ⟨L,hL⟩:∃ L,w2.heap.size=L:=⟨_,rfl⟩;obtain ⟨M,hM⟩:∃ M,L+1=M:=⟨_,rfl⟩;have HLL:=aAb hL;rw [hL,hM] at HX1
   try simp only [hL,hM]
   clear hL hM;go_cut [9,10] from 23 to 48 (fun s9 s10 wx=>∃ Q q1 q2 q3 q4 q5 q6 ge,s9=.int .i64 ge/\s10=.pointer (some ⟨Q,0,none⟩)/\TRX L M (.pointer (some ⟨db,0,none⟩)) i t.s.nm ca t.s.cs.length cc xa t.s.xs.length xc (.slice pa r.length pc) va r.length vc w2 wx/\wx.heap[Q]?=some (.cells #[.slice q1 q2 q3,.slice q4 q5 q6] 119 (0,0))/\OldR t (fst r) ge q1 q2 q3 q4 q5 q6 wx)
   case first =>
    have HX1:=aAb (HX1.o.next (Below.refl _ _).drew);have HX0:Hid ((fun wx:World=>wx.cell? ⟨L,0,none⟩=some (.pointer (some ⟨db,0,none⟩))/\wx.cell? ⟨L,1,none⟩=some (.int .u8 (i:Int))/\wx.cell? ⟨L,2,none⟩=some (.string t.s.nm)/\wx.cell? ⟨L,3,none⟩=some (.slice ca t.s.cs.length cc)/\wx.cell? ⟨L,4,none⟩=some (.slice xa t.s.xs.length xc)/\wx.cell? ⟨M,0,none⟩=some (.slice pa r.length pc)/\wx.cell? ⟨M,1,none⟩=some (.slice va r.length vc)) w1.drew):=HX1.o.sm;refine wp_region_noPanic ?_;refine wp_region_held_drew (S:=fun wx=>wx.cell? ⟨L,0,none⟩=some (.pointer (some ⟨db,0,none⟩))/\wx.cell? ⟨L,1,none⟩=some (.int .u8 (i:Int))/\wx.cell? ⟨L,2,none⟩=some (.string t.s.nm)/\wx.cell? ⟨L,3,none⟩=some (.slice ca t.s.cs.length cc)/\wx.cell? ⟨L,4,none⟩=some (.slice xa t.s.xs.length xc)/\wx.cell? ⟨M,0,none⟩=some (.slice pa r.length pc)/\wx.cell? ⟨M,1,none⟩=some (.slice va r.length vc)) (by kernel_rfl) HX0.o (fun hHeld=>?_);generalize w1.drew=w3 at *
    have HX3:=HX1;refine kT 0 24 ?_;refine kT 1 25 ?_;refine aAl (i:=2) (j:=7) (by kernel_rfl) (by kernel_rfl) (by kernel_rfl) ?ya7 ?yb7
    case ya7 =>
     intro o ho K hK;simp only [tG,sG,zG,oI] at ho;subst ho;go_simp;refine (aEa (HV.o.later HX3.o.be).v.hvs HF0.o).mono ?_;rintro e w4 ⟨ka,kn,kc,rfl,hbs,hb⟩;have HX4:=aAb (HX3.o.next hb);have HB4:=aAb (hbs.later hb (nR _));have HKN:Hid (kn<=28/\0<kn):=by have h8:(fst r).bytes.length=kn:=hbs.hlen;have:=HFV.o.2.2;have:=HFP.o;exact ⟨by omega,by omega⟩
     clear hbs hb hHeld;refine hK.out _ _ HX4.o.sm (fun hHeld=>?_);clear hK K
     try simp only [Act.put,siT,scZ,scS]
     refine aAl (i:=3) (j:=7) (by kernel_rfl) (by kernel_rfl) (by kernel_rfl) ?ya8 ?yb8
     case ya8 =>
      intro o ho K hK;simp only [tG,sG,zG,oI] at ho;subst ho;go_simp;refine (aFz (HD2.o.later HX4.o.be) HI.o HLN.o HTI.o HFV.o.1 HFV.o.2.1 (HSC.o.later HX4.o.be) HB4.o (by have:=HKN.o;omega) HKN.o.2).mono ?_;rintro e w5 ⟨hg,hb⟩;have HX5:=aAb (HX4.o.next hb);have hee:∃ (ra:Option Addr×Nat×Nat×Option Addr×Nat×Nat) (ge:Int),e=.returned (.tuple #[.agg #[.slice ra.1 ra.2.1 ra.2.2.1,.slice ra.2.2.2.1 ra.2.2.2.2.1 ra.2.2.2.2.2],.int .i64 ge])/\OldR t (fst r) ge ra.1 ra.2.1 ra.2.2.1 ra.2.2.2.1 ra.2.2.2.2.1 ra.2.2.2.2.2 w5:=by
       cases hra:rowAt t.rows (fst r) with
       | none=>exact ⟨(none,0,0,none,0,0),4,hg.1 hra,fun _=>rfl,fun o ho=>by rw [hra] at ho;cases ho⟩
       | some o =>
        obtain ⟨pa,pc,va,vc,he,hh⟩:=hg.2 o hra;exact ⟨(pa,o.length,pc,va,o.length,vc),0,he,fun q=>by (rw [hra] at q;cases q),fun o2 ho=>by (rw [hra] at ho;cases ho;exact ⟨rfl,rfl,rfl,hh⟩)⟩
      obtain ⟨⟨q1,q2,q3,q4,q5,q6⟩,ge,rfl,ho⟩:=hee;have HO5:Hid (OldR t (fst r) ge q1 q2 q3 q4 q5 q6 w5):=ho;clear hg hb hHeld ho;dsimp only;refine hK.out _ _ HX5.o.sm (fun hHeld=>?_);clear hK K
      try simp only [Act.put,siT,scZ,scS]
      refine kT 4 23 ?_;refine kT 5 28 ?_;refine kT 6 29 ?_;refine kC 7 ?_;intro K hK;go_simp;have hbx:=aAe w5 (.cells #[.slice none 0 0,.slice none 0 0] 119);have HX6:=aAb (HX5.o.next hbx);have HQ6:Hid ((w5.alloc (.cells #[.slice none 0 0,.slice none 0 0] 119)).heap[w5.heap.size]?=some (.cells #[.slice none 0 0,.slice none 0 0] 119 (0,0))):=boxed w5 _
      skip
      have HO6:=aAb (HO5.o.later hbx);have HNE:Hid (L<w5.heap.size/\M<w5.heap.size):=⟨aAd HX5.o.t,aAd HX5.o.r⟩;clear hbx hHeld;refine hK.out _ _ HX6.o.sm (fun hHeld=>?_);generalize w5.alloc (.cells #[.slice none 0 0,.slice none 0 0] 119)=w6 at *
      generalize w5.heap.size=Q at *
      clear hK K
      try simp only [Act.put,siT,scZ,scS]
      refine kC 8 ?_;intro K hK;have z0:w6.cell? ⟨Q,0,none⟩=some (.slice none 0 0):=aAa HQ6.o;have zf0:w6.frozen? ⟨Q,0,none⟩=false:=aAg HQ6.o;have z1:w6.cell? ⟨Q,1,none⟩=some (.slice none 0 0):=aAa HQ6.o;have zf1:w6.frozen? ⟨Q,1,none⟩=false:=aAg HQ6.o;go_simp;clear z0 zf0 z1 zf1 hHeld;have HXZ:=aAb (HX6.o.set2 (b0:=.slice q1 q2 q3) (b1:=.slice q4 q5 q6) (show L≠Q by have:=HNE.o;omega) (show M≠Q by have:=HNE.o;omega) (by rw [HLL.o];have:=HNE.o;omega));have HQZ:=aAb (aEp (b0:=.slice q1 q2 q3) (b1:=.slice q4 q5 q6) HQ6.o);have HOZ:=aAb (HO6.o.set (b0:=.slice q1 q2 q3) (b1:=.slice q4 q5 q6) HQ6.o);refine hK.out _ _ HXZ.o.sm (fun hHeld=>?_);clear hK K
      try simp only [Act.put,siT,scZ,scS]
      refine kT 9 9 ?_;refine wpAnyH_done (by kernel_rfl) ?_ _;refine NoPanic.normal ?_;clear hHeld;go_wp2;go_meet;exact ⟨Q,q1,q2,q3,q4,q5,q6,ge,rfl,rfl,HXZ.o,HQZ.o,HOZ.o⟩
     case yb8 =>
      intro o ho K hK;simp only [tG,sG,zG,oI] at ho;subst ho;go_simp;have hbx:=aAe w4 (.cells #[.slice none 0 0,.slice none 0 0] 119);have HX5:=aAb (HX4.o.next hbx);have HQ5:Hid ((w4.alloc (.cells #[.slice none 0 0,.slice none 0 0] 119)).heap[w4.heap.size]?=some (.cells #[.slice none 0 0,.slice none 0 0] 119 (0,0))):=boxed w4 _;have HB5:=aAb (HB4.o.later hbx (nR _))
      skip
      have HNE:Hid (L<w4.heap.size/\M<w4.heap.size):=⟨aAd HX4.o.t,aAd HX4.o.r⟩;clear hbx hHeld;refine hK.out _ _ HX5.o.sm (fun hHeld=>?_);generalize w4.alloc (.cells #[.slice none 0 0,.slice none 0 0] 119)=w5 at *
      generalize w4.heap.size=Q at *
      clear hK K
      try simp only [Act.put,siT,scZ,scS]
      refine kC 3 ?_;intro K hK;go_simp;refine (aFz (HD2.o.later HX5.o.be) HI.o HLN.o HTI.o HFV.o.1 HFV.o.2.1 (HSC.o.later HX5.o.be) HB5.o (by have:=HKN.o;omega) HKN.o.2).mono ?_;rintro e w6 ⟨hg,hb⟩;have HX6:=aAb (HX5.o.next hb);have HQ6:=aAb ((hb.block Q (aAd HQ5.o)).trans HQ5.o);have hee:∃ (ra:Option Addr×Nat×Nat×Option Addr×Nat×Nat) (ge:Int),e=.returned (.tuple #[.agg #[.slice ra.1 ra.2.1 ra.2.2.1,.slice ra.2.2.2.1 ra.2.2.2.2.1 ra.2.2.2.2.2],.int .i64 ge])/\OldR t (fst r) ge ra.1 ra.2.1 ra.2.2.1 ra.2.2.2.1 ra.2.2.2.2.1 ra.2.2.2.2.2 w6:=by
       cases hra:rowAt t.rows (fst r) with
       | none=>exact ⟨(none,0,0,none,0,0),4,hg.1 hra,fun _=>rfl,fun o ho=>by rw [hra] at ho;cases ho⟩
       | some o =>
        obtain ⟨pa,pc,va,vc,he,hh⟩:=hg.2 o hra;exact ⟨(pa,o.length,pc,va,o.length,vc),0,he,fun q=>by (rw [hra] at q;cases q),fun o2 ho=>by (rw [hra] at ho;cases ho;exact ⟨rfl,rfl,rfl,hh⟩)⟩
      obtain ⟨⟨q1,q2,q3,q4,q5,q6⟩,ge,rfl,ho⟩:=hee;have HO6:Hid (OldR t (fst r) ge q1 q2 q3 q4 q5 q6 w6):=ho;clear hg hb hHeld ho;dsimp only;refine hK.out _ _ HX6.o.sm (fun hHeld=>?_);clear hK K
      try simp only [Act.put,siT,scZ,scS]
      refine kT 4 23 ?_;refine kT 5 28 ?_;refine kT 6 29 ?_;refine kC 8 ?_;intro K hK;have z0:w6.cell? ⟨Q,0,none⟩=some (.slice none 0 0):=aAa HQ6.o;have zf0:w6.frozen? ⟨Q,0,none⟩=false:=aAg HQ6.o;have z1:w6.cell? ⟨Q,1,none⟩=some (.slice none 0 0):=aAa HQ6.o;have zf1:w6.frozen? ⟨Q,1,none⟩=false:=aAg HQ6.o;go_simp;clear z0 zf0 z1 zf1 hHeld;have HXZ:=aAb (HX6.o.set2 (b0:=.slice q1 q2 q3) (b1:=.slice q4 q5 q6) (show L≠Q by have:=HNE.o;omega) (show M≠Q by have:=HNE.o;omega) (by rw [HLL.o];have:=HNE.o;omega));have HQZ:=aAb (aEp (b0:=.slice q1 q2 q3) (b1:=.slice q4 q5 q6) HQ6.o);have HOZ:=aAb (HO6.o.set (b0:=.slice q1 q2 q3) (b1:=.slice q4 q5 q6) HQ6.o);refine hK.out _ _ HXZ.o.sm (fun hHeld=>?_);clear hK K
      try simp only [Act.put,siT,scZ,scS]
      refine kT 9 9 ?_;refine wpAnyH_done (by kernel_rfl) ?_ _;refine NoPanic.normal ?_;clear hHeld;go_wp2;go_meet;exact ⟨Q,q1,q2,q3,q4,q5,q6,ge,rfl,rfl,HXZ.o,HQZ.o,HOZ.o⟩
    case yb7 =>
     intro o ho K hK;simp only [tG,sG,zG,oI] at ho;subst ho;go_simp;have hbx:=aAe w3 (.cells #[.slice none 0 0,.slice none 0 0] 119);have HX4:=aAb (HX3.o.next hbx);have HQ4:Hid ((w3.alloc (.cells #[.slice none 0 0,.slice none 0 0] 119)).heap[w3.heap.size]?=some (.cells #[.slice none 0 0,.slice none 0 0] 119 (0,0))):=boxed w3 _
     skip
     skip
     have HNE:Hid (L<w3.heap.size/\M<w3.heap.size):=⟨aAd HX3.o.t,aAd HX3.o.r⟩;clear hbx hHeld;refine hK.out _ _ HX4.o.sm (fun hHeld=>?_);generalize w3.alloc (.cells #[.slice none 0 0,.slice none 0 0] 119)=w4 at *
     generalize w3.heap.size=Q at *
     clear hK K
     try simp only [Act.put,siT,scZ,scS]
     refine kC 2 ?_;intro K hK;go_simp;refine (aEa (HV.o.later HX4.o.be).v.hvs HF0.o).mono ?_;rintro e w5 ⟨ka,kn,kc,rfl,hbs,hb⟩;have HX5:=aAb (HX4.o.next hb);have HQ5:=aAb ((hb.block Q (aAd HQ4.o)).trans HQ4.o);have HB5:=aAb (hbs.later hb (nR _));have HKN:Hid (kn<=28/\0<kn):=by have h8:(fst r).bytes.length=kn:=hbs.hlen;have:=HFV.o.2.2;have:=HFP.o;exact ⟨by omega,by omega⟩
     clear hbs hb hHeld;refine hK.out _ _ HX5.o.sm (fun hHeld=>?_);clear hK K
     try simp only [Act.put,siT,scZ,scS]
     refine kC 3 ?_;intro K hK;go_simp;refine (aFz (HD2.o.later HX5.o.be) HI.o HLN.o HTI.o HFV.o.1 HFV.o.2.1 (HSC.o.later HX5.o.be) HB5.o (by have:=HKN.o;omega) HKN.o.2).mono ?_;rintro e w6 ⟨hg,hb⟩;have HX6:=aAb (HX5.o.next hb);have HQ6:=aAb ((hb.block Q (aAd HQ5.o)).trans HQ5.o);have hee:∃ (ra:Option Addr×Nat×Nat×Option Addr×Nat×Nat) (ge:Int),e=.returned (.tuple #[.agg #[.slice ra.1 ra.2.1 ra.2.2.1,.slice ra.2.2.2.1 ra.2.2.2.2.1 ra.2.2.2.2.2],.int .i64 ge])/\OldR t (fst r) ge ra.1 ra.2.1 ra.2.2.1 ra.2.2.2.1 ra.2.2.2.2.1 ra.2.2.2.2.2 w6:=by
      cases hra:rowAt t.rows (fst r) with
      | none=>exact ⟨(none,0,0,none,0,0),4,hg.1 hra,fun _=>rfl,fun o ho=>by rw [hra] at ho;cases ho⟩
      | some o =>
       obtain ⟨pa,pc,va,vc,he,hh⟩:=hg.2 o hra;exact ⟨(pa,o.length,pc,va,o.length,vc),0,he,fun q=>by (rw [hra] at q;cases q),fun o2 ho=>by (rw [hra] at ho;cases ho;exact ⟨rfl,rfl,rfl,hh⟩)⟩
     obtain ⟨⟨q1,q2,q3,q4,q5,q6⟩,ge,rfl,ho⟩:=hee;have HO6:Hid (OldR t (fst r) ge q1 q2 q3 q4 q5 q6 w6):=ho;clear hg hb hHeld ho;dsimp only;refine hK.out _ _ HX6.o.sm (fun hHeld=>?_);clear hK K
     try simp only [Act.put,siT,scZ,scS]
     refine kT 4 23 ?_;refine kT 5 28 ?_;refine kT 6 29 ?_;refine kC 8 ?_;intro K hK;have z0:w6.cell? ⟨Q,0,none⟩=some (.slice none 0 0):=aAa HQ6.o;have zf0:w6.frozen? ⟨Q,0,none⟩=false:=aAg HQ6.o;have z1:w6.cell? ⟨Q,1,none⟩=some (.slice none 0 0):=aAa HQ6.o;have zf1:w6.frozen? ⟨Q,1,none⟩=false:=aAg HQ6.o;go_simp;clear z0 zf0 z1 zf1 hHeld;have HXZ:=aAb (HX6.o.set2 (b0:=.slice q1 q2 q3) (b1:=.slice q4 q5 q6) (show L≠Q by have:=HNE.o;omega) (show M≠Q by have:=HNE.o;omega) (by rw [HLL.o];have:=HNE.o;omega));have HQZ:=aAb (aEp (b0:=.slice q1 q2 q3) (b1:=.slice q4 q5 q6) HQ6.o);have HOZ:=aAb (HO6.o.set (b0:=.slice q1 q2 q3) (b1:=.slice q4 q5 q6) HQ6.o);refine hK.out _ _ HXZ.o.sm (fun hHeld=>?_);clear hK K
     try simp only [Act.put,siT,scZ,scS]
     refine kT 9 9 ?_;refine wpAnyH_done (by kernel_rfl) ?_ _;refine NoPanic.normal ?_;clear hHeld;go_wp2;go_meet;exact ⟨Q,q1,q2,q3,q4,q5,q6,ge,rfl,rfl,HXZ.o,HQZ.o,HOZ.o⟩
   case rest =>
    obtain ⟨Q,q1,q2,q3,q4,q5,q6,ge,rfl,rfl,hx5,hq5,ho5⟩:=hcut;have HX5:=aAb hx5;have HQ5:=aAb hq5;have HB5:=aAb (HB2.o.trans (hx5.be.mono HB2.o.size))
    cases hra:rowAt t.rows (fst r) with
    | none =>
     obtain rfl:=ho5.1 hra;have HE:Hid (uo=⟨T,[],4⟩):=by show _=_;rw [HUO.o,hra]
     clear hx5 hq5 ho5 hra HX1;go_wp2;go_ret;rw [HE.o];exact OpR.no HD.o HB5.o
    | some o =>
     obtain ⟨rfl,rfl,rfl,hh⟩:=ho5.2 o hra;have HO5:=aAb hh;have HOO:Hid (RowOk t.s o):=HI.o.row t (at_mem HTI.o) o (aBq hra).1;have HUA:Hid (uo=if clash t.s t.rows r then ⟨T,[],64⟩ else ⟨setT T i t (insV r (cutV (fst r) t.rows)),goneR i t.s o++laidR i t.s r,0⟩):=by show _=_;rw [HUO.o,hra]
     have HMS:=aAb (aHs (pv:=.slice pa r.length pc) (ca:=ca) (cc:=cc) (HD2.o.later HX5.o.be) HI.o HLN.o HTI.o HRO.o (HV.o.later HX5.o.be).v.hvs (HSC.o.later HX5.o.be).x);obtain ⟨cb,hcb⟩:∃ cb,clash t.s t.rows r=cb:=⟨_,rfl⟩;rw [hcb] at HMS HUA;obtain ⟨y0,y1,y2,y3,y4,m0,m1⟩:=HX5.o.sm;clear hx5 hq5 ho5 hra hh HX1 hcb HUO
     cases cb with
     | true =>
      rw [if_pos rfl] at HMS HUA;go_wp2_with fail;refine HMS.o.mono ?_;rintro e w6 ⟨rfl,hb6⟩;have HB6:=aAb (HB5.o.trans (hb6.mono HB5.o.size));clear hb6 HMS y0 y1 y2 y3 y4 m0 m1;go_wp2;go_ret;rw [HUA.o];exact OpR.no HD.o HB6.o
     | false =>
      rw [if_neg (by decide)] at HMS HUA;have HUO2:=HUA;go_wp2_with fail;refine HMS.o.mono ?_;rintro e w6 ⟨rfl,hb6⟩;have HX7:=aAb (HX5.o.next (hb6.trans (Below.refl _ _).drew));have HQ7:Hid (w6.drew.heap[Q]?=some (.cells #[.slice q1 o.length q3,.slice q4 o.length q6] 119 (0,0))):=(hb6.block Q (aAd HQ5.o)).trans HQ5.o;have HO7:Hid (RHd w6.drew q1 q3 q4 q6 o):=HO5.o.later (hb6.trans (Below.refl _ _).drew);clear hb6 HMS y0 y1 y2 y3 y4 m0 m1 HX5 HQ5 HO5 HB5;go_upto_region 10 with fail;have HX0:Hid ((fun wx:World=>wx.cell? ⟨L,0,none⟩=some (.pointer (some ⟨db,0,none⟩))/\wx.cell? ⟨L,1,none⟩=some (.int .u8 (i:Int))/\wx.cell? ⟨L,2,none⟩=some (.string t.s.nm)/\wx.cell? ⟨L,3,none⟩=some (.slice ca t.s.cs.length cc)/\wx.cell? ⟨L,4,none⟩=some (.slice xa t.s.xs.length xc)/\wx.cell? ⟨M,0,none⟩=some (.slice pa r.length pc)/\wx.cell? ⟨M,1,none⟩=some (.slice va r.length vc)/\wx.cell? ⟨Q,0,none⟩=some (.slice q1 o.length q3)/\wx.cell? ⟨Q,1,none⟩=some (.slice q4 o.length q6)) w6.drew):=(by obtain ⟨y0,y1,y2,y3,y4,m0,m1⟩:=HX7.o.sm;exact ⟨y0,y1,y2,y3,y4,m0,m1,aAa HQ7.o,aAa HQ7.o⟩);refine wp_region_noPanic ?_;refine wp_region_held_drew (S:=fun wx=>wx.cell? ⟨L,0,none⟩=some (.pointer (some ⟨db,0,none⟩))/\wx.cell? ⟨L,1,none⟩=some (.int .u8 (i:Int))/\wx.cell? ⟨L,2,none⟩=some (.string t.s.nm)/\wx.cell? ⟨L,3,none⟩=some (.slice ca t.s.cs.length cc)/\wx.cell? ⟨L,4,none⟩=some (.slice xa t.s.xs.length xc)/\wx.cell? ⟨M,0,none⟩=some (.slice pa r.length pc)/\wx.cell? ⟨M,1,none⟩=some (.slice va r.length vc)/\wx.cell? ⟨Q,0,none⟩=some (.slice q1 o.length q3)/\wx.cell? ⟨Q,1,none⟩=some (.slice q4 o.length q6)) (by kernel_rfl) HX0.o (fun hHeld=>?_);generalize w6.drew=w7 at *
      refine kT 0 39 ?_;refine kT 1 40 ?_;refine kT 2 41 ?_;refine kT 4 43 ?_;refine kT 5 44 ?_;refine kC 3 ?_;intro K hK;go_simp;refine (aDe (dv:=.pointer (some ⟨db,0,none⟩)) (nm:=t.s.nm) (ca:=ca) (cl:=t.s.cs.length) (cc:=cc) (gone:=true) B HI4.o HOK.o HOO.o (HSC.o.later HX7.o.be).x HO7.o.p HO7.o.v.hvs).mono ?_;rintro e w8 ⟨v1,rfl,hc1,hb⟩;obtain ⟨a1,c1,e1⟩:=hc1.form;obtain ⟨n1,hn1⟩:∃ n1,(chL (keysR i t.s o) (rowB o) true).length=n1:=⟨_,rfl⟩;rw [hn1] at e1;subst e1;have HX8:=aAb (HX7.o.next hb);have HQ8:=aAb ((hb.block Q (aAd HQ7.o)).trans HQ7.o);have HC8:=aAb hc1;have HBE8:=aAb hb;clear hc1 hn1 hb hHeld;refine hK.out _ _ (by obtain ⟨y0,y1,y2,y3,y4,m0,m1⟩:=HX8.o.sm;exact ⟨y0,y1,y2,y3,y4,m0,m1,aAa HQ8.o,aAa HQ8.o⟩) (fun hHeld=>?_);clear hK K
      try simp only [Act.put,siT,scZ,scS]
      refine kC 6 ?_;intro K hK;go_simp;refine (aDe (dv:=.pointer (some ⟨db,0,none⟩)) (nm:=t.s.nm) (ca:=ca) (cl:=t.s.cs.length) (cc:=cc) (gone:=false) B HI4.o HOK.o HRO.o (HSC.o.later HX8.o.be).x (HV.o.later HX8.o.be).p (HV.o.later HX8.o.be).v.hvs).mono ?_;rintro e w9 ⟨v2,rfl,hc2,hb⟩;obtain ⟨a2,c2,e2⟩:=hc2.form;obtain ⟨n2,hn2⟩:∃ n2,(chL (keysR i t.s r) (rowB r) false).length=n2:=⟨_,rfl⟩;rw [hn2] at e2;subst e2;have HX9:=aAb (HX8.o.next hb);have HQ9:=aAb ((hb.block Q (aAd HQ8.o)).trans HQ8.o);have HC9:=aAb (HC8.o.later hb (HD2.o.later HX8.o.be).bw);have HG9:=aAb hc2;have HBE9:=aAb (HBE8.o.trans (hb.mono HBE8.o.size));clear hc2 hn2 hb hHeld;refine hK.out _ _ (by obtain ⟨y0,y1,y2,y3,y4,m0,m1⟩:=HX9.o.sm;exact ⟨y0,y1,y2,y3,y4,m0,m1,aAa HQ9.o,aAa HQ9.o⟩) (fun hHeld=>?_);clear hK K
      try simp only [Act.put,siT,scZ,scS]
      refine kC 7 ?_;intro K hK;rw [if_pos (by rfl)];have hsz:(chL (keysR i t.s o) (rowB o) true).length+(chL (keysR i t.s r) (rowB r) false).length<=8:=by
       rw [aKc,aKc];have h1:=aCx i o HOK.o;have h2:=aCx i r HOK.o;omega
      refine aB8 (.tmp 42) (.tmp 45) rfl rfl rfl HC9.o (HG9.o.rv aBf) (HD2.o.later HX7.o.be).bw HBE9.o.size (by omega) ?_;intro v3 w10 p1 _ _ p4 _;have hbe:=HBE9.o.trans p4
      obtain ⟨ma,mc,em,hcall⟩:=aEt ((HD2.o.later HX7.o.be).later hbe).dd (HD2.o.later HX7.o.be).dd rfl p1 (by rw [lA];have:=HLM.o;omega) (by
       intro c hc;rcases List.mem_append.1 hc with h9 | h9
       ·exact aKb HOK.o HOO.o c h9
       ·exact aKb HOK.o HRO.o c h9)
      rw [List.map_append,chL_gone,chL_laid] at hcall;obtain ⟨n3,hn3⟩:∃ n3,(chL (keysR i t.s o) (rowB o) true++chL (keysR i t.s r) (rowB r) false).length=n3:=⟨_,rfl⟩;rw [hn3] at em hcall;subst em;have HX10:=aAb (HX7.o.next hbe);have HQ10:=aAb ((hbe.block Q (aAd HQ7.o)).trans HQ7.o);have HCA:=aAb hcall;clear p1 p4 hbe hn3 hcall hsz hHeld;refine hK.out _ _ (by obtain ⟨y0,y1,y2,y3,y4,m0,m1⟩:=HX10.o.sm;exact ⟨y0,y1,y2,y3,y4,m0,m1,aAa HQ10.o,aAa HQ10.o⟩) (fun hHeld=>?_);clear hK K
      try simp only [Act.put,siT,scZ,scS]
      refine kC 8 ?_;intro K hK;go_simp;refine HCA.o.mono ?_;rintro e w11 ⟨v6,rfl,hd6,hf6⟩;have hdd:=(HD2.o.later HX10.o.be).dd;have HT11:=aAb (hf6.keep hdd HX10.o.t (by decide) (by decide));have HM11:=aAb (hf6.keep hdd HX10.o.r (by decide) (by decide));have HQ11:=aAb (hf6.keep hdd HQ10.o (by decide) (by decide));have HR11:Hid (OpR B p q g ls db v cs W w0 w uo (.returned (.int .i64 0)) w11):=by
       rw [HUO2.o];have hb10:=HB2.o.trans (HX10.o.be.mono HB2.o.size);exact ⟨v6,rfl,(HD.o.later hb10).fr hd6 hf6,(DFr.of hb10 HD.o.bw).trans hf6⟩
      clear hd6 hf6 hdd HCA hHeld;refine hK.out _ _ ⟨aAa HT11.o,aAa HT11.o,aAa HT11.o,aAa HT11.o,aAa HT11.o,aAa HM11.o,aAa HM11.o,aAa HQ11.o,aAa HQ11.o⟩ (fun hHeld=>?_);clear hK K
      try simp only [Act.put,siT,scZ,scS]
      refine kT 9 6 ?_;refine wpAnyH_done (by kernel_rfl) ?_ _;refine NoPanic.normal ?_;clear hHeld;go_wp2;go_ret;exact HR11.o
  ·have he:=hft.1 hf0;unfold zT zR at he;obtain ⟨fv,hfv⟩:∃ fv,t.s.fits r=fv:=⟨_,rfl⟩;have HFV:=aAb hfv;rw [hfv] at he hf0;subst he;have HF0:=aAb hf0;have hf1:(fv == 0)=false:=by simpa using hf0
   have hf2:(fv != 0)=true:=by simpa using hf0
   have hbx:=aIm w2 (.cells #[.pointer none,.int .u8 0,.string ⟨#[]⟩,.slice none 0 0,.slice none 0 0] 101) (.cells #[.slice none 0 0,.slice none 0 0] 119);have HB3:=aAb (HB2.o.trans (hbx.mono HB2.o.size));clear hbx hft hfv;go_wp2;go_ret;rw [HIO.o,if_pos (by rw [HFV.o];exact HF0.o),HFV.o];exact OpR.no HD.o HB3.o
theorem aFr {t:Tbl} (h1:tAt T nm=some i) (h2:T[i]?=some t):delO T nm x=if x.err≠0 then ⟨T,[],62⟩ else match rowAt t.rows x with
 | none=>⟨T,[],4⟩
 | some r=>⟨setT T i t (cutV x t.rows),goneR i t.s r,0⟩:=by
 unfold delO;rw [h1];dsimp only;rw [h2];rfl
theorem aFs (h1:tAt T nm=none):delO T nm x=⟨T,[],60⟩:=by unfold delO;rw [h1]
theorem aCa (w:World) (a b:Obj):Below w.heap.size w ((w.alloc a).alloc b):=(aAe w a).trans ((aAe _ b).mono (aAe w a).size)
theorem tdelete_ok [Gd] (h:DR B p q g ls db v cs W w0 w) (I:Inv cs T) (hl:cs.length<=990) (nm:ByteArray) (hx:x.ok) (hxs:x.2.2.size<=1048576) :
  Calls prog 27 #[.pointer (some ⟨db,0,none⟩),.string nm,.agg #[.int .i64 x.1,.int .i64 x.2.1,.string x.2.2]] w fun e w'=>OpR B p q g ls db v cs W w0 w (delO T nm x) e w':=by
 have HD:=aAb h;have HI:=aAb I;have HLN:Hid (cs.length<=1000):=by show _<=_;omega
 have HLM:=aAb hl;obtain ⟨w1,hw1⟩:∃ w1,w1=w.alloc (.cells #[.int .i64 x.1,.int .i64 x.2.1,.string x.2.2] 36):=⟨_,rfl⟩;have hb1:Below w.heap.size w w1:=by rw [hw1];exact aAe w _
 have HK1:Hid (w1.heap[w.heap.size]?=some (.cells #[.int .i64 x.1,.int .i64 x.2.1,.string x.2.2] 36 (0,0))):=by show _=_;rw [hw1];exact boxed w _
 have HB1:=aAb hb1;have HFI:=aAb (aIz (h.later hb1) I (by omega) nm hx hxs);have HW1:=aAb hw1;have k0:w1.cell? ⟨w.heap.size,0,none⟩=some (.int .i64 x.1):=aAa HK1.o;have k1:w1.cell? ⟨w.heap.size,1,none⟩=some (.int .i64 x.2.1):=aAa HK1.o;have k2:w1.cell? ⟨w.heap.size,2,none⟩=some (.string x.2.2):=aAa HK1.o;clear h I hl hx hxs hb1 hw1;go_enter func27,ntmps27;go_upto_region 1 with fail;rw [<-HW1.o];clear HW1;go_wp2_with fail;refine HFI.o.mono ?_;rintro e w2 ⟨hfi,hb2⟩;have HB2:Hid (Below w.heap.size w w2):=HB1.o.trans (hb2.mono HB1.o.size);have HFR:=aAb hfi;clear hfi hb2 HFI k0 k1 k2 HK1
 cases hta:tAt T nm with
 | none =>
  have he:=HFR.o.1 hta;unfold zT zR at he;subst he;have HTA:=aAb hta;have hbx:=aCa w2 (.cells #[.pointer none,.int .u8 0,.string ⟨#[]⟩,.slice none 0 0,.slice none 0 0] 101) (.cells #[.slice none 0 0,.slice none 0 0] 119);have HB3:=aAb (HB2.o.trans (hbx.mono HB2.o.size));clear hbx hta HFR;go_wp2;go_ret;rw [aFs HTA.o];exact OpR.no HD.o HB3.o
 | some i =>
  obtain ⟨t,hti,htn,htm⟩:=aAv hta;subst htn;have hft:=HFR.o.2 i t hta hti;have HTA:=aAb hta;have HTI:=aAb hti;have HOK:=aAb (HI.o.ok t htm);have HIO:=aAb (aFr (x:=x) hta hti);have HTM:=aAb htm;clear hta hti htm HFR;by_cases hf0:x.err=0
  ·obtain ⟨ca,cc,xa,xc,fa,fn,fc,ga,gc,he,hsc,hgq⟩:=hft.2 hf0;unfold tblV at he;have HX0:=aAb hf0;have hx0:TRX w2.heap.size (w2.heap.size+1) (.pointer (some ⟨db,0,none⟩)) i t.s.nm ca t.s.cs.length cc xa t.s.xs.length xc (.slice fa fn fc) ga fn gc w2 ((w2.alloc (.cells #[.pointer (some ⟨db,0,none⟩),.int .u8 (i:Int),.string t.s.nm,.slice ca t.s.cs.length cc,.slice xa t.s.xs.length xc] 101)).alloc (.cells #[.slice fa fn fc,.slice ga fn gc] 119)):=TRX.new w2;have HX3:=aAb hx0;have HSC3:=aAb (hsc.later hx0.be);have HGQ3:=aAb (hgq.later hx0.be);have HB3:=aAb (HB2.o.trans (hx0.be.mono HB2.o.size));have HD3:=aAb (HD.o.later HB3.o)
   cases hra:rowAt t.rows x with
   | none =>
    rw [hra] at he;have he:e=.returned (.tuple #[.agg #[.pointer (some ⟨db,0,none⟩),.int .u8 (i:Int),.string t.s.nm,.slice ca t.s.cs.length cc,.slice xa t.s.xs.length xc],.agg #[.slice fa fn fc,.slice ga fn gc],.int .i64 4]):=he;subst he;have HRA:=aAb hra;clear hft hf0 hsc hgq hx0 hra;go_wp2;go_ret;rw [HIO.o,if_neg (by rw [HX0.o];simp),HRA.o];exact OpR.no HD.o HB3.o
   | some r =>
    rw [hra] at he;have he:e=.returned (.tuple #[.agg #[.pointer (some ⟨db,0,none⟩),.int .u8 (i:Int),.string t.s.nm,.slice ca t.s.cs.length cc,.slice xa t.s.xs.length xc],.agg #[.slice fa fn fc,.slice ga fn gc],.int .i64 0]):=he;subst he;have HRA:=aAb hra;obtain ⟨hrm,hrf⟩:=aBq hra;obtain ⟨hfn,hrh,hf9⟩:=HGQ3.o.2 r hra;clear hf9;have HRO:=aAb (HI.o.row t HTM.o r hrm);have HRH3:=aAb hrh;have HFN:=aAb hfn;clear hft hf0 hsc hgq hx0 hra hrm hrf hrh hfn;go_upto_region 2 with fail;generalize (w2.alloc (.cells #[.pointer (some ⟨db,0,none⟩),.int .u8 (i:Int),.string t.s.nm,.slice ca t.s.cs.length cc,.slice xa t.s.xs.length xc] 101)).alloc (.cells #[.slice fa fn fc,.slice ga fn gc] 119)=w3 at *
    generalize w2.heap.size=L at *
    have hch:=aDe (dv:=.pointer (some ⟨db,0,none⟩)) (nm:=t.s.nm) (ca:=ca) (cl:=t.s.cs.length) (cc:=cc) (gone:=true) B (show i<256 by have:=(lL HTI.o);have:=HI.o.len;omega) HOK.o HRO.o HSC3.o.x HRH3.o.p HRH3.o.v.hvs;rw [<-HFN.o] at hch;have HCH:=aAb hch;obtain ⟨y0,y1,y2,y3,y4,m0,m1⟩:=HX3.o.sm;clear hch;go_wp2_with fail;refine HCH.o.mono ?_;rintro e w5 ⟨vl,rfl,hcr,hb5⟩;have HD5:=aAb (HD3.o.later hb5);have HB5:=aAb (HB3.o.trans (hb5.mono HB3.o.size));have hll:cs.length+(chL (keysR i t.s r) (rowB r) true).length<=1000:=by
     rw [aKc];have:=aCx i r HOK.o;have:=HLM.o;omega
    obtain ⟨la,lc,el,hcall⟩:=aEt HD5.o.dd HD3.o.dd rfl hcr hll (aKb HOK.o HRO.o);rw [chL_gone] at hcall;subst el;have HCA:=aAb hcall;clear hcr hb5 hcall hll HCH y0 y1 y2 y3 y4 m0 m1;generalize (chL (keysR i t.s r) (rowB r) true).length=kl at *
    go_wp2_with fail;refine HCA.o.mono ?_;rintro e w6 ⟨v6,rfl,hd6,hf6⟩;have HR6:Hid (OpR B p q g ls db v cs W w0 w (delO T t.s.nm x) (.returned (.int .i64 0)) w6):=by
     rw [HIO.o,if_neg (by rw [HX0.o];simp),HRA.o];exact ⟨v6,rfl,HD5.o.fr hd6 hf6,(DFr.of HB5.o HD.o.bw).trans hf6⟩
    clear hd6 hf6 HCA;go_wp2;go_ret;exact HR6.o
  ·have he:=hft.1 hf0;unfold zT zR at he;subst he;have HX0:=aAb hf0;have hbx:=aCa w2 (.cells #[.pointer none,.int .u8 0,.string ⟨#[]⟩,.slice none 0 0,.slice none 0 0] 101) (.cells #[.slice none 0 0,.slice none 0 0] 119);have HB3:=aAb (HB2.o.trans (hbx.mono HB2.o.size));clear hbx hft hf0;go_wp2;go_ret;rw [HIO.o,if_pos HX0.o];exact OpR.no HD.o HB3.o
def lenO (T:List Tbl) (nm:ByteArray):Int×Int:=match tAt T nm with
 | none=>(0,60)
 | some i=>match T[i]? with
  | none=>(0,60)
  | some t=>((t.rows.length:Int),0)
theorem lenO_some {t:Tbl} (h1:tAt T nm=some i) (h2:T[i]?=some t):lenO T nm=((t.rows.length:Int),0):=by
 unfold lenO;rw [h1];dsimp only;rw [h2]
theorem lenO_none (h1:tAt T nm=none):lenO T nm=(0,60):=by unfold lenO;rw [h1]
theorem tlen_ok [Gd] (h:DR B p q g ls db v cs W w0 w) (I:Inv cs T) (hl:cs.length<=1000) (nm:ByteArray) :
  Calls prog 16 #[.pointer (some ⟨db,0,none⟩),.string nm] w fun e w'=>e=.returned (.tuple #[.int .i64 (lenO T nm).1,.int .i64 (lenO T nm).2])/\Below w.heap.size w w':=by
 have HD:=aAb h;have HI:=aAb I;have HLN:Hid (cs.length<=1000):=by show _<=_;omega
 have HFI:=aAb (aEy h I hl nm);obtain ⟨ln,hln⟩:∃ ln,lenO T nm=ln:=⟨_,rfl⟩;have HLE:=aAb hln;rw [hln];clear h I hl hln;go_enter func16,ntmps16;go_wp2_with fail;refine HFI.o.mono ?_;rintro e w2 ⟨hfi,hb2⟩;have HB2:=aAb hb2;have HFR:=aAb hfi;clear hfi hb2 HFI
 cases hta:tAt T nm with
 | none =>
  have he:=HFR.o.1 hta;subst he;have HTA:=aAb hta;have HB3:=aAb (HB2.o.trans ((aAe w2 (.cells #[.pointer none,.int .u8 0,.string ⟨#[]⟩,.slice none 0 0,.slice none 0 0] 101)).mono HB2.o.size));clear hta HFR;go_wp2;go_ret2;rw [<-HLE.o,lenO_none HTA.o];exact ⟨rfl,HB3.o⟩
 | some i =>
  obtain ⟨t,hti,htn,htm⟩:=aAv hta;subst htn;obtain ⟨ca,cc,xa,xc,he,hsc⟩:=HFR.o.2 i t hta hti;unfold tblV at he;subst he;have HL0:=aAb (lenO_some hta hti);have hbx:=aAe w2 (.cells #[.pointer (some ⟨db,0,none⟩),.int .u8 (i:Int),.string t.s.nm,.slice ca t.s.cs.length cc,.slice xa t.s.xs.length xc] 101);have HB3:=aAb (HB2.o.trans (hbx.mono HB2.o.size));have HV3:Hid ((w2.alloc (.cells #[.pointer (some ⟨db,0,none⟩),.int .u8 (i:Int),.string t.s.nm,.slice ca t.s.cs.length cc,.slice xa t.s.xs.length xc] 101)).heap[w2.heap.size]?=some (.cells #[.pointer (some ⟨db,0,none⟩),.int .u8 (i:Int),.string t.s.nm,.slice ca t.s.cs.length cc,.slice xa t.s.xs.length xc] 101 (0,0))):=boxed w2 _;have HCO:=aAb (tcount_ok (ca:=ca) (xa:=xa) (cc:=cc) (xc:=xc) (HD.o.later HB3.o) HI.o HLN.o hti);clear hta hti htm hsc hbx HFR;go_upto_region 2 with fail;generalize w2.alloc (.cells #[.pointer (some ⟨db,0,none⟩),.int .u8 (i:Int),.string t.s.nm,.slice ca t.s.cs.length cc,.slice xa t.s.xs.length xc] 101)=w3 at *
  generalize w2.heap.size=V at *
  have y0:w3.cell? ⟨V,0,none⟩=some (.pointer (some ⟨db,0,none⟩)):=aAa HV3.o;have y1:w3.cell? ⟨V,1,none⟩=some (.int .u8 (i:Int)):=aAa HV3.o;have y2:w3.cell? ⟨V,2,none⟩=some (.string t.s.nm):=aAa HV3.o;have y3:w3.cell? ⟨V,3,none⟩=some (.slice ca t.s.cs.length cc):=aAa HV3.o;have y4:w3.cell? ⟨V,4,none⟩=some (.slice xa t.s.xs.length xc):=aAa HV3.o;go_wp2_with fail;refine HCO.o.mono ?_;rintro e w4 ⟨rfl,hb4⟩;have HB4:=aAb (HB3.o.trans (hb4.mono HB3.o.size));clear hb4 HCO y0 y1 y2 y3 y4;go_wp2;go_ret2;rw [<-HLE.o,HL0.o];exact ⟨rfl,HB4.o⟩
def getO (T:List Tbl) (nm:ByteArray) (x:Val):Option (List Val)×Int:=match tAt T nm with
 | none=>(none,60)
 | some i=>match T[i]? with
  | none=>(none,60)
  | some t=>if x.err≠0 then (none,62) else match rowAt t.rows x with
   | none=>(none,4)
   | some r=>(some r,0)
theorem aCy {t:Tbl} (h1:tAt T nm=some i) (h2:T[i]?=some t):getO T nm x=(if x.err≠0 then (none,62) else match rowAt t.rows x with
   | none=>(none,4)
   | some r=>(some r,0):Option (List Val)×Int):=by
 unfold getO;rw [h1];dsimp only;rw [h2]
theorem getO_none (h1:tAt T nm=none):getO T nm x=(none,60):=by unfold getO;rw [h1]
def TlRn (B:Nat) (o:Option (List Val)) (ec:Int) (e:Ending) (w':World):Prop:=∃ a n c,e=.returned (.tuple #[.slice a n c,.int .i64 ec])/\SVK fV 3 w' a n c (o.getD [])/\∀ ad,a=some ad->B<=ad.block
def TlR (o:Option (List Val)) (ec:Int) (e:Ending) (w':World):Prop:=∃ a n c,e=.returned (.tuple #[.slice a n c,.int .i64 ec])/\SVK fV 3 w' a n c (o.getD [])
theorem tgetrow_new [Gd] (h:DR B p q g ls db v cs W w0 w) (I:Inv cs T) (hl:cs.length<=1000) (nm:ByteArray) (hx:x.ok) (hxs:x.2.2.size<=1048576) :
  Calls prog 24 #[.pointer (some ⟨db,0,none⟩),.string nm,.agg #[.int .i64 x.1,.int .i64 x.2.1,.string x.2.2]] w fun e w'=>TlRn w.heap.size (getO T nm x).1 (getO T nm x).2 e w'/\Below w.heap.size w w':=by
 have HD:=aAb h;have HI:=aAb I;have HLN:Hid (cs.length<=1000):=by show _<=_;omega
 obtain ⟨w1,hw1⟩:∃ w1,w1=w.alloc (.cells #[.int .i64 x.1,.int .i64 x.2.1,.string x.2.2] 36):=⟨_,rfl⟩;have hb1:Below w.heap.size w w1:=by rw [hw1];exact aAe w _
 have HK1:Hid (w1.heap[w.heap.size]?=some (.cells #[.int .i64 x.1,.int .i64 x.2.1,.string x.2.2] 36 (0,0))):=by show _=_;rw [hw1];exact boxed w _
 have HB1:=aAb hb1;have HFI:=aAb (aIz (h.later hb1) I (by omega) nm hx hxs);have HW1:=aAb hw1;have k0:w1.cell? ⟨w.heap.size,0,none⟩=some (.int .i64 x.1):=aAa HK1.o;have k1:w1.cell? ⟨w.heap.size,1,none⟩=some (.int .i64 x.2.1):=aAa HK1.o;have k2:w1.cell? ⟨w.heap.size,2,none⟩=some (.string x.2.2):=aAa HK1.o;obtain ⟨go,hgo⟩:∃ go,getO T nm x=go:=⟨_,rfl⟩;have HGO:=aAb hgo;rw [hgo];clear h I hl hx hxs hb1 hw1 hgo;go_enter func24,ntmps24;go_upto_region 1 with fail;rw [<-HW1.o];clear HW1;go_wp2_with fail;refine HFI.o.mono ?_;rintro e w2 ⟨hfi,hb2⟩;have HB2:Hid (Below w.heap.size w w2):=HB1.o.trans (hb2.mono HB1.o.size);have HFR:=aAb hfi;clear hfi hb2 HFI k0 k1 k2 HK1;have hany:∃ dp dn ds da db1 dc ea eb ec1 fa fn fc ga gc ec,e=.returned (.tuple #[.agg #[.pointer dp,.int .u8 dn,.string ds,.slice da db1 dc,.slice ea eb ec1],.agg #[.slice fa fn fc,.slice ga fn gc],.int .i64 ec])/\ec=go.2/\SVK fV 3 w2 fa fn fc (go.1.getD [])/\∀ ad,fa=some ad->w.heap.size<=ad.block:=by
  cases hta:tAt T nm with
  | none =>
   have he:=HFR.o.1 hta;unfold zT zR at he;refine ⟨_,_,_,_,_,_,_,_,_,none,0,0,none,0,60,he,?_,?_,?_⟩
   ·rw [<-HGO.o,getO_none hta]
   ·rw [<-HGO.o,getO_none hta];exact SVK.nil _ _ _
   ·intro ad q;cases q
  | some i =>
   obtain ⟨t,hti,htn,htm⟩:=aAv hta;subst htn;have hft:=HFR.o.2 i t hta hti;by_cases hf0:x.err=0
   ·obtain ⟨ca,cc,xa,xc,fa,fn,fc,ga,gc,he,hsc,hgq⟩:=hft.2 hf0;unfold tblV at he
    cases hra:rowAt t.rows x with
    | none =>
     rw [hra] at he;obtain ⟨rfl,rfl,rfl,rfl,rfl⟩:=hgq.1 hra;refine ⟨_,_,_,_,_,_,_,_,_,none,0,0,none,0,4,he,?_,?_,?_⟩
     ·rw [<-HGO.o,aCy hta hti,if_neg (by rw [hf0];simp),hra]
     ·rw [<-HGO.o,aCy hta hti,if_neg (by rw [hf0];simp),hra];exact SVK.nil _ _ _
     ·intro ad q;cases q
    | some r =>
     rw [hra] at he;obtain ⟨hfn,hrh,hf9⟩:=hgq.2 r hra;refine ⟨_,_,_,_,_,_,_,_,_,fa,fn,fc,ga,gc,0,he,?_,?_,?_⟩
     ·rw [<-HGO.o,aCy hta hti,if_neg (by rw [hf0];simp),hra]
     ·rw [<-HGO.o,aCy hta hti,if_neg (by rw [hf0];simp),hra,hfn];exact hrh.p
     ·exact fun ad q=>nT HB1.o.size (hf9 ad q)
   ·have he:=hft.1 hf0;unfold zT zR at he;refine ⟨_,_,_,_,_,_,_,_,_,none,0,0,none,0,62,he,?_,?_,?_⟩
    ·rw [<-HGO.o,aCy hta hti,if_pos hf0]
    ·rw [<-HGO.o,aCy hta hti,if_pos hf0];exact SVK.nil _ _ _
    ·intro ad q;cases q
 obtain ⟨dp,dn,ds,da,db1,dc,ea,eb,ec1,fa,fn,fc,ga,gc,ec,rfl,hec,hsv,hfr9⟩:=hany;have HFR9:=aAb hfr9;have HEC:=aAb hec;have hb3:=aCa w2 (.cells #[.pointer dp,.int .u8 dn,.string ds,.slice da db1 dc,.slice ea eb ec1] 101) (.cells #[.slice fa fn fc,.slice ga fn gc] 119);have HB3:=aAb (HB2.o.trans (hb3.mono HB2.o.size));have HS3:=aAb (hsv.later hb3);have m0:((w2.alloc (.cells #[.pointer dp,.int .u8 dn,.string ds,.slice da db1 dc,.slice ea eb ec1] 101)).alloc (.cells #[.slice fa fn fc,.slice ga fn gc] 119)).cell? ⟨w2.heap.size+1,0,none⟩=some (.slice fa fn fc):=aAa (heap_alloc2_new w2 _ _);clear hsv hec hb3 HFR hfr9;go_upto_region 2 with fail;generalize (w2.alloc (.cells #[.pointer dp,.int .u8 dn,.string ds,.slice da db1 dc,.slice ea eb ec1] 101)).alloc (.cells #[.slice fa fn fc,.slice ga fn gc] 119)=w3 at *
 generalize w2.heap.size+1=Q at *
 go_wp2;go_ret2;exact ⟨⟨fa,fn,fc,by rw [<-HEC.o];rfl,HS3.o,HFR9.o⟩,HB3.o⟩
theorem tgetrow_ok [Gd] (h:DR B p q g ls db v cs W w0 w) (I:Inv cs T) (hl:cs.length<=1000) (nm:ByteArray) (hx:x.ok) (hxs:x.2.2.size<=1048576) :
  Calls prog 24 #[.pointer (some ⟨db,0,none⟩),.string nm,.agg #[.int .i64 x.1,.int .i64 x.2.1,.string x.2.2]] w fun e w'=>TlR (getO T nm x).1 (getO T nm x).2 e w'/\Below w.heap.size w w':=(tgetrow_new h I hl nm hx hxs).mono fun e w' hh=>by obtain ⟨⟨a,n,c,h1,h2,_⟩,h3⟩:=hh;exact ⟨⟨a,n,c,h1,h2⟩,h3⟩
theorem len_sub:∀ {l m:List (List Nat)},(l.Pairwise fun a b=>a≠b)->(∀ x∈l,x∈m)->l.length<=m.length
 | [],_,_,_=>Nat.zero_le _
 | x::l,m,hp,h=>by
  obtain ⟨h1,h2⟩:=List.pairwise_cons.1 hp
  have hx:=h x List.mem_cons_self
  have:=len_sub (l:=l) (m:=m.erase x) h2 fun y hy=>(List.mem_erase_of_ne (fun e=>h1 y hy e.symm)).2 (h y (List.mem_cons_of_mem _ hy))
  rw [List.length_erase_of_mem hx] at this
  have:=List.length_pos_of_mem hx
  simp only [List.length_cons]
  omega
theorem Inv.names_len (I:Inv cs T):(liveC cs 0).length=T.length:=by
 have h1:((liveC cs 0).map Ch.key).length<=(T.map fun t=>slK t.s.nm).length:=by
  refine len_sub ?_ fun x hx=>?_
  ·rw [List.pairwise_map];exact (aI7 cs 0).imp fun {a b} hab e=>by rw [e,aAr] at hab;omega
  ·obtain ⟨c,hc,rfl⟩:=List.mem_map.1 hx;obtain ⟨i,t,h2,rfl⟩:=(I.l0 c).1 hc;exact List.mem_map.2 ⟨t,at_mem h2,rfl⟩
 have h2:(T.map fun t=>slK t.s.nm).length<=((liveC cs 0).map Ch.key).length:=by
  refine len_sub ?_ fun x hx=>?_
  ·rw [List.pairwise_map,List.pairwise_iff_getElem];intro i j hi hj hij e;have:=I.nm i j _ _ (gE hi) (gE hj) (slK_inj e);omega
  ·obtain ⟨t,ht,rfl⟩:=List.mem_map.1 hx;obtain ⟨i,hi⟩:=List.getElem?_of_mem ht;exact List.mem_map.2 ⟨⟨0,slK t.s.nm,i::encS t.s,false⟩,(I.l0 _).2 ⟨i,t,hi,rfl⟩,rfl⟩
 rw [List.length_map,List.length_map] at h1 h2;omega
theorem rng_names (I:Inv cs T):rngC cs 0 [] [] 4=liveC cs 0:=by
 rw [aF4];have e:(liveC cs 0).filter (fun c=>inK [] [] c.key)=liveC cs 0:=by
  rw [List.filter_eq_self];intro c _;unfold inK;rw [decide_eq_true (aFt c.key)];rfl
 rw [e];exact List.take_of_length_le (by rw [I.names_len];exact I.len)
def fN (s:ByteArray):List Value:=[.string s]
theorem aGl (s:ByteArray):(fN s).length=1:=rfl
theorem info_strT:(prog.info? 9).map (fun i=>(i.zero,i.size,i.bytes))=some (some (.string ⟨#[]⟩),1,16):=by kernel_rfl
theorem mstr0:(madeCells (Value.string ⟨#[]⟩).cells (0*1)).toList=(List.replicate 0 (⟨#[]⟩:ByteArray)).flatMap fN:=by kernel_rfl
theorem mstr1:(madeCells (Value.string ⟨#[]⟩).cells (1*1)).toList=(List.replicate 1 (⟨#[]⟩:ByteArray)).flatMap fN:=by kernel_rfl
theorem mstr2:(madeCells (Value.string ⟨#[]⟩).cells (2*1)).toList=(List.replicate 2 (⟨#[]⟩:ByteArray)).flatMap fN:=by kernel_rfl
theorem mstr3:(madeCells (Value.string ⟨#[]⟩).cells (3*1)).toList=(List.replicate 3 (⟨#[]⟩:ByteArray)).flatMap fN:=by kernel_rfl
theorem mstr4:(madeCells (Value.string ⟨#[]⟩).cells (4*1)).toList=(List.replicate 4 (⟨#[]⟩:ByteArray)).flatMap fN:=by kernel_rfl
theorem made_strT (h:n<=4):(madeCells (Value.string ⟨#[]⟩).cells (n*1)).toList=(List.replicate n (⟨#[]⟩:ByteArray)).flatMap fN:=by
 have:n=0\/n=1\/n=2\/n=3\/n=4:=by omega
 rcases this with rfl | rfl | rfl | rfl | rfl
 ·exact mstr0
 ·exact mstr1
 ·exact mstr2
 ·exact mstr3
 ·exact mstr4
def namesL (cs:List Ch):List ByteArray:=(liveC cs 0).map fun c=>str c.key
theorem tnames_ok [Gd] (h:DR B p q g ls db v cs W w0 w) (I:Inv cs T) (hl:cs.length<=1000) :
  Calls prog 14 #[.pointer (some ⟨db,0,none⟩)] w fun e w'=>∃ a c,e=.returned (.tuple #[.slice a T.length c,.int .i64 0])/\SVK fN 1 w' a T.length c (namesL cs)/\Below w.heap.size w w'/\∀ ad,a=some ad->w.heap.size<=ad.block:=by
 have hrg:=aBl (sp:=0) (most:=4) h.now h.dd hl (by omega) (BK.nil B w) (BK.nil B w) (by omega) (by omega) (by omega) (by omega);rw [show rngC cs ((0:Nat):Int) [] [] 4=rngC cs 0 [] [] 4 from rfl,rng_names I] at hrg;have HRG:=aAb hrg;obtain ⟨F,hF⟩:∃ F,liveC cs 0=F:=⟨_,rfl⟩;obtain ⟨n,hn⟩:∃ n,T.length=n:=⟨_,rfl⟩;have HFN:Hid (F.length=n):=by show _=_;rw [<-hF,I.names_len,hn]
 have HN4:Hid (n<=4):=by show _<=_;rw [<-hn];exact I.len
 have HNM:Hid (namesL cs=F.map fun c=>str c.key):=by show _=_;rw [<-hF];rfl
 have HBW:=aAb h.bw;rw [hF] at HRG;rw [hn];obtain ⟨N,hN⟩:∃ N,w.heap.size=N:=⟨_,rfl⟩;have HNN:=aAb hN;rw [hN];clear hrg h I hl hF hn;go_enter func14,ntmps14;go_wp2_with fail;refine HRG.o.mono ?_;rintro e w2 ⟨v2,rfl,hps,hb2⟩;obtain ⟨pa,pc,ev⟩:=hps.form;rw [HFN.o] at ev;subst ev;have HPS:=aAb (hps0 hps);have HB2:Hid (Below N w w2):=by show Below N w w2;rw [<-hN];exact hb2
 have HBW2:Hid (B<=w2.heap.size/\N<=w2.heap.size):=⟨nT HBW.o hb2.size,by rw [<-hN];exact hb2.size⟩;clear hps hb2 HRG;obtain ⟨i0,hi,hz0,hz1',hz2⟩:=info_parts info_strT;have hn4:n<=4:=HN4.o;go_upto_region 7 with (refine wpList_make_full w2 rfl _ _ 44 rfl w2.heap.size 9 i0 (.string ⟨#[]⟩) 1 underlying44 hi hz0 hz1' .i64 .i64 (n:Int) (n:Int) n rfl rfl rfl rfl (by rw [hz2];omega) (by unfold maxLen;omega) (nR _) ?_;intro w3 ho3 hg3;rw [made_strT hn4] at ho3;have HO3:=aAb ho3;have HG3:Hid (Below w2.heap.size w2 w3):=(Below.refl _ _).grown hg3 (nR _) (fun _ q=>nomatch q);clear ho3 hg3);have HPS3:=aAb (HPS.o.later HG3.o HBW2.o.1);have HB3:Hid (Below N w w3):=HB2.o.trans (HG3.o.mono HBW2.o.2);have HBG:Hid (B<=w2.heap.size/\N<=w2.heap.size):=HBW2.o;clear HG3 HPS HB2 HBW2 hi hz0 hz1' hz2;generalize w2.heap.size=g2 at *
 obtain ⟨ns,hns⟩:∃ ns,ns=F.map fun c=>str c.key:=⟨_,rfl⟩
 have HNS:=aAb hns;have HNL:Hid (ns.length=n):=by show _=_;rw [hns,List.length_map];exact HFN.o
 clear hns;rw [show List.replicate n (⟨#[]⟩:ByteArray)=rowJ ⟨#[]⟩ ns 0 from by rw [aE3,HNL.o]] at HO3;go_wp2_with fail;go_loopg [24] n (fun gh s24 wx=>∃ j:Nat,j+gh=n/\s24=.int .i64 (j:Int)/\wx.ownsRow g2 9 1 (.slice (some ⟨g2,0,none⟩) n n) n ((rowJ ⟨#[]⟩ ns j).flatMap fN)/\PSW B 0 wx (.slice pa n pc) F/\Below N w wx)
 case atStart=>exact ⟨0,by omega,rfl,HO3.o,HPS3.o,HB3.o⟩
 case round =>
  obtain ⟨j,hj,rfl,ho1,hps,hbe⟩:=hrel;have HO1:=aAb ho1;have HPS:=aAb hps;have HBE:=aAb hbe;clear ho1 hps hbe HO3 HPS3 HB3;by_cases hjn:j<n
  ·have xj:(j:Int)<(n:Int):=by omega
   have xj0:(0:Int)<=(j:Int):=by omega
   have x6:(n:Int)<=9223372036854775807:=by omega
   obtain ⟨ch,hch⟩:∃ c,F[j]?=some c:=⟨_,gE (by rw [HFN.o];exact hjn)⟩;obtain ⟨g9,k9,x9,e9,hev,hcell⟩:=HPS.o.at f3_len hch;obtain ⟨xc9,xk9,xv9⟩:=x9;obtain ⟨ex9,⟨ka,kc,e3,hbk⟩,⟨vva,vvc,e4,_⟩⟩:=hev;dsimp only at ex9 e3 e4;subst ex9;simp only [Value.slice.injEq] at e9;obtain ⟨rfl,zz9,rfl⟩:=e9;clear zz9;have c0:wr.cell? ⟨g9,j*3,none⟩=some (.int .i64 xc9.sp):=hcell 0 (by omega);have c1:wr.cell? ⟨g9,j*3+1,none⟩=some xk9:=hcell 1 (by omega);have c2:wr.cell? ⟨g9,j*3+2,none⟩=some xv9:=hcell 2 (by omega);subst e3 e4;have hcap:n<=pc:=by
    obtain ⟨kv,_,⟨_,ho⟩,_⟩:=HPS.o;rcases ho with ⟨e,h0⟩ | ⟨g',cap',cur',e,_,_,h7,_⟩
    ·rw [HFN.o] at h0;omega
    ·simp only [Value.slice.injEq] at e;have:=HFN.o;omega
   have hBr:B<=wr.heap.size:=nT HBW.o (by have:=HBE.o.size;have:=HNN.o;omega);have hbx:=aAe wr (.cells #[.int .i64 xc9.sp,.slice ka xc9.key.length kc,.slice vva xc9.val.length vvc] 99);have HO2:=aAb (aAk HO1.o hbx);have HPS2:=aAb (HPS.o.later hbx hBr);have HBE2:Hid (Below N w (wr.alloc (.cells #[.int .i64 xc9.sp,.slice ka xc9.key.length kc,.slice vva xc9.val.length vvc] 99))):=HBE.o.trans (hbx.mono (by have:=HBE.o.size;have:=HNN.o;omega));have HR3:Hid ((wr.alloc (.cells #[.int .i64 xc9.sp,.slice ka xc9.key.length kc,.slice vva xc9.val.length vvc] 99)).heap[wr.heap.size]?=some (.cells #[.int .i64 xc9.sp,.slice ka xc9.key.length kc,.slice vva xc9.val.length vvc] 99 (0,0))):=boxed wr _;have hbk2:=hbk.later hbx hBr;have HNA:Hid (ns[j]?=some (str xc9.key)):=by show _=_;rw [HNS.o,List.getElem?_map,hch];rfl
   have HNX:=aAb (aE4 (z:=(⟨#[]⟩:ByteArray)) HNA.o);have HAZ:Hid ((rowJ (⟨#[]⟩:ByteArray) ns j)[j]?=some ⟨#[]⟩):=aJe (by rw [HNL.o];exact hjn);clear hcell hbx hbk hch;go_upto_region 10 with fail;clear c0 c1 c2;generalize wr.alloc (.cells #[.int .i64 xc9.sp,.slice ka xc9.key.length kc,.slice vva xc9.val.length vvc] 99)=w5 at *
   generalize wr.heap.size=G at *
   have z1:w5.cell? ⟨G,1,none⟩=some (.slice ka xc9.key.length kc):=aAa HR3.o;have hcv:(convert 97 9 (.slice ka xc9.key.length kc)).run prog w5=.ok (.string (str xc9.key)) w5:=run_text hbk2.1;have hcells:=aCc aGl HO2.o HAZ.o;obtain ⟨cur,hcur,hcell⟩:=hcells;have d0:w5.cell? ⟨g2,j,none⟩=some (.string ⟨#[]⟩):=by have h9:=hcell 0 (by omega);rw [Nat.mul_one,Nat.add_zero] at h9;exact h9
   have f0:w5.frozen? ⟨g2,j,none⟩=false:=aAg hcur;have HCU:=aAb hcur;clear hcell hcur hbk2;go_wp2;go_roundg (gk-1)
   case measure=>omega
   case rel =>
    have hst:=aB4 (u:=.string (str xc9.key)) (i:=j) HO2.o (by omega);have e5:=aCe (f:=fN) (k:=1) (j:=0) (u:=.string (str xc9.key)) (x':=str xc9.key) aGl (by omega) HAZ.o rfl;rw [Nat.mul_one,Nat.add_zero] at e5;rw [e5,HNX.o] at hst;refine ⟨j+1,by omega,rfl,hst,?_,HBE2.o.setCell (p:=⟨g2,j,none⟩) HBG.o.2 _⟩;refine HPS2.o.keep (FT.set HCU.o HBG.o.1 (by decide)) fun q hq=>heap_setCell_other _ _ _ _ ?_
    intro e;obtain ⟨_,_,cur2,h8⟩:=HPS2.o.blk hq;rw [show q=g2 from e,HCU.o] at h8;simp only [oI,cI] at h8;exact absurd h8.2.1 (by decide)
  ·have ej:j=n:=by omega
   subst ej;have xj:¬ (j:Int)<(j:Int):=by omega
   go_wp2;go_ret2;have h9:=HO1.o;rw [show rowJ (⟨#[]⟩:ByteArray) ns j=ns from by rw [<-HNL.o];exact aGx _ _] at h9;obtain ⟨a9,c9,e9,hsv⟩:=aA4 aGl h9 HNL.o;simp only [Value.slice.injEq] at e9;obtain ⟨rfl,_,rfl⟩:=e9;exact ⟨_,_,rfl,by rw [HNM.o,<-HNS.o];exact hsv,HBE.o,fun ad q=>by cases q;exact HBG.o.2⟩
theorem tadd_ok [Gd] {B9 bn bc:Nat} {ba:Option Addr} (h:DR B p q g ls db v cs W w0 w) (I:Inv cs T) (hl:cs.length<=990) (hs:s.ok=true) (hb:OB B9 w (.slice ba bn bc) (encS s)) :
  Calls prog 62 #[.pointer (some ⟨db,0,none⟩),.string s.nm,.slice ba bn bc] w fun e w'=>OpR B p q g ls db v cs W w0 w (if 4<=T.length then ⟨T,[],2⟩ else ⟨T++[⟨s,[]⟩],[⟨0,slK s.nm,T.length::encS s,false⟩],0⟩) e w':=by
 have HD:=aAb h;have HI:=aAb I;have HLM:=aAb hl;have HSO:=aAb hs;have HOB:=aAb hb;have HNM:=aAb (tnames_ok h I (by omega));obtain ⟨n,hn⟩:∃ n,T.length=n:=⟨_,rfl⟩;have HN:=aAb hn;rw [hn] at HNM;obtain ⟨oo,hoo⟩:∃ oo:Out,(if 4<=T.length then ⟨T,[],2⟩ else ⟨T++[⟨s,[]⟩],[⟨0,slK s.nm,T.length::encS s,false⟩],0⟩:Out)=oo:=⟨_,rfl⟩;have HOUT:=aAb hoo;rw [hoo];clear h I hl hs hb hn hoo;go_enter func62,ntmps62;go_wp2_with fail;refine HNM.o.mono ?_;rintro e w2 ⟨na,nc,rfl,_,hb2,hfz⟩;clear hfz;have HB2:=aAb hb2;have HD2:=aAb (HD.o.later hb2);have HOB2:=aAb (HOB.o.later hb2);clear hb2 HNM;by_cases h4:4<=n
 ·have x4:(4:Int)<=(n:Int):=by omega
  go_wp2;go_ret;rw [<-HOUT.o,if_pos (by rw [HN.o];exact h4)];exact OpR.no HD.o HB2.o
 ·have x4:¬ (4:Int)<=(n:Int):=by omega
  have x1:(n:Int) % 256=(n:Int):=by omega
  have x2:IntKind.u8.wrap (n:Int)=(n:Int):=by show (n:Int) % 256=_;omega
  have hz:=aFj (nm_of HSO.o);have hz1:1<=s.nm.size:=by
   have:=nm_of HSO.o;unfold isNm at this;simp only [Bool.and_eq_true,decide_eq_true_eq] at this;exact this.1.1
  obtain ⟨cp3,w3,hcv3,hb3,hbs3,hub3⟩:=conv_u s.nm w2 (by omega);have HD3:=aAb (HD2.o.later hb3);have HB3:=aAb (HB2.o.trans (hb3.mono HB2.o.size));have HOB3:=aAb (HOB2.o.later hb3);have hbx:=aAe w3 (.cells #[.int .u8 (n:Int)] 5);have HOB4:=aAb (HOB3.o.later hbx);have HK3:Hid (BS w3 (some ⟨w2.heap.size,0,none⟩) s.nm.size cp3 (slK s.nm)/\UB w3 (some ⟨w2.heap.size,0,none⟩)):=⟨hbs3,hub3⟩;have HOO:Hid (OB w3.heap.size (w3.alloc (.cells #[.int .u8 (n:Int)] 5)) (.slice (some ⟨w3.heap.size,0,none⟩) 1 1) [n]):=own_oneK (nR _);have HSZ:Hid (w3.heap.size<=(w3.alloc (.cells #[.int .u8 (n:Int)] 5)).heap.size):=hbx.size;have HBX:=aAb hbx;have HE8:=aAb (encS_80 HSO.o);have HZZ:=aAb (And.intro hz1 hz);have HN4:Hid (n<4):=by show n<4;omega
  clear hz hz1 hb3 hbs3 hub3 hbx h4;go_wp2_with (at_builtin;refine aAw rfl (.tmp 28) (.tmp 29) rfl (xs:=[n]) (ys:=encS s) rfl rfl HOO.o HOB4.o HSZ.o (by have:=HE8.o;show 1+_<=_;omega) ?_;intro v5 w5 ho5 hb5 hk5;have HO5:=aAb ho5;have HB5:=aAb (HBX.o.trans hb5);clear ho5 hb5 hk5);obtain ⟨a5,c5,e5⟩:=HO5.o.form;obtain ⟨vn,hvn⟩:∃ vn,([n]++encS s).length=vn:=⟨_,rfl⟩;rw [hvn] at e5;subst e5;have hbs5:BS w5 a5 vn c5 ([n]++encS s):=by
   have h9:=HO5.o;have h8:=h9.form;have h7:=OB.bs (a:=a5) (k:=vn) (c:=c5) h9 (fun x hx=>by rcases List.mem_append.1 hx with q | q;(simp only [List.mem_singleton] at q;have:=HN4.o;omega);exact encS_lt s x q) (by rw [hvn,<-hvn,lA];have:=HE8.o;show 1+_<=_;omega);rw [hvn] at h7;exact h7
  have hub5:UB w5 a5:=HO5.o.ub;have HD5:=aAb (HD3.o.later HB5.o);have HBB5:=aAb (HB3.o.trans (HB5.o.mono HB3.o.size));have hvl:vn<=81:=by rw [<-hvn,lA];have:=HE8.o;show 1+_<=_;omega
  have hre:refE 0 s.nm.size vn=0:=by
   unfold refE;have:=HZZ.o;rw [if_neg (by omega),if_neg (by omega)]
  have hpu:=dput_any (sp:=0) HD5.o.dd (aB5 (HK3.o.1.later HB5.o (nR _)) (HK3.o.2.later HB5.o)) (aB5 hbs5 hub5) (by have:=HLM.o;omega);rw [hre,aKf (by show refE 0 (slK s.nm).length ([n]++encS s).length=0;rw [aEo,hvn];exact hre)] at hpu;have HPU:=aAb hpu;clear hbs5 hub5 hvl hre hpu hvn;go_wp2_with fail;refine HPU.o.mono ?_;rintro e w6 ⟨v6,rfl,hd6,hf6⟩;have HR6:Hid (OpR B p q g ls db v cs W w0 w oo (.returned (.int .i64 0)) w6):=by
   show OpR B p q g ls db v cs W w0 w oo (.returned (.int .i64 0)) w6;rw [<-HOUT.o,if_neg (by rw [HN.o];have:=HN4.o;omega),HN.o];exact ⟨v6,rfl,HD5.o.fr hd6 hf6,(DFr.of HBB5.o HD.o.bw).trans hf6⟩
  clear hd6 hf6 HPU;go_wp2;go_ret;exact HR6.o
theorem aIn [Gd] (h:DR B p q g ls db v cs W w0 w) (I:Inv cs T) (hl:cs.length<=990) (hsc:SC w ca cl cc xa xl xc s) :
  Calls prog 30 #[.pointer (some ⟨db,0,none⟩),.agg #[.string s.nm,.slice ca cl cc,.slice xa xl xc]] w fun e w'=>OpR B p q g ls db v cs W w0 w (creO T s) e w':=by
 have HD:=aAb h;have HI:=aAb I;have HLM:=aAb hl;obtain ⟨w1,hw1⟩:∃ w1,w1=w.alloc (.cells #[.string s.nm,.slice ca cl cc,.slice xa xl xc] 33):=⟨_,rfl⟩;have hb1:Below w.heap.size w w1:=by rw [hw1];exact aAe w _
 have HK1:Hid (w1.heap[w.heap.size]?=some (.cells #[.string s.nm,.slice ca cl cc,.slice xa xl xc] 33 (0,0))):=by show _=_;rw [hw1];exact boxed w _
 have HB1:=aAb hb1;have HS1:=aAb (hsc.later hb1);have HD1:=aAb (h.later hb1);have HW1:=aAb hw1;obtain ⟨oo,hoo⟩:∃ oo:Out,creO T s=oo:=⟨_,rfl⟩;have HOUT:=aAb hoo;rw [hoo];clear h I hl hsc hb1 hw1 hoo;go_enter func30,ntmps30;go_upto_region 1 with fail;rw [<-HW1.o];clear HW1;generalize hLw:w.heap.size=L at *
 have HLW:=aAb hLw;clear hLw;have k0:w1.cell? ⟨L,0,none⟩=some (.string s.nm):=aAa HK1.o;have k1:w1.cell? ⟨L,1,none⟩=some (.slice ca cl cc):=aAa HK1.o;have k2:w1.cell? ⟨L,2,none⟩=some (.slice xa xl xc):=aAa HK1.o;by_cases hok:s.ok=true
 ·have HSO:=aAb hok;have HEN:=aAb (encode_ok HS1.o hok);clear hok;go_wp2_with fail;refine HEN.o.mono ?_;rintro e w2 ⟨v2,rfl,ho2,hb2⟩;obtain ⟨ba,bc,ev⟩:=ho2.form;obtain ⟨bn,hbn⟩:∃ bn,(encS s).length=bn:=⟨_,rfl⟩;rw [hbn] at ev;subst ev;have HOB:=aAb ho2;have HB2:Hid (Below L w w2):=HB1.o.trans (hb2.mono (by have:=HB1.o.size;have:=HLW.o;omega));have HD2:=aAb (HD1.o.later hb2);have HK2:=aAb ((hb2.block L (aAd HK1.o)).trans HK1.o);have HFI:=aAb (aEy HD2.o HI.o (by have:=HLM.o;omega) s.nm);clear ho2 hb2 hbn HEN k0 k1 k2;have k0:w2.cell? ⟨L,0,none⟩=some (.string s.nm):=aAa HK2.o;go_wp2_with fail;refine HFI.o.mono ?_;rintro e w3 ⟨hfi,hb3⟩;have HB3:=aAb (HB2.o.trans (hb3.mono (by have:=HB2.o.size;have:=HLW.o;omega)));have HD3:=aAb (HD2.o.later hb3);have HOB3:=aAb (HOB.o.later hb3);have HK3:=aAb ((hb3.block L (aAd HK2.o)).trans HK2.o)
  cases hta:tAt T s.nm with
  | none =>
   have he:=hfi.1 hta;subst he;have HTA:=aAb hta;have hbx:=aAe w3 (.cells #[.pointer none,.int .u8 0,.string ⟨#[]⟩,.slice none 0 0,.slice none 0 0] 101);have HB4:=aAb (HB3.o.trans (hbx.mono (by have:=HB3.o.size;have:=HLW.o;omega)));have HD4:=aAb (HD3.o.later hbx);have HOB4:=aAb (HOB3.o.later hbx);have HK4:=aAb ((hbx.block L (aAd HK3.o)).trans HK3.o);clear hfi hta hbx hb3 HFI k0;go_upto_region 7 with fail;generalize w3.alloc (.cells #[.pointer none,.int .u8 0,.string ⟨#[]⟩,.slice none 0 0,.slice none 0 0] 101)=w4 at *
   have k0:w4.cell? ⟨L,0,none⟩=some (.string s.nm):=aAa HK4.o;have HAD:=aAb (tadd_ok HD4.o HI.o HLM.o HSO.o HOB4.o);go_wp2_with fail;refine HAD.o.mono ?_;rintro e w5 ⟨v5,rfl,hd5,hf5⟩;have e9:oo=(if 4<=T.length then ⟨T,[],2⟩ else ⟨T++[⟨s,[]⟩],[⟨0,slK s.nm,T.length::encS s,false⟩],0⟩:Out):=by
    rw [<-HOUT.o];unfold creO;rw [if_neg (by rw [HSO.o];decide),HTA.o];rfl
   have HR5:Hid (OpR B p q g ls db v cs W w0 w oo (.returned (.int .i64 oo.e)) w5):=by
    rw [e9];exact ⟨v5,rfl,hd5,(DFr.of (by rw [HLW.o];exact HB4.o) HD.o.bw).trans hf5⟩
   have e8:(if 4<=T.length then ⟨T,[],2⟩ else ⟨T++[⟨s,[]⟩],[⟨0,slK s.nm,T.length::encS s,false⟩],0⟩:Out).e=oo.e:=by rw [e9]
   rw [e8];clear hd5 hf5 HAD e8 e9;generalize oo.e=oe at *
   go_wp2;go_ret;exact HR5.o
  | some i =>
   obtain ⟨t,hti,htn,htm⟩:=aAv hta;obtain ⟨ca2,cc2,xa2,xc2,he,_⟩:=hfi.2 i t hta hti;unfold tblV at he;subst he;have HTA:=aAb hta;have HTN:=aAb htn;have hbx:=aAe w3 (.cells #[.pointer (some ⟨db,0,none⟩),.int .u8 (i:Int),.string t.s.nm,.slice ca2 t.s.cs.length cc2,.slice xa2 t.s.xs.length xc2] 101);have HB4:=aAb (HB3.o.trans (hbx.mono (by have:=HB3.o.size;have:=HLW.o;omega)));clear hfi hta hbx hb3 HFI k0 htn hti htm;go_upto_region 7 with fail;generalize w3.alloc (.cells #[.pointer (some ⟨db,0,none⟩),.int .u8 (i:Int),.string t.s.nm,.slice ca2 t.s.cs.length cc2,.slice xa2 t.s.xs.length xc2] 101)=w4 at *
   go_wp2;go_ret;have e9:oo=⟨T,[],60⟩:=by
    rw [<-HOUT.o];unfold creO;rw [if_neg (by rw [HSO.o];decide),HTA.o];rfl
   rw [e9];exact OpR.no HD.o (by rw [HLW.o];exact HB4.o)
 ·have hok:s.ok=false:=by simpa using hok
  have HEN:=aAb (encode_no HS1.o hok);have HNO:=aAb hok;clear hok;go_wp2_with fail;refine HEN.o.mono ?_;rintro e w2 ⟨rfl,hb2⟩;have HB2:Hid (Below L w w2):=HB1.o.trans (hb2.mono (by have:=HB1.o.size;have:=HLW.o;omega));clear hb2 HEN k0 k1 k2;go_wp2;go_ret;have e9:oo=⟨T,[],61⟩:=by
   rw [<-HOUT.o];unfold creO;rw [if_pos HNO.o]
  rw [e9];exact OpR.no HD.o (by rw [HLW.o];exact HB2.o)
def nmsT (T:List Tbl):List ByteArray:=T.map fun t=>t.s.nm
def cntT (T:List Tbl):List Int:=T.map fun t=>(t.rows.length:Int)
section
variable {T:List Tbl} {nm:ByteArray} {i:Nat} {t:Tbl} {r:List Val} {R:List (List Val)} {cs:List Ch}
theorem tAt_k:(∀ j,j<(tAt T nm).getD T.length->∃ t,T[j]?=some t/\t.s.nm≠nm)/\((tAt T nm).getD T.length<T.length->∃ t,T[(tAt T nm).getD T.length]?=some t/\t.s.nm=nm)/\(tAt T nm).getD T.length<=T.length:=by
 cases h:tAt T nm with
 | none =>
  refine ⟨fun j hj=>?_,fun hj=>absurd hj (Nat.lt_irrefl _),nR _⟩;exact ⟨T[j],gE hj,aGv h _ (List.getElem_mem hj)⟩
 | some k =>
  obtain ⟨hi,h1,h2⟩:=List.findIdx?_eq_some_iff_getElem.1 h;refine ⟨fun j hj=>?_,fun _=>⟨T[k],gE hi,of_decide_eq_true h1⟩,Nat.le_of_lt hi⟩;have hjk:j<k:=hj;exact ⟨T[j]'(by omega),gE (by omega),by have:=h2 j hjk;simpa using this⟩
theorem nms_set (h:T[i]?=some t):nmsT (setT T i t R)=nmsT T:=by
 unfold nmsT setT;rw [List.map_set];refine List.ext_getElem? fun j=>?_
 by_cases e:i=j
 ·subst e;have hi:=(lL h);rw [List.getElem?_set_self (by rw [List.length_map];exact hi),List.getElem?_map,h];rfl
 ·rw [List.getElem?_set_ne e]
theorem cnt_set:cntT (setT T i t R)=(cntT T).set i (R.length:Int):=by
 unfold cntT setT;rw [List.map_set]
theorem cre_cnt (h:(creO T s).e=0):(creO T s).T=T++[⟨s,[]⟩]:=by
 unfold creO at h ⊢
 split at h
 ·exact absurd h (by simp)
 ·rename_i q1
  rw [if_neg q1]
  split at h
  ·exact absurd h (by simp)
  ·rename_i q2
   rw [if_neg q2]
   split at h
   ·exact absurd h (by simp)
   ·rename_i q3
    rw [if_neg q3]
theorem cre_same (h:(creO T s).e≠0):(creO T s).T=T:=by
 unfold creO at h ⊢
 split at h
 ·rename_i q1;rw [if_pos q1]
 ·rename_i q1
  rw [if_neg q1]
  split at h
  ·rename_i q2;rw [if_pos q2]
  ·rename_i q2
   rw [if_neg q2]
   split at h
   ·rename_i q3;rw [if_pos q3]
   ·exact absurd rfl h
theorem ins_cnt (h:(insO T nm r).e=0):∃ i t,tAt T nm=some i/\T[i]?=some t/\t.s.fits r=0/\rowAt t.rows (fst r)=none/\(insO T nm r).T=setT T i t (insV r t.rows):=by
 cases h1:tAt T nm with
 | none=>rw [aFm h1] at h;exact absurd h (by simp)
 | some i =>
  obtain ⟨t,h2,_,_⟩:=aAv h1;rw [aFl h1 h2] at h ⊢
  split at h
  ·rename_i q;exact absurd h q
  ·rename_i q1
   rw [if_neg q1]
   split at h
   ·rename_i q;exact absurd h q
   ·rename_i q2
    rw [if_neg q2];refine ⟨i,t,rfl,h2,Decidable.of_not_not q1,?_,rfl⟩
    cases e:rowAt t.rows (fst r) with
    | none=>rfl
    | some q=>exact absurd (show addE t r≠0 by unfold addE;rw [e];simp) q2
theorem ins_same (h:(insO T nm r).e≠0):(insO T nm r).T=T/\(insO T nm r).m=[]:=by
 cases h1:tAt T nm with
 | none=>rw [aFm h1];exact ⟨rfl,rfl⟩
 | some i =>
  obtain ⟨t,h2,_,_⟩:=aAv h1;rw [aFl h1 h2] at h ⊢;split
  ·exact ⟨rfl,rfl⟩
  ·rename_i q1
   split
   ·exact ⟨rfl,rfl⟩
   ·rename_i q2
    rw [if_neg q1,if_neg q2] at h;exact absurd rfl h
theorem del_cnt (h:(delO T nm x).e=0):∃ i t r,tAt T nm=some i/\T[i]?=some t/\rowAt t.rows x=some r/\(delO T nm x).T=setT T i t (cutV x t.rows):=by
 cases h1:tAt T nm with
 | none=>rw [aFs h1] at h;exact absurd h (by simp)
 | some i =>
  obtain ⟨t,h2,_,_⟩:=aAv h1;rw [aFr h1 h2] at h ⊢
  split at h
  ·exact absurd h (by simp)
  ·rename_i q1
   rw [if_neg q1]
   cases h3:rowAt t.rows x with
   | none=>rw [h3] at h;exact absurd h (by simp)
   | some r=>exact ⟨i,t,r,rfl,h2,h3,rfl⟩
theorem del_same (h:(delO T nm x).e≠0):(delO T nm x).T=T:=by
 cases h1:tAt T nm with
 | none=>rw [aFs h1]
 | some i =>
  obtain ⟨t,h2,_,_⟩:=aAv h1;rw [aFr h1 h2] at h ⊢;split
  ·rfl
  ·rename_i q1
   cases h3:rowAt t.rows x with
   | none=>rfl
   | some r=>rw [if_neg q1,h3] at h;exact absurd rfl h
theorem ins_cut:∀ {rows:List (List Val)} {o:List Val},(rows.Pairwise fun a b=>cmpB (fst a).bytes (fst b).bytes<0)->o∈rows->insV o (cutV (fst o) rows)=rows
 | d::l,o,hp,ho=>by
  obtain ⟨h1,h2⟩:=List.pairwise_cons.1 hp
  have ne:∀ e∈l,fst e≠fst d:=fun e he q=>by have:=h1 e he;rw [q,aAr] at this;omega
  rcases List.mem_cons.1 ho with rfl | ho
  ·have e1:cutV (fst o) (o::l)=l:=by
    unfold cutV;rw [List.filter_cons_of_neg (by simp),List.filter_eq_self];intro e he;exact decide_eq_true (ne e he)
   rw [e1]
   cases l with
   | nil=>rfl
   | cons x l=>unfold insV;rw [if_pos (h1 x List.mem_cons_self)]
  ·have e1:cutV (fst o) (d::l)=d::cutV (fst o) l:=by
    unfold cutV;rw [List.filter_cons_of_pos (by simpa using fun q=>ne o ho q.symm)]
   have h3:=h1 o ho;rw [e1];unfold insV;rw [if_neg (by rw [aDc];omega),ins_cut h2 ho]
theorem cut_len1 (I:Inv cs T) (h:t∈T) (hr:r∈t.rows):(cutV (fst r) t.rows).length+1=t.rows.length:=by
 have:=congrArg List.length (ins_cut (I.srt t h) hr);rw [aFk] at this;exact this
theorem upd_cnt (I:Inv cs T):nmsT (updO T nm r).T=nmsT T/\cntT (updO T nm r).T=cntT T:=by
 cases h1:tAt T nm with
 | none=>rw [aHe h1];exact ⟨rfl,rfl⟩
 | some i =>
  obtain ⟨t,h2,_,h3⟩:=aAv h1;rw [aHd h1 h2];split
  ·exact ⟨rfl,rfl⟩
  ·cases h4:rowAt t.rows (fst r) with
   | none=>exact ⟨rfl,rfl⟩
   | some o =>
    dsimp only;split
    ·exact ⟨rfl,rfl⟩
    ·refine ⟨nms_set h2,?_⟩;obtain ⟨h5,h6⟩:=aBq h4;have h7:=cut_len1 I h3 h5;rw [h6] at h7;dsimp only;rw [cnt_set,aFk,h7];refine List.ext_getElem? fun j=>?_
     by_cases e:i=j
     ·subst e;have hi:=(lL h2);rw [List.getElem?_set_self (by unfold cntT;rw [List.length_map];exact hi)];unfold cntT;rw [List.getElem?_map,h2];rfl
     ·rw [List.getElem?_set_ne e]
end
theorem ox_clo {cc:Int} (x:Idx) (hc:w.heap[bx]?=some (.cells #[.int .i64 cc] 3 (0,0))) :
  Calls prog 84 #[.agg #[.int .i64 x.1,.bool x.2],.pointer (some ⟨bx,0,none⟩)] w fun e w'=>e=.returned (.bool (x.1 == cc))/\Below w.heap.size w w':=by
 have HB:=aAb (aAe w (.cells #[.int .i64 x.1,.bool x.2] 61));have y0:(w.alloc (.cells #[.int .i64 x.1,.bool x.2] 61)).cell? ⟨bx,0,none⟩=some (.int .i64 cc):=aAa ((HB.o.block bx (lO hc)).trans hc);clear hc;go_enter func84,ntmps84;go_wp2;go_ret;exact ⟨rfl,HB.o⟩
theorem ox_idx {cc:Int} {l:List Idx} (h:SVK fX 2 w a len cap l) (hlen:len<=1000) (hc:w.heap[bx]?=some (.cells #[.int .i64 cc] 3 (0,0))) :
  Calls prog 130 #[.slice a len cap,.func (Fn.func 84) #[] #[.pointer (some ⟨bx,0,none⟩)]] w fun e w'=>∃ i:Int,e=.returned (.int .i64 i)/\(decide (0<=i)=l.any (fun x=>x.1 == cc))/\Below w.heap.size w w':=by
 have H:=aAb h;have hx:=h.hl;have HL:=aAb hx;clear h hx;have HC:=aAb hc;clear hc;go_enter func130,ntmps130;go_wp2_with fail;go_loopg [8] len (fun gh s8 wx=>∃ j:Nat,j+gh=len/\s8=.int .i64 (j:Int)/\(l.take j).any (fun x=>x.1 == cc)=false/\Below w.heap.size w wx)
 case atStart=>exact ⟨0,by omega,rfl,by simp,Below.refl _ _⟩
 case round =>
  obtain ⟨j,hj,rfl,hno,hbr⟩:=hrel;have HNO:=aAb hno;have HBR:=aAb hbr;clear hno hbr;by_cases hjn:j<len
  ·have xj:(j:Int)<(len:Int):=by omega
   obtain ⟨x,hxj⟩:∃ x,l[j]?=some x:=⟨_,gE (by rw [HL.o];exact hjn)⟩;have HTK:Hid ((l.take (j+1)).any (fun x=>x.1 == cc)=(x.1 == cc)):=by
    show _=_;rw [List.take_add_one,hxj,List.any_append,HNO.o];simp
   have HYES:Hid ((x.1 == cc)=true->l.any (fun x=>x.1 == cc)=true):=fun q=>List.any_eq_true.2 ⟨x,mG hxj,q⟩
   obtain ⟨b,o,e0,hb,hcs⟩:=H.out.pl (by omega);have hcell:=fun t (ht:t<2)=>hcs j x hxj t ht
   subst e0;have y0:wr.cell? ⟨b,o+j*2,none⟩=some (.int .i64 x.1):=(HBR.o.cell hb).trans (hcell 0 (by omega));have y1:wr.cell? ⟨b,o+j*2+1,none⟩=some (.bool x.2):=(HBR.o.cell hb).trans (hcell 1 (by omega));have hc2:=(HBR.o.block bx (lO HC.o)).trans HC.o;have HCL:=aAb (ox_clo  (w:=wr) x hc2);obtain ⟨pb,hpb⟩:∃ pb:Bool,pb=(x.1 == cc):=⟨_,rfl⟩;rw [<-hpb] at HTK HYES HCL;clear hcs hcell hxj hpb;go_wp2_with fail;refine HCL.o.mono ?_;rintro e w1 ⟨rfl,hb1⟩;have HB1:Hid (Below w.heap.size w w1):=HBR.o.trans (hb1.mono HBR.o.size);clear hb1 HCL
   cases pb with
   | true =>
    have HY:=aAb (HYES.o rfl);go_wp2_with fail;go_ret;exact ⟨(j:Int),rfl,by rw [HY.o];exact decide_eq_true (by omega),HB1.o⟩
   | false =>
    go_wp2_with fail;go_roundg (gk-1)
    case measure=>omega
    case rel=>exact ⟨j+1,by omega,rfl,HTK.o,HB1.o⟩
  ·have xj:¬ (j:Int)<(len:Int):=by omega
   have HN:Hid (l.any (fun x=>x.1 == cc)=false):=by
    have h9:=HNO.o;rw [List.take_of_length_le (by rw [HL.o];omega)] at h9;exact h9
   go_wp2;go_ret;exact ⟨-1,rfl,by rw [HN.o];rfl,HBR.o⟩
theorem ox_has {cc:Int} {l:List Idx} (h:SVK fX 2 w a len cap l) (hlen:len<=1000) (hc:w.heap[bx]?=some (.cells #[.int .i64 cc] 3 (0,0))) :
  Calls prog 85 #[.slice a len cap,.func (Fn.func 84) #[] #[.pointer (some ⟨bx,0,none⟩)]] w fun e w'=>e=.returned (.bool (l.any (fun x=>x.1 == cc)))/\Below w.heap.size w w':=by
 have HI:=aAb (ox_idx h hlen hc);clear h hc;generalize l.any (fun x=>x.1 == cc)=bb at *
 go_enter func85,ntmps85;go_wp2_with fail;refine HI.o.mono ?_;rintro e w1 ⟨i,rfl,hi,hb1⟩;have HB1:=aAb hb1;have HE:=aAb hi;clear hb1 HI hi;go_wp2;go_ret;exact ⟨by rw [<-HE.o];rfl,HB1.o⟩
def ordB (s:Sch) (c:Int):Bool:=(c == 0) || s.xs.any (fun x=>x.1 == c)
theorem hasOrder_ok {c:Int} (hx:SVK fX 2 w xa xl xc s.xs) (h3:xl<=1000) :
  Calls prog 47 #[.agg #[dv,.int .u8 (num:Int),.string nm,.slice ca cl cc,.slice xa xl xc],.int .i64 c] w fun e w'=>e=.returned (.bool (ordB s c))/\Below w.heap.size w w':=by
 obtain ⟨w1,hw1⟩:∃ w1,w1=(w.alloc (.cells #[dv,.int .u8 (num:Int),.string nm,.slice ca cl cc,.slice xa xl xc] 101)).alloc (.cells #[.int .i64 c] 3):=⟨_,rfl⟩;have hb1:Below w.heap.size w w1:=by rw [hw1];exact aCa _ _ _
 have HT1:Hid (w1.heap[w.heap.size]?=some (.cells #[dv,.int .u8 (num:Int),.string nm,.slice ca cl cc,.slice xa xl xc] 101 (0,0))):=by show _=_;rw [hw1];exact heap_alloc2_old w _ _
 have hc1:w1.heap[w.heap.size+1]?=some (.cells #[.int .i64 c] 3 (0,0)):=by rw [hw1];exact heap_alloc2_new w _ _
 have HB1:=aAb hb1;have HOX:=aAb (ox_has (hx.later hb1) h3 hc1);have HW1:=aAb hw1;have y4:w1.cell? ⟨w.heap.size,4,none⟩=some (.slice xa xl xc):=aAa HT1.o;have c0:w1.cell? ⟨w.heap.size+1,0,none⟩=some (.int .i64 c):=aAa hc1;have HOB:Hid (ordB s c=((c == 0) || s.xs.any (fun x=>x.1 == c))):=rfl;generalize ordB s c=ob at *
 generalize s.xs.any (fun x=>x.1 == c)=ab at *
 clear hx h3 hb1 hw1 hc1;go_enter func47,ntmps47;go_upto_region 1 with fail;rw [<-HW1.o];clear HW1;generalize w.heap.size+1=Q at *
 by_cases hc0:c=0
 ·have d0:(c == 0)=true:=by simp [hc0]
  have HE:Hid (ob=true):=by show _=_;rw [HOB.o,d0];rfl
  have d1:decide (c=0)=true:=decide_eq_true hc0;have HC0:=aAb hc0;clear hc0;go_wp2;go_ret;exact ⟨by rw [HE.o];rfl,HB1.o⟩
 ·have d0:(c == 0)=false:=by simp [hc0]
  have HE:Hid (ob=ab):=by show _=_;rw [HOB.o,d0];rfl
  have d1:decide (c=0)=false:=decide_eq_false hc0;have HC0:=aAb hc0;clear hc0;go_wp2_with fail;refine HOX.o.mono ?_;rintro e w2 ⟨rfl,hb2⟩;have HB2:=aAb (HB1.o.trans (hb2.mono HB1.o.size));clear hb2 HOX;go_wp2;go_ret;exact ⟨by rw [HE.o];rfl,HB2.o⟩
def endK (i c:Nat) (x:Val):List Nat:=if x.1=0 then [i,c+1] else (i::c::x.bytes).take 60
theorem tend_ok (hn:num<256) (hc:c<250) (hb:BS w ka kn kc x.bytes) (hp:0<kn) (hm:kn<=10000000) :
  Calls prog 87 #[.agg #[dv,.int .u8 (num:Int),.string nm,.slice ca cl cc,.slice xa xl xc],.int .i64 (c:Int),.iface (hT x) (.slice ka kn kc)] w fun e w'=>∃ a k d,e=.returned (.slice a k d)/\k<=60/\BS w' a k d (endK num c x)/\UB w' a/\Below w.heap.size w w':=by
 obtain ⟨w1,hw1⟩:∃ w1,w1=w.alloc (.cells #[dv,.int .u8 (num:Int),.string nm,.slice ca cl cc,.slice xa xl xc] 101):=⟨_,rfl⟩;have hb1:Below w.heap.size w w1:=by rw [hw1];exact aAe w _
 have HT1:Hid (w1.heap[w.heap.size]?=some (.cells #[dv,.int .u8 (num:Int),.string nm,.slice ca cl cc,.slice xa xl xc] 101 (0,0))):=by show _=_;rw [hw1];exact boxed w _
 have HB1:=aAb hb1;have HK1:=aAb (hb.later hb1 (nR _));have HW1:=aAb hw1;have HN:=aAb hn;have HC:=aAb hc;have HP:=aAb (And.intro hp hm);have y0:w1.cell? ⟨w.heap.size,0,none⟩=some dv:=aAa HT1.o;have y1:w1.cell? ⟨w.heap.size,1,none⟩=some (.int .u8 (num:Int)):=aAa HT1.o;have y2:w1.cell? ⟨w.heap.size,2,none⟩=some (.string nm):=aAa HT1.o;have y3:w1.cell? ⟨w.heap.size,3,none⟩=some (.slice ca cl cc):=aAa HT1.o;have y4:w1.cell? ⟨w.heap.size,4,none⟩=some (.slice xa xl xc):=aAa HT1.o;have xc2:(c:Int)+1<=9223372036854775807:=by omega
 have xc3:(-9223372036854775808:Int)<=(c:Int)+1:=by omega
 clear hb hn hp hm hb1 hw1;by_cases hz:x.1=0
 ·have ehT:hT x=181:=if_pos hz;rw [ehT];have HE:Hid (endK num c x=[num,c+1]):=if_pos hz;have ta:=fun ww=>asr_no (.slice ka kn kc) ww
  have HAT:=aAb (at_zero (dv:=dv) (num:=num) (col:=c+1) (nm:=nm) (ca:=ca) (cl:=cl) (cc:=cc) (xa:=xa) (xl:=xl) (xc:=xc) (pa:=none) (pc:=0) (w:=w1) HN.o (by omega));have e2:(((c+1:Nat)):Int)=(c:Int)+1:=by omega
  rw [e2] at HAT;clear hz ehT e2 hc;go_enter func87,ntmps87;go_upto_region 1 with fail;rw [<-HW1.o];clear HW1;go_wp2_with fail;refine HAT.o.mono ?_;rintro e w2 ⟨a2,c2,rfl,hbs,hub,hb2⟩;have HB2:=aAb (HB1.o.trans (hb2.mono HB1.o.size));have HBS:=aAb hbs;have HUB:=aAb hub;clear hb2 hbs hub HAT;go_wp2;go_ret;exact ⟨a2,2,c2,rfl,by omega,by rw [HE.o];exact HBS.o,HUB.o,HB2.o⟩
 ·have ehT:hT x=182:=if_neg hz;rw [ehT];have HE:Hid (endK num c x=(num::c::x.bytes).take 60):=if_neg hz;have ta:=fun ww=>asr_so (.slice ka kn kc) ww
  have hbx:=aAe w1 (.cells #[.slice ka kn kc] 97);have HPP:Hid ((w1.alloc (.cells #[.slice ka kn kc] 97)).cell? ⟨w1.heap.size,0,none⟩=some (.slice ka kn kc)):=aD8 _;have HK2:=aAb (HK1.o.later hbx (nR _));have HB2:=aAb (HB1.o.trans (hbx.mono HB1.o.size));have HAT:=aAb (aEg (dv:=dv) (num:=num) (col:=c) (nm:=nm) (ca:=ca) (cl:=cl) (cc:=cc) (xa:=xa) (xl:=xl) (xc:=xc) (pa:=some ⟨w1.heap.size,0,none⟩) (pn:=1) (pc:=1) (w:=w1.alloc (.cells #[.slice ka kn kc] 97)) HN.o (by omega) HK2.o.hlen HP.o.2 HP.o.1 HK2.o.hbyte (fun ww hb=>join_one _ ((hb.cell (aAm HPP.o)).trans HPP.o) (HK2.o.later hb (nR _)) HP.o.1));obtain ⟨kl,hkl⟩:∃ kl,min (kn+2) 60=kl:=⟨_,rfl⟩;rw [hkl] at HAT;have HKL:Hid (kl<=60):=by show kl<=60;omega
  clear hz ehT hc hbx hkl;go_enter func87,ntmps87;go_upto_region 1 with fail;rw [<-HW1.o];clear HW1;go_wp2_with fail;refine HAT.o.mono ?_;rintro e w2 ⟨a2,c2,rfl,hbs,hub,hb2⟩;have HB3:=aAb (HB2.o.trans (hb2.mono HB2.o.size));have HBS:=aAb hbs;have HUB:=aAb hub;clear hb2 hbs hub HAT;go_wp2;go_ret;exact ⟨a2,kl,c2,rfl,HKL.o,by rw [HE.o];exact HBS.o,HUB.o,HB3.o⟩
end Go.Proofs.YtdpdjpkmndnaaaaGreat
