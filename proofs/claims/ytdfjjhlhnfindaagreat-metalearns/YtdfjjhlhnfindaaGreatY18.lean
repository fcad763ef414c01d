import Derived.Test.YtdfjjhlhnfindaaGreatY15
import Derived.Test.YtdfjjhlhnfindaaGreatY14
set_option maxRecDepth 100000
set_option maxHeartbeats 16000000
set_option linter.unusedVariables false
namespace Go.Proofs.YtdfjjhlhnfindaaGreat
open Go.RowKit Tryz
section
variable {B p q:Nat} {s:DS} {t:PS} {w:World}
theorem put_ok [Gd] (a:Option Addr) (len cap:Nat) (xs:List Nat) (i:Nat) (h:ST B p q s t w) (hB:B<=w.heap.size) (hl:s.life=t.life) (hlen:len<=8186) (hi:lowF t.st=some i) (hin:i<s.n) (hd:s.down=false) (hf:¬ s.after=1) (hlf:s.life<100000) (hm:s.m<100000) (hx:BS w a len cap xs) :
  Calls prog 198 #[.pointer (some ⟨q,0,none⟩),.slice a len cap] w fun e w'=>e=.returned (.tuple #[.int .i64 (i:Int),.int .i64 0])/\ST B p q (s.tick.wrote i (laidP xs)) (t.set i 2) w'/\Fp B w w':=by
 have HD0:=zH (aDa h hl);have HL:=zH (fun ww hb=>by obtain ⟨_,gs,h2⟩:=h.later (w':=ww) hb;exact aGc h2);rw [hi] at HL;have HLI:Hid (lowI t.st=(i:Int)):=by show _=_;unfold lowI;rw [hi]
 rw [HLI.o] at HL;have d1:¬ (8186:Int)<(len:Int):=by omega
 obtain ⟨il,_,_⟩:=aDw hi;have HIL:=zH il;have HXB:=zH hx;have HLE:=zH hx.hlen;have HPL:=zH (aFr xs);rw [HLE.o] at HPL;have HPB:=zH (laidP_lt hx.hbyte);have HIN:=zH hin;obtain ⟨hD,gs,hS⟩:=h;have HD:=zH hD;have HS:=zH hS;have i4:(i:Int)<4096:=by have:=hS.ok.sl;omega
 clear hD hS hl hi hin hx il;go_enter func198,ntmps198;go_wp2_with fail;refine HD0.o.mono ?_;rintro e w1 ⟨rfl,hb1⟩;have HB1:=zH hb1;clear hb1;go_wp2_with fail;refine (HL.o _ HB1.o).mono ?_;rintro e w2 ⟨rfl,rfl⟩;have HX:Hid ((fun wx=>wx.cell? ⟨q,1,none⟩=some (.pointer (some ⟨p,0,none⟩))) w2):=(HS.o.later HB1.o).c1;go_wp2_with fail;refine wp_region_noPanic ?_;refine wp_region_held_drew (S:=fun wx=>wx.cell? ⟨q,1,none⟩=some (.pointer (some ⟨p,0,none⟩))) (by kernel_rfl) HX.o (fun hHeld=>?_);refine kT 0 23 ?_;refine kT 1 24 ?_;refine kT 2 25 ?_;refine kT 3 26 ?_;refine kT 4 27 ?_;refine kT 5 28 ?_;refine kC 6 ?_;intro K hK;go_simp;refine (plaid_any a len cap xs _ (HXB.o.later (HB1.o.drew) (nR _)) (by omega)).mono ?_;rintro e w3 ⟨v3,rfl,ho3,hb3⟩;have HB3:=zH ((HB1.o.drew).trans (hb3.mono HB1.o.size));have HX3:Hid ((fun wx=>wx.cell? ⟨q,1,none⟩=some (.pointer (some ⟨p,0,none⟩))) w3):=(hb3.cell (by simpa using aAk HX.o)).trans HX.o;obtain ⟨a3,c3,rfl,B3⟩:=aCf ho3 (by rw [HPL.o];omega) HPB.o;have HO3:=zH ho3;have HBS3:=zH B3;clear ho3 hb3 B3 hHeld;refine hK.out _ _ HX3.o (fun hHeld=>?_);clear hK K
 try simp only [Act.put,siT,scZ,scS]
 refine kC 7 ?_;intro K hK;go_simp;refine (write_ok B p s i a3 (laidP xs).length c3 (laidP xs) w3 (HD.o.later HB3.o) (nT hB HB3.o.size) hd HIN.o hf hlf hm (by rw [HPL.o];unfold blk;omega) HPB.o rfl ?_).mono ?_
 ·intro ww f;obtain ⟨a4,c4,e4,B4⟩:=aCf (f.row HO3.o (by decide) (by decide) (by decide) (by decide)) (by rw [HPL.o];omega) HPB.o;simp only [Value.slice.injEq] at e4;obtain ⟨rfl,_,rfl⟩:=e4;exact B4
 rintro e w4 ⟨rfl,hD4,hF4⟩;have HF4:=zH ((Fr.of HB3.o hB).trans hF4);have HD4:=zH hD4;have HX4:Hid ((fun wx=>wx.cell? ⟨q,1,none⟩=some (.pointer (some ⟨p,0,none⟩))) w4):=(HS.o.fr HF4.o).c1;clear hD4 hF4 hHeld;refine hK.out _ _ HX4.o (fun hHeld=>?_);clear hK K
 try simp only [Act.put,siT,scZ,scS]
 refine kT 8 8 ?_;refine wpAnyH_done (by kernel_rfl) ?_ _;refine NoPanic.normal ?_;have HS4:=zH (HS.o.fr HF4.o);have HC:=zH (aHf i 2 HS4.o HIL.o (by omega));go_wp2_with fail;refine HC.o.mono ?_;rintro e w5 ⟨rfl,hS5,rfl⟩;have HS5:=zH hS5;clear hS5;go_wp2;go_ret2;exact ⟨rfl,⟨HD4.o.other HS4.o.hs (by decide) (by decide) (by decide) (by decide) (by decide) (fun e=>(HS4.o.hG gs e).2 rfl),gs,HS5.o⟩,(Fp.ofFr HF4.o).trans (Fp.set HS4.o.hs HS4.o.gB (Or.inr rfl) (fun e=>(HS4.o.hG gs e).2 rfl))⟩
theorem get_any [Gd] (i:Nat) (h:ST B p q s t w) (hB:B<=w.heap.size) (hl:s.life=t.life) (hi:i<s.n) (ho:t.of (i:Int)≠0) (hd:s.down=false) :
  Calls prog 162 #[.pointer (some ⟨q,0,none⟩),.int .i64 (i:Int)] w fun e w'=>(match pageOf (pad (s.show i)) with | none=>e=.returned (.tuple #[.slice none 0 0,.int .i64 22]) | some b=>∃ v,e=.returned (.tuple #[v,.int .i64 0])/\w'.ownsRow w.heap.size 5 1 v b.length (cellsOf b))/\Below w.heap.size w w':=by
 have HD:=zH (aDa h hl);have HN2:=h.1.ok.n2;have HO:=zH (fun ww hb=>by obtain ⟨_,gs,h2⟩:=h.later (w':=ww) hb;exact of_any (i:Int) h2 (by omega));have HR:=zH (fun ww hb=>read_ok B p s i ww (h.1.later (w':=ww) hb) (nT hB hb.size) hd hi);have HC:=zH (fun ww hb=>by obtain ⟨_,gs,h2⟩:=h.later (w':=ww) hb;exact h2.c1);have HSB:=zH (aC4 (show_lt h.1.ok i));have q1:(((t.of (i:Int):Nat):Int) == 0)=false:=by simp;omega
 generalize t.of (i:Int)=o at *
 generalize s.show i=sh at *
 clear h hl ho;generalize hPG:pageOf (pad sh)=R;have HPG:=zH hPG;clear hPG;go_enter func162,ntmps162;go_wp2_with fail;refine HD.o.mono ?_;rintro e w1 ⟨rfl,hb1⟩;have HB1:=zH hb1;clear hb1;go_wp2_with fail;refine (HO.o _ HB1.o).mono ?_;rintro e w2 ⟨rfl,rfl⟩;have c1:=HC.o _ HB1.o;go_wp2_with fail;refine (HR.o _ HB1.o).mono ?_;rintro e w3 ⟨g,rfl,ho3,hb3⟩;have HX3:=zH (BS.ofOwns ho3 (by unfold blk;omega) HSB.o);have HB3:=zH (HB1.o.trans (hb3.mono HB1.o.size));clear ho3 hb3 c1;go_wp2_with fail;refine (bytesOf_any g (pad sh) w3 HX3.o).mono ?_;rw [HPG.o]
 cases R with
 | none =>
  rintro e w4 ⟨rfl,hb4⟩;have HB4:=zH (HB3.o.trans (hb4.mono HB3.o.size));clear hb4;go_wp2;go_ret2;exact ⟨rfl,HB4.o⟩
 | some b =>
  rintro e w4 ⟨⟨v4,rfl,ho4⟩,hb4⟩;have HB4:=zH (HB3.o.trans (hb4.mono HB3.o.size));have HO4:=zH (aBh ho4 HB3.o.size);clear hb4 ho4;go_wp2;go_ret2;exact ⟨⟨_,rfl,HO4.o⟩,HB4.o⟩
theorem free_arg [Gd] (id:Int) (h:ST B p q s t w) (hl:s.life=t.life) (ho:t.of id≠2) (h63:id<=9223372036854775807) :
  Calls prog 171 #[.pointer (some ⟨q,0,none⟩),.int .i64 id] w fun e w'=>e=.returned (.int .i64 1)/\Below w.heap.size w w':=by
 have HD:=zH (aDa h hl);have HO:=zH (fun ww hb=>by obtain ⟨_,gs,h2⟩:=h.later (w':=ww) hb;exact of_any id h2 h63);have q1:(((t.of id:Nat):Int) != 2)=true:=by simp;omega
 generalize t.of id=o at *
 clear h hl ho;go_enter func171,ntmps171;go_wp2_with fail;refine HD.o.mono ?_;rintro e w1 ⟨rfl,hb1⟩;have HB1:=zH hb1;clear hb1;go_wp2_with fail;refine (HO.o _ HB1.o).mono ?_;rintro e w2 ⟨rfl,rfl⟩;go_wp2;go_ret;exact ⟨rfl,HB1.o⟩
theorem free_ok [Gd] (i:Nat) (h:ST B p q s t w) (hB:B<=w.heap.size) (hl:s.life=t.life) (hi:i<t.st.length) (ho:t.st.getD i 0=2) :
  Calls prog 171 #[.pointer (some ⟨q,0,none⟩),.int .i64 (i:Int)] w fun e w'=>e=.returned (.int .i64 0)/\ST B p q s (t.set i 3) w'/\Fp B w w':=by
 have HD:=zH (aDa h hl);have HE:Hid (t.of (i:Int)=2):=by show _=_;unfold PS.of;rw [if_pos (by omega),Int.toNat_natCast,ho]
 obtain ⟨hD,gs,hS⟩:=h;have hsl:=hS.ok.sl;have i4:(i:Int)<4096:=by omega
 have HO:=zH (fun ww hb=>of_any (i:Int) (hS.later (w':=ww) hb) (by omega));rw [HE.o] at HO;have HSE:=zH (fun ww hb=>aHf i 3 (hS.later (w':=ww) hb) hi (by omega));have HS:=zH hS;have HDI:=zH hD;clear hD hS hl ho hsl;go_enter func171,ntmps171;go_wp2_with fail;refine HD.o.mono ?_;rintro e w1 ⟨rfl,hb1⟩;have HB1:=zH hb1;clear hb1;go_wp2_with fail;refine (HO.o _ HB1.o).mono ?_;rintro e w2 ⟨rfl,rfl⟩;go_wp2_with fail;refine (HSE.o _ HB1.o).mono ?_;rintro e w3 ⟨rfl,hS3,rfl⟩;have HS3:=zH hS3;have HS2:=zH (HS.o.later HB1.o);clear hS3;go_wp2;go_ret;exact ⟨rfl,⟨(HDI.o.later HB1.o).other HS2.o.hs (by decide) (by decide) (by decide) (by decide) (by decide) (fun e=>(HS2.o.hG gs e).2 rfl),gs,HS3.o⟩,(Fp.of HB1.o hB).trans (Fp.set HS2.o.hs HS2.o.gB (Or.inr rfl) (fun e=>(HS2.o.hG gs e).2 rfl))⟩
end
end Go.Proofs.YtdfjjhlhnfindaaGreat
