import Derived.Test.YtohgmapjokaibaaGreatZ15
import Derived.Test.YtohgmapjokaibaaGreatZ14
set_option maxRecDepth 100000
set_option maxHeartbeats 16000000
set_option linter.unusedVariables false
namespace Go.Proofs.YtohgmapjokaibaaGreat
open Go.RowKit
section
variable {B p q:Nat} {s:DS} {t:PS} {w:World}
theorem put_ok [Gd] (a:Option Addr) (len cap:Nat) (xs:List Nat) (i:Nat) (h:ST B p q s t w) (hB:B≤w.heap.size) (hl:s.life=t.life) (hlen:len≤8186) (hi:lowF t.st=some i) (hin:i<s.n) (hd:s.down=false) (hf:¬ s.after=1) (hlf:s.life<100000) (hm:s.m<100000) (hx:BS w a len cap xs) :
  Calls Tryz.prog 70 #[.pointer (some ⟨q,0,none⟩),.slice a len cap] w fun e w'=>e=.returned (.tuple #[.int .i64 (i:Int),.int .i64 0])∧ST B p q (s.tick.wrote i (laidP xs)) (t.set i 2) w'∧Fp B w w':=by
 have HD0:=hide (aDi h hl)
 have HL:=hide (fun ww hb=>by obtain ⟨_,gs,h2⟩:=h.later (w':=ww) hb;exact aGi h2)
 rw [hi] at HL
 have HLI:Hid (lowI t.st=(i:Int)):=by show _=_;unfold lowI;rw [hi]
 rw [HLI.out] at HL
 have d1:¬ (8186:Int)<(len:Int):=by omega
 obtain ⟨il,_,_⟩:=aD7 hi
 have HIL:=hide il
 have HXB:=hide hx
 have HLE:=hide hx.hlen
 have HPL:=hide (aFz xs)
 rw [HLE.out] at HPL
 have HPB:=hide (laidP_lt hx.hbyte)
 have HIN:=hide hin
 obtain ⟨hD,gs,hS⟩:=h
 have HD:=hide hD
 have HS:=hide hS
 have i4:(i:Int)<4096:=by have:=hS.ok.sl;omega
 clear hD hS hl hi hin hx il
 go_enter Tryz.func70,Tryz.ntmps70
 go_wp2_with fail
 refine HD0.out.mono ?_
 rintro e w1 ⟨rfl,hb1⟩
 have HB1:=hide hb1
 clear hb1
 go_wp2_with fail
 refine (HL.out _ HB1.out).mono ?_
 rintro e w2 ⟨rfl,rfl⟩
 have HX:Hid ((fun wx=>wx.cell? ⟨q,1,none⟩=some (.pointer (some ⟨p,0,none⟩))) w2):=(HS.out.later HB1.out).c1
 go_wp2_with fail
 refine wp_region_noPanic ?_
 refine wp_region_held_drew (S:=fun wx=>wx.cell? ⟨q,1,none⟩=some (.pointer (some ⟨p,0,none⟩))) (by kernel_rfl) HX.out (fun hHeld=>?_)
 refine wpAnyH_tk 0 23 ?_
 refine wpAnyH_tk 1 24 ?_
 refine wpAnyH_tk 2 25 ?_
 refine wpAnyH_tk 3 26 ?_
 refine wpAnyH_tk 4 27 ?_
 refine wpAnyH_tk 5 28 ?_
 refine wpAnyH_cm 6 ?_;intro K hK
 go_simp
 refine (plaid_any a len cap xs _ (HXB.out.later (HB1.out.drew) (nR _)) (by omega)).mono ?_
 rintro e w3 ⟨v3,rfl,ho3,hb3⟩
 have HB3:=hide ((HB1.out.drew).trans (hb3.mono HB1.out.size))
 have HX3:Hid ((fun wx=>wx.cell? ⟨q,1,none⟩=some (.pointer (some ⟨p,0,none⟩))) w3):=(hb3.cell (by simpa using aAi HX.out)).trans HX.out
 obtain ⟨a3,c3,rfl,B3⟩:=aCq ho3 (by rw [HPL.out];omega) HPB.out
 have HO3:=hide ho3
 have HBS3:=hide B3
 clear ho3 hb3 B3 hHeld
 refine hK.out _ _ HX3.out (fun hHeld=>?_)
 clear hK K
 try simp only [Act.put,siT,scZ,scS]
 refine wpAnyH_cm 7 ?_;intro K hK
 go_simp
 refine (write_ok B p s i a3 (laidP xs).length c3 (laidP xs) w3 (HD.out.later HB3.out) (nT hB HB3.out.size) hd HIN.out hf hlf hm (by rw [HPL.out];unfold blk;omega) HPB.out rfl ?_).mono ?_
 ·intro ww f
  obtain ⟨a4,c4,e4,B4⟩:=aCq (f.row HO3.out (by decide) (by decide) (by decide) (by decide)) (by rw [HPL.out];omega) HPB.out
  simp only [Value.slice.injEq] at e4
  obtain ⟨rfl,_,rfl⟩:=e4
  exact B4
 rintro e w4 ⟨rfl,hD4,hF4⟩
 have HF4:=hide ((Fr.of HB3.out hB).trans hF4)
 have HD4:=hide hD4
 have HX4:Hid ((fun wx=>wx.cell? ⟨q,1,none⟩=some (.pointer (some ⟨p,0,none⟩))) w4):=(HS.out.fr HF4.out).c1
 clear hD4 hF4 hHeld
 refine hK.out _ _ HX4.out (fun hHeld=>?_)
 clear hK K
 try simp only [Act.put,siT,scZ,scS]
 refine wpAnyH_tk 8 8 ?_
 refine wpAnyH_done (by kernel_rfl) ?_ _
 refine NoPanic.normal ?_
 have HS4:=hide (HS.out.fr HF4.out)
 have HC:=hide (aHh i 2 HS4.out HIL.out (by omega))
 go_wp2_with fail
 refine HC.out.mono ?_
 rintro e w5 ⟨rfl,hS5,rfl⟩
 have HS5:=hide hS5
 clear hS5
 go_wp2
 go_ret2
 exact ⟨rfl,⟨HD4.out.other HS4.out.hs (by decide) (by decide) (by decide) (by decide) (by decide) (fun e=>(HS4.out.hG gs e).2 rfl),gs,HS5.out⟩,(Fp.ofFr HF4.out).trans (Fp.set HS4.out.hs HS4.out.gB (Or.inr rfl) (fun e=>(HS4.out.hG gs e).2 rfl))⟩
theorem get_any [Gd] (i:Nat) (h:ST B p q s t w) (hB:B≤w.heap.size) (hl:s.life=t.life) (hi:i<s.n) (ho:t.of (i:Int)≠0) (hd:s.down=false) :
  Calls Tryz.prog 112 #[.pointer (some ⟨q,0,none⟩),.int .i64 (i:Int)] w fun e w'=>(match pageOf (pad (s.show i)) with | none=>e=.returned (.tuple #[.slice none 0 0,.int .i64 22]) | some b=>∃ v,e=.returned (.tuple #[v,.int .i64 0])∧w'.ownsRow w.heap.size 5 1 v b.length (cellsOf b))∧Below w.heap.size w w':=by
 have HD:=hide (aDi h hl)
 have HN2:=h.1.ok.n2
 have HO:=hide (fun ww hb=>by obtain ⟨_,gs,h2⟩:=h.later (w':=ww) hb;exact of_any (i:Int) h2 (by omega))
 have HR:=hide (fun ww hb=>read_ok B p s i ww (h.1.later (w':=ww) hb) (nT hB hb.size) hd hi)
 have HC:=hide (fun ww hb=>by obtain ⟨_,gs,h2⟩:=h.later (w':=ww) hb;exact h2.c1)
 have HSB:=hide (aDd (show_lt h.1.ok i))
 have q1:(((t.of (i:Int):Nat):Int) == 0)=false:=by simp;omega
 generalize t.of (i:Int)=o at *
 generalize s.show i=sh at *
 clear h hl ho
 generalize hPG:pageOf (pad sh)=R
 have HPG:=hide hPG
 clear hPG
 go_enter Tryz.func112,Tryz.ntmps112
 go_wp2_with fail
 refine HD.out.mono ?_
 rintro e w1 ⟨rfl,hb1⟩
 have HB1:=hide hb1
 clear hb1
 go_wp2_with fail
 refine (HO.out _ HB1.out).mono ?_
 rintro e w2 ⟨rfl,rfl⟩
 have c1:=HC.out _ HB1.out
 go_wp2_with fail
 refine (HR.out _ HB1.out).mono ?_
 rintro e w3 ⟨g,rfl,ho3,hb3⟩
 have HX3:=hide (BS.ofOwns ho3 (by unfold blk;omega) HSB.out)
 have HB3:=hide (HB1.out.trans (hb3.mono HB1.out.size))
 clear ho3 hb3 c1
 go_wp2_with fail
 refine (bytesOf_any g (pad sh) w3 HX3.out).mono ?_
 rw [HPG.out]
 cases R with
 | none =>
  rintro e w4 ⟨rfl,hb4⟩
  have HB4:=hide (HB3.out.trans (hb4.mono HB3.out.size))
  clear hb4
  go_wp2
  go_ret2
  exact ⟨rfl,HB4.out⟩
 | some b =>
  rintro e w4 ⟨⟨v4,rfl,ho4⟩,hb4⟩
  have HB4:=hide (HB3.out.trans (hb4.mono HB3.out.size))
  have HO4:=hide (aBn ho4 HB3.out.size)
  clear hb4 ho4
  go_wp2
  go_ret2
  exact ⟨⟨_,rfl,HO4.out⟩,HB4.out⟩
theorem free_arg [Gd] (id:Int) (h:ST B p q s t w) (hl:s.life=t.life) (ho:t.of id≠2) (h63:id≤9223372036854775807) :
  Calls Tryz.prog 47 #[.pointer (some ⟨q,0,none⟩),.int .i64 id] w fun e w'=>e=.returned (.int .i64 1)∧Below w.heap.size w w':=by
 have HD:=hide (aDi h hl)
 have HO:=hide (fun ww hb=>by obtain ⟨_,gs,h2⟩:=h.later (w':=ww) hb;exact of_any id h2 h63)
 have q1:(((t.of id:Nat):Int) != 2)=true:=by simp;omega
 generalize t.of id=o at *
 clear h hl ho
 go_enter Tryz.func47,Tryz.ntmps47
 go_wp2_with fail
 refine HD.out.mono ?_
 rintro e w1 ⟨rfl,hb1⟩
 have HB1:=hide hb1
 clear hb1
 go_wp2_with fail
 refine (HO.out _ HB1.out).mono ?_
 rintro e w2 ⟨rfl,rfl⟩
 go_wp2
 go_ret
 exact ⟨rfl,HB1.out⟩
theorem free_ok [Gd] (i:Nat) (h:ST B p q s t w) (hB:B≤w.heap.size) (hl:s.life=t.life) (hi:i<t.st.length) (ho:t.st.getD i 0=2) :
  Calls Tryz.prog 47 #[.pointer (some ⟨q,0,none⟩),.int .i64 (i:Int)] w fun e w'=>e=.returned (.int .i64 0)∧ST B p q s (t.set i 3) w'∧Fp B w w':=by
 have HD:=hide (aDi h hl)
 have HE:Hid (t.of (i:Int)=2):=by show _=_;unfold PS.of;rw [if_pos (by omega),Int.toNat_natCast,ho]
 obtain ⟨hD,gs,hS⟩:=h
 have hsl:=hS.ok.sl
 have i4:(i:Int)<4096:=by omega
 have HO:=hide (fun ww hb=>of_any (i:Int) (hS.later (w':=ww) hb) (by omega))
 rw [HE.out] at HO
 have HSE:=hide (fun ww hb=>aHh i 3 (hS.later (w':=ww) hb) hi (by omega))
 have HS:=hide hS
 have HDI:=hide hD
 clear hD hS hl ho hsl
 go_enter Tryz.func47,Tryz.ntmps47
 go_wp2_with fail
 refine HD.out.mono ?_
 rintro e w1 ⟨rfl,hb1⟩
 have HB1:=hide hb1
 clear hb1
 go_wp2_with fail
 refine (HO.out _ HB1.out).mono ?_
 rintro e w2 ⟨rfl,rfl⟩
 go_wp2_with fail
 refine (HSE.out _ HB1.out).mono ?_
 rintro e w3 ⟨rfl,hS3,rfl⟩
 have HS3:=hide hS3
 have HS2:=hide (HS.out.later HB1.out)
 clear hS3
 go_wp2
 go_ret
 exact ⟨rfl,⟨(HDI.out.later HB1.out).other HS2.out.hs (by decide) (by decide) (by decide) (by decide) (by decide) (fun e=>(HS2.out.hG gs e).2 rfl),gs,HS3.out⟩,(Fp.of HB1.out hB).trans (Fp.set HS2.out.hs HS2.out.gB (Or.inr rfl) (fun e=>(HS2.out.hG gs e).2 rfl))⟩
end
end Go.Proofs.YtohgmapjokaibaaGreat
