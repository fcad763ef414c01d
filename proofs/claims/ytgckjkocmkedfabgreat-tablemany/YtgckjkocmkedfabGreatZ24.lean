import Derived.Test.YtgckjkocmkedfabGreatZ20
import Derived.Test.YtgckjkocmkedfabGreatZ16
set_option maxRecDepth 100000
set_option maxHeartbeats 16000000
set_option linter.unusedVariables false
namespace Go.Proofs.YtgckjkocmkedfabGreat
open Go.RowKit
section
variable {B p q:Nat} {s:DS} {t:PS} {w:World}
theorem get_any [Gd] (i:Nat) (h:ST B p q s t w) (hB:B≤w.heap.size) (hl:s.life=t.life) (hi:i<s.n) (ho:t.of (i:Int)≠0) (hd:s.down=false) :
  Calls Tryz.prog 264 #[.pointer (some ⟨q,0,none⟩),.int .i64 (i:Int)] w fun e w'=>(match pageOf (pad (s.show i)) with | none=>e=.returned (.tuple #[.slice none 0 0,.int .i64 22]) | some b=>∃ v,e=.returned (.tuple #[v,.int .i64 0])∧w'.ownsRow w.heap.size 5 1 v b.length (cellsOf b))∧Below w.heap.size w w':=by
 have HD:=hide (dead_no h hl)
 have HN2:=h.1.ok.n2
 have HO:=hide (fun ww hb=>by obtain ⟨_,gs,h2⟩:=h.later (w':=ww) hb;exact of_any (i:Int) h2 (by omega))
 have HR:=hide (fun ww hb=>read_ok B p s i ww (h.1.later (w':=ww) hb) (nT hB hb.size) hd hi)
 have HC:=hide (fun ww hb=>by obtain ⟨_,gs,h2⟩:=h.later (w':=ww) hb;exact h2.c1)
 have HSB:=hide (aGu (show_lt h.1.ok i))
 have q1:(((t.of (i:Int):Nat):Int) == 0)=false:=by simp;omega
 generalize t.of (i:Int)=o at *
 generalize s.show i=sh at *
 clear h hl ho
 generalize hPG:pageOf (pad sh)=R
 have HPG:=hide hPG
 clear hPG
 go_enter Tryz.func264,Tryz.ntmps264
 go_wp2_with fail
 refine HD.out.mono ?_
 rintro e w1 ⟨rfl,hb1⟩
 have HB1:=hide hb1
 clear hb1
 go_wp2_with fail
 refine (HO.out _ HB1.out).mono ?_
 rintro e w2 ⟨rfl,rfl⟩
 have c1:=HC.out _ HB1.out
 go_wp2_with fail
 refine (HR.out _ HB1.out).mono ?_
 rintro e w3 ⟨g,rfl,ho3,hb3⟩
 have HX3:=hide (BS.ofOwns ho3 (by unfold blk;omega) HSB.out)
 have HB3:=hide (HB1.out.trans (hb3.mono HB1.out.size))
 clear ho3 hb3 c1
 go_wp2_with fail
 refine (bytesOf_any g (pad sh) w3 HX3.out).mono ?_
 rw [HPG.out]
 cases R with
 | none =>
  rintro e w4 ⟨rfl,hb4⟩
  have HB4:=hide (HB3.out.trans (hb4.mono HB3.out.size))
  clear hb4
  go_wp2
  go_ret2
  exact ⟨rfl,HB4.out⟩
 | some b =>
  rintro e w4 ⟨⟨v4,rfl,ho4⟩,hb4⟩
  have HB4:=hide (HB3.out.trans (hb4.mono HB3.out.size))
  have HO4:=hide (aEv ho4 HB3.out.size)
  clear hb4 ho4
  go_wp2
  go_ret2
  exact ⟨⟨_,rfl,HO4.out⟩,HB4.out⟩
end
end Go.Proofs.YtgckjkocmkedfabGreat
