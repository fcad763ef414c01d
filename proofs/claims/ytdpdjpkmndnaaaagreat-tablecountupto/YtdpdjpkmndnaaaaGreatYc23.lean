import Derived.Test.YtdpdjpkmndnaaaaGreatYc19
import Derived.Test.YtdpdjpkmndnaaaaGreatYc17
set_option maxRecDepth 100000
set_option maxHeartbeats 16000000
set_option linter.unusedVariables false
namespace Go.Proofs.YtdpdjpkmndnaaaaGreat
open Go.RowKit _root_.Go.Proofs.Tryz
section
variable {B p q:Nat} {s:DS} {t:PS} {w:World}
theorem get_any [Gd] (i:Nat) (h:ST B p q s t w) (hB:B<=w.heap.size) (hl:s.life=t.life) (hi:i<s.n) (ho:t.of (i:Int)≠0) (hd:s.down=false) :
  Calls prog 216 #[.pointer (some ⟨q,0,none⟩),.int .i64 (i:Int)] w fun e w'=>(match pageOf (pad (s.show i)) with | none=>e=.returned (.tuple #[.slice none 0 0,.int .i64 22]) | some b=>∃ v,e=.returned (.tuple #[v,.int .i64 0])/\w'.ownsRow w.heap.size 5 1 v b.length (cellsOf b))/\Below w.heap.size w w':=by
 have HD:=zH (dead_no h hl);have HN2:=h.1.ok.n2;have HO:=zH (fun ww hb=>by obtain ⟨_,gs,h2⟩:=h.later (w':=ww) hb;exact of_any (i:Int) h2 (by omega));have HR:=zH (fun ww hb=>read_ok B p s i ww (h.1.later (w':=ww) hb) (nT hB hb.size) hd hi);have HC:=zH (fun ww hb=>by obtain ⟨_,gs,h2⟩:=h.later (w':=ww) hb;exact h2.c1);have HSB:=zH (aHo (show_lt h.1.ok i));have q1:(((t.of (i:Int):Nat):Int) == 0)=false:=by simp;omega
 generalize t.of (i:Int)=o at *
 generalize s.show i=sh at *
 clear h hl ho;generalize hPG:pageOf (pad sh)=R;have HPG:=zH hPG;clear hPG;go_enter func216,ntmps216;go_wp2_with fail;refine HD.o.mono ?_;rintro e w1 ⟨rfl,hb1⟩;have HB1:=zH hb1;clear hb1;go_wp2_with fail;refine (HO.o _ HB1.o).mono ?_;rintro e w2 ⟨rfl,rfl⟩;have c1:=HC.o _ HB1.o;go_wp2_with fail;refine (HR.o _ HB1.o).mono ?_;rintro e w3 ⟨g,rfl,ho3,hb3⟩;have HX3:=zH (BS.ofOwns ho3 (by unfold blk;omega) HSB.o);have HB3:=zH (HB1.o.trans (hb3.mono HB1.o.size));clear ho3 hb3 c1;go_wp2_with fail;refine (bytesOf_any g (pad sh) w3 HX3.o).mono ?_;rw [HPG.o]
 cases R with
 | none =>
  rintro e w4 ⟨rfl,hb4⟩;have HB4:=zH (HB3.o.trans (hb4.mono HB3.o.size));clear hb4;go_wp2;go_ret2;exact ⟨rfl,HB4.o⟩
 | some b =>
  rintro e w4 ⟨⟨v4,rfl,ho4⟩,hb4⟩;have HB4:=zH (HB3.o.trans (hb4.mono HB3.o.size));have HO4:=zH (aFc ho4 HB3.o.size);clear hb4 ho4;go_wp2;go_ret2;exact ⟨⟨_,rfl,HO4.o⟩,HB4.o⟩
end
end Go.Proofs.YtdpdjpkmndnaaaaGreat
