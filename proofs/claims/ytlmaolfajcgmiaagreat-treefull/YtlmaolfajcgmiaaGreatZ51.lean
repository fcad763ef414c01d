import Derived.Test.YtlmaolfajcgmiaaGreatZ49
import Derived.Test.YtlmaolfajcgmiaaGreatZ50
import Derived.Test.YtlmaolfajcgmiaaGreatZ44
set_option maxRecDepth 100000
set_option maxHeartbeats 16000000
set_option linter.unusedVariables false
namespace Go.Proofs.YtlmaolfajcgmiaaGreat
open Go.RowKit
def FLI [Gd] (B p q g j:Nat) (l:List It) (F d:Nat) (W w:World):Prop :=
 ∃ s t now L,TM B p q g s t now now (.slice none 0 0) ((cntF t.st:Nat):Int) w∧Tr s t now l∧l.length≤j∧s.n=16∧s.m=0∧t.num≤j∧Full3 t∧Below B W w∧PgS now.pgs L∧F+L.length+2=16∧cntF t.st=F∧now.depth=(d:Int)
def FLJ [Gd] (B p q g j:Nat) (l:List It) (W w:World):Prop :=
 ∃ s t now last left,TM B p q g s t now last (.slice none 0 0) left w∧Tr s t now l∧l.length≤j+1∧s.n=16∧s.m≤20∧t.num≤j∧Full3 t∧Below B W w
section
variable [Gd] {B p q g j F d:Nat} {l:List It} {W w w':World}
theorem FLI.later (h:FLI B p q g j l F d W w) (hb:Below w.heap.size w w'):FLI B p q g j l F d W w':=by
 obtain ⟨s,t,now,L,h1,h2,h3,h4,h5,h6,h7,h8,h9⟩:=h
 exact ⟨s,t,now,L,h1.later hb,h2,h3,h4,h5,h6,h7,h8.trans (hb.mono h1.bw),h9⟩
theorem FLJ.later (h:FLJ B p q g j l W w) (hb:Below w.heap.size w w'):FLJ B p q g j l W w':=by
 obtain ⟨s,t,now,last,left,h1,h2,h3,h4,h5,h6,h7,h8⟩:=h
 exact ⟨s,t,now,last,left,h1.later hb,h2,h3,h4,h5,h6,h7,h8.trans (hb.mono h1.bw)⟩
theorem FLI.next (h:FLI B p q g j l F d W w):FLI B p q g (j+1) l F d W w:=by
 obtain ⟨s,t,now,L,h1,h2,h3,h4,h5,h6,h7,h8,h9⟩:=h
 exact ⟨s,t,now,L,h1,h2,by omega,h4,h5,by omega,h7,h8,h9⟩
theorem FLI.be (h:FLI B p q g j l F d W w):Below B W w:=by
 obtain ⟨s,t,now,L,h1,h2,h3,h4,h5,h6,h7,h8,h9⟩:=h
 exact h8
theorem FLI.bw (h:FLI B p q g j l F d W w):B≤w.heap.size:=by
 obtain ⟨s,t,now,L,h1,_⟩:=h
 exact h1.bw
theorem FLJ.bw (h:FLJ B p q g j l W w):B≤w.heap.size:=by
 obtain ⟨s,t,now,last,left,h1,_⟩:=h
 exact h1.bw
theorem FLI.srt (h:FLI B p q g j l F d W w):Srt l∧l.length≤j:=by
 obtain ⟨s,t,now,L,h1,h2,h3,_⟩:=h
 exact ⟨h2.srt,h3⟩
theorem FLI.small (h:FLI B p q g j l F d W w) (hj:j≤60):F≤14∧d≤4:=by
 obtain ⟨s,t,now,L,h1,h2,h3,h4,h5,h6,h7,h8,h9,h10,h11,h12⟩:=h
 have:=h2.depth80 (by omega)
 exact ⟨by omega,by omega⟩
theorem FLI.Left (h:FLI B p q g j l F d W w):Calls Tryz.prog 28 #[.pointer (some ⟨g,0,none⟩)] w fun e w'=>e=.returned (.int .i64 (F:Int))∧w'=w:=by
 obtain ⟨s,t,now,L,h1,h2,h3,h4,h5,h6,h7,h8,h9,h10,h11,h12⟩:=h
 have:=Left_any h1
 rwa [h11] at this
theorem FLI.Depth (h:FLI B p q g j l F d W w):Calls Tryz.prog 26 #[.pointer (some ⟨g,0,none⟩)] w fun e w'=>e=.returned (.int .i64 (d:Int))∧w'=w:=by
 obtain ⟨s,t,now,L,h1,h2,h3,h4,h5,h6,h7,h8,h9,h10,h11,h12⟩:=h
 have:=Depth_any h1
 rwa [h12] at this
theorem FLI.Put (hg0:Gd.g=none) (h:FLI B p q g j l F d W w) (hj:j≤60) (it:It) (hit:ItOk it) {ka va:Option Addr} {kn kc vn vc:Nat} (hkn:it.1.length=kn) (hvn:it.2.length=vn) (hk:BK B w ka kn kc it.1) (hv:BK B w va vn vc it.2) :
  Calls Tryz.prog 11 #[.pointer (some ⟨g,0,none⟩),.slice ka kn kc,.slice va vn vc] w fun e w'=>NF B w w'∧((e=.returned (.int .i64 0)∧FLJ B p q g j (putL l it) W w')∨(e=.returned (.int .i64 21)∧FLJ B p q g j l W w'∧F<2*d+1)):=by
 obtain ⟨s,t,now,L,h1,h2,h3,h4,h5,h6,h7,h8,h9,h10,h11,h12⟩:=h
 have hd:=h2.depth80 (by omega)
 obtain ⟨cg,hg,_⟩:=h1.tv
 refine (Put_or hg0 h1 h2 (by omega) it hit hkn hvn hk hv h9 (by omega) (by omega) (by omega)).mono ?_
 rintro e w' (⟨rfl,s',t',now',L',k1,k2,k3,k4,k5⟩ | ⟨rfl,k1,k2⟩)
 ·have m1:=k1.m
  have m2:=aDj l it
  refine ⟨k5.nf hg,Or.inl ⟨rfl,s',t',now',now,_,k2,k3,?_,by rw [k1.n];exact h4,by omega,by rw [k1.num];exact h6,h7.gw k1,h8.trans k5.1⟩⟩
  rw [m2];split<;>omega
 ·exact ⟨(FE.ch k1).nf hg,Or.inr ⟨rfl,⟨s,t,now,now,_,h1.fe k1 hg0,h2,by omega,h4,by omega,h6,h7,h8.trans k1.1⟩,by omega⟩⟩
theorem FLJ.Range (h:FLJ B p q g j l W w) (hj:j≤60):Calls Tryz.prog 33 #[.pointer (some ⟨g,0,none⟩),.slice none 0 0,.slice none 0 0,.int .i64 999] w fun e w'=>∃ fv,e=.returned (.tuple #[fv,.int .i64 0])∧PRW B B w' fv l∧Below w.heap.size w w':=by
 obtain ⟨s,t,now,last,left,h1,h2,h3,h4,h5,h6,h7,h8⟩:=h
 have hd:=h2.depth80 (by omega)
 refine (Range_ok (most:=999) (lo:=[]) (hi:=[]) h1 h2 (by omega) rfl rfl (BK.nil _ _) (BK.nil _ _) (by decide) (by decide) (by decide) (by decide)).mono ?_
 rintro e w' ⟨fv,rfl,hp,hb⟩
 rw [rngL_take l [] (by decide),frm_nil,List.take_of_length_le (by omega)] at hp
 exact ⟨fv,rfl,hp.lowB h1.bw,hb⟩
theorem FLJ.check (h:FLJ B p q g j l W w) (hj:j≤60):Calls Tryz.prog 24 #[.pointer (some ⟨g,0,none⟩)] w fun e w'=>e=.returned (.int .i64 0)∧Below w.heap.size w w':=by
 obtain ⟨s,t,now,last,left,h1,h2,h3,h4,h5,h6,h7,h8⟩:=h
 have hd:=h2.depth80 (by omega)
 exact Check_ok h1 h2 (by omega) (by omega)
theorem FLJ.commit (h:FLJ B p q g j l W w) (hj:j≤60):Calls Tryz.prog 16 #[.pointer (some ⟨g,0,none⟩)] w fun e w'=>e=.returned (.int .i64 0)∧NF B w w'∧∃ F d,FLI B p q g (j+1) l F d W w':=by
 obtain ⟨s,t,now,last,left,h1,h2,h3,h4,h5,h6,h7,h8⟩:=h
 obtain ⟨cg,hg,_⟩:=h1.tv
 refine (aDy h1 h2 (SnV.nil w) (by rw [h4];decide) (by omega)).mono ?_
 rintro e w' ⟨rfl,s',t',k1,k2,k3⟩
 have k1:Cmt s t now.pgs now.root.toNat s' t':=k1
 have hlen:t.st.length=16:=by rw [h1.sn];exact h4
 obtain ⟨d,L,e1,e2,e3,e4⟩:=h2.shp h1.sn k1 h7 h1.hd k2.hd (by omega)
 have a1:=e4.all
 refine ⟨rfl,k3.nf hg,cntF t'.st,d,s',t',now,L,k2,h2.cmt k1 h1.hd (fun i _ hi=>hi),h3,by rw [k1.n];exact h4,k1.m,?_,h7.cmt k1,h8.trans k3.1,e3,by omega,rfl,e1⟩
 have:=k1.num
 omega
theorem OpT.fli (h:OpT B p g 16 w) (hb:Below B W w):∃ q,FLI B p q g 0 [] 14 0 W w:=by
 obtain ⟨q,s,t,st0,hM,hTr,hdp,hsn,hm,hc,hnum,hs0,hs1⟩:=h
 have hln:t.st.length=16:=by rw [hM.sn];exact hsn
 have hnil:=hTr.nil
 refine ⟨q,s,t,st0,[],?_,hTr,by simp,hsn,by omega,by omega,fun i h2 hi=>?_,hb,hnil.2.2,by simp,by omega,hnil.1⟩
 ·exact hM
 ·exact Or.inl ((count_all hM.hd.1 hM.hd.2 (by omega)).1 (by rw [hc,hln]) i h2 hi)
end
end Go.Proofs.YtlmaolfajcgmiaaGreat
