import Derived.Test.YtdpdjpkmndnaaaaGreatYb37
import Derived.Test.YtdpdjpkmndnaaaaGreatYb29
set_option maxRecDepth 100000
set_option maxHeartbeats 16000000
set_option linter.unusedVariables false
namespace Go.Proofs.YtdpdjpkmndnaaaaGreat
open Go.RowKit _root_.Go.Proofs.Tryz
variable {B g i m o y:Nat} {ps:List Nat} {t:TypeId} {w:World}
theorem bD7 {t:PS}:t.of (i:Int)=t.st.getD i 0:=by
 unfold PS.of;rw [kAg (by omega),Int.toNat_natCast]
def adP (ps:List Nat) (id:Nat):List Nat:=ps.set (id / 64) (ps.getD (id / 64) 0 ||| 2 ^ (id % 64))
def hsP (ps:List Nat) (id:Nat):Bool:=(ps.getD (id / 64) 0).testBit (id % 64)
theorem bR9 (ps:List Nat) (id:Nat):(adP ps id).length=ps.length:=by simp [adP]
theorem bU6 (hl:ps.length=64) {id j:Nat} (hi:id<4096):hsP (adP ps id) j=(hsP ps j || decide (j=id)):=by
 unfold hsP adP;by_cases h:j / 64=id / 64
 ·have hd:(ps.set (id / 64) (ps.getD (id / 64) 0 ||| 2 ^ (id % 64))).getD (j / 64) 0=ps.getD (j / 64) 0 ||| 2 ^ (id % 64):=by
   rw [h,kAa,kA3 (by omega),<-h];rfl
  rw [hd,Nat.testBit_or,Nat.testBit_two_pow]
  congr 1
  exact decide_eq_decide.2 ⟨fun e=>by omega,fun e=>by omega⟩
 ·have hd:(ps.set (id / 64) (ps.getD (id / 64) 0 ||| 2 ^ (id % 64))).getD (j / 64) 0=ps.getD (j / 64) 0:=by
   rw [kAa,List.getElem?_set_ne (Ne.symm h),<-kAa]
  have hne:j≠id:=fun e=>h (by rw [e]);rw [hd,kAd hne,Bool.or_false]
theorem bP3 {r:Nat} (h:r<64):IntKind.u64.wrap (2 ^ r)=((2 ^ r:Nat):Int)/\2 ^ r<18446744073709551616:=by
 have h1:2 ^ r<2 ^ 64:=Nat.pow_lt_pow_right (by omega) h;have h2:((2:Int) ^ r)=((2 ^ r:Nat):Int):=by simp
 have h3:2 ^ r<18446744073709551616:=h1;refine ⟨?_,h3⟩;rw [h2,IntKind.wrap_u64];generalize 2 ^ r=y at h3 ⊢;omega
def Wd (cs:Array Value) (o:Nat) (ps:List Nat):Prop:=ps.length=64/\(∀ x∈ps,x<18446744073709551616)/\∀ (i:Nat) x,ps[i]?=some x->cs[o+i]?=some (.int .u64 (x:Int))
def Sm (cs cs':Array Value) (o:Nat):Prop:=cs'.size=cs.size/\∀ k,k<o\/o+64<=k->cs'[k]?=cs[k]?
theorem Wd.set {cs:Array Value} (h:Wd cs o ps) (hm:m<64) (hy:y<18446744073709551616):Wd (cs.setIfInBounds (o+m) (.int .u64 (y:Int))) o (ps.set m y)/\Sm cs (cs.setIfInBounds (o+m) (.int .u64 (y:Int))) o:=by
 obtain ⟨h1,h2,h3⟩:=h;refine ⟨⟨by simp [h1],fun x hx=>?_,fun i x hi=>?_⟩,by simp,fun k hk=>?_⟩
 ·rcases List.mem_or_eq_of_mem_set hx with hx | hx
  ·exact h2 x hx
  ·omega
 ·by_cases e:i=m
  ·subst e;rw [kA3 (by omega)] at hi;simp only [oI] at hi;subst hi;obtain ⟨x0,hx0⟩:∃ x0,ps[i]?=some x0:=⟨_,gE (by omega)⟩;rw [kA1 (lO (h3 i x0 hx0))]
  ·rw [List.getElem?_set_ne (Ne.symm e)] at hi;rw [kA0 (by omega)];exact h3 i x hi
 ·rw [kA0 (by omega)]
def PsR (B g o:Nat) (t:TypeId) (w:World) (cs:Array Value) (ps:List Nat) (w':World):Prop:=∃ cs',w'.heap[g]?=some (.cells cs' t (0,0))/\Wd cs' o ps/\Sm cs cs' o/\Ex B [g] w w'
theorem PsR.one {cs:Array Value} (hB:B<=g) (hg:w.heap[g]?=some (.cells cs t (0,0))) (hw:Wd cs o ps) (hm:m<64) (hy:y<18446744073709551616):PsR B g o t w cs (ps.set m y) (w.setCell ⟨g,o+m,none⟩ (.int .u64 (y:Int))).drew:=by
 obtain ⟨h1,h2⟩:=hw.set hm hy;refine ⟨_,kBg _ _ _ _ _ _ hg,h1,h2,((kBh B w).setCell (p:=⟨g,o+m,none⟩) hB _).drew,fun k _ hk=>?_⟩;simp only [kA5] at hk;exact kBf _ _ _ _ (by exact hk)
theorem bPz {id:Nat} {cs:Array Value} (hB:B<=g) (hg:w.heap[g]?=some (.cells cs t (0,0))) (hw:Wd cs o ps) (hid:id<4096) :
  Calls prog 190 #[.pointer (some ⟨g,o,none⟩),.int .i64 (id:Int)] w fun e w'=>e=.returned (.tuple #[])/\PsR B g o t w cs (adP ps id) w':=by
 obtain ⟨x,hx⟩:∃ x,ps[id / 64]?=some x:=⟨_,gE (by have:=hw.1;omega)⟩;have hx6:=hw.2.1 x (mG hx);have hc:=hw.2.2 _ x hx;have hgd:ps.getD (id / 64) 0=x:=by rw [kAa,hx];rfl
 have hq:((id:Int) / 64)=((id / 64:Nat):Int):=by omega
 have hr:((id:Int) % 64)=((id % 64:Nat):Int):=by omega
 have e0:adP ps id=ps.set (id / 64) (x ||| 2 ^ (id % 64)):=by unfold adP;rw [hgd]
 rw [e0];obtain ⟨m,hm⟩:∃ m,id / 64=m:=⟨_,rfl⟩;obtain ⟨r,hr2⟩:∃ r,id % 64=r:=⟨_,rfl⟩;have hm64:m<64:=by omega
 have hr64:r<64:=by omega
 rw [hm] at hc hq ⊢;rw [hr2] at hr ⊢;have HE:Hid (bits BinOp.or IntKind.u64 (x:Int) (IntKind.u64.wrap (2 ^ r))=((x ||| 2 ^ r:Nat):Int)):=by
  show _=_;rw [(bP3 hr64).1,u64_or_nat x _ hx6 (bP3 hr64).2]
 have HR:=zH (PsR.one (y:=x ||| 2 ^ r) hB hg hw hm64 (Nat.or_lt_two_pow (n:=64) hx6 (bP3 hr64).2));have c0:w.cell? ⟨g,o+m,none⟩=some (.int .u64 (x:Int)):=(aAd hg).trans hc;have f0:w.frozen? ⟨g,o+m,none⟩=false:=aAm hg;have d1:(m:Int)<64:=by omega
 have d2:¬ (m:Int)<0:=by omega
 have d3:¬ (r:Int)<0:=by omega
 have d4:(r:Int)<64:=by omega
 clear hg hc hw hx hgd e0;go_enter func190,ntmps190;go_region;go_wp2;(try simp only [Exit.inBlock,Exit.then]);refine bodyPost_end (results_none rfl _ _ _) rfl ?_;rw [HE.o];exact ⟨rfl,HR.o⟩
theorem Ex.refl (B:Nat) (S:List Nat) (w:World):Ex B S w w:=⟨kBh _ _,fun _ _ _=>rfl⟩
theorem Ex.trans {S:List Nat} {a b c:World} (h:Ex B S a b) (k:Ex B S b c):Ex B S a c:=⟨h.1.trans k.1,fun i hi hn=>(k.2 i (kAi hi h.1.size) hn).trans (h.2 i hi hn)⟩
end Go.Proofs.YtdpdjpkmndnaaaaGreat
