import Derived.Test.YtmmcebojbbdfmaaGreatY16
import Derived.Deep.RegionHeld3
set_option maxRecDepth 100000
set_option maxHeartbeats 16000000
set_option linter.unusedVariables false
namespace Go.Proofs.YtmmcebojbbdfmaaGreat
open Go.RowKit _root_.Go.Proofs.Tryz
variable {B b:Nat} {s:ByteArray} {w w1 w2:World}
attribute [local go_sem ↓] Go.wp_at_zero Go.wp_at_succ
theorem hidc {p:Prop} (h:p):Hid p:=h
def Box (b:Nat) (k n:Int) (s:ByteArray) (w:World):Prop:=w.cell? ⟨b,0,none⟩=some (.int .i64 k)/\w.cell? ⟨b,1,none⟩=some (.int .i64 n)/\w.cell? ⟨b,2,none⟩=some (.string s)
theorem Box.new (w:World) (k n:Int) (s:ByteArray) (t:TypeId):Box w.heap.size k n s (w.alloc (.cells #[.int .i64 k,.int .i64 n,.string s] t)):=by
 refine ⟨?_,?_,?_⟩<;>simp
theorem Box.later {k n:Int} (h:Box b k n s w) (hb:Below B w w1) (hlt:b<B):Box b k n s w1 :=
 ⟨(hb.cell hlt).trans h.1,(hb.cell hlt).trans h.2.1,(hb.cell hlt).trans h.2.2⟩
theorem aGb {k n:Int} (h:Box b k n s w1) (hb:Below w1.drew.heap.size w1.drew w2) (hlt:b<w1.heap.size):Box b k n s w2:=Box.later (w:=w1.drew) h hb hlt
theorem aD4 (h:Below B w w1) (hb:Below w1.drew.heap.size w1.drew w2) (hle:B<=w1.heap.size):Below B w w2:=h.drew.trans (hb.mono hle)
def eqv (k' n':Int) (s':ByteArray) (k n:Int) (s:ByteArray):Bool:=k' == k && (n' == n && s'.toList == s.toList)
def H.eqv (h:H) (k n:Int) (s:ByteArray):Bool:=match h with
 | .nothing=>YtmmcebojbbdfmaaGreat.eqv 0 0 ⟨#[]⟩ k n s
 | .number m=>YtmmcebojbbdfmaaGreat.eqv 1 m ⟨#[]⟩ k n s
 | .text t=>YtmmcebojbbdfmaaGreat.eqv 2 0 t k n s
 | .truth b=>YtmmcebojbbdfmaaGreat.eqv 3 (bi b) ⟨#[]⟩ k n s
 | .none=>YtmmcebojbbdfmaaGreat.eqv 0 0 ⟨#[]⟩ k n s
def H.str:H->ByteArray
 | .text t=>t
 | _=>⟨#[]⟩
def H.isText:H->Bool
 | .text _=>true
 | _=>false
theorem fields_av:(prog.fieldsOf 73).toList.map (fun f=>(f.name,f.type,f.offset))=[("Kind",3,0),("N",3,1),("S",9,2)]:=by kernel_rfl
theorem under_av:prog.underlying 73=some (.struct (prog.fieldsOf 73)):=by kernel_rfl
theorem stood_av:prog.stoodInHeld 73=false:=by kernel_rfl
theorem guardT_av:prog.eqGuardType prog.depth 73=false:=by kernel_rfl
theorem three {α β:Type} {f:α->β} {l:List α} {a b c:β} (h:l.map f=[a,b,c]):∃ x y z,l=[x,y,z]/\f x=a/\f y=b/\f z=c:=by
 match l,h with
 | [x,y,z],h =>
  simp only [List.map_cons,List.map_nil,List.cons.injEq,and_true] at h;exact ⟨x,y,z,rfl,h.1,h.2.1,h.2.2⟩
theorem eq_av (k' n':Int) (s':ByteArray) (k n:Int) (s:ByteArray) (w:World):(Op.equalIn 10000 73 (av k' n' s') (av k n s)).run prog w=.ok (eqv k' n' s' k n s) w:=by
 unfold av;rw [show (10000:Nat)=9999+1 from rfl,run_equalIn_struct w 9999 _ _ _ under_av stood_av];obtain ⟨f0,f1,f2,hf,e0,e1,e2⟩:∃ f0 f1 f2:Field,(prog.fieldsOf 73).toList=[f0,f1,f2]/\(f0.name= "Kind"/\f0.type=3/\f0.offset=0)/\(f1.name= "N"/\f1.type=3/\f1.offset=1)/\(f2.name= "S"/\f2.type=9/\f2.offset=2):=by
  obtain ⟨f0,f1,f2,h,h0,h1,h2⟩:=three fields_av;simp only [Prod.mk.injEq] at h0 h1 h2;exact ⟨f0,f1,f2,h,h0,h1,h2⟩
 rw [hf];have u3:=underlying3;have u9:=underlying9;have p0:∀ (a b c:Value) (w:World),(part 3 #[a,b,c] 0).run prog w=.ok a w:=fun a b c w=>by kernel_rfl
 have p1:∀ (a b c:Value) (w:World),(part 3 #[a,b,c] 1).run prog w=.ok b w:=fun a b c w=>by kernel_rfl
 have p2:∀ (a b c:Value) (w:World),(part 9 #[a,b,c] 2).run prog w=.ok c w:=fun a b c w=>by kernel_rfl
 have q3:∀ (d:Nat) (a b:Int) (w:World),(Op.equalIn (d+1) 3 (.int .i64 a) (.int .i64 b)).run prog w=.ok (a == b) w:=fun d a b w=>run_equalIn_int w d _ _ _ a b u3
 have q9:∀ (d:Nat) (a b:ByteArray) (w:World),(Op.equalIn (d+1) 9 (.string a) (.string b)).run prog w=.ok (a.toList == b.toList) w:=fun d a b w=>run_equalIn_string w d _ a b u9
 have r3:=fun a b w=>q3 9998 a b w
 have r9:=fun a b w=>q9 9998 a b w
 simp only [Op.eqFields,e0.1,e0.2.1,e0.2.2,e1.1,e1.2.1,e1.2.2,e2.1,e2.2.1,e2.2.2,Sem.run_bind,Sem.run_ite,p0,p1,p2,Result.andThen_ok,r3,r9,Sem.run_pure,ne_eq,eqv]
 cases (k' == k)<;>cases (n' == n)<;>cases (s'.toList == s.toList)<;>simp
theorem neq_av (k' n':Int) (s':ByteArray) (k n:Int) (s:ByteArray) (w:World):(binOp .neq 73 (av k' n' s') (av k n s)).run prog w=.ok (.bool (!(eqv k' n' s' k n s))) w:=by
 have h:=eq_av k' n' s' k n s w;unfold av at h ⊢;rw [run_neq_struct,h];rfl
theorem neq_h (h:H) (k n:Int) (s:ByteArray) (w:World):(binOp .neq 73 h.out (.agg #[.int .i64 k,.int .i64 n,.string s])).run prog w=.ok (.bool (!(h.eqv k n s))) w:=by
 cases h<;>exact neq_av _ _ _ k n s w
theorem guard_h (h:H) (k n:Int) (s:ByteArray) (x y:Operand) (w:World):(eqGuard .neq 73 x y h.out (.agg #[.int .i64 k,.int .i64 n,.string s])).run prog w=.ok () w:=by
 cases h<;>exact run_eqGuard_agg w .neq _ x y _ _ guardT_av
theorem as_text_h (h:H) (w:World):(Instr.typeAssert h.val 20 136 true).run prog w=.ok (.tuple #[.string h.str,.bool h.isText]) w:=by
 cases h
 ·exact aBq w
 ·exact aBv _ w
 ·exact aCx _ w
 ·exact aCg _ w
 ·exact aEc w
theorem eqv_text {k n:Int} (h:(holdOf k n s).eqv k n s=true):(holdOf k n s).isText=decide (k=2)/\(k=2->(holdOf k n s).str=s):=by
 by_cases h2:k=2
 ·subst h2;exact ⟨by simp [holdOf,H.isText],fun _=>by simp [holdOf,H.str]⟩
 ·refine ⟨?_,fun e=>absurd e h2⟩;simp only [h2,decide_false];unfold holdOf
  repeat' split
  all_goals first | rfl | omega
def rightOf (k n:Int) (s:ByteArray):Int:=if (holdOf k n s).eqv k n s=true then (if k=2/\runes (bl s)=none then 12 else 0) else 1
def heldRight (k n:Int) (s:ByteArray):Value:=if rightOf k n s=0 then (holdOf k n s).val else .nilIface
theorem aCb (k n:Int) (s:ByteArray) (w:World) (hs:s.size<=16777216) :
  Calls prog 69 #[av k n s] w fun e w'=>e=.returned (.tuple #[heldRight k n s,.int .i64 (rightOf k n s)])/\Below w.heap.size w w':=by
 unfold av;obtain ⟨h,Hh⟩:∃ h,Hid (holdOf k n s=h):=⟨_,rfl⟩;go_enter func69,ntmps69;go_wp2_with fail;refine (hold_any k n s _).mono ?_;rintro e w1 ⟨rfl,hb1⟩;rw [Hh.out];have HX:=hidc ((Box.new w k n s 73).later hb1 (by simp));have hlt:w.heap.size<w1.heap.size:=by have:=hb1.size;simp at this;omega
 have hle:w.heap.size<=w1.heap.size:=Nat.le_of_lt hlt;have HB1:=hidc (((Below.refl _ w).alloc (Nat.le_refl _) _).trans (hb1.mono (by simp)));clear hb1;have g1:=fun w=>neq_h h k n s w
 have g2:=fun x y w=>guard_h h k n s x y w
 have g3:=fun w=>as_text_h h w
 have HT:=hidc (fun e=>eqv_text (k:=k) (n:=n) (s:=s) e);rw [Hh.out] at HT
 cases hE:h.eqv k n s with
 | false =>
  have hr:rightOf k n s=1:=by unfold rightOf;rw [Hh.out,hE];rfl
  have hd:heldRight k n s=.nilIface:=by unfold heldRight;rw [hr];rfl
  go_wp2_with fail;go_region_held3 (fun wx=>wx.cell? ⟨w.heap.size,0,none⟩=some (.int .i64 k)/\wx.cell? ⟨w.heap.size,1,none⟩=some (.int .i64 n)/\wx.cell? ⟨w.heap.size,2,none⟩=some (.string s)) (first | exact HX2.out | exact HX.out)
   (first | (go_at_call 89;refine (aAz _ _).mono ?_;rintro e w2 ⟨rfl,hb2⟩;have HX2:=hidc (aGb HX.out hb2 hlt);have HB2:=hidc (aD4 HB1.out hb2 hle);clear hb2))
  go_wp2;go_ret2;rw [hd,hr];exact ⟨rfl,HB2.out⟩
 | true =>
  obtain ⟨t1,t2⟩:=HT.out hE;by_cases h2:k=2
  ·have tx:h.isText=true:=by rw [t1];simp [h2]
   have ts:h.str=s:=t2 h2;have H2:=hidc h2;clear t1 t2 h2;go_wp2_with fail;go_region_held3 (fun wx=>wx.cell? ⟨w.heap.size,0,none⟩=some (.int .i64 k)/\wx.cell? ⟨w.heap.size,1,none⟩=some (.int .i64 n)/\wx.cell? ⟨w.heap.size,2,none⟩=some (.string s)) (first | exact HX2.out | exact HX.out)
    (first | (go_at_call 89;refine (aAz _ _).mono ?_;rintro e w2 ⟨rfl,hb2⟩;have HX2:=hidc (aGb HX.out hb2 hlt);have HB2:=hidc (aD4 HB1.out hb2 hle);clear hb2))
   cases hR:runes (bl s) with
   | none =>
    have cR:∀ w:World,Calls prog 90 #[.string s] w fun e w'=>e=.returned (.int .i64 (-1))/\Below w.heap.size w w':=fun w=>by have:=aEn s w (by omega);rw [hR] at this;exact this
    have hr:rightOf k n s=12:=by unfold rightOf;rw [Hh.out,if_pos hE,if_pos ⟨H2.out,hR⟩]
    have hd:heldRight k n s=.nilIface:=by unfold heldRight;rw [hr];rfl
    go_wp2_with (go_at_call 90;refine (cR _).mono ?_;rintro e w3 ⟨rfl,hb3⟩;have HB3:=hidc (HB2.out.trans (hb3.mono (by have:=HB2.out.size;simpa using this)));clear hb3);go_ret2;rw [hd,hr];exact ⟨rfl,HB3.out⟩
   | some rs =>
    have cR:∀ w:World,Calls prog 90 #[.string s] w fun e w'=>e=.returned (.int .i64 (rs.length:Nat))/\Below w.heap.size w w':=fun w=>by have:=aEn s w (by omega);rw [hR] at this;exact this
    have hr:rightOf k n s=0:=by unfold rightOf;rw [Hh.out,if_pos hE,if_neg (by rw [hR];simp)]
    have hd:heldRight k n s=h.val:=by unfold heldRight;rw [hr,Hh.out];rfl
    have hl:=runes_len hR;rw [aDc] at hl;have hge:¬ ((rs.length:Int)<0):=by omega
    go_wp2_with (go_at_call 90;refine (cR _).mono ?_;rintro e w3 ⟨rfl,hb3⟩;have HB3:=hidc (HB2.out.trans (hb3.mono (by have:=HB2.out.size;simpa using this)));clear hb3);go_ret2;rw [hd,hr];exact ⟨rfl,HB3.out⟩
  ·have tx:h.isText=false:=by rw [t1];simp [h2]
   clear t1 t2;have hr:rightOf k n s=0:=by unfold rightOf;rw [Hh.out,if_pos hE,if_neg (by simp [h2])]
   have hd:heldRight k n s=h.val:=by unfold heldRight;rw [hr,Hh.out];rfl
   go_wp2_with fail;go_region_held3 (fun wx=>wx.cell? ⟨w.heap.size,0,none⟩=some (.int .i64 k)/\wx.cell? ⟨w.heap.size,1,none⟩=some (.int .i64 n)/\wx.cell? ⟨w.heap.size,2,none⟩=some (.string s)) (first | exact HX2.out | exact HX.out)
    (first | (go_at_call 89;refine (aAz _ _).mono ?_;rintro e w2 ⟨rfl,hb2⟩;have HX2:=hidc (aGb HX.out hb2 hlt);have HB2:=hidc (aD4 HB1.out hb2 hle);clear hb2))
   go_wp2;go_ret2;rw [hd,hr];exact ⟨rfl,HB2.out⟩
end Go.Proofs.YtmmcebojbbdfmaaGreat
