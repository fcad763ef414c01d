import Derived.Deep.RegionHeld3
set_option maxRecDepth 100000
set_option maxHeartbeats 16000000
namespace Go.Proofs.YtmmcebojbbdfmaaGreat
variable {i j n:Nat} {v:Value} {w:World}
section
variable {P:Program} {md:Region.Mode} {ops:Array Oper} {Q:Exit->Act->World->Prop} {S S':World->Prop}
theorem aAd {d:Nat} {fuel:Nat} {listed:Array Bool} {a:Act} (hd:(ops[i]?).map (·.dst)=some (some d))
  (hs:Region.noSelect ops=true) (hf:Region.free md ops listed i=true) (hr:(Region.ready md ops listed).contains i=true)
  (hQ:∀ c a w,Q (.panic c) (a.put (some d) v) w->Q (.panic c) a w) (hy:∀ oi,ops[i]?=some oi->YieldsIf P ops S oi v a) (hS:S w)
  (h:wpAnyH P md ops Q S fuel (listed.setIfInBounds i true) (a.put (some d) v) w):wpAnyH P md ops Q S (fuel+1) listed a w:=by
 obtain ⟨oi,hi,hdi⟩:=Option.map_eq_some_iff.1 hd;exact wpAnyH_take hi hs hf hr (by rw [hdi];exact hQ) (hy oi hi) hS (by rw [hdi];exact h)
theorem aE8 {fuel:Nat} {listed:Array Bool} {a:Act} (hr:Region.ready md ops listed=[i]) (hsome:(ops[i]?).isSome=true)
  (h:∀ o,ops[i]?=some o->∀ K':Act->World->Prop,Shut (∀ a w,S w->(S w->wpAnyH P md ops Q S fuel (listed.setIfInBounds i true) a w)->K' a w)->if Region.wanted o (yielded ops a.tmps)=true then Oper.wp P o a w K' Q else K' (a.put o.dst undef) w) :
  wpAnyH P md ops Q S (fuel+1) listed a w:=by
 obtain ⟨o,ho⟩:=Option.isSome_iff_exists.1 hsome;exact wpAnyH_ready hr (by simp) (AllReadyH.cons ho (h o ho) AllReadyH.nil)
theorem aAn {fuel:Nat} {listed:Array Bool} {a:Act} (hr:Region.ready md ops listed=[i,j]) (hi1:(ops[i]?).isSome=true) (hj1:(ops[j]?).isSome=true)
  (hi:∀ o,ops[i]?=some o->∀ K':Act->World->Prop,Shut (∀ a w,S w->(S w->wpAnyH P md ops Q S fuel (listed.setIfInBounds i true) a w)->K' a w)->if Region.wanted o (yielded ops a.tmps)=true then Oper.wp P o a w K' Q else K' (a.put o.dst undef) w)
  (hj:∀ o,ops[j]?=some o->∀ K':Act->World->Prop,Shut (∀ a w,S w->(S w->wpAnyH P md ops Q S fuel (listed.setIfInBounds j true) a w)->K' a w)->if Region.wanted o (yielded ops a.tmps)=true then Oper.wp P o a w K' Q else K' (a.put o.dst undef) w) :
  wpAnyH P md ops Q S (fuel+1) listed a w:=by
 obtain ⟨o,ho⟩:=Option.isSome_iff_exists.1 hi1;obtain ⟨o',ho'⟩:=Option.isSome_iff_exists.1 hj1;exact wpAnyH_ready hr (by simp) (AllReadyH.cons ho (hi o ho) (AllReadyH.cons ho' (hj o' ho') AllReadyH.nil))
theorem aAe (i d:Nat) {v:Value} {fuel:Nat} {listed:Array Bool} {a a':Act} {w:World} (h:wpAnyH P md ops Q S fuel (listed.setIfInBounds i true) a' w) (hy:∀ oi,ops[i]?=some oi->YieldsIf P ops S oi v a:=by (intro oi ho;simp only [List.getElem?_toArray,List.getElem?_cons_succ,List.getElem?_cons_zero,Option.some.injEq] at ho;subst ho;refine Or.inl ⟨by rfl,?_⟩;intro wx hSw;(try dsimp only at hSw);go_simp;try rfl)) (ha:a.put (some d) v=a':=by ((try simp only [Act.put,List.setIfInBounds_toArray,List.set_cons_zero,List.set_cons_succ]);exact rfl))
  (hd:(ops[i]?).map (·.dst)=some (some d):=by kernel_rfl) (hs:Region.noSelect ops=true:=by kernel_rfl) (hf:Region.free md ops listed i=true:=by kernel_rfl) (hr:(Region.ready md ops listed).contains i=true:=by kernel_rfl) (hS:S w:=by assumption) (hQ:∀ c a w,Q (.panic c) (a.put (some d) v) w->Q (.panic c) a w:=by exact fun _ _ _ h=>h):wpAnyH P md ops Q S (fuel+1) listed a w:=aAd hd hs hf hr hQ hy hS (ha ▸ h)
theorem aAf (i:Nat) {o:Oper} {fuel:Nat} {listed:Array Bool} {a:Act} {w:World}
  (h:∀ K':Act->World->Prop,Shut (∀ a w,S w->(S w->wpAnyH P md ops Q S fuel (listed.setIfInBounds i true) a w)->K' a w)->if Region.wanted o (yielded ops a.tmps)=true then Oper.wp P o a w K' Q else K' (a.put o.dst undef) w) (ho:ops[i]?=some o:=by (simp only [List.getElem?_toArray,List.getElem?_cons_succ,List.getElem?_cons_zero];try exact rfl)) (hr:Region.ready md ops listed=[i]:=by kernel_rfl) (hsome:(ops[i]?).isSome=true:=by kernel_rfl) :
  wpAnyH P md ops Q S (fuel+1) listed a w:=aE8 hr hsome (fun o' ho'=>by rw [ho] at ho';cases ho';exact h)
theorem wpAnyH_sk (i d:Nat) {fuel:Nat} {listed:Array Bool} {a a':Act} {w:World} (h:wpAnyH P md ops Q S fuel (listed.setIfInBounds i true) a' w) (hy:∀ oi,ops[i]?=some oi->YieldsIf P ops S oi undef a:=by (intro oi ho;simp only [List.getElem?_toArray,List.getElem?_cons_succ,List.getElem?_cons_zero,Option.some.injEq] at ho;subst ho;exact Or.inr ⟨by rfl,rfl⟩)) (ha:a.put (some d) undef=a':=by ((try simp only [Act.put,List.setIfInBounds_toArray,List.set_cons_zero,List.set_cons_succ]);exact rfl))
  (hd:(ops[i]?).map (·.dst)=some (some d):=by kernel_rfl) (hs:Region.noSelect ops=true:=by kernel_rfl) (hf:Region.free md ops listed i=true:=by kernel_rfl) (hr:(Region.ready md ops listed).contains i=true:=by kernel_rfl) (hS:S w:=by assumption) (hQ:∀ c a w,Q (.panic c) (a.put (some d) undef) w->Q (.panic c) a w:=by exact fun _ _ _ h=>h):wpAnyH P md ops Q S (fuel+1) listed a w:=aAd hd hs hf hr hQ hy hS (ha ▸ h)
theorem tG {α:Type} {xs:List α}:xs.toArray[i]?=xs[i]?:=List.getElem?_toArray
theorem sG {α:Type} {a:α} {l:List α}:(a::l)[i+1]?=l[i]?:=List.getElem?_cons_succ
theorem zG {α:Type} {a:α} {l:List α}:(a::l)[0]?=some a:=List.getElem?_cons_zero
theorem siT {α:Type} {xs:List α} {x:α}:xs.toArray.setIfInBounds i x=(xs.set i x).toArray:=List.setIfInBounds_toArray _ _ _
theorem scZ {α:Type} {x a:α} {as:List α}:(x::as).set 0 a=a::as:=List.set_cons_zero
theorem scS {α:Type} {x a:α} {as:List α}:(x::as).set (n+1) a=x::as.set n a:=List.set_cons_succ
end
end Go.Proofs.YtmmcebojbbdfmaaGreat
namespace Go.Proofs.YtmmcebojbbdfmaaGreat
end Go.Proofs.YtmmcebojbbdfmaaGreat
