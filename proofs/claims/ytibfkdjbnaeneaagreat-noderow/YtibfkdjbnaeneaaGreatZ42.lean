import Derived.Test.YtibfkdjbnaeneaaGreatZ36
import Derived.Test.YtibfkdjbnaeneaaGreatZ38
set_option maxRecDepth 100000
set_option maxHeartbeats 16000000
set_option linter.unusedVariables false
namespace Go.Proofs.YtibfkdjbnaeneaaGreat
open Go.RowKit
theorem FE.iv {B B1 B2:Nat} {w w':World} {v:Value} {l:List It} (f:FE B w w') (h:IV B B1 w v l) (hB:B2≤B1):IV B B2 w' v l:=by
 have h':=h.ft f.ft fun k cs _ e=>f.2 k cs _ _ e (by decide) (by decide)
 obtain ⟨a,c,h1,h2,h3,h4,h5⟩:=h'
 refine ⟨a,c,h1,h2,h3,h4,fun x hx=>?_⟩
 obtain ⟨g,o,e1,e2,e3,e4⟩:=h5 x hx
 exact ⟨g,o,e1,by omega,e3,e4⟩
theorem NV.fe {B B1 B2:Nat} {w w':World} (f:FE B w w') (hB:B2≤B1):∀ {h:Nat} {e:ED h} {S:List Nat} {v:Value},NV B B1 w h e S v→NV B B2 w' h e S v
 | 0,.inl t,S,v,hn=>hn
 | 0,.inr l,S,v,hn=>by
  obtain ⟨g,iv,h1,h2,h3,h4,h5⟩:=hn
  exact ⟨g,iv,h1,h2,by omega,f.2 _ _ _ _ h4 (by decide) (by decide),f.iv h5 hB⟩
 | h+1,.inl t,S,v,hn=>hn
 | h+1,.inr x,S,v,hn=>by
  obtain ⟨g,iv,gc,oc,cc,Sk,h1,h2,h3,h4,h5,h6,h7,h8,⟨cs,h9⟩,h10,h11⟩:=hn
  have hc:=f.2 _ _ _ _ h9 (by decide) (by decide)
  refine ⟨g,iv,gc,oc,cc,Sk,h1,h2,by omega,f.2 _ _ _ _ h4 (by decide) (by decide),f.iv h5 hB,by omega,h7,h8,⟨cs,hc⟩,h10,fun i k Si hi hS=>?_⟩
  obtain ⟨vk,q1,q2⟩:=h11 i k Si hi hS
  exact ⟨vk,(World.cell?_of_block (by rw [hc,h9])).trans q1,NV.fe f hB q2⟩
theorem BrN.pv {B B1:Nat} {w:World} {v:Value} {l:List It} {ids:List Nat} (h:BrN B B1 w v l ids) (hl:l.length≤1000) (hi:ids.length≤1000):∃ gb,v=brP gb∧PV B B1 w gb l (ids.map plV):=by
 obtain ⟨gb,gi,gc,rfl,h1,h2,h3,h4,h5,h6⟩:=h
 refine ⟨gb,rfl,h1,_,gc,ids.length,by rw [List.length_map];exact h4,h3,by simp,by omega,⟨[],by rw [List.append_nil];exact h6⟩,h5.iv h2 hl⟩
theorem EV.exT {B px q:Nat} {w w':World} {rv:Value} {d n:Int} {gone:List Nat} (h:EV B w px q rv d n gone) (f:∀ (k:Nat) (cs:Array Value) (t:TypeId),w.heap[k]?=some (.cells cs t (0,0))→t=233∨t=161→w'.heap[k]?=some (.cells cs t (0,0))):EV B w' px q rv d n gone:=by
 obtain ⟨gv,h1,h2⟩:=h.hx
 exact ⟨h.hB,⟨gv,f _ _ _ h1 (Or.inl rfl),aAm h2 fun k cs' _ e=>f k cs' _ e (Or.inr rfl)⟩,h.hn⟩
theorem Ex.oth {B ga gb gc k:Nat} {w w':World} {ca cb cc cs:Array Value} {ta tb tc t:TypeId} {fz:Nat×Nat} (h:Ex B [ga,gb,gc] w w') (ha:w.heap[ga]?=some (.cells ca ta (0,0))) (hb:w.heap[gb]?=some (.cells cb tb (0,0))) (hc:w.heap[gc]?=some (.cells cc tc (0,0))) (e:w.heap[k]?=some (.cells cs t fz)) (na:ta≠t) (nb:tb≠t) (nc:tc≠t):w'.heap[k]?=some (.cells cs t fz):=by
 rw [h.2 k (lO e) ?_,e]
 intro q
 simp only [List.mem_cons,List.not_mem_nil,or_false] at q
 rcases q with rfl | rfl | rfl
 ·rw [ha] at e
  simp only [oI,cI] at e
  exact na e.2.1
 ·rw [hb] at e
  simp only [oI,cI] at e
  exact nb e.2.1
 ·rw [hc] at e
  simp only [oI,cI] at e
  exact nc e.2.1
def FS (B:Nat) (S:List Nat) (w w':World):Prop:=Below B w w'∧∀ (k:Nat) (cs:Array Value) (t:TypeId) (fz:Nat×Nat),w.heap[k]?=some (Obj.cells cs t fz)→t≠233→t≠161→k∉S→w'.heap[k]?=some (Obj.cells cs t fz)
theorem FS.refl (B:Nat) (S:List Nat) (w:World):FS B S w w:=⟨Below.refl _ _,fun _ _ _ _ h _ _ _=>h⟩
theorem FS.trans {B:Nat} {S:List Nat} {a b c:World} (h:FS B S a b) (k:FS B S b c):FS B S a c:=⟨h.1.trans k.1,fun i cs t fz e n1 n2 hi=>k.2 i cs t fz (h.2 i cs t fz e n1 n2 hi) n1 n2 hi⟩
theorem FE.more {B:Nat} {S:List Nat} {w0 w w':World} (h:FE B w0 w) (f:FS B S w w') (hS:∀ x∈S,w0.heap.size≤x):FE B w0 w':=by
 refine ⟨h.1.trans f.1,fun k cs t fz e n1 n2=>f.2 k cs t fz (h.2 k cs t fz e n1 n2) n1 n2 fun q=>?_⟩
 have:=hS k q
 have:=(lO e)
 omega
structure BF (B B1:Nat) (w:World) (gb gi gc:Nat) (l:List It) (cv:List Value):Prop where
 b0:B1≤gb∧B1≤gi∧B1≤gc
 x0:w.heap[gb]?=some (.cells #[.slice (some ⟨gi,0,none⟩) l.length l.length,.slice (some ⟨gc,0,none⟩) cv.length cv.length] 199 (0,0))
 x1:∃ ic,w.heap[gi]?=some (.cells ic.toArray 193 (0,0))∧ItC B w ic l
 x2:w.heap[gc]?=some (.cells cv.toArray 186 (0,0))
 one:∀ u∈cv,u.oneCell'=true
theorem BF.fe {B B1 gb gi gc:Nat} {w w':World} {l:List It} {cv:List Value} (h:BF B B1 w gb gi gc l cv) (f:FE B w w'):BF B B1 w' gb gi gc l cv:=by
 obtain ⟨ic,e1,e2⟩:=h.x1
 exact ⟨h.b0,f.2 _ _ _ _ h.x0 (by decide) (by decide),⟨ic,f.2 _ _ _ _ e1 (by decide) (by decide),e2.ft f.ft⟩,f.2 _ _ _ _ h.x2 (by decide) (by decide),h.one⟩
theorem BF.lt {B B1 gb gi gc:Nat} {w:World} {l:List It} {cv:List Value} (h:BF B B1 w gb gi gc l cv):gb<w.heap.size∧gi<w.heap.size∧gc<w.heap.size:=by
 obtain ⟨ic,e1,_⟩:=h.x1
 exact ⟨(lO h.x0),(lO e1),(lO h.x2)⟩
theorem BF.ne {B B1 gb gi gc:Nat} {w:World} {l:List It} {cv:List Value} (h:BF B B1 w gb gi gc l cv):gi≠gb∧gc≠gb∧gc≠gi:=by
 obtain ⟨ic,e1,_⟩:=h.x1
 have e0:=h.x0
 have e2:=h.x2
 refine ⟨fun q=>?_,fun q=>?_,fun q=>?_⟩
 ·rw [q,e0] at e1
  simp only [oI,cI] at e1
  exact absurd e1.2.1 (by decide)
 ·rw [q,e0] at e2
  simp only [oI,cI] at e2
  exact absurd e2.2.1 (by decide)
 ·rw [q,e1] at e2
  simp only [oI,cI] at e2
  exact absurd e2.2.1 (by decide)
theorem FS.ft {B B1 gb gi gc:Nat} {w w':World} {l:List It} {cv:List Value} (f:FS B [gb,gi,gc] w w') (h:BF B B1 w gb gi gc l cv):FT B w w':=by
 obtain ⟨ic,e1,_⟩:=h.x1
 refine ⟨f.1,fun k cs fz e=>f.2 k cs _ fz e (by decide) (by decide) fun q=>?_⟩
 simp only [List.mem_cons,List.not_mem_nil,or_false] at q
 rcases q with rfl | rfl | rfl
 ·rw [h.x0] at e
  simp only [oI,cI] at e
  exact absurd e.2.1 (by decide)
 ·rw [e1] at e
  simp only [oI,cI] at e
  exact absurd e.2.1 (by decide)
 ·rw [h.x2] at e
  simp only [oI,cI] at e
  exact absurd e.2.1 (by decide)
end Go.Proofs.YtibfkdjbnaeneaaGreat
