import Derived.Test.YtibfkdjbnaeneaaGreatZ34
import Derived.Lib.Overlaps
import Derived.Test.YtibfkdjbnaeneaaGreatZ31
set_option maxRecDepth 100000
set_option maxHeartbeats 16000000
set_option linter.unusedVariables false
namespace Go.Proofs.YtibfkdjbnaeneaaGreat
open Go.RowKit
theorem ItC.app {B:Nat} {w:World} {ys zs:List Value} {l m:List It} (h:ItC B w ys l) (k:ItC B w zs m):ItC B w (ys++zs) (l++m):=by
 have h1:=h.1
 have k1:=k.1
 refine ⟨by rw [lA,lA,h1,k1];omega,fun i it hi=>?_⟩
 by_cases q:i<l.length
 ·rw [List.getElem?_append_left q] at hi
  obtain ⟨a,c,b,d,e1,e2,e3,e4⟩:=h.2 i it hi
  exact ⟨a,c,b,d,by rw [List.getElem?_append_left (by omega)];exact e1,by rw [List.getElem?_append_left (by omega)];exact e2,e3,e4⟩
 ·rw [List.getElem?_append_right (by omega)] at hi
  obtain ⟨a,c,b,d,e1,e2,e3,e4⟩:=k.2 _ it hi
  refine ⟨a,c,b,d,?_,?_,e3,e4⟩
  ·rw [List.getElem?_append_right (by omega),show i*2-ys.length=(i-l.length)*2 by omega]
   exact e1
  ·rw [List.getElem?_append_right (by omega),show i*2+1-ys.length=(i-l.length)*2+1 by omega]
   exact e2
theorem ItC.take {B n:Nat} {w:World} {ys:List Value} {l:List It} (h:ItC B w ys l):ItC B w (ys.take (n*2)) (l.take n):=by
 have h1:=h.1
 refine ⟨by rw [List.length_take,List.length_take,h1];omega,fun i it hi=>?_⟩
 have hlt:=(lL hi)
 rw [List.length_take] at hlt
 rw [List.getElem?_take_of_lt (by omega)] at hi
 obtain ⟨a,c,b,d,e1,e2,e3,e4⟩:=h.2 i it hi
 exact ⟨a,c,b,d,by rw [List.getElem?_take_of_lt (by omega)];exact e1,by rw [List.getElem?_take_of_lt (by omega)];exact e2,e3,e4⟩
theorem ItC.drop {B n:Nat} {w:World} {ys:List Value} {l:List It} (h:ItC B w ys l):ItC B w (ys.drop (n*2)) (l.drop n):=by
 have h1:=h.1
 refine ⟨by rw [List.length_drop,List.length_drop,h1];omega,fun i it hi=>?_⟩
 rw [List.getElem?_drop] at hi
 obtain ⟨a,c,b,d,e1,e2,e3,e4⟩:=h.2 _ it hi
 exact ⟨a,c,b,d,by rw [List.getElem?_drop,show n*2+i*2=(n+i)*2 by omega];exact e1,by rw [List.getElem?_drop,show n*2+(i*2+1)=(n+i)*2+1 by omega];exact e2,e3,e4⟩
theorem IV.at {B B1:Nat} {w:World} {iv:Value} {l:List It} (j:Nat) (h:IV B B1 w iv l) (hj:j<l.length):∃ gq oq cq it ka kc va vc,iv=.slice (some ⟨gq,oq,none⟩) l.length cq∧l.length≤cq∧l[j]?=some it∧w.cell? ⟨gq,oq+j*2,none⟩=some (.slice ka it.1.length kc)∧w.cell? ⟨gq,oq+j*2+1,none⟩=some (.slice va it.2.length vc)∧BK B w ka it.1.length kc it.1∧BK B w va it.2.length vc it.2:=by
 obtain ⟨a,c,h1,h2,h3,h4,h6⟩:=h
 obtain ⟨x,rfl⟩:∃ x,a=some x:=by
  cases a with
  | none=>have:=h4 rfl;omega
  | some x=>exact ⟨x,rfl⟩
 obtain ⟨g,o,rfl,hB,hcs,hI⟩:=h6 x rfl
 obtain ⟨it,hit⟩:∃ it,l[j]?=some it:=⟨_,gE hj⟩
 obtain ⟨ka,kc,va,vc,q1,q2,q3,q4⟩:=hI j it hit
 exact ⟨g,o,c,it,ka,kc,va,vc,h1,h2,hit,q1,q2,q3,q4⟩
end Go.Proofs.YtibfkdjbnaeneaaGreat
