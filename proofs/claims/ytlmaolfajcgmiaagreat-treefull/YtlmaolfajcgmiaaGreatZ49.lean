import Derived.Test.YtlmaolfajcgmiaaGreatZ47
import Derived.Test.YtlmaolfajcgmiaaGreatZ46
set_option maxRecDepth 100000
set_option maxHeartbeats 16000000
set_option linter.unusedVariables false
namespace Go.Proofs.YtlmaolfajcgmiaaGreat
open Go.RowKit
theorem cnt_bsum:∀ (l:List Nat),cntF l=bsum (fun i=>decide (l.getD i 0=1)) l.length
 | []=>rfl
 | a::l=>by
  have ih:=cnt_bsum l
  unfold cntF at ih ⊢
  rw [List.length_cons,Nat.add_comm l.length 1,aBp,List.count_cons,ih]
  have e1:bsum (fun i=>decide ((a::l).getD i 0=1)) 1=if a == 1 then 1 else 0:=by
   show 0+(decide (a=1)).toNat=_
   by_cases c:a=1
   ·simp [c]
   ·simp [c]
  have e2:bsum (fun i=>decide ((a::l).getD (1+i) 0=1)) l.length=bsum (fun i=>decide (l.getD i 0=1)) l.length:=aCb fun i _=>by
   show decide ((a::l).getD (1+i) 0=1)=_
   rw [Nat.add_comm 1 i]
   rfl
  rw [e1,e2,Nat.add_comm]
theorem aGc {f g k:Nat→Bool}:∀ {n:Nat},(∀ i,i<n→(f i).toNat+(g i).toNat+(k i).toNat=1)→bsum f n+bsum g n+bsum k n=n
 | 0,_=>rfl
 | n+1,h=>by
  have ih:=aGc (n:=n) fun i hi=>h i (by omega)
  have h1:=h n (by omega)
  show bsum f n+(f n).toNat+(bsum g n+(g n).toNat)+(bsum k n+(k n).toNat)=n+1
  omega
theorem Cmt.count {s s':DS} {t t':PS} {nd L:List Nat} {root:Nat} (c:Cmt s t nd root s' t') (h:Full3 t) (hn:PgS nd L) (hL:∀ x∈L,t.st.getD x 0=2∧x<t.st.length) (hd0:t.st.getD 0 0=0∧t.st.getD 1 0=0) (hd:t'.st.getD 0 0=0∧t'.st.getD 1 0=0) (h2:2≤t.st.length):cntF t'.st+L.length+2=t.st.length:=by
 have b1:bsum (fun j=>decide (j∈L)) t.st.length=L.length:=aFl hn.2.1 fun x hx=>(hL x hx).2
 have b2:bsum (fun j=>decide (j∈[0,1])) t.st.length=2:=aFl (l:=[0,1]) (by decide) fun x hx=>by
  simp at hx
  omega
 have b3:=cnt_bsum t'.st
 rw [c.len] at b3
 rw [b3,←b1,←b2]
 conv=>lhs;arg 2;rw [b2]
 have:=aGc (f:=fun i=>decide (t'.st.getD i 0=1)) (g:=fun j=>decide (j∈L)) (k:=fun j=>decide (j∈[0,1])) (n:=t.st.length) fun i hi=>?_
 ·rw [b2] at this
  rw [this]
 ·have e:=c.st i hi
  show (decide (t'.st.getD i 0=1)).toNat+(decide (i∈L)).toNat+(decide (i∈[0,1])).toNat=1
  by_cases q2:i<2
  ·have hi0:t'.st.getD i 0=0∧t.st.getD i 0=0:=by
    rcases (show i=0∨i=1 by omega) with rfl | rfl
    ·exact ⟨hd.1,hd0.1⟩
    ·exact ⟨hd.2,hd0.2⟩
   have m1:i∉L:=fun q=>by have:=(hL i q).1;omega
   have m2:i∈[0,1]:=by simp;omega
   rw [hi0.1,decide_eq_false m1,decide_eq_true m2]
   rfl
  ·have m2:i∉[0,1]:=by simp;omega
   rw [decide_eq_false m2]
   by_cases q:i∈L
   ·have h9:=(hL i q).1
    have hh:hsP nd i=true:=by rw [hn.2.2.2 i];exact decide_eq_true q
    rw [if_neg (by rintro (q9 | ⟨_,q9,_⟩)<;>simp_all)] at e
    rw [e,h9,decide_eq_true q]
    rfl
   ·have hh:hsP nd i=false:=by rw [hn.2.2.2 i];exact decide_eq_false q
    have e1:t'.st.getD i 0=1:=by
     rw [e]
     rcases h i (by omega) hi with q9 | q9 | q9
     ·rw [if_neg (by rintro (q8 | q8)<;>omega),q9]
     ·rw [if_pos (Or.inr ⟨by omega,hh,q9⟩)]
     ·rw [if_pos (Or.inl q9)]
    rw [e1,decide_eq_false q]
    rfl
theorem pg_le:∀ {h:Nat} {b:BT h},ShB h b→1≤(BT.it b).length→(pgB h b).length≤(flB h b).length
 | 0,b,hs,h2=>h2
 | h+1,b,⟨s1,s2,s3⟩,h2=>by
  have h2:1≤b.2.1.length:=h2
  have hw:(flB (h+1) b).length=b.2.1.length+((b.2.2.map (flB h)).map List.length).sum:=aBf _ _ (by rw [List.length_map];exact s2)
  have key:∀ (c:List (BT h)),(∀ k∈c,ShB h k∧2≤(BT.it k).length)→(c.map (pgB h)).flatten.length≤((c.map (flB h)).map List.length).sum:=by
   intro c
   induction c with
   | nil=>intro _;simp
   | cons k c ih =>
    intro hc
    have i1:=ih fun x hx=>hc x (List.mem_cons_of_mem _ hx)
    obtain ⟨a1,a2⟩:=hc k List.mem_cons_self
    have i2:=pg_le a1 (by omega)
    simp only [List.map_cons,List.flatten_cons,lA,List.sum_cons]
    omega
  have hk:=key b.2.2 s3
  show (b.1::(b.2.2.map (pgB h)).flatten).length≤_
  rw [List.length_cons,hw]
  omega
structure Shp (n:Nat) (d:Nat) (P:Nat) (F:Nat) (M:Nat):Prop where
 pn:P≤n
 ls:0<d→2*3 ^ (d-1)≤n+1
 all:F+P+2=M
theorem Tr.shp {s s':DS} {t t':PS} {st:StT} {l:List It} (h:Tr s t st l) (hsn:t.st.length=s.n) (c:Cmt s t st.pgs st.root.toNat s' t') (f:Full3 t) (hd0:t.st.getD 0 0=0∧t.st.getD 1 0=0) (hd:t'.st.getD 0 0=0∧t'.st.getD 1 0=0) (h2:2≤t.st.length) :
  ∃ (d:Nat) (L:List Nat),st.depth=(d:Int)∧st.keys=((l.length:Nat):Int)∧PgS st.pgs L∧Shp l.length d L.length (cntF t'.st) t.st.length:=by
 have hk:=h.keys
 rcases h with ⟨_,h1,_,rfl,h5⟩ | ⟨h,b,e1,e2,e3,e4,e5,e6,e7,e8,e9⟩
 ·exact ⟨0,[],h1,hk,h5,by simp,fun q=>absurd q (by decide),c.count f h5 (fun x hx=>by simp at hx) hd0 hd h2⟩
 ·refine ⟨h+1,pgB h b,e2,hk,e9,?_,fun _=>?_,c.count f e9 (fun x hx=>?_) hd0 hd h2⟩
  ·rw [←e4];exact pg_le e7 e8
  ·rw [←e4];exact deepR e7 e8
  ·have:=e6.held x hx
   exact ⟨this.1,by rw [hsn];exact this.2⟩
end Go.Proofs.YtlmaolfajcgmiaaGreat
