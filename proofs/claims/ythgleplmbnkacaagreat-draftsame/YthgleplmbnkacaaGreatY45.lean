import Derived.Test.YthgleplmbnkacaaGreatY44
import Derived.Maps.RangeWalk
import Derived.Maps.OwnSet
import Derived.StringKeys
set_option maxRecDepth 100000
set_option maxHeartbeats 16000000
set_option linter.unusedVariables false
namespace Go.Proofs.YthgleplmbnkacaaGreat
open Go.RowKit
def kl (xs:List Nat):Lit:=.string (str xs).data.toList
theorem str_list (xs:List Nat):(str xs).data.toList=xs.map UInt8.ofNat:=by
 simp [str,strOfNums,Function.comp_def]
theorem kl_inj {a b:List Nat} (ha:∀ n∈a,n<256) (hb:∀ n∈b,n<256) (h:kl a=kl b):a=b:=by
 unfold kl at h
 rw [str_list,str_list] at h
 have h:=Lit.string.inj h
 have as8:∀ {a:List Nat},(∀ n∈a,n<256)→(a.map UInt8.ofNat).map UInt8.toNat=a:=by
  intro a h
  rw [List.map_map]
  conv=>rhs;rw [←List.map_id a]
  apply List.map_congr_left
  intro n hn
  have:=h n hn
  simp only [Function.comp,UInt8.toNat_ofNat',id]
  omega
 rw [←as8 ha,←as8 hb,h]
def RH (v:Value):Option (DataW Value×List MemPlace):=some (.held v,[])
structure MP (B b n:Nat) (l:List Ch) (w:World) (D:DataW Value):Prop where
 own:w.ownsMap Tryz.prog 9 RH b n D
 at_:∀ c∈l,∃ x,EvC B w x c∧∀ z,D.atKey (kl c.key) z=.held (.agg (f4 x).toArray)
 has:∀ k,Maps.has D k=true→∃ c∈l,k=kl c.key
 srt:SrC l
 siz:Maps.size D=l.length
theorem keyedS:Maps.Keyed Tryz.prog 9:=Maps.string_keyed Tryz.underlying9
theorem grown_of {w w':World} (h:Below w.heap.size w w'):w.grownBy w' none:=⟨h.os,h.tape,h.output,h.size,fun i hi _=>h.block i hi⟩
section
variable {B b n:Nat} {l:List Ch} {w w':World} {D:DataW Value}
theorem EvC.byte {x:CE} {c:Ch} (h:EvC B w x c):∀ n∈c.key,n<256:=by
 obtain ⟨_,⟨_,_,_,hb⟩,_⟩:=h
 exact hb.1.hbyte
theorem MP.byte (h:MP B b n l w D) {c:Ch} (hc:c∈l):∀ n∈c.key,n<256:=by
 obtain ⟨x,hx,_⟩:=h.at_ c hc
 exact hx.byte
theorem MP.bw (h:MP B b n l w D):b<w.heap.size:=h.own.lt
theorem MP.later (h:MP B b n l w D) (hb:Below w.heap.size w w') (hB:B≤w.heap.size):MP B b n l w' D :=
 ⟨h.own.kept (grown_of hb) (by simp),fun c hc=>by
  obtain ⟨x,h1,h2⟩:=h.at_ c hc
  exact ⟨x,h1.ft (FT.of hb hB),h2⟩,h.has,h.srt,h.siz⟩
theorem MP.made (B:Nat) (w:World):MP B w.heap.size 0 [] (w.alloc (.map #[] 0)) (.map []) :=
 ⟨World.ownsMap_made w _ _ _,(fun c hc=>by simp at hc),(fun k hk=>by simp [Maps.has] at hk),List.Pairwise.nil,rfl⟩
theorem ft_map {es:Array MapEntry} {ck:Nat} (hg:w.grownBy w' (some b)) (hm:w.heap[b]?=some (.map es ck)) (hB:B≤b):FT B w w':=by
 have hs:=(lO hm)
 refine ⟨⟨hg.os,hg.tape,hg.output,hg.size,fun i hi=>hg.block i (by omega) (fun e=>by simp at e;omega)⟩,fun i cs fz e=>?_⟩
 rw [hg.block i (lO e) (fun q=>?_),e]
 simp at q
 subst q
 rw [hm] at e
 cases e
theorem MP.put (h:MP B b n l w D) {x:CE} {c:Ch} (hx:EvC B w x c) (hB:B≤b) (ho:w'.ownsMap Tryz.prog 9 RH b (n+1) (D.put (kl c.key) (.held (.agg (f4 x).toArray)))) (hg:w.grownBy w' (some b)):MP B b (n+1) (insC c l) w' (D.put (kl c.key) (.held (.agg (f4 x).toArray))):=by
 have ht:=h.own.tidy keyedS
 have hk:Go.WideAt.IsKeyLit (kl c.key):=trivial
 have hft:FT B w w':=by
  obtain ⟨es,ck,hm,_⟩:=h.own
  exact ft_map hg hm hB
 refine ⟨ho,fun d hd=>?_,fun k hk2=>?_,h.srt.ins,?_⟩
 ·rcases (aBj h.srt).1 hd with rfl | ⟨hd,hne⟩
  ·exact ⟨x,hx.ft hft,fun z=>Maps.atKey_put_same ht.isMap hk _ z⟩
  ·obtain ⟨y,h1,h2⟩:=h.at_ d hd
   exact ⟨y,h1.ft hft,fun z=>by rw [Maps.atKey_put_other (fun e=>hne (kl_inj h1.byte hx.byte e))];exact h2 z⟩
 ·by_cases q:k=kl c.key
  ·exact ⟨c,(aBj h.srt).2 (Or.inl rfl),q⟩
  ·rw [Maps.has_put_other q] at hk2
   obtain ⟨d,hd,e⟩:=h.has k hk2
   refine ⟨d,(aBj h.srt).2 (Or.inr ⟨hd,fun e2=>q (by rw [e,e2])⟩),e⟩
 ·rw [Maps.size_put ht,h.siz]
  have hin:Maps.has D (kl c.key)=true↔∃ d∈l,d.key=c.key:=by
   constructor
   ·intro q
    obtain ⟨d,hd,e⟩:=h.has _ q
    exact ⟨d,hd,(kl_inj hx.byte (h.byte hd) e).symm⟩
   ·rintro ⟨d,hd,e⟩
    obtain ⟨y,_,h2⟩:=h.at_ d hd
    rw [←e]
    exact Maps.has_true_of_atKey h2
  have hlen:∀ {l:List Ch},SrC l→(insC c l).length=if (∃ d∈l,d.key=c.key) then l.length else l.length+1:=by
   intro l
   induction l with
   | nil=>intro _;simp [insC]
   | cons e l ih =>
    intro hs
    have h1:=(List.pairwise_cons.1 hs).1
    have ih:=ih (List.pairwise_cons.1 hs).2
    have lt_ne:∀ {a b:List Nat},cmpB a b<0→b≠a:=fun q e=>by rw [e,aAi] at q;omega
    unfold insC
    by_cases q1:cmpB c.key e.key<0
    ·rw [if_pos q1,if_neg ?_]
     ·simp
     ·rintro ⟨d,hd,e2⟩
      rcases List.mem_cons.1 hd with rfl | hd
      ·exact lt_ne q1 e2
      ·exact lt_ne (aAq q1 (h1 d hd)) e2
    ·rw [if_neg q1]
     by_cases q2:cmpB c.key e.key=0
     ·rw [if_pos q2,if_pos ⟨e,List.mem_cons_self,(aBu q2).symm⟩]
      simp
     ·rw [if_neg q2,List.length_cons,ih]
      have iff:(∃ d∈e::l,d.key=c.key)↔∃ d∈l,d.key=c.key:=by
       constructor
       ·rintro ⟨d,hd,e2⟩
        rcases List.mem_cons.1 hd with rfl | hd
        ·exact absurd (by rw [e2,aAi]) q2
        ·exact ⟨d,hd,e2⟩
       ·rintro ⟨d,hd,e2⟩
        exact ⟨d,List.mem_cons_of_mem _ hd,e2⟩
      by_cases q3:∃ d∈l,d.key=c.key
      ·rw [if_pos q3,if_pos (iff.2 q3)];simp
      ·rw [if_neg q3,if_neg (fun q=>q3 (iff.1 q))];simp
  rw [hlen h.srt]
  by_cases q:Maps.has D (kl c.key)=true
  ·rw [if_pos q,if_pos (hin.1 q)]
  ·rw [if_neg q,if_neg (fun e=>q (hin.2 e))]
end
end Go.Proofs.YthgleplmbnkacaaGreat
