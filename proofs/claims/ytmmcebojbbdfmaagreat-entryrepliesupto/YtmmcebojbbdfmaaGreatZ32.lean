import Derived.Test.YtmmcebojbbdfmaaGreatZ28
import Derived.Test.YtmmcebojbbdfmaaGreatZ27
import Derived.Deep.SlicePairs
set_option maxRecDepth 100000
set_option maxHeartbeats 16000000
namespace Go.Proofs.YtmmcebojbbdfmaaGreat
open Go.ChangeShapes Go.WideShapes Go.ChangeAt Go.RowKit
set_option linter.unusedVariables false
theorem bulk_mem {H:Type} {l:List (DataW H)} {d:DataW H} (h:d∈l):Rows.uptoBulk d≤Rows.uptoBulkAll l:=by
 obtain ⟨j,hj⟩:=List.getElem?_of_mem h
 exact aCq hj
theorem open_rows {α:Type} [Inhabited α] {f:α→List Value} {k:Nat} (hk0:0<k) (hk:∀ x,(f x).length=k) {ts te:TypeId} (hu:Tryz.prog.underlying ts=some (.slice te)) (hce:Tryz.prog.cellsOf te=k) {H:Type} {enc:TypeId×Value→H} {W:World} (P:α→Prop)
  (hel:∀ n cs x,cs.length=k→DataW.trod enc Tryz.prog W 0 (fun _=>true) true n te cs=some x→Rows.uptoBulk x.1≤1048576→∃ y,cs=f y∧P y)
  {fuel:Nat} {v:Value} {x0:DataW H×List MemPlace} (hb:Rows.uptoBulk x0.1≤1048576) (hfu:DataW.trod enc Tryz.prog W 0 (fun _=>true) true fuel ts [v]=some x0):∃ a0 len0 cap0 xs,v=.slice a0 len0 cap0∧SV f k W a0 len0 cap0 xs∧∀ x∈xs,P x:=by
 rcases Deep.open_slice hu hfu with ⟨hcs,_⟩ | ⟨a,len,cap,m,n,D,Pl,hcs,hbb,hl,hm,hmm,hx,each⟩
 ·simp only [List.cons.injEq,and_true] at hcs
  subst hcs
  exact ⟨none,0,0,[],rfl,⟨rfl,by omega,by omega,fun _=>rfl,fun h=>by omega⟩,by simp⟩
 ·simp only [List.cons.injEq,and_true] at hcs
  subst hcs
  simp only [if_true] at hmm
  subst hx
  dsimp only at hb
  unfold maxLen at hm
  have hbl:=bulk_length ((List.range len).map D)
  simp only [Rows.uptoBulk,List.length_map,List.length_range] at hb hbl
  have hval:∀ i,i<len→∃ q:α,(∀ t,t<k→W.cell? (a.add (i*k+t))=(f q)[t]?)∧P q:=by
   intro i hi
   obtain ⟨cs',h1,h2⟩:=each i (by omega)
   rw [hce] at h1
   obtain ⟨_,hlen,hcell⟩:=World.cells?_some h1
   have hmem:D i∈(List.range len).map D:=List.mem_map.2 ⟨i,List.mem_range.2 hi,rfl⟩
   have hbm:=bulk_mem hmem
   obtain ⟨y,e,hp⟩:=hel _ _ _ hlen h2 (by show Rows.uptoBulk (D i)≤_;omega)
   refine ⟨y,fun t ht=>?_,hp⟩
   have:=hcell t ht
   rw [Deep.add_add] at this
   rw [this,e]
  obtain ⟨q,hq⟩:=Deep.choose_lt hval
  have hplain:0<len→∃ b o,a=⟨b,o,none⟩∧b<W.heap.size:=by
   intro hp
   obtain ⟨b,o,s⟩:=a
   have hc:=(hq 0 hp).1 0 hk0
   rw [gE (by rw [hk];exact hk0)] at hc
   have hs2:s=none:=by simpa [Addr.add] using World.cell?_spot hc
   subst hs2
   refine ⟨b,o,rfl,?_⟩
   have:=aBv hc
   simpa [Addr.add] using this
  refine ⟨some a,len,cap,(List.range len).map q,rfl,⟨by simp,hl,by omega,(fun e=>by cases e),fun hp=>?_⟩,fun x hx=>?_⟩
  ·obtain ⟨b,o,e,hlt⟩:=hplain hp
   refine ⟨b,o,by rw [e],hlt,fun i x hxi t ht=>?_⟩
   have hi:i<len:=by
    have:=(lL hxi)
    simpa using this
   have hqx:q i=x:=by
    rw [List.getElem?_map,List.getElem?_range hi] at hxi
    simpa using hxi
   have:=(hq i hi).1 t ht
   rw [e,add_plain,hqx,←Nat.add_assoc] at this
   exact this
  ·simp only [List.mem_map,List.mem_range] at hx
   obtain ⟨i,hi,rfl⟩:=hx
   exact (hq i hi).2
theorem aB0:(Tryz.prog.fieldsOf 73).toList.map (fun f=>(f.type,f.offset))=[(3,0),(3,1),(9,2)]:=by kernel_rfl
theorem under_val:Tryz.prog.underlying 73=some (.struct (Tryz.prog.fieldsOf 73)):=by kernel_rfl
theorem aB3 {t:TypeId} {l:List (TypeId×Nat)} (h:(Tryz.prog.fieldsOf t).toList.map (fun f=>(f.type,f.offset))=l) {i:Nat} {e:TypeId} {o:Nat} (hi:l[i]?=some (e,o)):∃ f,(Tryz.prog.fieldsOf t)[i]?=some f∧f.type=e∧f.offset=o:=by
 rw [←h,List.getElem?_map] at hi
 cases hf:(Tryz.prog.fieldsOf t).toList[i]? with
 | none=>rw [hf] at hi;cases hi
 | some f =>
  rw [hf] at hi
  simp only [Option.map_some,oI,Prod.mk.injEq] at hi
  exact ⟨f,by simpa using hf,hi.1,hi.2⟩
theorem ints64 {z:Int} (h:(Lit.int .i64 z).wf=true):-9223372036854775808≤z∧z≤9223372036854775807:=by simpa [Lit.wf,IntKind.min,IntKind.max,IntKind.signed,IntKind.bits] using h
theorem lst3 {α:Type} {l:List α} (h:l.length=3):∃ a b c,l=[a,b,c]:=by
 match l,h with
 | [a,b,c],_=>exact ⟨a,b,c,rfl⟩
def ColP (x:Col):Prop:=x.1.size≤1048576∧(-9223372036854775808≤x.2.1∧x.2.1≤9223372036854775807)∧(-9223372036854775808≤x.2.2∧x.2.2≤9223372036854775807)
def IdxP (x:Idx):Prop:=-9223372036854775808≤x.1∧x.1≤9223372036854775807
def ValP (x:Val):Prop:=x.ok∧x.2.2.size≤1048576
theorem agg_le {H:Type} {l:List (DataW H)} {j:Nat} {d:DataW H} (h:l[j]?=some d) (hb:Rows.uptoBulk (.agg l)≤1048576):Rows.uptoBulk d≤1048576:=by
 have:=aCq h
 simp only [Rows.uptoBulk] at hb
 omega
theorem str_le {H:Type} {s:ByteArray} (hb:Rows.uptoBulk (H:=H) (.lit (.string s.data.toList))≤1048576):s.size≤1048576:=by
 simp only [Rows.uptoBulk,size_of_list] at hb
 omega
theorem open_val {H:Type} {enc:TypeId×Value→H} {W:World} (n:Nat) (cs:List Value) (x:DataW H×List MemPlace) (hl:cs.length=3)
  (h:DataW.trod enc Tryz.prog W 0 (fun _=>true) true n 73 cs=some x) (hb:Rows.uptoBulk x.1≤1048576):∃ y,cs=fV y∧ValP y:=by
 have ci:Tryz.prog.cellsOf 3=1:=by kernel_rfl
 have cs1:Tryz.prog.cellsOf 9=1:=by kernel_rfl
 obtain ⟨u0,u1,u2,rfl⟩:=lst3 hl
 obtain ⟨xs,k,_,hxy,_,hxl,hff⟩:=DataW.trod_struct under_val h
 obtain ⟨f0,g0,t0,o0⟩:=aB3 aB0 (i:=0) rfl
 obtain ⟨f1,g1,t1,o1⟩:=aB3 aB0 (i:=1) rfl
 obtain ⟨f2,g2,t2,o2⟩:=aB3 aB0 (i:=2) rfl
 have hsz:xs.length=3:=by
  rw [hxl]
  have:=congrArg List.length aB0
  simpa using this
 obtain ⟨y0,y1,y2,rfl⟩:=lst3 hsz
 have s0:=hff 0 f0 g0
 have s1:=hff 1 f1 g1
 have s2:=hff 2 f2 g2
 rw [t0,o0,ci] at s0
 rw [t1,o1,ci] at s1
 rw [t2,o2,cs1] at s2
 simp at s0 s1 s2
 obtain ⟨z0,hz0,_,w0⟩:=DataW.trod_int Tryz.underlying3 s0
 obtain ⟨z1,hz1,_,w1⟩:=DataW.trod_int Tryz.underlying3 s1
 obtain ⟨z2,hz2,e2,_⟩:=DataW.trod_string Tryz.underlying9 s2
 simp only [List.cons.injEq,and_true] at hz0 hz1 hz2
 subst hz0 hz1 hz2
 have hd:x.1=.agg [y0.1,y1.1,y2.1]:=by rw [hxy];simp
 rw [hd] at hb
 have b2:=agg_le (j:=2) rfl hb
 rw [e2] at b2
 have i0:=ints64 w0
 have i1:=ints64 w1
 have hs2:=str_le b2
 exact ⟨(z0,z1,z2),rfl,⟨i0.1,i0.2,i1.1,i1.2,by simp only;omega⟩,hs2⟩
structure SchP (s:Sch):Prop where
 nm:s.nm.size≤1048576
 cs:∀ x∈s.cs,ColP x
 xs:∀ x∈s.xs,IdxP x
end Go.Proofs.YtmmcebojbbdfmaaGreat
