import Derived.Test.YtmmcebojbbdfmaaGreatY28
import Derived.Test.YtmmcebojbbdfmaaGreatY27
import Derived.Deep.SlicePairs
set_option maxRecDepth 100000
set_option maxHeartbeats 16000000
namespace Go.Proofs.YtmmcebojbbdfmaaGreat
open Go.ChangeShapes Go.WideShapes Go.ChangeAt Go.RowKit
variable {H:Type} {W:World} {j:Nat} {s:ByteArray} {t:TypeId}
set_option linter.unusedVariables false
theorem bulk_mem {H:Type} {l:List (DataW H)} {d:DataW H} (h:d∈l):Rows.uptoBulk d<=Rows.uptoBulkAll l:=by
 obtain ⟨j,hj⟩:=List.getElem?_of_mem h;exact aCv hj
theorem aC5:(Tryz.prog.fieldsOf 109).toList.map (fun f=>(f.type,f.offset))=[(9,0),(3,1),(3,2)]:=by kernel_rfl
theorem under_col:Tryz.prog.underlying 109=some (.struct (Tryz.prog.fieldsOf 109)):=by kernel_rfl
theorem aEv:(Tryz.prog.fieldsOf 111).toList.map (fun f=>(f.type,f.offset))=[(3,0),(4,1)]:=by kernel_rfl
theorem under_ix:Tryz.prog.underlying 111=some (.struct (Tryz.prog.fieldsOf 111)):=by kernel_rfl
theorem aC3:(Tryz.prog.fieldsOf 73).toList.map (fun f=>(f.type,f.offset))=[(3,0),(3,1),(9,2)]:=by kernel_rfl
theorem under_val:Tryz.prog.underlying 73=some (.struct (Tryz.prog.fieldsOf 73)):=by kernel_rfl
theorem aC4:(Tryz.prog.fieldsOf 71).toList.map (fun f=>(f.type,f.offset))=[(9,0),(68,1),(69,2)]:=by kernel_rfl
theorem under_sch:Tryz.prog.underlying 71=some (.struct (Tryz.prog.fieldsOf 71)):=by kernel_rfl
theorem aAk {l:List (TypeId×Nat)} (h:(Tryz.prog.fieldsOf t).toList.map (fun f=>(f.type,f.offset))=l) {i:Nat} {e:TypeId} {o:Nat} (hi:l[i]?=some (e,o)):∃ f,(Tryz.prog.fieldsOf t)[i]?=some f/\f.type=e/\f.offset=o:=by
 rw [<-h,List.getElem?_map] at hi
 cases hf:(Tryz.prog.fieldsOf t).toList[i]? with
 | none=>rw [hf] at hi;cases hi
 | some f =>
  rw [hf] at hi;simp only [Option.map_some,oI,Prod.mk.injEq] at hi;exact ⟨f,by simpa using hf,hi.1,hi.2⟩
theorem aB2 {z:Int} (h:(Lit.int .i64 z).wf=true):-9223372036854775808<=z/\z<=9223372036854775807:=by simpa [Lit.wf,IntKind.min,IntKind.max,IntKind.signed,IntKind.bits] using h
theorem lst3 {α:Type} {l:List α} (h:l.length=3):∃ a b c,l=[a,b,c]:=by
 match l,h with
 | [a,b,c],_=>exact ⟨a,b,c,rfl⟩
theorem lst2 {α:Type} {l:List α} (h:l.length=2):∃ a b,l=[a,b]:=by
 match l,h with
 | [a,b],_=>exact ⟨a,b,rfl⟩
def ColP (x:Col):Prop:=x.1.size<=1048576/\(-9223372036854775808<=x.2.1/\x.2.1<=9223372036854775807)/\(-9223372036854775808<=x.2.2/\x.2.2<=9223372036854775807)
def IdxP (x:Idx):Prop:=-9223372036854775808<=x.1/\x.1<=9223372036854775807
def ValP (x:Val):Prop:=x.ok/\x.2.2.size<=1048576
theorem aB8 {H:Type} {l:List (DataW H)} {d:DataW H} (h:l[j]?=some d) (hb:Rows.uptoBulk (.agg l)<=1048576):Rows.uptoBulk d<=1048576:=by
 have:=aCv h;simp only [Rows.uptoBulk] at hb;omega
theorem str_le (hb:Rows.uptoBulk (H:=H) (.lit (.string s.data.toList))<=1048576):s.size<=1048576:=by
 simp only [Rows.uptoBulk,size_of_list] at hb;omega
theorem open_col {enc:TypeId×Value->H} (n:Nat) (cs:List Value) (x:DataW H×List MemPlace) (hl:cs.length=3)
  (h:DataW.trod enc Tryz.prog W 0 (fun _=>true) true n 109 cs=some x) (hb:Rows.uptoBulk x.1<=1048576):∃ y,cs=fC y/\ColP y:=by
 have ci:Tryz.prog.cellsOf 3=1:=by kernel_rfl
 have cs1:Tryz.prog.cellsOf 9=1:=by kernel_rfl
 obtain ⟨u0,u1,u2,rfl⟩:=lst3 hl;obtain ⟨xs,k,_,hxy,_,hxl,hff⟩:=DataW.trod_struct under_col h;obtain ⟨f0,g0,t0,o0⟩:=aAk aC5 (i:=0) rfl;obtain ⟨f1,g1,t1,o1⟩:=aAk aC5 (i:=1) rfl;obtain ⟨f2,g2,t2,o2⟩:=aAk aC5 (i:=2) rfl;have hsz:xs.length=3:=by
  rw [hxl];have:=congrArg List.length aC5;simpa using this
 obtain ⟨y0,y1,y2,rfl⟩:=lst3 hsz;have s0:=hff 0 f0 g0;have s1:=hff 1 f1 g1;have s2:=hff 2 f2 g2;rw [t0,o0,cs1] at s0;rw [t1,o1,ci] at s1;rw [t2,o2,ci] at s2;simp at s0 s1 s2;obtain ⟨z0,hz0,e0,_⟩:=DataW.trod_string Tryz.underlying9 s0;obtain ⟨z1,hz1,_,w1⟩:=DataW.trod_int Tryz.underlying3 s1;obtain ⟨z2,hz2,_,w2⟩:=DataW.trod_int Tryz.underlying3 s2;simp only [List.cons.injEq,and_true] at hz0 hz1 hz2;subst hz0 hz1 hz2;have hd:x.1=.agg [y0.1,y1.1,y2.1]:=by rw [hxy];simp
 rw [hd] at hb;have b0:=aB8 (j:=0) rfl hb;rw [e0] at b0;exact ⟨(z0,z1,z2),rfl,str_le b0,aB2 w1,aB2 w2⟩
theorem aEh {enc:TypeId×Value->H} (n:Nat) (cs:List Value) (x:DataW H×List MemPlace) (hl:cs.length=3)
  (h:DataW.trod enc Tryz.prog W 0 (fun _=>true) true n 73 cs=some x) (hb:Rows.uptoBulk x.1<=1048576):∃ y,cs=fV y/\ValP y:=by
 have ci:Tryz.prog.cellsOf 3=1:=by kernel_rfl
 have cs1:Tryz.prog.cellsOf 9=1:=by kernel_rfl
 obtain ⟨u0,u1,u2,rfl⟩:=lst3 hl;obtain ⟨xs,k,_,hxy,_,hxl,hff⟩:=DataW.trod_struct under_val h;obtain ⟨f0,g0,t0,o0⟩:=aAk aC3 (i:=0) rfl;obtain ⟨f1,g1,t1,o1⟩:=aAk aC3 (i:=1) rfl;obtain ⟨f2,g2,t2,o2⟩:=aAk aC3 (i:=2) rfl;have hsz:xs.length=3:=by
  rw [hxl];have:=congrArg List.length aC3;simpa using this
 obtain ⟨y0,y1,y2,rfl⟩:=lst3 hsz;have s0:=hff 0 f0 g0;have s1:=hff 1 f1 g1;have s2:=hff 2 f2 g2;rw [t0,o0,ci] at s0;rw [t1,o1,ci] at s1;rw [t2,o2,cs1] at s2;simp at s0 s1 s2;obtain ⟨z0,hz0,_,w0⟩:=DataW.trod_int Tryz.underlying3 s0;obtain ⟨z1,hz1,_,w1⟩:=DataW.trod_int Tryz.underlying3 s1;obtain ⟨z2,hz2,e2,_⟩:=DataW.trod_string Tryz.underlying9 s2;simp only [List.cons.injEq,and_true] at hz0 hz1 hz2;subst hz0 hz1 hz2;have hd:x.1=.agg [y0.1,y1.1,y2.1]:=by rw [hxy];simp
 rw [hd] at hb;have b2:=aB8 (j:=2) rfl hb;rw [e2] at b2;have i0:=aB2 w0;have i1:=aB2 w1;have hs2:=str_le b2;exact ⟨(z0,z1,z2),rfl,⟨i0.1,i0.2,i1.1,i1.2,by simp only;omega⟩,hs2⟩
theorem open_ix {enc:TypeId×Value->H} (n:Nat) (cs:List Value) (x:DataW H×List MemPlace) (hl:cs.length=2)
  (h:DataW.trod enc Tryz.prog W 0 (fun _=>true) true n 111 cs=some x) (hb:Rows.uptoBulk x.1<=1048576):∃ y,cs=fX y/\IdxP y:=by
 have ci:Tryz.prog.cellsOf 3=1:=by kernel_rfl
 have cb:Tryz.prog.cellsOf 4=1:=by kernel_rfl
 obtain ⟨u0,u1,rfl⟩:=lst2 hl;obtain ⟨xs,k,_,hxy,_,hxl,hff⟩:=DataW.trod_struct under_ix h;obtain ⟨f0,g0,t0,o0⟩:=aAk aEv (i:=0) rfl;obtain ⟨f1,g1,t1,o1⟩:=aAk aEv (i:=1) rfl;have hsz:xs.length=2:=by
  rw [hxl];have:=congrArg List.length aEv;simpa using this
 obtain ⟨y0,y1,rfl⟩:=lst2 hsz;have s0:=hff 0 f0 g0;have s1:=hff 1 f1 g1;rw [t0,o0,ci] at s0;rw [t1,o1,cb] at s1;simp at s0 s1;obtain ⟨z0,hz0,_,w0⟩:=DataW.trod_int Tryz.underlying3 s0;obtain ⟨z1,hz1,_⟩:=DataW.trod_bool Tryz.underlying4 s1;simp only [List.cons.injEq,and_true] at hz0 hz1;subst hz0 hz1;exact ⟨(z0,z1),rfl,aB2 w0⟩
structure SchP (s:Sch):Prop where
 nm:s.nm.size<=1048576
 cs:∀ x∈s.cs,ColP x
 xs:∀ x∈s.xs,IdxP x
end Go.Proofs.YtmmcebojbbdfmaaGreat
