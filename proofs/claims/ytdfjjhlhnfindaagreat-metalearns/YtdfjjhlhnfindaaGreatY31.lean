import Derived.Test.YtdfjjhlhnfindaaGreatY28
import Derived.Deep.RegionLaw
set_option maxRecDepth 100000
set_option maxHeartbeats 16000000
set_option linter.unusedVariables false
namespace Go.Proofs.YtdfjjhlhnfindaaGreat
open Go.RowKit Tryz
variable {c g i o:Nat} {cur:Array Value} {ty:TypeId} {w:World}
theorem setCells_row {t:TypeId} {vs:List Value} (hg:w.heap[g]?=some (.cells cur t (0,0))) (hl:o+vs.length<=cur.size) (h1:∀ v∈vs,v.oneCell'=true):w.setCells g o vs=w.setRow g (cur.toList.take o++vs++cur.toList.drop (o+vs.length)).toArray:=by
 have a1:=run_storeCells_cells (P:=prog) g o vs 0 w (fun j hj=>by rw [aAa hg,Array.getElem?_eq_getElem (by omega)];rfl) (fun j hj=>aAb hg) h1;have a2:=run_storeCells_at prog g o t vs 0 cur w hg (by omega) h1;rw [a1] at a2;simp only [Result.ok.injEq,true_and,Nat.add_zero] at a2;exact a2
abbrev lz5:List Value:=[.int .i64 0,.int .i64 0,.int .i64 0,.int .i64 0,.slice none 0 0]
theorem aD0:(prog.info? 70).map (fun i=>(i.zero,i.size,i.bytes))=some (some (.agg #[.int .i64 0,.int .i64 0,.int .i64 0,.int .i64 0,.slice none 0 0]),5,56):=by kernel_rfl
theorem aF9 (hg:w.heap[g]?=some (.cells cur 70 (0,0))) (hl:o+5<=cur.size) :
  (Builtin.clear_ #[39] ty #[.slice (some ⟨g,o,none⟩) 1 c]).run prog w=.ok (.tuple #[]) (w.setRow g (cur.toList.take o++lz5++cur.toList.drop (o+5)).toArray):=by
 have hst:=run_storeCells_at prog g o 70 lz5 0 cur w hg (by simpa using hl) (by intro v hv;simp at hv;rcases hv with rfl | rfl<;>rfl);obtain ⟨i0,hi0,hz0,hz1,hz2⟩:=info_parts aD0;have hz:(zeroValue 70).run prog w=.ok (.agg #[.int .i64 0,.int .i64 0,.int .i64 0,.int .i64 0,.slice none 0 0]) w:=by
  simp [zeroValue,typeInfo,hi0,hz0]
 have hzc:(Builtin.zeroCells (Value.agg #[.int .i64 0,.int .i64 0,.int .i64 0,.int .i64 0,.slice none 0 0]).cells 1).toList=lz5:=by
  apply List.ext_getElem?;intro i
  match i with
  | 0=>simp [Builtin.zeroCells,Value.cells]
  | 1=>simp [Builtin.zeroCells,Value.cells]
  | 2=>simp [Builtin.zeroCells,Value.cells]
  | 3=>simp [Builtin.zeroCells,Value.cells]
  | 4=>simp [Builtin.zeroCells,Value.cells]
  | i+5=>simp [Builtin.zeroCells,Value.cells]
 simp only [Nat.add_zero,List.length_cons,List.length_nil,Nat.zero_add] at hst;simp [Builtin.clear_,run_underlying underlying39,hz,hzc,hst]
theorem ldel_ok {L C:Nat} {cs:List Value} (hg:w.heap[g]?=some (.cells cs.toArray 70 (0,0))) (hl:cs.length=C*5) (hL:L<=C) (hC:C<=9223372036854775807) (hi:i<L) (h1:∀ u∈cs.take (L*5),u.oneCell'=true) :
  Calls prog 40 #[.slice (some ⟨g,0,none⟩) L C,.int .i64 (i:Int),.int .i64 ((i+1:Nat):Int)] w fun e w'=>e=.returned (.slice (some ⟨g,0,none⟩) (L-1) C)/\w'.heap[g]?=some (.cells (cs.take (i*5)++(cs.take (L*5)).drop ((i+1)*5)++lz5++cs.drop (L*5)).toArray 70 (0,0))/\(∀ k,k≠g->w'.heap[k]?=w.heap[k]?)/\∀ B,B<=g->Below B w w':=by
 obtain ⟨i0,hi0,hz0,hz1,hz2⟩:=info_parts aD0;obtain ⟨M,rfl⟩:∃ M,L=M+1:=⟨L-1,by omega⟩;rw [Nat.add_sub_cancel];obtain ⟨news,hnews⟩:∃ news,news=(cs.take ((M+1)*5)).drop ((i+1)*5):=⟨_,rfl⟩;have hlen:news.length=(M-i)*5:=by rw [hnews,List.length_drop,List.length_take];omega
 obtain ⟨A,hA,hsrc⟩:∃ A:Addr,(if C=i+1 then some (⟨g,0,none⟩:Addr) else some ⟨g,(i+1)*5,none⟩)=some A/\Hid (∀ t u,news[t]?=some u->w.drew.cell? (A.add t)=some u):=by
  by_cases h:C=i+1
  ·refine ⟨⟨g,0,none⟩,by simp [h],fun t u hu=>?_⟩;have h0:news.length=0:=by rw [hlen];omega
   rw [List.length_eq_zero_iff.1 h0] at hu;simp at hu
  ·refine ⟨⟨g,(i+1)*5,none⟩,by simp [h],fun t u hu=>?_⟩;have ht:t<(M-i)*5:=by rw [<-hlen];exact (lL hu)
   rw [hnews,List.getElem?_drop,List.getElem?_take_of_lt (by omega)] at hu;rw [Addr.add_lit,aAa (show w.drew.heap[g]?=_ from hg),List.getElem?_toArray];exact hu
 have s1:Hid (news.length=(M-i)*5):=hlen;have s2:Hid (∀ u∈news,u.oneCell'=true):=fun u hu=>h1 u (by rw [hnews] at hu;exact List.mem_of_mem_drop hu)
 have s3:Hid (∀ t,t<news.length->(w.drew.cell? ⟨g,0+i*5+t,none⟩).isSome=true/\w.drew.frozen? ⟨g,0+i*5+t,none⟩=false):=by
  intro t ht;rw [hlen] at ht;refine ⟨?_,aAb (show w.drew.heap[g]?=_ from hg)⟩;rw [aAa (show w.drew.heap[g]?=_ from hg),List.getElem?_toArray,gE (by omega)];rfl
 have hW1':=setCells_row (w:=w.drew) (o:=0+i*5) (vs:=news) hg (by rw [hlen];simp;omega) s2.out;obtain ⟨W1,hW1⟩:∃ W1,W1=w.drew.setCells g (0+i*5) news:=⟨_,rfl⟩;rw [<-hW1] at hW1';have hh1:W1.heap[g]?=some (.cells (cs.take (i*5)++news++cs.drop (i*5+news.length)).toArray 70 (0,0)):=by
  rw [hW1',Nat.zero_add];have:=aCc (w:=w.drew) (new:=(cs.toArray.toList.take (i*5)++news++cs.toArray.toList.drop (i*5+news.length)).toArray) hg;simpa using this
 have hend:((cs.take (i*5)++news++cs.drop (i*5+news.length)).toArray.toList.take (M*5)++lz5++(cs.take (i*5)++news++cs.drop (i*5+news.length)).toArray.toList.drop (M*5+5))=cs.take (i*5)++(cs.take ((M+1)*5)).drop ((i+1)*5)++lz5++cs.drop ((M+1)*5):=by
  have ha:(cs.take (i*5)++news).length=M*5:=by rw [lA,List.length_take,hlen];omega
  have hb:(cs.take (i*5)++news++cs.drop (i*5+news.length)).drop (M*5+5)=cs.drop ((M+1)*5):=by
   have e1:M*5+5=(cs.take (i*5)++news).length+5:=by rw [ha]
   rw [e1,List.drop_length_add_append,List.drop_drop];have e2:i*5+news.length+5=(M+1)*5:=by rw [hlen];omega
   rw [e2]
  rw [List.toList_toArray,List.take_left' ha,hb,hnews]
 have hcl:=fun ty=>aF9 (ty:=ty) (c:=C-M) (o:=M*5) hh1 (by simp [hlen];omega)
 rw [hend] at hcl;generalize hrow:(cs.take (i*5)++(cs.take ((M+1)*5)).drop ((i+1)*5)++lz5++cs.drop ((M+1)*5)).toArray=row at *
 have X:Hid (W1=w.drew.setRow g (cs.toArray.toList.take (0+i*5)++news++cs.toArray.toList.drop (0+i*5+news.length)).toArray):=hW1';have hW:Hid (W1=w.drew.setCells g (0+i*5) news):=hW1;have HPO:Hid ((W1.setRow g row).heap[g]?=some (.cells row 70 (0,0))/\(∀ k,k≠g->(W1.setRow g row).heap[k]?=w.heap[k]?)/\∀ B,B<=g->Below B w (W1.setRow g row)):=by
  refine ⟨aCc hh1,fun k hk=>?_,fun B hB=>?_⟩
  ·rw [setRow_other W1 g k row hk,hW1',setRow_other w.drew g k _ hk];rfl
  ·refine below_setRow ?_ hB row;rw [hW1'];exact below_setRow ((Below.refl B w).drew) hB _
 have eL:i+(M-i)=M:=by omega
 have hic:(i:Int)<=(M:Int)+1:=by omega
 have hjc:i<=M:=by omega
 have k1:(0:Int)<=(i:Int)+1:=by omega
 have k2:(i:Int)+1<=(M:Int)+1:=by omega
 have k3:(M:Int)+1<=(C:Int):=by omega
 have k4:(i:Int)<=(C:Int):=by omega
 have k5:(i:Int)+1<=(C:Int):=by omega
 have k6:(M:Int)<=(C:Int):=by omega
 have k7:¬ C=M:=by omega
 have k8:M+1-M=1:=by omega
 have k9:M+1-(i+1)=M-i:=by omega
 clear hW1 hW1' hh1 hg hlen hnews hl h1 hend hrow;go_enter func40,ntmps40;go_wp2_with fail;go_region_law (refine step_append_room rfl (.tmp 22) (.tmp 25) 39 rfl 70 i0 5 underlying39 hi0 hz1 g 0 i C (by simp [Act.eval,Act.put]) A (M-i) (C-(i+1)) news (by simp [Act.eval,Act.put]) s1.out hsrc.out s2.out (by omega) s3.out ?_;rw [<-hW.out]);go_wp2;go_ret;exact ⟨rfl,HPO.o⟩
end Go.Proofs.YtdfjjhlhnfindaaGreat
