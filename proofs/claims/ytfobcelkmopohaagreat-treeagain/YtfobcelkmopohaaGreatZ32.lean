import Derived.Test.YtfobcelkmopohaaGreatZ29
import Derived.Deep.RegionLaw
set_option maxRecDepth 100000
set_option maxHeartbeats 16000000
set_option linter.unusedVariables false
namespace Go.Proofs.YtfobcelkmopohaaGreat
open Go.RowKit
theorem aCk {w:World} {g o:Nat} {t:TypeId} {cur:Array Value} {vs:List Value} (hg:w.heap[g]?=some (.cells cur t (0,0))) (hl:o+vs.length<=cur.size) (h1:∀ v∈vs,v.oneCell'=true):w.setCells g o vs=w.setRow g (cur.toList.take o++vs++cur.toList.drop (o+vs.length)).toArray:=by
 have a1:=run_storeCells_cells (P:=Tryz.prog) g o vs 0 w (fun j hj=>by rw [aAa hg,Array.getElem?_eq_getElem (by omega)];rfl) (fun j hj=>aAc hg) h1
 have a2:=run_storeCells_at Tryz.prog g o t vs 0 cur w hg (by omega) h1
 rw [a1] at a2
 simp only [Result.ok.injEq,true_and,Nat.add_zero] at a2
 exact a2
theorem aGq {w:World} {g o c:Nat} {ty:TypeId} {cur:Array Value} (hg:w.heap[g]?=some (.cells cur 69 (0,0))) (hl:o+2<=cur.size) :
  (Builtin.clear_ #[118] ty #[.slice (some ⟨g,o,none⟩) 1 c]).run Tryz.prog w=.ok (.tuple #[]) (w.setRow g (cur.toList.take o++[Value.slice none 0 0,Value.slice none 0 0]++cur.toList.drop (o+2)).toArray):=by
 have hst:=run_storeCells_at Tryz.prog g o 69 [Value.slice none 0 0,Value.slice none 0 0] 0 cur w hg (by simpa using hl) (by intro v hv;simp at hv;subst hv;rfl)
 obtain ⟨i0,hi0,hz0,hz1,hz2⟩:=info_parts aBk
 have hz:(zeroValue 69).run Tryz.prog w=.ok (.agg #[.slice none 0 0,.slice none 0 0]) w:=by
  simp [zeroValue,typeInfo,hi0,hz0]
 have hzc:(Builtin.zeroCells (Value.agg #[.slice none 0 0,.slice none 0 0]).cells 1).toList=[Value.slice none 0 0,Value.slice none 0 0]:=by
  apply List.ext_getElem?
  intro i
  match i with
  | 0=>simp [Builtin.zeroCells,Value.cells]
  | 1=>simp [Builtin.zeroCells,Value.cells]
  | i+2=>simp [Builtin.zeroCells,Value.cells]
 simp only [Nat.add_zero,List.length_cons,List.length_nil,Nat.zero_add] at hst
 simp [Builtin.clear_,run_underlying Tryz.underlying118,hz,hzc,hst]
theorem sdel_ok {w:World} {g L i:Nat} {cs:List Value} (hg:w.heap[g]?=some (.cells cs.toArray 69 (0,0))) (hl:cs.length=L*2) (hL:L<=10) (hi:i<L) (h1:∀ u∈cs,u.oneCell'=true) :
  Calls Tryz.prog 80 #[.slice (some ⟨g,0,none⟩) L L,.int .i64 (i:Int),.int .i64 ((i+1:Nat):Int)] w fun e w'=>e=.returned (.slice (some ⟨g,0,none⟩) (L-1) L)/\w'.heap[g]?=some (.cells (cs.take (i*2)++cs.drop ((i+1)*2)++[Value.slice none 0 0,Value.slice none 0 0]).toArray 69 (0,0))/\(∀ k,k≠g->w'.heap[k]?=w.heap[k]?)/\∀ B,B<=g->Below B w w':=by
 obtain ⟨i0,hi0,hz0,hz1,hz2⟩:=info_parts aBk
 obtain ⟨M,rfl⟩:∃ M,L=M+1:=⟨L-1,by omega⟩
 rw [Nat.add_sub_cancel]
 obtain ⟨news,hnews⟩:∃ news,news=cs.drop ((i+1)*2):=⟨_,rfl⟩
 have hlen:news.length=(M-i)*2:=by rw [hnews,List.length_drop];omega
 obtain ⟨A,hA,hsrc⟩:∃ A:Addr,(if M=i then some (⟨g,0,none⟩:Addr) else some ⟨g,(i+1)*2,none⟩)=some A/\Hid (∀ t u,news[t]?=some u->w.drew.cell? (A.add t)=some u):=by
  by_cases h:M=i
  ·refine ⟨⟨g,0,none⟩,by simp [h],fun t u hu=>?_⟩
   have h0:news.length=0:=by rw [hlen];omega
   rw [List.length_eq_zero_iff.1 h0] at hu
   simp at hu
  ·refine ⟨⟨g,(i+1)*2,none⟩,by simp [h],fun t u hu=>?_⟩
   rw [hnews,List.getElem?_drop] at hu
   rw [Addr.add_lit,aAa (show w.drew.heap[g]?=_ from hg),List.getElem?_toArray]
   exact hu
 have s1:Hid (news.length=(M-i)*2):=hlen
 have s2:Hid (∀ u∈news,u.oneCell'=true):=fun u hu=>h1 u (by rw [hnews] at hu;exact List.mem_of_mem_drop hu)
 have s3:Hid (∀ t,t<news.length->(w.drew.cell? ⟨g,0+i*2+t,none⟩).isSome=true/\w.drew.frozen? ⟨g,0+i*2+t,none⟩=false):=by
  intro t ht
  rw [hlen] at ht
  refine ⟨?_,aAc (show w.drew.heap[g]?=_ from hg)⟩
  rw [aAa (show w.drew.heap[g]?=_ from hg),List.getElem?_toArray,gE (by omega)]
  rfl
 have hW1':=aCk (w:=w.drew) (o:=0+i*2) (vs:=news) hg (by rw [hlen];simp;omega) s2.out
 obtain ⟨W1,hW1⟩:∃ W1,W1=w.drew.setCells g (0+i*2) news:=⟨_,rfl⟩
 rw [<-hW1] at hW1'
 have hh1:W1.heap[g]?=some (.cells (cs.take (i*2)++news++cs.drop (i*2+news.length)).toArray 69 (0,0)):=by
  rw [hW1',Nat.zero_add]
  have:=aAy (w:=w.drew) (new:=(cs.toArray.toList.take (i*2)++news++cs.toArray.toList.drop (i*2+news.length)).toArray) hg
  simpa using this
 have hend:((cs.take (i*2)++news++cs.drop (i*2+news.length)).toArray.toList.take (M*2)++[Value.slice none 0 0,Value.slice none 0 0]++(cs.take (i*2)++news++cs.drop (i*2+news.length)).toArray.toList.drop (M*2+2))=cs.take (i*2)++cs.drop ((i+1)*2)++[Value.slice none 0 0,Value.slice none 0 0]:=by
  have ha:(cs.take (i*2)++news).length=M*2:=by rw [lA,List.length_take,hlen];omega
  rw [List.toList_toArray,List.take_left' ha,List.drop_of_length_le (by rw [lA,ha,List.length_drop,hlen];omega),List.append_nil,hnews]
 have hcl:=fun ty=>aGq (ty:=ty) (c:=1) (o:=M*2) hh1 (by simp [hlen];omega)
 rw [hend] at hcl
 generalize hrow:(cs.take (i*2)++cs.drop ((i+1)*2)++[Value.slice none 0 0,Value.slice none 0 0]).toArray=row at *
 have X:Hid (W1=w.drew.setRow g (cs.toArray.toList.take (0+i*2)++news++cs.toArray.toList.drop (0+i*2+news.length)).toArray):=hW1'
 have hW:Hid (W1=w.drew.setCells g (0+i*2) news):=hW1
 have HPO:Hid ((W1.setRow g row).heap[g]?=some (.cells row 69 (0,0))/\(∀ k,k≠g->(W1.setRow g row).heap[k]?=w.heap[k]?)/\∀ B,B<=g->Below B w (W1.setRow g row)):=by
  refine ⟨aAy hh1,fun k hk=>?_,fun B hB=>?_⟩
  ·rw [setRow_other W1 g k row hk,hW1',setRow_other w.drew g k _ hk]
   rfl
  ·refine below_setRow ?_ hB row
   rw [hW1']
   exact below_setRow ((Below.refl B w).drew) hB _
 have eL:i+(M-i)=M:=by omega
 have hic:(i:Int)<=(M:Int)+1:=by omega
 have hjc:i<=M:=by omega
 have k1:(0:Int)<=(i:Int)+1:=by omega
 have k2:(i:Int)+1<=(M:Int)+1:=by omega
 clear hW1 hW1' hh1 hg hlen hnews hl h1 hend hrow
 go_enter Tryz.func80,Tryz.ntmps80
 go_wp2_with fail
 go_region_law (refine step_append_room rfl (.tmp 22) (.tmp 25) 118 rfl 69 i0 2 Tryz.underlying118 hi0 hz1 g 0 i (M+1) (by simp [Act.eval,Act.put]) A (M-i) (M-i) news (by simp [Act.eval,Act.put]) s1.out hsrc.out s2.out (by omega) s3.out ?_;rw [<-hW.out])
 go_wp2
 go_ret
 exact ⟨rfl,HPO.o⟩
end Go.Proofs.YtfobcelkmopohaaGreat
