import Derived.Test.YtfobcelkmopohaaGreatZ34
import Derived.Lib.Overlaps
import Derived.Test.YtfobcelkmopohaaGreatZ30
set_option maxRecDepth 100000
set_option maxHeartbeats 16000000
set_option linter.unusedVariables false
namespace Go.Proofs.YtfobcelkmopohaaGreat
open Go.RowKit
theorem insR_mid {w:World} {g gv i M:Nat} {cs tl:List Value} {k v:Value} (hg:w.heap[g]?=some (.cells (cs++tl).toArray 69 (0,0))) (hl:cs.length=M*2) (ht:tl.length=2) (hL:M<=10) (hi:i<M) (hne:gv≠g) (hv:w.heap[gv]?=some (.cells #[k,v] 69 (0,0))) (h1:∀ u∈cs,u.oneCell'=true) (hk1:k.oneCell'=true) (hv1:v.oneCell'=true) :
  Calls Tryz.prog 109 #[.slice (some ⟨g,0,none⟩) M (M+1),.int .i64 (i:Int),.slice (some ⟨gv,0,none⟩) 1 1] w fun e w'=>e=.returned (.slice (some ⟨g,0,none⟩) (M+1) (M+1))/\w'.heap[g]?=some (.cells (cs.take (i*2)++k::v::cs.drop (i*2)).toArray 69 (0,0))/\(∀ k,k≠g->w'.heap[k]?=w.heap[k]?)/\∀ B,B<=g->Below B w w':=by
 have hov:∀ lb cb,(callFunc 131 #[.slice (some ⟨gv,0,none⟩) 1 1,.slice (some ⟨g,(i+1)*2,none⟩) lb cb]).run Tryz.prog w=.ok (.value (.bool false)) w:=fun lb cb=>by
  have hz:∀ w,(Go.sizeOf 69).run Tryz.prog w=.ok 2 w:=by
   intro w
   obtain ⟨i0,hi0,hz0,hz1,hz2⟩:=info_parts aBk
   simp [Go.sizeOf,typeInfo,hi0,hz1]
  rw [run_callFunc_extern Tryz.func131 (by kernel_rfl) (by kernel_rfl) (by kernel_rfl) (e:=Extern.SlicesOverlaps.overlaps #[118,118] #[4]) (by kernel_rfl),
   Lib.run_overlaps_apart w 118 4 69 Tryz.underlying118 2 hz ⟨gv,0,none⟩ ⟨g,(i+1)*2,none⟩ 1 1 lb cb hne 69 69 2 (cs++tl).length (by simp [World.shape?,hv]) (by simp [World.shape?,hg]) (by rw [List.length_append];omega) (aAc hv) (aAc hv)]
  rfl
 have hT:(cs.take (i*2)).length=i*2:=by rw [List.length_take];omega
 have hg0:w.drew.heap[g]?=some (.cells (cs++tl).toArray 69 (0,0)):=hg
 have hdl:(cs.drop (i*2)).length=(M-i)*2:=by rw [List.length_drop];omega
 have hr1:((cs++tl).toArray.toList.take ((i+1)*2)++cs.drop (i*2)++(cs++tl).toArray.toList.drop ((i+1)*2+(cs.drop (i*2)).length))=cs.take ((i+1)*2)++cs.drop (i*2):=by
  have h9:(cs++tl).drop ((i+1)*2+(cs.drop (i*2)).length)=[]:=List.drop_of_length_le (by rw [lA,ht,hl,hdl];omega)
  rw [List.toList_toArray,List.take_append_of_le_length (by omega),h9,List.append_nil]
 have c1:=fun ty c c'=>aA6 w.drew 118 118 ty 69 2 g ((i+1)*2) (M-i) c ⟨g,i*2,none⟩ (M+1-i) c' (cs++tl).toArray 69 (cs.drop (i*2)) Tryz.underlying118 aD1 hg0 (by rw [hdl];congr 1;show _=min _ _;omega) (fun j u hj=>by
  rw [Addr.add_lit,aAa hg0,List.getElem?_toArray,List.getElem?_append_left (by have:=(lL hj);omega),<-List.getElem?_drop]
  exact hj) (by rw [hdl];simp;omega) (fun u hu=>h1 u (List.mem_of_mem_drop hu))
 rw [hr1] at c1
 obtain ⟨W1,hW1⟩:∃ W1,W1=(w.drew.setRow g (cs.take ((i+1)*2)++cs.drop (i*2)).toArray):=⟨_,rfl⟩
 rw [<-hW1] at c1
 have hh1:W1.heap[g]?=some (.cells (cs.take ((i+1)*2)++cs.drop (i*2)).toArray 69 (0,0)):=by rw [hW1];exact aAy hg0
 have hhv:W1.heap[gv]?=some (.cells #[k,v] 69 (0,0)):=by rw [hW1,setRow_other w.drew g gv _ hne];exact hv
 have hr2:((cs.take ((i+1)*2)++cs.drop (i*2)).toArray.toList.take (i*2)++[k,v]++(cs.take ((i+1)*2)++cs.drop (i*2)).toArray.toList.drop (i*2+[k,v].length))=cs.take (i*2)++k::v::cs.drop (i*2):=by
  have ha:(cs.take ((i+1)*2)).length=(i+1)*2:=by rw [List.length_take];omega
  have t1:(cs.take ((i+1)*2)++cs.drop (i*2)).take (i*2)=cs.take (i*2):=by
   rw [List.take_append_of_le_length (by rw [ha];omega),List.take_take,Nat.min_eq_left (by omega)]
  have t2:(cs.take ((i+1)*2)++cs.drop (i*2)).drop (i*2+[k,v].length)=cs.drop (i*2):=List.drop_left' (by rw [ha];simp;omega)
  rw [List.toList_toArray,t1,t2]
  simp
 have c2:=fun ty c=>aA6 W1 118 118 ty 69 2 g (i*2) (M+1-i) c ⟨gv,0,none⟩ 1 1 (cs.take ((i+1)*2)++cs.drop (i*2)).toArray 69 [k,v] Tryz.underlying118 aD1 hh1 (by show 2=Nat.min 1 (M+1-i)*2;rw [show Nat.min 1 (M+1-i)=1 from Nat.min_eq_left (by omega)]) (fun j u hj=>by
  rw [Addr.add_lit,Nat.zero_add,aAa hhv]
  simpa using hj) (by simp;omega) (by intro u hu;simp at hu;rcases hu with rfl | rfl;exact hk1;exact hv1)
 rw [hr2] at c2
 generalize hrow:(cs.take (i*2)++k::v::cs.drop (i*2)).toArray=row at *
 have HPO:Hid ((W1.setRow g row).heap[g]?=some (.cells row 69 (0,0))/\(∀ k,k≠g->(W1.setRow g row).heap[k]?=w.heap[k]?)/\∀ B,B<=g->Below B w (W1.setRow g row)):=by
  refine ⟨aAy hh1,fun k hk=>?_,fun B hB=>?_⟩
  ·rw [setRow_other W1 g k row hk,hW1,setRow_other w.drew g k _ hk]
   rfl
  ·refine below_setRow ?_ hB row
   rw [hW1]
   exact below_setRow ((Below.refl B w).drew) hB _
 have b1:((i:Int) == (M:Int))=false:=by simp;omega
 have hwr:IntKind.i64.wrap ((i:Int)+1)=((i+1:Nat):Int):=by rw [IntKind.wrap_i64];omega
 have k0:(i:Int)<=(M:Int)+1:=by omega
 have k1:(0:Int)<=(i:Int)+1:=by omega
 have k2:(i:Int)+1<=(M:Int)+1:=by omega
 have hMi:i<=M:=by omega
 have hb2:¬ (M=i):=by omega
 have hb4:¬ (M+1=i):=by omega
 clear hW1 hh1 hhv hg hg0 hl ht h1 hrow hv hr1 hr2 hT hdl hk1 hv1
 go_enter Tryz.func109,Tryz.ntmps109
 go_wp2_with (simp only [hov])
 go_region
 go_wp2
 go_ret
 exact ⟨rfl,HPO.o⟩
theorem insR_end {w:World} {g gv M:Nat} {cs tl:List Value} {k v:Value} (hg:w.heap[g]?=some (.cells (cs++tl).toArray 69 (0,0))) (hl:cs.length=M*2) (ht:tl.length=2) (hL:M<=10) (hv:w.heap[gv]?=some (.cells #[k,v] 69 (0,0))) (hk1:k.oneCell'=true) (hv1:v.oneCell'=true) :
  Calls Tryz.prog 109 #[.slice (some ⟨g,0,none⟩) M (M+1),.int .i64 (M:Int),.slice (some ⟨gv,0,none⟩) 1 1] w fun e w'=>e=.returned (.slice (some ⟨g,0,none⟩) (M+1) (M+1))/\w'.heap[g]?=some (.cells (cs++[k,v]).toArray 69 (0,0))/\(∀ k,k≠g->w'.heap[k]?=w.heap[k]?)/\∀ B,B<=g->Below B w w':=by
 obtain ⟨i0,hi0,hz0,hz1,hz2⟩:=info_parts aBk
 have h2:∀ u∈[k,v],u.oneCell'=true:=by
  intro u hu
  simp at hu
  rcases hu with rfl | rfl
  ·exact hk1
  ·exact hv1
 have hr:=fun ty=>run_append_room_cells (P:=Tryz.prog) w 118 ty 69 i0 Tryz.underlying118 hi0 g 0 M (M+1) ⟨gv,0,none⟩ 1 1 [k,v] (by rw [hz1];rfl) (fun j u hj=>by
  rw [Addr.add_lit,Nat.zero_add,aAa hv]
  simpa using hj) h2 (by omega) (fun j hj=>by
  rw [hz1,aAa hg,List.getElem?_toArray,gE (by rw [lA];simp at hj;omega)];rfl) (fun j hj=>aAc hg)
 have hW1':=aCk (w:=w) (o:=0+M*i0.size) (vs:=[k,v]) hg (by rw [hz1,List.size_toArray,lA];simp;omega) h2
 obtain ⟨W1,hW1⟩:∃ W1,W1=w.setCells g (0+M*i0.size) [k,v]:=⟨_,rfl⟩
 rw [<-hW1] at hW1' hr
 have hrow:((cs++tl).toArray.toList.take (0+M*i0.size)++[k,v]++(cs++tl).toArray.toList.drop (0+M*i0.size+[k,v].length))=cs++[k,v]:=by
  have h9:(cs++tl).drop (0+M*i0.size+[k,v].length)=[]:=List.drop_of_length_le (by rw [lA,hz1];simp;omega)
  rw [List.toList_toArray,h9,hz1,Nat.zero_add,List.take_left' hl,List.append_nil]
 rw [hrow] at hW1'
 have HPO:Hid (W1.heap[g]?=some (.cells (cs++[k,v]).toArray 69 (0,0))/\(∀ k,k≠g->W1.heap[k]?=w.heap[k]?)/\∀ B,B<=g->Below B w W1):=by
  rw [hW1']
  exact ⟨aAy hg,fun k hk=>setRow_other w g k _ hk,fun B hB=>below_setRow (Below.refl B w) hB _⟩
 have HR:=zH hr
 clear hW1 hW1' hg hl ht hrow hr hv h2 hk1 hv1
 go_enter Tryz.func109,Tryz.ntmps109
 go_wp2_with (at_builtin;refine Go.Lib.wpList_append_run w rfl (.tmp 23) (.tmp 24) _ _ rfl _ _ rfl rfl _ _ (HR.o _) ?_)
 go_ret
 exact ⟨rfl,HPO.o⟩
theorem replR_end {w:World} {g gv i:Nat} {cs tl:List Value} {l r:Value} (hg:w.heap[g]?=some (.cells (cs++tl).toArray 94 (0,0))) (hl:cs.length=i+1) (ht:tl.length=1) (hL:i<=10) (hv:w.heap[gv]?=some (.cells #[l,r] 94 (0,0))) (hk1:l.oneCell'=true) (hv1:r.oneCell'=true) :
  Calls Tryz.prog 110 #[.slice (some ⟨g,0,none⟩) (i+1) (i+2),.int .i64 (i:Int),.int .i64 ((i+1:Nat):Int),.slice (some ⟨gv,0,none⟩) 2 2] w fun e w'=>e=.returned (.slice (some ⟨g,0,none⟩) (i+2) (i+2))/\w'.heap[g]?=some (.cells (cs.take i++l::r::cs.drop (i+1)).toArray 94 (0,0))/\(∀ k,k≠g->w'.heap[k]?=w.heap[k]?)/\∀ B,B<=g->Below B w w':=by
 obtain ⟨i0,hi0,hz0,hz1,hz2⟩:=info_parts aBq
 have h2:∀ u∈[l,r],u.oneCell'=true:=by
  intro u hu
  simp at hu
  rcases hu with rfl | rfl
  ·exact hk1
  ·exact hv1
 have hr:=fun ty=>run_append_room_cells (P:=Tryz.prog) w 136 ty 94 i0 Tryz.underlying136 hi0 g 0 i (i+2) ⟨gv,0,none⟩ 2 2 [l,r] (by rw [hz1];rfl) (fun j u hj=>by
  rw [Addr.add_lit,Nat.zero_add,aAa hv]
  simpa using hj) h2 (by omega) (fun j hj=>by
  rw [hz1,aAa hg,List.getElem?_toArray,gE (by rw [lA];simp at hj;omega)];rfl) (fun j hj=>aAc hg)
 have hW1':=aCk (w:=w) (o:=0+i*i0.size) (vs:=[l,r]) hg (by rw [hz1,List.size_toArray,lA];simp;omega) h2
 obtain ⟨W1,hW1⟩:∃ W1,W1=w.setCells g (0+i*i0.size) [l,r]:=⟨_,rfl⟩
 rw [<-hW1] at hW1' hr
 have hrow:((cs++tl).toArray.toList.take (0+i*i0.size)++[l,r]++(cs++tl).toArray.toList.drop (0+i*i0.size+[l,r].length))=cs.take i++l::r::cs.drop (i+1):=by
  have h9:(cs++tl).drop (0+i*i0.size+[l,r].length)=[]:=List.drop_of_length_le (by rw [lA,hz1];simp;omega)
  have h8:cs.drop (i+1)=[]:=List.drop_of_length_le (by omega)
  rw [List.toList_toArray,h9,h8,hz1,Nat.zero_add,Nat.mul_one,List.take_append_of_le_length (by omega),List.append_nil]
 rw [hrow] at hW1'
 have HPO:Hid (W1.heap[g]?=some (.cells (cs.take i++l::r::cs.drop (i+1)).toArray 94 (0,0))/\(∀ k,k≠g->W1.heap[k]?=w.heap[k]?)/\∀ B,B<=g->Below B w W1):=by
  rw [hW1']
  exact ⟨aAy hg,fun k hk=>setRow_other w g k _ hk,fun B hB=>below_setRow (Below.refl B w) hB _⟩
 have HR:=zH hr
 have k1:(0:Int)<=(i:Int)+1:=by omega
 clear hW1 hW1' hg hl ht hrow hr hv h2 hk1 hv1
 go_enter Tryz.func110,Tryz.ntmps110
 go_wp2_with (at_builtin;refine Go.Lib.wpList_append_run w rfl (.tmp 32) (.tmp 33) _ _ rfl _ _ rfl rfl _ _ (HR.o _) ?_)
 go_ret
 exact ⟨rfl,HPO.o⟩
theorem replR_mid {w:World} {g gv i M:Nat} {cs tl:List Value} {l r:Value} (hg:w.heap[g]?=some (.cells (cs++tl).toArray 94 (0,0))) (hl:cs.length=M) (ht:tl.length=1) (hL:M<=10) (hi:i+2<=M) (hne:g≠gv) (hv:w.heap[gv]?=some (.cells #[l,r] 94 (0,0))) (h1:∀ u∈cs,u.oneCell'=true) (hk1:l.oneCell'=true) (hv1:r.oneCell'=true) :
  Calls Tryz.prog 110 #[.slice (some ⟨g,0,none⟩) M (M+1),.int .i64 (i:Int),.int .i64 ((i+1:Nat):Int),.slice (some ⟨gv,0,none⟩) 2 2] w fun e w'=>e=.returned (.slice (some ⟨g,0,none⟩) (M+1) (M+1))/\w'.heap[g]?=some (.cells (cs.take i++l::r::cs.drop (i+1)).toArray 94 (0,0))/\(∀ k,k≠g->w'.heap[k]?=w.heap[k]?)/\∀ B,B<=g->Below B w w':=by
 have hg0:w.drew.heap[g]?=some (.cells (cs++tl).toArray 94 (0,0)):=hg
 have hgd:w.drew.drew.heap[g]?=some (.cells (cs++tl).toArray 94 (0,0)):=hg
 have hv0:w.drew.heap[gv]?=some (.cells #[l,r] 94 (0,0)):=hv
 have hov:∀ lb cb,(callFunc 134 #[.slice (some ⟨g,i+2,none⟩) lb cb,.slice (some ⟨gv,0,none⟩) 2 2]).run Tryz.prog w.drew=.ok (.value (.bool false)) w.drew:=fun lb cb=>by
  have hz:∀ w,(Go.sizeOf 94).run Tryz.prog w=.ok 1 w:=by
   intro w
   obtain ⟨i0,hi0,hz0,hz1,hz2⟩:=info_parts aBq
   simp [Go.sizeOf,typeInfo,hi0,hz1]
  rw [run_callFunc_extern Tryz.func134 (by kernel_rfl) (by kernel_rfl) (by kernel_rfl) (e:=Extern.SlicesOverlaps.overlaps #[136,136] #[4]) (by kernel_rfl),
   Lib.run_overlaps_apart w.drew 136 4 94 Tryz.underlying136 1 hz ⟨g,i+2,none⟩ ⟨gv,0,none⟩ lb cb 2 2 hne 94 94 (cs++tl).length 2 (by simp [World.shape?,hg0]) (by simp [World.shape?,hv0]) (by omega) (aAc hg0) (aAc hg0)]
  rfl
 have hdl:(cs.drop (i+1)).length=M-(i+1):=by rw [List.length_drop];omega
 have hr1:((cs++tl).toArray.toList.take (i+2)++cs.drop (i+1)++(cs++tl).toArray.toList.drop (i+2+(cs.drop (i+1)).length))=cs.take (i+2)++cs.drop (i+1):=by
  have h9:(cs++tl).drop (i+2+(cs.drop (i+1)).length)=[]:=List.drop_of_length_le (by rw [lA,ht,hl,hdl];omega)
  rw [List.toList_toArray,List.take_append_of_le_length (by omega),h9,List.append_nil]
 have c1:=fun ty c c'=>aA6 w.drew.drew 136 136 ty 94 1 g (i+2) (M-(i+1)) c ⟨g,i+1,none⟩ (M-(i+1)) c' (cs++tl).toArray 94 (cs.drop (i+1)) Tryz.underlying136 aCr hgd (by rw [hdl,Nat.mul_one];show _=min _ _;omega) (fun j u hj=>by
  rw [Addr.add_lit,aAa hgd,List.getElem?_toArray,List.getElem?_append_left (by have:=(lL hj);omega),<-List.getElem?_drop]
  exact hj) (by rw [hdl];simp;omega) (fun u hu=>h1 u (List.mem_of_mem_drop hu))
 rw [hr1] at c1
 obtain ⟨W1,hW1⟩:∃ W1,W1=(w.drew.drew.setRow g (cs.take (i+2)++cs.drop (i+1)).toArray):=⟨_,rfl⟩
 rw [<-hW1] at c1
 have hh1:W1.heap[g]?=some (.cells (cs.take (i+2)++cs.drop (i+1)).toArray 94 (0,0)):=by rw [hW1];exact aAy hgd
 have hhv:W1.heap[gv]?=some (.cells #[l,r] 94 (0,0)):=by rw [hW1,setRow_other w.drew.drew g gv _ (Ne.symm hne)];exact hv
 have hr2:((cs.take (i+2)++cs.drop (i+1)).toArray.toList.take i++[l,r]++(cs.take (i+2)++cs.drop (i+1)).toArray.toList.drop (i+[l,r].length))=cs.take i++l::r::cs.drop (i+1):=by
  have ha:(cs.take (i+2)).length=i+2:=by rw [List.length_take];omega
  have t1:(cs.take (i+2)++cs.drop (i+1)).take i=cs.take i:=by
   rw [List.take_append_of_le_length (by rw [ha];omega),List.take_take,Nat.min_eq_left (by omega)]
  have t2:(cs.take (i+2)++cs.drop (i+1)).drop (i+[l,r].length)=cs.drop (i+1):=List.drop_left' (by rw [ha];simp)
  rw [List.toList_toArray,t1,t2]
  simp
 have c2:=fun ty c=>aA6 W1 136 136 ty 94 1 g i (M+1-i) c ⟨gv,0,none⟩ 2 2 (cs.take (i+2)++cs.drop (i+1)).toArray 94 [l,r] Tryz.underlying136 aCr hh1 (by show 2=Nat.min 2 (M+1-i)*1;rw [show Nat.min 2 (M+1-i)=2 from Nat.min_eq_left (by omega)]) (fun j u hj=>by
  rw [Addr.add_lit,Nat.zero_add,aAa hhv]
  simpa using hj) (by simp;omega) (by intro u hu;simp at hu;rcases hu with rfl | rfl;exact hk1;exact hv1)
 rw [hr2] at c2
 generalize hrow:(cs.take i++l::r::cs.drop (i+1)).toArray=row at *
 have HPO:Hid ((W1.setRow g row).heap[g]?=some (.cells row 94 (0,0))/\(∀ k,k≠g->(W1.setRow g row).heap[k]?=w.heap[k]?)/\∀ B,B<=g->Below B w (W1.setRow g row)):=by
  refine ⟨aAy hh1,fun k hk=>?_,fun B hB=>?_⟩
  ·rw [setRow_other W1 g k row hk,hW1,setRow_other w.drew.drew g k _ hk]
   rfl
  ·refine below_setRow ?_ hB row
   rw [hW1]
   exact below_setRow ((Below.refl B w).drew.drew) hB _
 have k0:(i:Int)<=(M:Int)+1:=by omega
 have k1:(0:Int)<=(i:Int)+1:=by omega
 have k2:(i:Int)+1<=(M:Int):=by omega
 have k3:(i:Int)<=(M:Int):=by omega
 have k4:(i:Int)+2<=(M:Int)+1:=by omega
 have k5:(0:Int)<=(i:Int)+2:=by omega
 have b1:((i:Int)+1 == (M:Int))=false:=by simp;omega
 have hMi:i<=M:=by omega
 have hMi1:i+1<=M:=by omega
 have hb2:¬ (M=i+1):=by omega
 have hb4:¬ (M+1=i):=by omega
 have e1:(i:Int)+2+((M-(i+1):Nat):Int)=(M:Int)+1:=by omega
 clear hW1 hh1 hhv hg hg0 hgd hl ht h1 hrow hv hv0 hr1 hr2 hdl hk1 hv1
 go_enter Tryz.func110,Tryz.ntmps110
 go_upto_region 9 with fail
 go_region
 go_wp2_with (simp only [hov])
 go_region
 go_wp2
 go_ret
 exact ⟨rfl,HPO.o⟩
theorem aHx {w:World} {B B' e size n:Nat} {v:Value} {xs:List Value} (h:w.ownsRow B e size v n xs) (hB:B'<=B):w.ownsRow B' e size v n xs:=by
 refine ⟨h.1,?_⟩
 rcases h.2 with q | ⟨g,cap,cur,q1,q2,q3⟩
 ·exact Or.inl q
 ·exact Or.inr ⟨g,cap,cur,q1,nT hB q2,q3⟩
theorem repl_any {w:World} {g gv i n:Nat} {cs:List Value} {one:Value} (hg:w.heap[g]?=some (.cells cs.toArray 94 (0,0))) (hl:cs.length=n+1) (hL:n<=10) (hi:i+1<=n) (hne:gv≠g) (hv:w.heap[gv]?=some (.cells #[one] 94 (0,0))) (h1:one.oneCell'=true) (hcs:∀ u∈cs,u.oneCell'=true) :
  Calls Tryz.prog 110 #[.slice (some ⟨g,0,none⟩) (n+1) (n+1),.int .i64 (i:Int),.int .i64 ((i+2:Nat):Int),.slice (some ⟨gv,0,none⟩) 1 1] w fun e w'=>e=.returned (.slice (some ⟨g,0,none⟩) n (n+1))/\w'.heap[g]?=some (.cells (cs.take i++one::cs.drop (i+2)++[Value.nilIface]).toArray 94 (0,0))/\(∀ k,k≠g->w'.heap[k]?=w.heap[k]?)/\∀ B,B<=g->Below B w w':=by
 by_cases e:i+1=n
 ·subst e
  exact repl_end hg hl (by omega) hv h1
 ·exact repl_mid hg hl hL (by omega) hne hv h1 hcs
def MrgM (B gb gi gc i m n:Nat) (ic cv:List Value) (one:Value) (w w':World):Prop:=w'.heap[gb]?=some (.cells #[.slice (some ⟨gi,0,none⟩) m (m+1),.slice (some ⟨gc,0,none⟩) n (n+1)] 138 (0,0))/\w'.heap[gi]?=some (.cells (ic.take (i*2)++ic.drop ((i+1)*2)++[Value.slice none 0 0,Value.slice none 0 0]).toArray 69 (0,0)) /\
 w'.heap[gc]?=some (.cells (cv.take i++one::cv.drop (i+2)++[Value.nilIface]).toArray 94 (0,0))/\Ex B [gb,gi,gc] w w'
theorem merge_leaf {B gb gi gc i m gl gr na nb:Nat} {w:World} {va vb:Value} {ic cv aL bL:List Value} (hgb:w.heap[gb]?=some (.cells #[.slice (some ⟨gi,0,none⟩) (m+1) (m+1),.slice (some ⟨gc,0,none⟩) (m+2) (m+2)] 138 (0,0))) (hgi:w.heap[gi]?=some (.cells ic.toArray 69 (0,0))) (hgc:w.heap[gc]?=some (.cells cv.toArray 94 (0,0)))
  (hB:B<=gb/\B<=gi/\B<=gc) (hBw:B<=w.heap.size) (hic:ic.length=(m+1)*2) (hcv:cv.length=m+2) (hm:m<=5) (hi:i<=m) (h1:∀ u∈ic,u.oneCell'=true) (h2:∀ u∈cv,u.oneCell'=true)
  (hgl:w.heap[gl]?=some (.cells #[va] 120 (0,0))) (hgr:w.heap[gr]?=some (.cells #[vb] 120 (0,0))) (hsa:SrcC w 2 va (na,aL)) (hsb:SrcC w 2 vb (nb,bL)) (hna:na<=10) (hnb:nb<=10) :
  Calls Tryz.prog 108 #[.pointer (some ⟨gb,0,none⟩),.int .i64 (i:Int),lfP gl,lfP gr] w fun e w'=>e=.returned (.tuple #[])/\∃ g1 nv,MrgM B gb gi gc i m (m+1) ic cv (lfP g1) w w'/\w.heap.size<=g1/\w'.heap[g1]?=some (.cells #[nv] 120 (0,0))/\w'.ownsRow w.heap.size 69 2 nv (na+1+nb) (aL++(ic.drop (i*2)).take 2++bL):=by
 have HGB:=zH hgb
 have HGI:=zH hgi
 have HGC:=zH hgc
 have HGL:=zH hgl
 have HGR:=zH hgr
 obtain ⟨ada,ca,ea,_⟩:=id hsa
 obtain ⟨adb,cb,eb,_⟩:=id hsb
 have ea:va=.slice (some ada) na ca:=ea
 have eb:vb=.slice (some adb) nb cb:=eb
 subst ea eb
 have HSA:=zH hsa
 have HSB:=zH hsb
 have HB:=zH hB
 have HBW:=zH hBw
 have HIC:=zH hic
 have HCV:=zH hcv
 have H1:=zH h1
 have H2:=zH h2
 have r0:w.cell? ⟨gb,0,none⟩=some (.slice (some ⟨gi,0,none⟩) (m+1) (m+1)):=aAa hgb
 have k0:(i:Int)<=(m:Int)+1:=by omega
 have k1:(0:Int)<=(i:Int)+1:=by omega
 have k2:(i:Int)+1<=(m:Int)+1:=by omega
 have kne:¬ (m+1=i):=by omega
 have hwr:IntKind.i64.wrap ((i:Int)+1)=(i:Int)+1:=by rw [IntKind.wrap_i64];omega
 have hwr2:IntKind.i64.wrap ((i:Int)+2)=(i:Int)+2:=by rw [IntKind.wrap_i64];omega
 have htn:((i:Int)+1).toNat=i+1:=by omega
 have HX0:Hid ((fun wx=>wx.cell? ⟨gb,0,none⟩=some (.slice (some ⟨gi,0,none⟩) (m+1) (m+1))) w.drew):=r0
 unfold lfP
 have HIL:=zH (aAq (w:=w.drew) hgl)
 have HIR:=zH (aAq (w:=w.drew) hgr)
 unfold lfP at HIL HIR
 clear hgb hgi hgc hgl hgr hsa hsb hB hBw hic hcv h1 h2
 go_enter Tryz.func108,Tryz.ntmps108
 go_upto_region 0 with fail
 refine wp_region_noPanic ?_
 refine wp_region_held_drew (S:=fun wx=>wx.cell? ⟨gb,0,none⟩=some (.slice (some ⟨gi,0,none⟩) (m+1) (m+1))) (by kernel_rfl) HX0.o (fun hHeld=>?_)
 refine kT 0 12 ?_
 refine kT 2 14 ?_
 refine kT 3 15 ?_
 refine kT 4 16 ?_
 refine kT 5 17 ?_
 refine kT 6 18 ?_
 refine kT 7 19 ?_
 refine kT 8 20 ?_
 refine kT 9 21 ?_
 refine kT 10 22 ?_
 refine kC 1 ?_;intro K hK
 go_simp
 refine HIL.o.mono ?_
 rintro e wq ⟨rfl,hq⟩
 have hq:=hq.symm
 subst hq
 refine hK.out _ _ hHeld (fun hHeld=>?_)
 clear hK K
 try simp only [Act.put,siT,scZ,scS]
 refine kC 11 ?_;intro K hK
 go_simp
 refine HIR.o.mono ?_
 rintro e wq ⟨rfl,hq⟩
 have hq:=hq.symm
 subst hq
 refine hK.out _ _ hHeld (fun hHeld=>?_)
 clear hK K
 try simp only [Act.put,siT,scZ,scS]
 have HAX:=zH ((aAb w (.cells #[.slice (some ada) na ca,.slice (some ⟨gi,i*2,none⟩) 1 (m+1-i),.slice (some adb) nb cb] 118)).drew)
 have HNX:Hid ((w.alloc (.cells #[.slice (some ada) na ca,.slice (some ⟨gi,i*2,none⟩) 1 (m+1-i),.slice (some adb) nb cb] 118)).drew.heap[w.heap.size]?=some (.cells #[.slice (some ada) na ca,.slice (some ⟨gi,i*2,none⟩) 1 (m+1-i),.slice (some adb) nb cb] 118 (0,0))):=heap_alloc_new w _
 have HX1:Hid ((fun wx=>wx.cell? ⟨gb,0,none⟩=some (.slice (some ⟨gi,0,none⟩) (m+1) (m+1))) (w.alloc (.cells #[.slice (some ada) na ca,.slice (some ⟨gi,i*2,none⟩) 1 (m+1-i),.slice (some adb) nb cb] 118)).drew):=(HAX.o.cell (p:=⟨gb,0,none⟩) (block_lt_of_cell HX0.o)).trans HX0.o
 refine kC 12 ?_;intro K hK
 go_simp
 clear hHeld
 refine hK.out _ _ HX1.o (fun hHeld=>?_)
 clear hK K
 try simp only [Act.put,siT,scZ,scS]
 generalize hW1:(w.alloc (.cells #[.slice (some ada) na ca,.slice (some ⟨gi,i*2,none⟩) 1 (m+1-i),.slice (some adb) nb cb] 118)).drew=w1 at *
 have HB1:Hid (Below w.heap.size w w1):=HAX.o
 have HML:Hid ((ic.drop (i*2)).take 2=(ic.drop (i*2)).take 2/\((ic.drop (i*2)).take 2).length=2):=⟨rfl,by rw [List.length_take,List.length_drop,HIC.o];omega⟩
 have HSM:Hid (SrcC w 2 (.slice (some ⟨gi,i*2,none⟩) 1 (m+1-i)) (1,(ic.drop (i*2)).take 2)):=by
  refine ⟨⟨gi,i*2,none⟩,m+1-i,rfl,HML.o.2,fun j v hj=>?_,fun v hv=>H1.o v (List.mem_of_mem_drop (List.mem_of_mem_take hv))⟩
  have hj:((ic.drop (i*2)).take 2)[j]?=some v:=hj
  rw [Addr.add_lit,aAa HGI.o,List.getElem?_toArray]
  rw [List.getElem?_take] at hj
  split at hj
  ·rw [List.getElem?_drop] at hj
   exact hj
  ·cases hj
 have HCC:=zH (aHd (S:=[(na,aL),(1,(ic.drop (i*2)).take 2),(nb,bL)]) (us:=[.slice (some ada) na ca,.slice (some ⟨gi,i*2,none⟩) 1 (m+1-i),.slice (some adb) nb cb]) (m:=3) HNX.o rfl rfl (fun j u s hu hs=>by
  match j with
  | 0=>simp at hu hs;subst hu hs;exact HSA.o.later HB1.o
  | 1=>simp at hu hs;subst hu hs;exact HSM.o.later HB1.o
  | 2=>simp at hu hs;subst hu hs;exact HSB.o.later HB1.o
  | j+3=>simp at hu) (by simp [sumS];omega) (by simp [sumS];omega) (by omega))
 have HSF:Hid (sumS [(na,aL),(1,(ic.drop (i*2)).take 2),(nb,bL)]=na+1+nb/\flatS [(na,aL),(1,(ic.drop (i*2)).take 2),(nb,bL)]=aL++(ic.drop (i*2)).take 2++bL):=⟨by simp [sumS];omega,by simp [flatS]⟩
 rw [HSF.o.1,HSF.o.2] at HCC
 clear HSF
 refine kC 13 ?_;intro K hK
 go_simp
 refine HCC.o.mono ?_
 rintro e w2 ⟨v2,rfl,ho2,hb2⟩
 have HO2:=zH (aHx ho2 HB1.o.size)
 have HB2:=zH hb2
 have HX2:Hid ((fun wx=>wx.cell? ⟨gb,0,none⟩=some (.slice (some ⟨gi,0,none⟩) (m+1) (m+1))) w2):=(HB2.o.cell (p:=⟨gb,0,none⟩) (block_lt_of_cell HX1.o)).trans HX1.o
 clear ho2 hb2 hHeld
 refine hK.out _ _ HX2.o (fun hHeld=>?_)
 clear hK K
 try simp only [Act.put,siT,scZ,scS]
 refine kT 14 8 ?_
 refine wpAnyH_done (by kernel_rfl) ?_ _
 refine NoPanic.normal ?_
 clear hHeld HCC HX0 HX1 HIL HIR
 have e1:((i+1:Nat):Int)=(i:Int)+1:=by omega
 have e2:((i+2:Nat):Int)=(i:Int)+2:=by omega
 obtain ⟨a2,c2,hv2⟩:=aAf HO2.o
 subst hv2
 have HB02:Hid (Below w.heap.size w w2):=HB1.o.trans (HB2.o.mono HB1.o.size)
 have HAB:=zH (aAb w2 (.cells #[.slice a2 (na+1+nb) c2] 120))
 have HN3:Hid ((w2.alloc (.cells #[.slice a2 (na+1+nb) c2] 120)).heap[w2.heap.size]?=some (.cells #[.slice a2 (na+1+nb) c2] 120 (0,0))):=heap_alloc_new w2 _
 have HO3:=zH (aAg HO2.o HAB.o)
 have HB03:Hid (Below w.heap.size w (w2.alloc (.cells #[.slice a2 (na+1+nb) c2] 120))):=HB02.o.trans (HAB.o.mono HB02.o.size)
 have HGL3:Hid (w.heap.size<=w2.heap.size):=HB02.o.size
 have stay:∀ (k:Nat) (o:Obj),w.heap[k]?=some o->(w2.alloc (.cells #[.slice a2 (na+1+nb) c2] 120)).heap[k]?=some o:=fun k o e=>(HB03.o.block k (lO e)).trans e
 have HGB3:=zH (stay _ _ HGB.o)
 have HGI3:=zH (stay _ _ HGI.o)
 have HGC3:=zH (stay _ _ HGC.o)
 have t1:=aAm (.pointer (some ⟨gl,0,none⟩)) (w2.alloc (.cells #[.slice a2 (na+1+nb) c2] 120))
 have r3:(w2.alloc (.cells #[.slice a2 (na+1+nb) c2] 120)).cell? ⟨gb,0,none⟩=some (.slice (some ⟨gi,0,none⟩) (m+1) (m+1)):=aAa HGB3.o
 have HSD:=zH (sdel_ok (i:=i) HGI3.o HIC.o (by omega) (by omega) H1.o)
 rw [Nat.add_sub_cancel,e1] at HSD
 clear r0 stay HB1 HB2 HX2 HAX HNX
 go_upto_region 2 with fail
 generalize hg1:w2.heap.size=g1 at *
 generalize hW3:w2.alloc (.cells #[.slice a2 (na+1+nb) c2] 120)=w3 at *
 clear hW3
 go_wp2_with fail
 refine HSD.o.mono ?_
 rintro e w4 ⟨rfl,hgi4,hot4,hbe4⟩
 have hne1:gb≠gi:=by
  intro q9
  have h9:=HGB3.o
  rw [q9,HGI3.o] at h9
  simp only [oI,cI] at h9
  exact absurd h9.2.1 (by decide)
 have hne2:gc≠gi:=by
  intro q9
  have h9:=HGC3.o
  rw [q9,HGI3.o] at h9
  simp only [oI,cI] at h9
  exact absurd h9.2.1 (by decide)
 have hne3:gc≠gb:=by
  intro q9
  have h9:=HGC3.o
  rw [q9,HGB3.o] at h9
  simp only [oI,cI] at h9
  exact absurd h9.2.1 (by decide)
 have HNE:=zH (show gb≠gi/\gc≠gi/\gc≠gb from ⟨hne1,hne2,hne3⟩)
 have HGI4:=zH hgi4
 have HOT4:=zH hot4
 have HBE4:=zH (hbe4 B HB.o.2.1)
 have HGB4:Hid (w4.heap[gb]?=_):=(hot4 gb hne1).trans HGB3.o
 have r4:w4.cell? ⟨gb,0,none⟩=some (.slice (some ⟨gi,0,none⟩) (m+1) (m+1)):=aAa HGB4.o
 have f4:w4.frozen? ⟨gb,0,none⟩=false:=aAc HGB4.o
 clear hne1 hne2 hne3 hgi4 hot4 hbe4 r3 t1 HSD
 go_upto_region 6 with fail
 have HB5a:Hid (w4.heap[gb]?=some (.cells #[.slice (some ⟨gi,0,none⟩) (m+1) (m+1),.slice (some ⟨gc,0,none⟩) (m+2) (m+2)] 138 (0,0))):=HGB4.o
 have HGB5:Hid ((w4.setCell ⟨gb,0,none⟩ (.slice (some ⟨gi,0,none⟩) m (m+1))).heap[gb]?=some (.cells #[.slice (some ⟨gi,0,none⟩) m (m+1),.slice (some ⟨gc,0,none⟩) (m+2) (m+2)] 138 (0,0))):=by
  show _=_
  rw [heap_setCell_same _ _ _ _ _ _ HB5a.o]
  rfl
 have HOT5:Hid (∀ k,k≠gb->(w4.setCell ⟨gb,0,none⟩ (.slice (some ⟨gi,0,none⟩) m (m+1))).heap[k]?=w4.heap[k]?):=fun k hk=>heap_setCell_other _ _ _ _ hk
 have HBE5:Hid (Below B w4 (w4.setCell ⟨gb,0,none⟩ (.slice (some ⟨gi,0,none⟩) m (m+1)))):=(Below.refl _ _).setCell (p:=⟨gb,0,none⟩) HB.o.1 _
 clear r4 f4
 generalize w4.setCell ⟨gb,0,none⟩ (.slice (some ⟨gi,0,none⟩) m (m+1))=w5 at *
 have HGC5:Hid (w5.heap[gc]?=some (.cells cv.toArray 94 (0,0))):=(HOT5.o gc HNE.o.2.2).trans ((HOT4.o gc HNE.o.2.1).trans HGC3.o)
 have HA6:=zH (aAb w5 (.cells #[lfP g1] 94))
 have HN6:Hid ((w5.alloc (.cells #[lfP g1] 94)).heap[w5.heap.size]?=some (.cells #[lfP g1] 94 (0,0))):=heap_alloc_new w5 _
 have HGC6:Hid ((w5.alloc (.cells #[lfP g1] 94)).heap[gc]?=some (.cells cv.toArray 94 (0,0))):=(HA6.o.block gc (lO HGC5.o)).trans HGC5.o
 have HGB6:Hid ((w5.alloc (.cells #[lfP g1] 94)).heap[gb]?=some (.cells #[.slice (some ⟨gi,0,none⟩) m (m+1),.slice (some ⟨gc,0,none⟩) (m+2) (m+2)] 138 (0,0))):=(HA6.o.block gb (lO HGB5.o)).trans HGB5.o
 have HRP:=zH (repl_any (i:=i) (n:=m+1) HGC6.o HCV.o (by omega) (by omega) (by have:=(lO HGC5.o);omega) HN6.o rfl H2.o)
 rw [e2] at HRP
 have r5:w5.cell? ⟨gb,1,none⟩=some (.slice (some ⟨gc,0,none⟩) (m+2) (m+2)):=aAa HGB5.o
 have hgo:Hid (∀ (k:Nat) (o:Obj),k≠gb->k≠gi->w3.heap[k]?=some o->(w5.alloc (.cells #[lfP g1] 94)).heap[k]?=some o):=fun k o n1 n2 e=>by
  have h9:w5.heap[k]?=some o:=(HOT5.o k n1).trans ((HOT4.o k n2).trans e)
  exact (HA6.o.block k (lO h9)).trans h9
 have HGI6:Hid ((w5.alloc (.cells #[lfP g1] 94)).heap[gi]?=_):=(HA6.o.block gi (by
  have h9:=HOT5.o gi (Ne.symm HNE.o.1)
  rw [HGI4.o] at h9
  exact (lO h9))).trans ((HOT5.o gi (Ne.symm HNE.o.1)).trans HGI4.o)
 have HBE6:Hid (Below B w3 (w5.alloc (.cells #[lfP g1] 94))):=(HBE4.o.trans HBE5.o).trans (HA6.o.mono (by
  have h1:=HBE4.o.size
  have h2:=HBE5.o.size
  have h3:=HB03.o.size
  have h4:=HBW.o
  omega))
 unfold lfP at HRP hgo HGI6 HBE6 HGB6 HN6 HGC6 HA6
 go_wp2_with fail
 refine HRP.o.mono ?_
 rintro e w7 ⟨rfl,hgc7,hot7,hbe7⟩
 have HGC7:=zH hgc7
 have HOT7:=zH hot7
 have HBE7:=zH (hbe7 B HB.o.2.2)
 have HGB7:Hid (w7.heap[gb]?=some (.cells #[.slice (some ⟨gi,0,none⟩) m (m+1),.slice (some ⟨gc,0,none⟩) (m+2) (m+2)] 138 (0,0))):=(hot7 gb (Ne.symm HNE.o.2.2)).trans HGB6.o
 have r7:w7.cell? ⟨gb,1,none⟩=some (.slice (some ⟨gc,0,none⟩) (m+2) (m+2)):=aAa HGB7.o
 have f7:w7.frozen? ⟨gb,1,none⟩=false:=aAc HGB7.o
 clear hgc7 hot7 hbe7 r5 HRP
 go_wp2
 go_end0
 have keep:∀ k,k≠gb->(w7.setCell ⟨gb,1,none⟩ (.slice (some ⟨gc,0,none⟩) (m+1) (m+2))).heap[k]?=w7.heap[k]?:=fun k hk=>heap_setCell_other _ _ _ _ hk
 have big:∀ (k:Nat) (o:Obj),k≠gb->k≠gi->k≠gc->w3.heap[k]?=some o->(w7.setCell ⟨gb,1,none⟩ (.slice (some ⟨gc,0,none⟩) (m+1) (m+2))).heap[k]?=some o:=fun k o n1 n2 n3 e=>(keep k n1).trans ((HOT7.o k n3).trans (hgo.out k o n1 n2 e))
 have lgb:=(lO HGB.o)
 have lgi:=(lO HGI.o)
 have lgc:=(lO HGC.o)
 have lg1:=HGL3.o
 refine ⟨rfl,g1,.slice a2 (na+1+nb) c2,⟨?_,?_,?_,?_,?_⟩,lg1,big g1 _ (by omega) (by omega) (by omega) HN3.o,aAj HO3.o fun k cs hk e=>?_⟩
 ·rw [heap_setCell_same _ _ _ _ _ _ HGB7.o]
  rfl
 ·exact (keep gi (Ne.symm HNE.o.1)).trans ((HOT7.o gi (Ne.symm HNE.o.2.1)).trans HGI6.o)
 ·exact (keep gc HNE.o.2.2).trans HGC7.o
 ·exact ((HB03.o.mono HBW.o).trans (HBE6.o.trans HBE7.o)).setCell (p:=⟨gb,1,none⟩) HB.o.1 _
 ·intro k hk hn
  simp only [List.mem_cons,List.not_mem_nil,or_false,not_or] at hn
  obtain ⟨o,ho⟩:∃ o,w.heap[k]?=some o:=⟨_,Array.getElem?_eq_getElem hk⟩
  rw [ho]
  exact big k o hn.1 hn.2.1 hn.2.2 ((HB03.o.block k hk).trans ho)
 ·have h9:=HO3.o.lt k hk
  exact big k _ (by omega) (by omega) (by omega) e
theorem merge_branch {B gb gi gc i m gl gr na nb nx ny:Nat} {w:World} {va vb vx vy:Value} {ic cv aL bL xL yL:List Value} (hgb:w.heap[gb]?=some (.cells #[.slice (some ⟨gi,0,none⟩) (m+1) (m+1),.slice (some ⟨gc,0,none⟩) (m+2) (m+2)] 138 (0,0))) (hgi:w.heap[gi]?=some (.cells ic.toArray 69 (0,0))) (hgc:w.heap[gc]?=some (.cells cv.toArray 94 (0,0)))
  (hB:B<=gb/\B<=gi/\B<=gc) (hBw:B<=w.heap.size) (hic:ic.length=(m+1)*2) (hcv:cv.length=m+2) (hm:m<=5) (hi:i<=m) (h1:∀ u∈ic,u.oneCell'=true) (h2:∀ u∈cv,u.oneCell'=true)
  (hgl:w.heap[gl]?=some (.cells #[va,vx] 138 (0,0))) (hgr:w.heap[gr]?=some (.cells #[vb,vy] 138 (0,0))) (hsx:SrcC w 1 vx (nx,xL)) (hsy:SrcC w 1 vy (ny,yL)) (hnx:nx<=10) (hny:ny<=10) (hnx0:0<nx) (hsa:SrcC w 2 va (na,aL)) (hsb:SrcC w 2 vb (nb,bL)) (hna:na<=10) (hnb:nb<=10) :
  Calls Tryz.prog 108 #[.pointer (some ⟨gb,0,none⟩),.int .i64 (i:Int),brP gl,brP gr] w fun e w'=>e=.returned (.tuple #[])/\∃ g1 nv nc,MrgM B gb gi gc i m (m+1) ic cv (brP g1) w w'/\w.heap.size<=g1/\w'.heap[g1]?=some (.cells #[nv,nc] 138 (0,0))/\w'.ownsRow w.heap.size 94 1 nc (nx+ny) (xL++yL)/\w'.ownsRow w.heap.size 69 2 nv (na+1+nb) (aL++(ic.drop (i*2)).take 2++bL):=by
 have HGB:=zH hgb
 have HGI:=zH hgi
 have HGC:=zH hgc
 have HGL:=zH hgl
 have HGR:=zH hgr
 obtain ⟨ada,ca,ea,_⟩:=id hsa
 obtain ⟨adb,cb,eb,_⟩:=id hsb
 have ea:va=.slice (some ada) na ca:=ea
 have eb:vb=.slice (some adb) nb cb:=eb
 obtain ⟨adx,cx,ex,_⟩:=id hsx
 obtain ⟨ady,cy,ey,_⟩:=id hsy
 have ex:vx=.slice (some adx) nx cx:=ex
 have ey:vy=.slice (some ady) ny cy:=ey
 subst ea eb ex ey
 have HSX:=zH hsx
 have HSY:=zH hsy
 have HSA:=zH hsa
 have HSB:=zH hsb
 have HB:=zH hB
 have HBW:=zH hBw
 have HIC:=zH hic
 have HCV:=zH hcv
 have H1:=zH h1
 have H2:=zH h2
 have r0:w.cell? ⟨gb,0,none⟩=some (.slice (some ⟨gi,0,none⟩) (m+1) (m+1)):=aAa hgb
 have k0:(i:Int)<=(m:Int)+1:=by omega
 have k1:(0:Int)<=(i:Int)+1:=by omega
 have k2:(i:Int)+1<=(m:Int)+1:=by omega
 have kne:¬ (m+1=i):=by omega
 have hwr:IntKind.i64.wrap ((i:Int)+1)=(i:Int)+1:=by rw [IntKind.wrap_i64];omega
 have hwr2:IntKind.i64.wrap ((i:Int)+2)=(i:Int)+2:=by rw [IntKind.wrap_i64];omega
 have htn:((i:Int)+1).toNat=i+1:=by omega
 have HX0:Hid ((fun wx=>wx.cell? ⟨gb,0,none⟩=some (.slice (some ⟨gi,0,none⟩) (m+1) (m+1))) w.drew):=r0
 unfold brP
 have HIL:=zH (aAn (w:=w.drew) hgl)
 have HIR:=zH (aAn (w:=w.drew) hgr)
 unfold brP at HIL HIR
 clear hsx hsy hgb hgi hgc hgl hgr hsa hsb hB hBw hic hcv h1 h2
 go_enter Tryz.func108,Tryz.ntmps108
 go_upto_region 0 with fail
 refine wp_region_noPanic ?_
 refine wp_region_held_drew (S:=fun wx=>wx.cell? ⟨gb,0,none⟩=some (.slice (some ⟨gi,0,none⟩) (m+1) (m+1))) (by kernel_rfl) HX0.o (fun hHeld=>?_)
 refine kT 0 12 ?_
 refine kT 2 14 ?_
 refine kT 3 15 ?_
 refine kT 4 16 ?_
 refine kT 5 17 ?_
 refine kT 6 18 ?_
 refine kT 7 19 ?_
 refine kT 8 20 ?_
 refine kT 9 21 ?_
 refine kT 10 22 ?_
 refine kC 1 ?_;intro K hK
 go_simp
 refine HIL.o.mono ?_
 rintro e wq ⟨rfl,hq⟩
 have hq:=hq.symm
 subst hq
 refine hK.out _ _ hHeld (fun hHeld=>?_)
 clear hK K
 try simp only [Act.put,siT,scZ,scS]
 refine kC 11 ?_;intro K hK
 go_simp
 refine HIR.o.mono ?_
 rintro e wq ⟨rfl,hq⟩
 have hq:=hq.symm
 subst hq
 refine hK.out _ _ hHeld (fun hHeld=>?_)
 clear hK K
 try simp only [Act.put,siT,scZ,scS]
 have HAX:=zH ((aAb w (.cells #[.slice (some ada) na ca,.slice (some ⟨gi,i*2,none⟩) 1 (m+1-i),.slice (some adb) nb cb] 118)).drew)
 have HNX:Hid ((w.alloc (.cells #[.slice (some ada) na ca,.slice (some ⟨gi,i*2,none⟩) 1 (m+1-i),.slice (some adb) nb cb] 118)).drew.heap[w.heap.size]?=some (.cells #[.slice (some ada) na ca,.slice (some ⟨gi,i*2,none⟩) 1 (m+1-i),.slice (some adb) nb cb] 118 (0,0))):=heap_alloc_new w _
 have HX1:Hid ((fun wx=>wx.cell? ⟨gb,0,none⟩=some (.slice (some ⟨gi,0,none⟩) (m+1) (m+1))) (w.alloc (.cells #[.slice (some ada) na ca,.slice (some ⟨gi,i*2,none⟩) 1 (m+1-i),.slice (some adb) nb cb] 118)).drew):=(HAX.o.cell (p:=⟨gb,0,none⟩) (block_lt_of_cell HX0.o)).trans HX0.o
 refine kC 12 ?_;intro K hK
 go_simp
 clear hHeld
 refine hK.out _ _ HX1.o (fun hHeld=>?_)
 clear hK K
 try simp only [Act.put,siT,scZ,scS]
 generalize hW1:(w.alloc (.cells #[.slice (some ada) na ca,.slice (some ⟨gi,i*2,none⟩) 1 (m+1-i),.slice (some adb) nb cb] 118)).drew=w1 at *
 have HB1:Hid (Below w.heap.size w w1):=HAX.o
 have HML:Hid ((ic.drop (i*2)).take 2=(ic.drop (i*2)).take 2/\((ic.drop (i*2)).take 2).length=2):=⟨rfl,by rw [List.length_take,List.length_drop,HIC.o];omega⟩
 have HSM:Hid (SrcC w 2 (.slice (some ⟨gi,i*2,none⟩) 1 (m+1-i)) (1,(ic.drop (i*2)).take 2)):=by
  refine ⟨⟨gi,i*2,none⟩,m+1-i,rfl,HML.o.2,fun j v hj=>?_,fun v hv=>H1.o v (List.mem_of_mem_drop (List.mem_of_mem_take hv))⟩
  have hj:((ic.drop (i*2)).take 2)[j]?=some v:=hj
  rw [Addr.add_lit,aAa HGI.o,List.getElem?_toArray]
  rw [List.getElem?_take] at hj
  split at hj
  ·rw [List.getElem?_drop] at hj
   exact hj
  ·cases hj
 have HCC:=zH (aHd (S:=[(na,aL),(1,(ic.drop (i*2)).take 2),(nb,bL)]) (us:=[.slice (some ada) na ca,.slice (some ⟨gi,i*2,none⟩) 1 (m+1-i),.slice (some adb) nb cb]) (m:=3) HNX.o rfl rfl (fun j u s hu hs=>by
  match j with
  | 0=>simp at hu hs;subst hu hs;exact HSA.o.later HB1.o
  | 1=>simp at hu hs;subst hu hs;exact HSM.o.later HB1.o
  | 2=>simp at hu hs;subst hu hs;exact HSB.o.later HB1.o
  | j+3=>simp at hu) (by simp [sumS];omega) (by simp [sumS];omega) (by omega))
 have HSF:Hid (sumS [(na,aL),(1,(ic.drop (i*2)).take 2),(nb,bL)]=na+1+nb/\flatS [(na,aL),(1,(ic.drop (i*2)).take 2),(nb,bL)]=aL++(ic.drop (i*2)).take 2++bL):=⟨by simp [sumS];omega,by simp [flatS]⟩
 rw [HSF.o.1,HSF.o.2] at HCC
 clear HSF
 refine kC 13 ?_;intro K hK
 go_simp
 refine HCC.o.mono ?_
 rintro e w2 ⟨v2,rfl,ho2,hb2⟩
 have HO2:=zH (aHx ho2 HB1.o.size)
 have HB2:=zH hb2
 have HX2:Hid ((fun wx=>wx.cell? ⟨gb,0,none⟩=some (.slice (some ⟨gi,0,none⟩) (m+1) (m+1))) w2):=(HB2.o.cell (p:=⟨gb,0,none⟩) (block_lt_of_cell HX1.o)).trans HX1.o
 clear ho2 hb2 hHeld
 refine hK.out _ _ HX2.o (fun hHeld=>?_)
 clear hK K
 try simp only [Act.put,siT,scZ,scS]
 refine kT 14 8 ?_
 refine wpAnyH_done (by kernel_rfl) ?_ _
 refine NoPanic.normal ?_
 clear hHeld HCC HX0 HX1 HIL HIR
 have e1:((i+1:Nat):Int)=(i:Int)+1:=by omega
 have e2:((i+2:Nat):Int)=(i:Int)+2:=by omega
 obtain ⟨a2,c2,hv2⟩:=aAf HO2.o
 subst hv2
 have HB02:Hid (Below w.heap.size w w2):=HB1.o.trans (HB2.o.mono HB1.o.size)
 have HAB:=zH (aAb w2 (.cells #[.slice a2 (na+1+nb) c2] 120))
 have HN3:Hid ((w2.alloc (.cells #[.slice a2 (na+1+nb) c2] 120)).heap[w2.heap.size]?=some (.cells #[.slice a2 (na+1+nb) c2] 120 (0,0))):=heap_alloc_new w2 _
 have HO3:=zH (aAg HO2.o HAB.o)
 have HB03:Hid (Below w.heap.size w (w2.alloc (.cells #[.slice a2 (na+1+nb) c2] 120))):=HB02.o.trans (HAB.o.mono HB02.o.size)
 have HGL3:Hid (w.heap.size<=w2.heap.size):=HB02.o.size
 have stay:∀ (k:Nat) (o:Obj),w.heap[k]?=some o->(w2.alloc (.cells #[.slice a2 (na+1+nb) c2] 120)).heap[k]?=some o:=fun k o e=>(HB03.o.block k (lO e)).trans e
 have HGB3:=zH (stay _ _ HGB.o)
 have HGI3:=zH (stay _ _ HGI.o)
 have HGC3:=zH (stay _ _ HGC.o)
 have HGL3':=zH (stay _ _ HGL.o)
 have HGR3:=zH (stay _ _ HGR.o)
 have t1:=aAk (.pointer (some ⟨gl,0,none⟩)) (w2.alloc (.cells #[.slice a2 (na+1+nb) c2] 120))
 clear r0 stay HB1 HB2 HX2 HAX HNX
 go_upto_region 2 with fail
 generalize hg1:w2.heap.size=g1 at *
 generalize hW3:w2.alloc (.cells #[.slice a2 (na+1+nb) c2] 120)=w3 at *
 clear hW3
 go_upto_region 4 with fail
 clear t1
 have ta:=aHf (.pointer (some ⟨gr,0,none⟩))
 have HY0:Hid ((fun wx=>wx.cell? ⟨gl,1,none⟩=some (.slice (some adx) nx cx)/\wx.cell? ⟨gr,1,none⟩=some (.slice (some ady) ny cy)) w3.drew):=⟨aAa HGL3'.out,aAa HGR3.o⟩
 have HAY:=zH ((aAb w3 (.cells #[.slice (some adx) nx cx,.slice (some ady) ny cy] 136)).drew)
 have HNY:Hid ((w3.alloc (.cells #[.slice (some adx) nx cx,.slice (some ady) ny cy] 136)).drew.heap[w3.heap.size]?=some (.cells #[.slice (some adx) nx cx,.slice (some ady) ny cy] 136 (0,0))):=heap_alloc_new w3 _
 have HY1:Hid ((fun wx=>wx.cell? ⟨gl,1,none⟩=some (.slice (some adx) nx cx)/\wx.cell? ⟨gr,1,none⟩=some (.slice (some ady) ny cy)) (w3.alloc (.cells #[.slice (some adx) nx cx,.slice (some ady) ny cy] 136)).drew):=⟨(HAY.o.cell (p:=⟨gl,1,none⟩) (block_lt_of_cell HY0.o.1)).trans HY0.o.1,(HAY.o.cell (p:=⟨gr,1,none⟩) (block_lt_of_cell HY0.o.2)).trans HY0.o.2⟩
 refine wp_region_noPanic ?_
 refine wp_region_held_drew (S:=fun wx=>wx.cell? ⟨gl,1,none⟩=some (.slice (some adx) nx cx)/\wx.cell? ⟨gr,1,none⟩=some (.slice (some ady) ny cy)) (by kernel_rfl) HY0.o (fun hHeld=>?_)
 refine kT 0 36 ?_
 refine kT 1 37 ?_
 refine kT 2 38 ?_
 refine kT 3 39 ?_
 refine kT 4 40 ?_
 refine kT 5 41 ?_
 refine kT 6 42 ?_
 refine kT 7 43 ?_
 refine kT 8 44 ?_
 refine kT 9 45 ?_
 refine kC 10 ?_;intro K hK
 go_simp
 clear hHeld
 refine hK.out _ _ HY1.o (fun hHeld=>?_)
 clear hK K
 try simp only [Act.put,siT,scZ,scS]
 generalize hW4:(w3.alloc (.cells #[.slice (some adx) nx cx,.slice (some ady) ny cy] 136)).drew=w4 at *
 have HB04:Hid (Below w.heap.size w w4):=HB03.o.trans (HAY.o.mono HB03.o.size)
 have HCN:=zH (concatN_ok (S:=[(nx,xL),(ny,yL)]) (us:=[.slice (some adx) nx cx,.slice (some ady) ny cy]) (m:=2) HNY.o rfl rfl (fun j u s hu hs=>by
  match j with
  | 0=>simp at hu hs;subst hu hs;exact HSX.o.later HB04.o
  | 1=>simp at hu hs;subst hu hs;exact HSY.o.later HB04.o
  | j+2=>simp at hu) (by simp [sumS];omega) (by simp [sumS];omega) (by omega))
 have HSG:Hid (sumS [(nx,xL),(ny,yL)]=nx+ny/\flatS [(nx,xL),(ny,yL)]=xL++yL):=⟨by simp [sumS],by simp [flatS]⟩
 rw [HSG.o.1,HSG.o.2] at HCN
 clear HSG
 refine kC 11 ?_;intro K hK
 go_simp
 refine HCN.o.mono ?_
 rintro e w5 ⟨v5,rfl,ho5,hb5⟩
 obtain ⟨a5,c5,hv5⟩:=aAf ho5
 subst hv5
 have HO5:=zH (aHx ho5 HB04.o.size)
 have HB5:=zH hb5
 have HY2:Hid ((fun wx=>wx.cell? ⟨gl,1,none⟩=some (.slice (some adx) nx cx)/\wx.cell? ⟨gr,1,none⟩=some (.slice (some ady) ny cy)) w5):=⟨(HB5.o.cell (p:=⟨gl,1,none⟩) (block_lt_of_cell HY1.o.1)).trans HY1.o.1,(HB5.o.cell (p:=⟨gr,1,none⟩) (block_lt_of_cell HY1.o.2)).trans HY1.o.2⟩
 clear ho5 hb5 hHeld
 refine hK.out _ _ HY2.o (fun hHeld=>?_)
 clear hK K
 try simp only [Act.put,siT,scZ,scS]
 refine kT 12 48 ?_
 have HAZ:=zH (aAb w5 (.cells #[.slice a2 (na+1+nb) c2,.slice a5 (nx+ny) c5] 138))
 have HNZ:Hid ((w5.alloc (.cells #[.slice a2 (na+1+nb) c2,.slice a5 (nx+ny) c5] 138)).heap[w5.heap.size]?=some (.cells #[.slice a2 (na+1+nb) c2,.slice a5 (nx+ny) c5] 138 (0,0))):=heap_alloc_new w5 _
 have HY3:Hid ((fun wx=>wx.cell? ⟨gl,1,none⟩=some (.slice (some adx) nx cx)/\wx.cell? ⟨gr,1,none⟩=some (.slice (some ady) ny cy)) (w5.alloc (.cells #[.slice a2 (na+1+nb) c2,.slice a5 (nx+ny) c5] 138))):=⟨(HAZ.o.cell (p:=⟨gl,1,none⟩) (block_lt_of_cell HY2.o.1)).trans HY2.o.1,(HAZ.o.cell (p:=⟨gr,1,none⟩) (block_lt_of_cell HY2.o.2)).trans HY2.o.2⟩
 refine kC 13 ?_;intro K hK
 go_simp
 clear hHeld
 refine hK.out _ _ HY3.o (fun hHeld=>?_)
 clear hK K
 try simp only [Act.put,siT,scZ,scS]
 refine kT 14 50 ?_
 refine kT 15 9 ?_
 refine wpAnyH_done (by kernel_rfl) ?_ _
 refine NoPanic.normal ?_
 clear hHeld ta HY0 HY1 HY2 HY3 HCN
 have HB05:Hid (Below w.heap.size w w5):=HB04.o.trans (HB5.o.mono HB04.o.size)
 have HB0x:Hid (Below w.heap.size w (w5.alloc (.cells #[.slice a2 (na+1+nb) c2,.slice a5 (nx+ny) c5] 138))):=HB05.o.trans (HAZ.o.mono HB05.o.size)
 have HGLx:Hid (w.heap.size<=w5.heap.size):=HB05.o.size
 have stay:∀ (k:Nat) (o:Obj),w.heap[k]?=some o->(w5.alloc (.cells #[.slice a2 (na+1+nb) c2,.slice a5 (nx+ny) c5] 138)).heap[k]?=some o:=fun k o e=>(HB0x.o.block k (lO e)).trans e
 have HGBx:=zH (stay _ _ HGB.o)
 have HGIx:=zH (stay _ _ HGI.o)
 have HGCx:=zH (stay _ _ HGC.o)
 have HNx:=zH HNZ.o
 have HOy:=zH (aAg HO5.o HAZ.o)
 have HBG:Hid (Below w3.heap.size w3 (w5.alloc (.cells #[.slice a2 (na+1+nb) c2,.slice a5 (nx+ny) c5] 138))):=by
  have q1:=HAY.o
  have q2:=HB5.o.mono q1.size
  exact (q1.trans q2).trans (HAZ.o.mono (nT q1.size HB5.o.size))
 have HOx:=zH (aAg HO3.o HBG.o)
 have r3:(w5.alloc (.cells #[.slice a2 (na+1+nb) c2,.slice a5 (nx+ny) c5] 138)).cell? ⟨gb,0,none⟩=some (.slice (some ⟨gi,0,none⟩) (m+1) (m+1)):=aAa HGBx.o
 clear stay HBG HNZ HAZ HAY HNY HB5 HO5 HO3 HB05 HB04
 generalize hgx:w5.heap.size=gx at *
 generalize hWx:w5.alloc (.cells #[.slice a2 (na+1+nb) c2,.slice a5 (nx+ny) c5] 138)=x3 at *
 clear hWx
 have HSD:=zH (sdel_ok (i:=i) HGIx.o HIC.o (by omega) (by omega) H1.o)
 rw [Nat.add_sub_cancel,e1] at HSD
 go_wp2_with fail
 refine HSD.o.mono ?_
 rintro e x4 ⟨rfl,hgi4,hot4,hbe4⟩
 have hne1:gb≠gi:=by
  intro q9
  have h9:=HGBx.o
  rw [q9,HGIx.o] at h9
  simp only [oI,cI] at h9
  exact absurd h9.2.1 (by decide)
 have hne2:gc≠gi:=by
  intro q9
  have h9:=HGCx.o
  rw [q9,HGIx.o] at h9
  simp only [oI,cI] at h9
  exact absurd h9.2.1 (by decide)
 have hne3:gc≠gb:=by
  intro q9
  have h9:=HGCx.o
  rw [q9,HGBx.o] at h9
  simp only [oI,cI] at h9
  exact absurd h9.2.1 (by decide)
 have HNE:=zH (show gb≠gi/\gc≠gi/\gc≠gb from ⟨hne1,hne2,hne3⟩)
 have HGI4:=zH hgi4
 have HOT4:=zH hot4
 have HBE4:=zH (hbe4 B HB.o.2.1)
 have HGB4:Hid (x4.heap[gb]?=_):=(hot4 gb hne1).trans HGBx.o
 have r4:x4.cell? ⟨gb,0,none⟩=some (.slice (some ⟨gi,0,none⟩) (m+1) (m+1)):=aAa HGB4.o
 have f4:x4.frozen? ⟨gb,0,none⟩=false:=aAc HGB4.o
 clear hne1 hne2 hne3 hgi4 hot4 hbe4 r3 HSD
 go_upto_region 6 with fail
 have HB5a:Hid (x4.heap[gb]?=some (.cells #[.slice (some ⟨gi,0,none⟩) (m+1) (m+1),.slice (some ⟨gc,0,none⟩) (m+2) (m+2)] 138 (0,0))):=HGB4.o
 have HGB5:Hid ((x4.setCell ⟨gb,0,none⟩ (.slice (some ⟨gi,0,none⟩) m (m+1))).heap[gb]?=some (.cells #[.slice (some ⟨gi,0,none⟩) m (m+1),.slice (some ⟨gc,0,none⟩) (m+2) (m+2)] 138 (0,0))):=by
  show _=_
  rw [heap_setCell_same _ _ _ _ _ _ HB5a.o]
  rfl
 have HOT5:Hid (∀ k,k≠gb->(x4.setCell ⟨gb,0,none⟩ (.slice (some ⟨gi,0,none⟩) m (m+1))).heap[k]?=x4.heap[k]?):=fun k hk=>heap_setCell_other _ _ _ _ hk
 have HBE5:Hid (Below B x4 (x4.setCell ⟨gb,0,none⟩ (.slice (some ⟨gi,0,none⟩) m (m+1)))):=(Below.refl _ _).setCell (p:=⟨gb,0,none⟩) HB.o.1 _
 clear r4 f4
 generalize x4.setCell ⟨gb,0,none⟩ (.slice (some ⟨gi,0,none⟩) m (m+1))=x5 at *
 have HGC5:Hid (x5.heap[gc]?=some (.cells cv.toArray 94 (0,0))):=(HOT5.o gc HNE.o.2.2).trans ((HOT4.o gc HNE.o.2.1).trans HGCx.o)
 have HA6:=zH (aAb x5 (.cells #[brP gx] 94))
 have HN6:Hid ((x5.alloc (.cells #[brP gx] 94)).heap[x5.heap.size]?=some (.cells #[brP gx] 94 (0,0))):=heap_alloc_new x5 _
 have HGC6:Hid ((x5.alloc (.cells #[brP gx] 94)).heap[gc]?=some (.cells cv.toArray 94 (0,0))):=(HA6.o.block gc (lO HGC5.o)).trans HGC5.o
 have HGB6:Hid ((x5.alloc (.cells #[brP gx] 94)).heap[gb]?=some (.cells #[.slice (some ⟨gi,0,none⟩) m (m+1),.slice (some ⟨gc,0,none⟩) (m+2) (m+2)] 138 (0,0))):=(HA6.o.block gb (lO HGB5.o)).trans HGB5.o
 have HRP:=zH (repl_any (i:=i) (n:=m+1) HGC6.o HCV.o (by omega) (by omega) (by have:=(lO HGC5.o);omega) HN6.o rfl H2.o)
 rw [e2] at HRP
 have r5:x5.cell? ⟨gb,1,none⟩=some (.slice (some ⟨gc,0,none⟩) (m+2) (m+2)):=aAa HGB5.o
 have hgo:Hid (∀ (k:Nat) (o:Obj),k≠gb->k≠gi->x3.heap[k]?=some o->(x5.alloc (.cells #[brP gx] 94)).heap[k]?=some o):=fun k o n1 n2 e=>by
  have h9:x5.heap[k]?=some o:=(HOT5.o k n1).trans ((HOT4.o k n2).trans e)
  exact (HA6.o.block k (lO h9)).trans h9
 have HGI6:Hid ((x5.alloc (.cells #[brP gx] 94)).heap[gi]?=_):=(HA6.o.block gi (by
  have h9:=HOT5.o gi (Ne.symm HNE.o.1)
  rw [HGI4.o] at h9
  exact (lO h9))).trans ((HOT5.o gi (Ne.symm HNE.o.1)).trans HGI4.o)
 have HBE6:Hid (Below B x3 (x5.alloc (.cells #[brP gx] 94))):=(HBE4.o.trans HBE5.o).trans (HA6.o.mono (by
  have h1:=HBE4.o.size
  have h2:=HBE5.o.size
  have h3:=HB0x.o.size
  have h4:=HBW.o
  omega))
 unfold brP at HRP hgo HGI6 HBE6 HGB6 HN6 HGC6 HA6
 go_wp2_with fail
 refine HRP.o.mono ?_
 rintro e x7 ⟨rfl,hgc7,hot7,hbe7⟩
 have HGC7:=zH hgc7
 have HOT7:=zH hot7
 have HBE7:=zH (hbe7 B HB.o.2.2)
 have HGB7:Hid (x7.heap[gb]?=some (.cells #[.slice (some ⟨gi,0,none⟩) m (m+1),.slice (some ⟨gc,0,none⟩) (m+2) (m+2)] 138 (0,0))):=(hot7 gb (Ne.symm HNE.o.2.2)).trans HGB6.o
 have r7:x7.cell? ⟨gb,1,none⟩=some (.slice (some ⟨gc,0,none⟩) (m+2) (m+2)):=aAa HGB7.o
 have f7:x7.frozen? ⟨gb,1,none⟩=false:=aAc HGB7.o
 clear hgc7 hot7 hbe7 r5 HRP
 go_wp2
 go_end0
 have keep:∀ k,k≠gb->(x7.setCell ⟨gb,1,none⟩ (.slice (some ⟨gc,0,none⟩) (m+1) (m+2))).heap[k]?=x7.heap[k]?:=fun k hk=>heap_setCell_other _ _ _ _ hk
 have big:∀ (k:Nat) (o:Obj),k≠gb->k≠gi->k≠gc->x3.heap[k]?=some o->(x7.setCell ⟨gb,1,none⟩ (.slice (some ⟨gc,0,none⟩) (m+1) (m+2))).heap[k]?=some o:=fun k o n1 n2 n3 e=>(keep k n1).trans ((HOT7.o k n3).trans (hgo.out k o n1 n2 e))
 have lgb:=(lO HGB.o)
 have lgi:=(lO HGI.o)
 have lgc:=(lO HGC.o)
 have lg1:=HGLx.o
 refine ⟨rfl,gx,.slice a2 (na+1+nb) c2,.slice a5 (nx+ny) c5,⟨?_,?_,?_,?_,?_⟩,lg1,big gx _ (by omega) (by omega) (by omega) HNx.o,aAj HOy.o fun k cs hk e=>?_,aAj HOx.o fun k cs hk e=>?_⟩
 ·rw [heap_setCell_same _ _ _ _ _ _ HGB7.o]
  rfl
 ·exact (keep gi (Ne.symm HNE.o.1)).trans ((HOT7.o gi (Ne.symm HNE.o.2.1)).trans HGI6.o)
 ·exact (keep gc HNE.o.2.2).trans HGC7.o
 ·exact ((HB0x.o.mono HBW.o).trans (HBE6.o.trans HBE7.o)).setCell (p:=⟨gb,1,none⟩) HB.o.1 _
 ·intro k hk hn
  simp only [List.mem_cons,List.not_mem_nil,or_false,not_or] at hn
  obtain ⟨o,ho⟩:∃ o,w.heap[k]?=some o:=⟨_,Array.getElem?_eq_getElem hk⟩
  rw [ho]
  exact big k o hn.1 hn.2.1 hn.2.2 ((HB0x.o.block k hk).trans ho)
 ·have h9:=HOy.o.lt k hk
  exact big k _ (by omega) (by omega) (by omega) e
 ·have h9:=HOx.o.lt k hk
  exact big k _ (by omega) (by omega) (by omega) e
theorem ItC.app {B:Nat} {w:World} {ys zs:List Value} {l m:List It} (h:ItC B w ys l) (k:ItC B w zs m):ItC B w (ys++zs) (l++m):=by
 have h1:=h.1
 have k1:=k.1
 refine ⟨by rw [lA,lA,h1,k1];omega,fun i it hi=>?_⟩
 by_cases q:i<l.length
 ·rw [List.getElem?_append_left q] at hi
  obtain ⟨a,c,b,d,e1,e2,e3,e4⟩:=h.2 i it hi
  exact ⟨a,c,b,d,by rw [List.getElem?_append_left (by omega)];exact e1,by rw [List.getElem?_append_left (by omega)];exact e2,e3,e4⟩
 ·rw [List.getElem?_append_right (by omega)] at hi
  obtain ⟨a,c,b,d,e1,e2,e3,e4⟩:=k.2 _ it hi
  refine ⟨a,c,b,d,?_,?_,e3,e4⟩
  ·rw [List.getElem?_append_right (by omega),show i*2-ys.length=(i-l.length)*2 by omega]
   exact e1
  ·rw [List.getElem?_append_right (by omega),show i*2+1-ys.length=(i-l.length)*2+1 by omega]
   exact e2
theorem ItC.take {B n:Nat} {w:World} {ys:List Value} {l:List It} (h:ItC B w ys l):ItC B w (ys.take (n*2)) (l.take n):=by
 have h1:=h.1
 refine ⟨by rw [List.length_take,List.length_take,h1];omega,fun i it hi=>?_⟩
 have hlt:=(lL hi)
 rw [List.length_take] at hlt
 rw [List.getElem?_take_of_lt (by omega)] at hi
 obtain ⟨a,c,b,d,e1,e2,e3,e4⟩:=h.2 i it hi
 exact ⟨a,c,b,d,by rw [List.getElem?_take_of_lt (by omega)];exact e1,by rw [List.getElem?_take_of_lt (by omega)];exact e2,e3,e4⟩
theorem ItC.drop {B n:Nat} {w:World} {ys:List Value} {l:List It} (h:ItC B w ys l):ItC B w (ys.drop (n*2)) (l.drop n):=by
 have h1:=h.1
 refine ⟨by rw [List.length_drop,List.length_drop,h1];omega,fun i it hi=>?_⟩
 rw [List.getElem?_drop] at hi
 obtain ⟨a,c,b,d,e1,e2,e3,e4⟩:=h.2 _ it hi
 exact ⟨a,c,b,d,by rw [List.getElem?_drop,show n*2+i*2=(n+i)*2 by omega];exact e1,by rw [List.getElem?_drop,show n*2+(i*2+1)=(n+i)*2+1 by omega];exact e2,e3,e4⟩
theorem ItC.single {B i:Nat} {w:World} {ys:List Value} {l:List It} {x:It} (h:ItC B w ys l) (hx:l[i]?=some x):ItC B w ((ys.drop (i*2)).take 2) [x]:=by
 have h2:=(h.drop (n:=i)).take (n:=1)
 have e:(l.drop i).take 1=[x]:=by
  have hlt:=(lL hx)
  rw [List.drop_eq_getElem_cons hlt,(List.getElem?_eq_some_iff.1 hx).2]
  rfl
 rw [e] at h2
 exact h2
theorem ItC.erase {B i:Nat} {w:World} {ys:List Value} {l:List It} (h:ItC B w ys l):ItC B w (ys.take (i*2)++ys.drop ((i+1)*2)) (l.eraseIdx i):=by
 rw [List.eraseIdx_eq_take_drop_succ]
 exact h.take.app h.drop
theorem aHe {w:World} {g o n:Nat} (h:∀ j,j<n->∃ v,w.cell? ⟨g,o+j,none⟩=some v):∃ ys:List Value,ys.length=n/\∀ j v,ys[j]?=some v->w.cell? ⟨g,o+j,none⟩=some v:=by
 induction n with
 | zero=>exact ⟨[],rfl,fun j v hj=>by simp at hj⟩
 | succ n ih =>
  obtain ⟨ys,h1,h2⟩:=ih (fun j hj=>h j (by omega))
  obtain ⟨v,hv⟩:=h n (by omega)
  refine ⟨ys++[v],by simp [h1],fun j u hj=>?_⟩
  by_cases q:j<n
  ·rw [List.getElem?_append_left (by omega)] at hj
   exact h2 j u hj
  ·rw [List.getElem?_append_right (by omega)] at hj
   have hlt:=(lL hj)
   simp only [List.length_cons,List.length_nil] at hlt
   have e:j=n:=by omega
   subst e
   rw [h1,Nat.sub_self,List.getElem?_cons_zero,oI] at hj
   subst hj
   exact hv
theorem IV.src {B B1:Nat} {w:World} {v:Value} {l:List It} (h:IV B B1 w v l) (hne:1<=l.length):∃ ys,SrcC w 2 v (l.length,ys)/\ItC B w ys l:=by
 obtain ⟨a,c,rfl,h2,h3,h4,h5⟩:=h
 obtain ⟨x,rfl⟩:∃ x,a=some x:=by
  cases a with
  | none=>have:=h4 rfl;omega
  | some x=>exact ⟨x,rfl⟩
 obtain ⟨g,o,rfl,hB,hcs,hI⟩:=h5 x rfl
 obtain ⟨ys,e1,e2⟩:=aHe (w:=w) (g:=g) (o:=o) (n:=l.length*2) (fun j hj=>by
  obtain ⟨it,hit⟩:∃ it,l[j / 2]?=some it:=⟨_,gE (by omega)⟩
  obtain ⟨a,c,b,d,k1,k2,_,_⟩:=hI _ it hit
  by_cases q:j % 2=0
  ·exact ⟨_,by rw [show o+j=o+j / 2*2 by omega];exact k1⟩
  ·exact ⟨_,by rw [show o+j=o+j / 2*2+1 by omega];exact k2⟩)
 have hI2:ItC B w ys l:=by
  refine ⟨e1,fun i it hi=>?_⟩
  have hlt:=(lL hi)
  obtain ⟨a,c,b,d,k1,k2,k3,k4⟩:=hI i it hi
  obtain ⟨u1,hu1⟩:∃ u,ys[i*2]?=some u:=⟨_,gE (by omega)⟩
  obtain ⟨u2,hu2⟩:∃ u,ys[i*2+1]?=some u:=⟨_,gE (by omega)⟩
  have f1:=e2 _ _ hu1
  have f2:=e2 _ _ hu2
  rw [k1] at f1
  rw [show o+(i*2+1)=o+i*2+1 by omega,k2] at f2
  exact ⟨a,c,b,d,by rw [hu1,f1],by rw [hu2,f2],k3,k4⟩
 exact ⟨ys,⟨⟨g,o,none⟩,c,rfl,e1,fun j u hj=>by rw [Addr.add_lit];exact e2 j u hj,hI2.one⟩,hI2⟩
theorem kids_src {B B1 gc oc cc h:Nat} {w:World} {c:List (ED h)} {Sk:List (List Nat)} (hS:Sk.length=c.length) (hk:∀ i k Si,c[i]?=some k->Sk[i]?=some Si->∃ vk,w.cell? ⟨gc,oc+i,none⟩=some vk/\NV B B1 w h k Si vk):∃ xL,xL.length=c.length/\SrcC w 1 (.slice (some ⟨gc,oc,none⟩) c.length cc) (c.length,xL)/\∀ (i:Nat) k Si vk,c[i]?=some k->Sk[i]?=some Si->xL[i]?=some vk->NV B B1 w h k Si vk:=by
 obtain ⟨xL,e1,e2⟩:=aHe (w:=w) (g:=gc) (o:=oc) (n:=c.length) (fun j hj=>by
  obtain ⟨vk,q,_⟩:=hk j _ _ (gE hj) (gE (by omega))
  exact ⟨vk,q⟩)
 have hn:∀ (i:Nat) k Si vk,c[i]?=some k->Sk[i]?=some Si->xL[i]?=some vk->NV B B1 w h k Si vk:=by
  intro i k Si vk h1 h2 h3
  obtain ⟨vk',q1,q2⟩:=hk i k Si h1 h2
  have:=e2 i vk h3
  rw [q1,oI] at this
  rw [<-this]
  exact q2
 refine ⟨xL,e1,⟨⟨gc,oc,none⟩,cc,rfl,by simpa using e1,fun j u hj=>by rw [Addr.add_lit];exact e2 j u hj,fun u hu=>?_⟩,hn⟩
 obtain ⟨j,hj⟩:=List.mem_iff_getElem?.1 hu
 have hlt:=(lL hj)
 have hlt:j<xL.length:=hlt
 exact (hn j _ _ u (gE (by omega)) (gE (by omega)) hj).cell
theorem Ex.ft3 {B ga gb gc:Nat} {w w':World} {ca cb cc:Array Value} {ta tb tc:TypeId} (h:Ex B [ga,gb,gc] w w') (ha:w.heap[ga]?=some (.cells ca ta (0,0))) (hb:w.heap[gb]?=some (.cells cb tb (0,0))) (hc:w.heap[gc]?=some (.cells cc tc (0,0))) (na:ta≠5) (nb:tb≠5) (nc:tc≠5):FT B w w':=by
 refine ⟨h.1,fun k cs' fz e=>?_⟩
 rw [h.2 k (lO e) ?_,e]
 intro q
 simp only [List.mem_cons,List.not_mem_nil,or_false] at q
 rcases q with rfl | rfl | rfl
 ·rw [ha] at e
  simp only [oI,cI] at e
  exact na e.2.1
 ·rw [hb] at e
  simp only [oI,cI] at e
  exact nb e.2.1
 ·rw [hc] at e
  simp only [oI,cI] at e
  exact nc e.2.1
theorem NV.ex3 {B B2 B3 ga gb gc h:Nat} {w w':World} {e:ED h} {S:List Nat} {v:Value} (hn:NV B B2 w h e S v) (f:FT B w w') (hx:∀ k,k<w.heap.size->k∉[ga,gb,gc]->w'.heap[k]?=w.heap[k]?) (h2:ga<B2/\gb<B2/\gc<B2) (h3:B3<=B2):NV B B3 w' h e S v :=
 NV.up f (fun k hk hl=>hx k hl (by simp only [List.mem_cons,List.not_mem_nil,or_false,not_or];omega)) h3 hn
theorem merge_ok {B B2 gb gi gc i m:Nat} {w:World} {ic cv:List Value} {l:List It} {x:It}
  (hgb:w.heap[gb]?=some (.cells #[.slice (some ⟨gi,0,none⟩) (m+1) (m+1),.slice (some ⟨gc,0,none⟩) (m+2) (m+2)] 138 (0,0))) (hgi:w.heap[gi]?=some (.cells ic.toArray 69 (0,0))) (hgc:w.heap[gc]?=some (.cells cv.toArray 94 (0,0)))
  (hB:B<=gb/\B<=gi/\B<=gc) (hB2:gb<B2/\gi<B2/\gc<B2) (hBw:B2<=w.heap.size) (hic:ItC B w ic l) (hl:l.length=m+1) (hcv:cv.length=m+2) (hm:m<=5) (hi:i<=m) (h2:∀ u∈cv,u.oneCell'=true) (hx:l[i]?=some x) :
  ∀ {h:Nat} (a b:ED h) {Sa Sb:List Nat} {va vb:Value},NV B B2 w h a Sa va->NV B B2 w h b Sb vb->isNew a->isNew b->ShE h 4 a->ShE h 4 b->1<=(itE a).length->1<=(itE b).length ->
  Calls Tryz.prog 108 #[.pointer (some ⟨gb,0,none⟩),.int .i64 (i:Int),va,vb] w fun e w'=>e=.returned (.tuple #[])/\∃ one g1,MrgM B gb gi gc i m (m+1) ic cv one w w'/\NV B B2 w' h (mrgE a x b) (g1::(Sa.tail++Sb.tail)) one/\w.heap.size<=g1/\FT B w w'
 | 0,.inr la,.inr lb,Sa,Sb,va,vb,hna,hnb,_,_,sa,sb,na,nb=>by
  obtain ⟨ga,iva,rfl,rfl,a1,a2,a3⟩:=hna
  obtain ⟨gr,ivb,rfl,rfl,b1,b2,b3⟩:=hnb
  have sa:la.length<=4:=sa
  have sb:lb.length<=4:=sb
  obtain ⟨aL,hsa,hia⟩:=a3.src na
  obtain ⟨bL,hsb,hib⟩:=b3.src nb
  refine (merge_leaf hgb hgi hgc hB (by omega) (by rw [hic.1,hl]) hcv hm hi hic.one h2 a2 b2 hsa hsb (by omega) (by omega)).mono ?_
  rintro e w' ⟨rfl,g1,nv,hM,hg1,hn1,hown⟩
  have hft:FT B w w':=hM.2.2.2.ft3 hgb hgi hgc (by decide) (by decide) (by decide)
  obtain ⟨gn,c,rfl,q1,q2,q3,q4⟩:=RowN.ofOwns hown (by omega)
  have hI:=((hia.app (hic.single hx)).app hib).ft hft
  have hlen:(la++[x]++lb).length=la.length+1+lb.length:=by rw [lA,lA];rfl
  refine ⟨rfl,lfP g1,g1,hM,⟨g1,_,rfl,rfl,by omega,hn1,?_⟩,hg1,hft⟩
  show IV B B2 w' _ (la++x::lb)
  rw [<-hlen,show la++x::lb=la++[x]++lb by simp]
  exact IV.row q4 hI (by omega) (by omega) q3
 | h+1,.inr xa,.inr xb,Sa,Sb,va,vb,hna,hnb,_,_,⟨sa,sa2,_⟩,⟨sb,sb2,_⟩,na,nb=>by
  obtain ⟨ga,iva,gca,oca,cca,Ska,rfl,rfl,a1,a2,a3,a4,a5,a6,a7,a8,a9⟩:=hna
  obtain ⟨gr,ivb,gcb,ocb,ccb,Skb,rfl,rfl,b1,b2,b3,b4,b5,b6,b7,b8,b9⟩:=hnb
  have sa:xa.1.length<=4:=sa
  have sb:xb.1.length<=4:=sb
  have sa2:xa.2.length=xa.1.length+1:=sa2
  have sb2:xb.2.length=xb.1.length+1:=sb2
  obtain ⟨aL,hsa,hia⟩:=a3.src na
  obtain ⟨bL,hsb,hib⟩:=b3.src nb
  obtain ⟨xL,xl,hsx,hkx⟩:=kids_src (cc:=cca) a8 a9
  obtain ⟨yL,yl,hsy,hky⟩:=kids_src (cc:=ccb) b8 b9
  refine (merge_branch hgb hgi hgc hB (by omega) (by rw [hic.1,hl]) hcv hm hi hic.one h2 a2 b2 hsx hsy (by omega) (by omega) (by omega) hsa hsb (by omega) (by omega)).mono ?_
  rintro e w' ⟨rfl,g1,nv,nc,hM,hg1,hn1,hownc,hown⟩
  have hft:FT B w w':=hM.2.2.2.ft3 hgb hgi hgc (by decide) (by decide) (by decide)
  obtain ⟨gn,c,rfl,q1,q2,q3,q4⟩:=RowN.ofOwns hown (by omega)
  obtain ⟨gm,c2,rfl,p1,p2,p3,⟨row,p4⟩⟩:=RowN.ofOwns hownc (by omega)
  have hI:=((hia.app (hic.single hx)).app hib).ft hft
  have hlen:(xa.1++[x]++xb.1).length=xa.1.length+1+xb.1.length:=by rw [lA,lA];rfl
  have hlenc:(xa.2++xb.2).length=xa.2.length+xb.2.length:=lA
  refine ⟨rfl,brP g1,g1,hM,?_,hg1,hft⟩
  show NV B B2 w' (h+1) (.inr (xa.1++x::xb.1,xa.2++xb.2)) _ _
  refine ⟨g1,_,gm,0,c2,Ska++Skb,by rw [List.flatten_append];rfl,rfl,by omega,by rw [hlenc];exact hn1,?_,by omega,by rw [hlenc];exact p2,p3,⟨_,p4⟩,by rw [hlenc,lA];omega,fun j k Sj hj hSj=>?_⟩
  ·show IV B B2 w' _ (xa.1++x::xb.1)
   rw [<-hlen,show xa.1++x::xb.1=xa.1++[x]++xb.1 by simp]
   exact IV.row q4 hI (by omega) (by omega) q3
  ·have hj:(xa.2++xb.2)[j]?=some k:=hj
   have hjl:=(lL hj)
   rw [lA] at hjl
   obtain ⟨v,hv⟩:∃ v,(xL++yL)[j]?=some v:=⟨_,gE (by rw [lA];omega)⟩
   refine ⟨v,?_,?_⟩
   ·rw [aAa p4,Nat.zero_add,List.getElem?_toArray,List.getElem?_append_left (by rw [lA];omega)]
    exact hv
   ·refine NV.ex3 (B2:=B2) ?_ hft hM.2.2.2.2 hB2 (nR _)
    by_cases q:j<xa.2.length
    ·rw [List.getElem?_append_left (by omega)] at hj hSj hv
     exact hkx j k Sj v hj hSj hv
    ·rw [List.getElem?_append_right (by omega)] at hj hSj hv
     rw [a8] at hSj
     rw [xl] at hv
     exact hky _ k Sj v hj hSj hv
theorem aFi {w:World} {g gv i M:Nat} {cs tl:List Value} {k v:Value} (hg:w.heap[g]?=some (.cells (cs++tl).toArray 69 (0,0))) (hl:cs.length=M*2) (ht:tl.length=2) (hL:M<=10) (hi:i<=M) (hne:gv≠g) (hv:w.heap[gv]?=some (.cells #[k,v] 69 (0,0))) (h1:∀ u∈cs,u.oneCell'=true) (hk1:k.oneCell'=true) (hv1:v.oneCell'=true) :
  Calls Tryz.prog 109 #[.slice (some ⟨g,0,none⟩) M (M+1),.int .i64 (i:Int),.slice (some ⟨gv,0,none⟩) 1 1] w fun e w'=>e=.returned (.slice (some ⟨g,0,none⟩) (M+1) (M+1))/\w'.heap[g]?=some (.cells (cs.take (i*2)++k::v::cs.drop (i*2)).toArray 69 (0,0))/\(∀ k,k≠g->w'.heap[k]?=w.heap[k]?)/\∀ B,B<=g->Below B w w':=by
 by_cases e:i=M
 ·subst e
  have h:=insR_end hg hl ht hL hv hk1 hv1
  have e1:cs.take (i*2)=cs:=List.take_of_length_le (by omega)
  have e2:cs.drop (i*2)=[]:=List.drop_of_length_le (by omega)
  rw [e1,e2]
  exact h
 ·exact insR_mid hg hl ht hL (by omega) hne hv h1 hk1 hv1
theorem aD5 {w:World} {g gv i M:Nat} {cs tl:List Value} {l r:Value} (hg:w.heap[g]?=some (.cells (cs++tl).toArray 94 (0,0))) (hl:cs.length=M) (ht:tl.length=1) (hL:M<=10) (hi:i<M) (hne:gv≠g) (hv:w.heap[gv]?=some (.cells #[l,r] 94 (0,0))) (h1:∀ u∈cs,u.oneCell'=true) (hk1:l.oneCell'=true) (hv1:r.oneCell'=true) :
  Calls Tryz.prog 110 #[.slice (some ⟨g,0,none⟩) M (M+1),.int .i64 (i:Int),.int .i64 ((i:Int)+1),.slice (some ⟨gv,0,none⟩) 2 2] w fun e w'=>e=.returned (.slice (some ⟨g,0,none⟩) (M+1) (M+1))/\w'.heap[g]?=some (.cells (cs.take i++l::r::cs.drop (i+1)).toArray 94 (0,0))/\(∀ k,k≠g->w'.heap[k]?=w.heap[k]?)/\∀ B,B<=g->Below B w w':=by
 have e0:((i+1:Nat):Int)=(i:Int)+1:=by omega
 by_cases e:i+1=M
 ·subst e
  have h:=replR_end hg hl ht (by omega) hv hk1 hv1
  rw [e0] at h
  exact h
 ·have h:=replR_mid hg hl ht hL (show i+2<=M by omega) (Ne.symm hne) hv h1 hk1 hv1
  rw [e0] at h
  exact h
def SplM (B gb gi gc i m n:Nat) (ic cv:List Value) (kv vv lv rv:Value) (w w':World):Prop:=w'.heap[gb]?=some (.cells #[.slice (some ⟨gi,0,none⟩) (m+1) (m+1),.slice (some ⟨gc,0,none⟩) (n+1) (n+1)] 138 (0,0))/\w'.heap[gi]?=some (.cells (ic.take (i*2)++kv::vv::ic.drop (i*2)).toArray 69 (0,0)) /\
 w'.heap[gc]?=some (.cells (cv.take i++lv::rv::cv.drop (i+1)).toArray 94 (0,0))/\Ex B [gb,gi,gc] w w'
theorem splitR_leaf5 {B gb gi gc n i g5 gq oq cq m:Nat} {w:World} {ka va:Option Addr} {kn kc vn vc:Nat} {ic cv t1 t2:List Value} (hgb:w.heap[gb]?=some (.cells #[.slice (some ⟨gi,0,none⟩) m (m+1),.slice (some ⟨gc,0,none⟩) n (n+1)] 138 (0,0))) (hgi:w.heap[gi]?=some (.cells (ic++t1).toArray 69 (0,0))) (hgc:w.heap[gc]?=some (.cells (cv++t2).toArray 94 (0,0)))
  (hB:B<=gb/\B<=gi/\B<=gc) (hBw:B<=w.heap.size) (hic:ic.length=m*2) (ht1:t1.length=2) (hm10:m<=10) (him:i<=m) (h0:∀ u∈ic,u.oneCell'=true) (hn:cv.length=n) (ht2:t2.length=1) (hn10:n<=10) (hi:i<n) (h1:∀ u∈cv,u.oneCell'=true)
  (hcv:cv[i]?=some (lfP g5)) (hg5:w.heap[g5]?=some (.cells #[.slice (some ⟨gq,oq,none⟩) 5 cq] 120 (0,0))) (hcq:5<=cq) (hk:w.cell? ⟨gq,oq+4,none⟩=some (.slice ka kn kc)) (hv:w.cell? ⟨gq,oq+5,none⟩=some (.slice va vn vc)) :
  Calls Tryz.prog 83 #[.pointer (some ⟨gb,0,none⟩),.int .i64 (i:Int)] w fun e w'=>e=.returned (.tuple #[])/\∃ gl gr,SplM B gb gi gc i m n ic cv (.slice ka kn kc) (.slice va vn vc) (lfP gl) (lfP gr) w w'/\w'.heap[gl]?=some (.cells #[.slice (some ⟨gq,oq,none⟩) 2 cq] 120 (0,0))/\w'.heap[gr]?=some (.cells #[.slice (some ⟨gq,oq+6,none⟩) 2 (cq-3)] 120 (0,0))/\gl≠gr/\w.heap.size<=gl/\w.heap.size<=gr:=by
 have HGB:=zH hgb
 have HGI:=zH hgi
 have HGC:=zH hgc
 have HG5:=zH hg5
 have HB:=zH hB
 have HBW:=zH hBw
 have HK:=zH hk
 have HV:=zH hv
 have H0:=zH h0
 have H1:=zH h1
 have HN:=zH hn
 have HIC:=zH hic
 have HT1:=zH ht1
 have HT2:=zH ht2
 have HIO:=zH (aAq hg5)
 unfold lfP at HIO
 have r0:w.cell? ⟨gb,1,none⟩=some (.slice (some ⟨gc,0,none⟩) n (n+1)):=aAa hgb
 have r1:w.cell? ⟨gc,i,none⟩=some (.iface 117 (.pointer (some ⟨g5,0,none⟩))):=by rw [aAa hgc,List.getElem?_toArray,List.getElem?_append_left (by omega)];exact hcv
 have hcq3:¬ cq=3:=by omega
 have xi:(i:Int)<(n:Int):=by omega
 have HT:=zH (aAm (.pointer (some ⟨g5,0,none⟩)))
 clear hgb hgi hgc hg5 hB hBw h0 h1 hn hic ht1 ht2 hk hv hcv
 go_enter Tryz.func83,Tryz.ntmps83
 go_wp2_with fail
 refine HIO.o.mono ?_
 rintro e w1 ⟨rfl,hw⟩
 have hw:=hw.symm
 subst hw
 go_upto_region 2 with fail
 go_cut [6,7] from 21 to 33 (fun a b wx=>∃ g1 g2,a=.iface 117 (.pointer (some ⟨g1,0,none⟩))/\b=.iface 117 (.pointer (some ⟨g2,0,none⟩))/\wx.heap[g1]?=some (.cells #[.slice (some ⟨gq,oq,none⟩) 2 cq] 120 (0,0))/\wx.heap[g2]?=some (.cells #[.slice (some ⟨gq,oq+6,none⟩) 2 (cq-3)] 120 (0,0))/\g1≠g2/\w.heap.size<=g1/\w.heap.size<=g2/\Below w.heap.size w wx)
 case first =>
  go_region
  ·go_wp2
   go_meet
   obtain ⟨q1,q2,q3⟩:=aBs w #[.slice (some ⟨gq,oq,none⟩) 2 cq] #[.slice (some ⟨gq,oq+6,none⟩) 2 (cq-3)] 120 120
   exact ⟨w.heap.size,w.heap.size+1,rfl,rfl,q1,q2,by omega,by omega,by omega,q3⟩
  ·go_wp2
   go_meet
   obtain ⟨q1,q2,q3⟩:=aBs w #[.slice (some ⟨gq,oq+6,none⟩) 2 (cq-3)] #[.slice (some ⟨gq,oq,none⟩) 2 cq] 120 120
   exact ⟨w.heap.size+1,w.heap.size,rfl,rfl,q2,q1,by omega,by omega,by omega,q3⟩
 case rest =>
  obtain ⟨gl,gr,rfl,rfl,z1,z2,z3,z4,z5,z6⟩:=hcut
  have HZ1:=zH z1
  have HZ2:=zH z2
  have HZ6:=zH z6
  have HGBc:Hid (wc.heap[gb]?=some (.cells #[.slice (some ⟨gi,0,none⟩) m (m+1),.slice (some ⟨gc,0,none⟩) n (n+1)] 138 (0,0))):=(z6.block gb (lO HGB.o)).trans HGB.o
  have c0:wc.cell? ⟨gb,0,none⟩=some (.slice (some ⟨gi,0,none⟩) m (m+1)):=aAa HGBc.o
  have c1:wc.cell? ⟨gb,1,none⟩=some (.slice (some ⟨gc,0,none⟩) n (n+1)):=aAa HGBc.o
  have c2:wc.cell? ⟨gc,i,none⟩=some (.iface 117 (.pointer (some ⟨g5,0,none⟩))):=(z6.cell (p:=⟨gc,i,none⟩) (block_lt_of_cell r1)).trans r1
  have c3:wc.cell? ⟨gq,oq+4,none⟩=some (.slice ka kn kc):=(z6.cell (p:=⟨gq,oq+4,none⟩) (block_lt_of_cell HK.o)).trans HK.o
  have c4:wc.cell? ⟨gq,oq+5,none⟩=some (.slice va vn vc):=(z6.cell (p:=⟨gq,oq+5,none⟩) (block_lt_of_cell HV.o)).trans HV.o
  have ta:=HT.o wc
  have f0:wc.frozen? ⟨gb,0,none⟩=false:=aAc HGBc.o
  have hgbl:=(lO HGBc.o)
  have hgql:gq<wc.heap.size:=block_lt_of_cell c3
  clear z1 z2 z6 r0 r1
  go_upto_region 7 with fail
  have hgib:gi≠gb:=by
   intro q9
   have h9:=HGI.o
   rw [q9,HGB.o] at h9
   simp only [oI,cI] at h9
   exact absurd h9.2.1 (by decide)
  have hgcb:gc≠gb:=by
   intro q9
   have h9:=HGC.o
   rw [q9,HGB.o] at h9
   simp only [oI,cI] at h9
   exact absurd h9.2.1 (by decide)
  have hgci:gc≠gi:=by
   intro q9
   have h9:=HGC.o
   rw [q9,HGI.o] at h9
   simp only [oI,cI] at h9
   exact absurd h9.2.1 (by decide)
  have hgiw:=(lO HGI.o)
  have hgcw:=(lO HGC.o)
  have hgbw:=(lO HGB.o)
  have hsz:=HZ6.o.size
  have HBA:=zH ((aAb wc (.cells #[.slice ka kn kc,.slice va vn vc] 69)).drew)
  have HNA:Hid ((wc.alloc (.cells #[.slice ka kn kc,.slice va vn vc] 69)).drew.heap[wc.heap.size]?=some (.cells #[.slice ka kn kc,.slice va vn vc] 69 (0,0))):=heap_alloc_new wc _
  have HII:=zH (aFi (w:=(wc.alloc (.cells #[.slice ka kn kc,.slice va vn vc] 69)).drew) (i:=i) ((HBA.o.block gi (by omega)).trans ((HZ6.o.block gi hgiw).trans HGI.o)) HIC.o HT1.o hm10 him (show wc.heap.size≠gi by omega) HNA.o H0.o rfl rfl)
  go_cut [] from 73 to 86 (fun wx=>wx.heap[gb]?=some (.cells #[.slice (some ⟨gi,0,none⟩) (m+1) (m+1),.slice (some ⟨gc,0,none⟩) n (n+1)] 138 (0,0))/\wx.heap[gi]?=some (.cells (ic.take (i*2)++.slice ka kn kc::.slice va vn vc::ic.drop (i*2)).toArray 69 (0,0))/\Ex B [gb,gi] wc wx)
  case first =>
   go_region_with ((go_at_call 109;refine HII.o.mono ?_;rintro e w2 ⟨rfl,hgi2,hoth2,hbl2⟩;have HGB2:Hid (w2.heap[gb]?=some (.cells #[.slice (some ⟨gi,0,none⟩) m (m+1),.slice (some ⟨gc,0,none⟩) n (n+1)] 138 (0,0))):=(hoth2 gb hgib.symm).trans ((HBA.o.block gb hgbl).trans HGBc.o);have z0:w2.cell? ⟨gb,0,none⟩=some (.slice (some ⟨gi,0,none⟩) m (m+1)):=aAa HGB2.o;have f2:w2.frozen? ⟨gb,0,none⟩=false:=aAc HGB2.o;have HG2:=zH hgi2;have HO2:=zH hoth2;have HBL2:=zH (hbl2 B HB.o.2.1);clear hgi2 hoth2 hbl2))
   all_goals
    go_wp2
    go_meet
    refine ⟨?_,?_,?_,?_⟩
    ·rw [heap_setCell_same _ _ _ _ _ _ HGB2.o]
     rfl
    ·rw [heap_setCell_other _ _ _ _ (by exact hgib)]
     exact HG2.o
    ·exact ((HBA.o.mono (nT HBW.o HZ6.o.size)).trans HBL2.o).trans ((Below.refl B w2).setCell (p:=⟨gb,0,none⟩) HB.o.1 _)
    ·intro k hk hnk
     simp only [List.mem_cons,List.not_mem_nil,or_false,not_or] at hnk
     rw [heap_setCell_other _ _ _ _ (by exact hnk.1),HO2.o k hnk.2,HBA.o.block k hk]
  case rest =>
   obtain ⟨y1,y2,y6⟩:=hcut
   have HGC2:Hid (wc.heap[gc]?=some (.cells (cv++t2).toArray 94 (0,0))):=by
    show _=_
    rw [y6.2 gc (Nat.lt_of_lt_of_le hgcw HZ6.o.size) (by simp [hgcb,hgci]),HZ6.o.block gc hgcw]
    exact HGC.o
   have hglb:gl≠gb:=by omega
   have hgrb:gr≠gb:=by omega
   have hgli:gl≠gi:=by omega
   have hgri:gr≠gi:=by omega
   have hglc:gl≠gc:=by omega
   have hgrc:gr≠gc:=by omega
   have HL2:Hid (wc.heap[gl]?=some (.cells #[.slice (some ⟨gq,oq,none⟩) 2 cq] 120 (0,0))):=(y6.2 gl (lO HZ1.o) (by simp [hglb,hgli])).trans HZ1.o
   have HR2:Hid (wc.heap[gr]?=some (.cells #[.slice (some ⟨gq,oq+6,none⟩) 2 (cq-3)] 120 (0,0))):=(y6.2 gr (lO HZ2.o) (by simp [hgrb,hgri])).trans HZ2.o
   have HEx:Hid (Ex B [gb,gi] w wc):=⟨(HZ6.o.mono HBW.o).trans y6.1,fun k hk hnk=>(y6.2 k (Nat.lt_of_lt_of_le hk HZ6.o.size) hnk).trans (HZ6.o.block k hk)⟩
   have HSW:Hid (w.heap.size<=wc.heap.size):=nT HZ6.o.size y6.1.size
   have hsw:w.heap.size<=wc.heap.size:=HSW.o
   have HY1:=zH y1
   have HY2:=zH y2
   have hgbl9:=(lO y1)
   clear c0 c1 c2 c3 c4 ta f0 hgbl hgql y1 y2 y6 HBA HNA HII
   have d1:wc.cell? ⟨gb,1,none⟩=some (.slice (some ⟨gc,0,none⟩) n (n+1)):=aAa HY1.o
   have HBA:=zH (aAb wc (.cells #[lfP gl,lfP gr] 94))
   have HNA:Hid ((wc.alloc (.cells #[lfP gl,lfP gr] 94)).heap[wc.heap.size]?=some (.cells #[lfP gl,lfP gr] 94 (0,0))):=heap_alloc_new wc _
   have HRP:=zH (aD5 (w:=wc.alloc (.cells #[lfP gl,lfP gr] 94)) (i:=i) ((HBA.o.block gc (lO HGC2.o)).trans HGC2.o) HN.o HT2.o hn10 hi (show wc.heap.size≠gc by omega) HNA.o H1.o rfl rfl)
   unfold lfP at HRP HBA HNA
   clear hgib hgcb hgci hgiw hgcw hgbw hglb hgrb hgli hgri hglc hgrc
   go_wp2_with fail
   refine HRP.o.mono ?_
   rintro e w5 ⟨rfl,hgc5,hoth5,hbl5⟩
   have hgib:gi≠gb:=by
    intro q9
    have h9:=HGI.o
    rw [q9,HGB.o] at h9
    simp only [oI,cI] at h9
    exact absurd h9.2.1 (by decide)
   have hgcb:gc≠gb:=by
    intro q9
    have h9:=HGC.o
    rw [q9,HGB.o] at h9
    simp only [oI,cI] at h9
    exact absurd h9.2.1 (by decide)
   have hgci:gc≠gi:=by
    intro q9
    have h9:=HGC.o
    rw [q9,HGI.o] at h9
    simp only [oI,cI] at h9
    exact absurd h9.2.1 (by decide)
   have HG5n:=zH hgc5
   have HO5:=zH hoth5
   have HBL5:=zH (hbl5 B HB.o.2.2)
   have HGB5:Hid (w5.heap[gb]?=some (.cells #[.slice (some ⟨gi,0,none⟩) (m+1) (m+1),.slice (some ⟨gc,0,none⟩) n (n+1)] 138 (0,0))):=(hoth5 gb hgcb.symm).trans ((HBA.o.block gb hgbl9).trans HY1.o)
   have e1:w5.cell? ⟨gb,1,none⟩=some (.slice (some ⟨gc,0,none⟩) n (n+1)):=aAa HGB5.o
   have f5:w5.frozen? ⟨gb,1,none⟩=false:=aAc HGB5.o
   have HNE:Hid (gi≠gb/\gc≠gb/\gc≠gi):=⟨hgib,hgcb,hgci⟩
   clear hgc5 hoth5 hbl5 HRP d1 hgib hgcb hgci
   go_wp2
   go_end0
   obtain ⟨hgib,hgcb,hgci⟩:=HNE.o
   have hgiw:=(lO HGI.o)
   have hgcw:=(lO HGC.o)
   have hgbw:=(lO HGB.o)
   have oth:∀ k,k≠gb->k≠gc->k<wc.heap.size->(w5.setCell ⟨gb,1,none⟩ (.slice (some ⟨gc,0,none⟩) (n+1) (n+1))).heap[k]?=wc.heap[k]?:=fun k hk hk2 hk3=>by
    rw [heap_setCell_other _ _ _ _ (by exact hk),HO5.o k hk2,HBA.o.block k hk3]
   refine ⟨rfl,gl,gr,⟨?_,?_,?_,?_,?_⟩,?_,?_,z3,z4,z5⟩
   ·rw [heap_setCell_same _ _ _ _ _ _ HGB5.o]
    rfl
   ·rw [oth gi hgib hgci.symm (by omega)]
    exact HY2.o
   ·rw [heap_setCell_other _ _ _ _ (by exact hgcb)]
    exact HG5n.o
   ·exact ((HEx.o.1.trans (HBA.o.mono (nT HBW.o HSW.o))).trans HBL5.o).trans ((Below.refl B w5).setCell (p:=⟨gb,1,none⟩) HB.o.1 _)
   ·intro k hk hnk
    simp only [List.mem_cons,List.not_mem_nil,or_false,not_or] at hnk
    rw [oth k hnk.1 hnk.2.2 (by omega)]
    exact HEx.o.2 k hk (by simp [hnk.1,hnk.2.1])
   ·rw [oth gl (by omega) (by omega) (lO HL2.o)]
    exact HL2.o
   ·rw [oth gr (by omega) (by omega) (lO HR2.o)]
    exact HR2.o
theorem splitR_leaf6 {B gb gi gc n i g5 gq oq cq m:Nat} {w:World} {ka va:Option Addr} {kn kc vn vc:Nat} {ic cv t1 t2:List Value} (hgb:w.heap[gb]?=some (.cells #[.slice (some ⟨gi,0,none⟩) m (m+1),.slice (some ⟨gc,0,none⟩) n (n+1)] 138 (0,0))) (hgi:w.heap[gi]?=some (.cells (ic++t1).toArray 69 (0,0))) (hgc:w.heap[gc]?=some (.cells (cv++t2).toArray 94 (0,0)))
  (hB:B<=gb/\B<=gi/\B<=gc) (hBw:B<=w.heap.size) (hic:ic.length=m*2) (ht1:t1.length=2) (hm10:m<=10) (him:i<=m) (h0:∀ u∈ic,u.oneCell'=true) (hn:cv.length=n) (ht2:t2.length=1) (hn10:n<=10) (hi:i<n) (h1:∀ u∈cv,u.oneCell'=true)
  (hcv:cv[i]?=some (lfP g5)) (hg5:w.heap[g5]?=some (.cells #[.slice (some ⟨gq,oq,none⟩) 6 cq] 120 (0,0))) (hcq:6<=cq) (hk:w.cell? ⟨gq,oq+6,none⟩=some (.slice ka kn kc)) (hv:w.cell? ⟨gq,oq+7,none⟩=some (.slice va vn vc)) :
  Calls Tryz.prog 83 #[.pointer (some ⟨gb,0,none⟩),.int .i64 (i:Int)] w fun e w'=>e=.returned (.tuple #[])/\∃ gl gr,SplM B gb gi gc i m n ic cv (.slice ka kn kc) (.slice va vn vc) (lfP gl) (lfP gr) w w'/\w'.heap[gl]?=some (.cells #[.slice (some ⟨gq,oq,none⟩) 3 cq] 120 (0,0))/\w'.heap[gr]?=some (.cells #[.slice (some ⟨gq,oq+8,none⟩) 2 (cq-4)] 120 (0,0))/\gl≠gr/\w.heap.size<=gl/\w.heap.size<=gr:=by
 have HGB:=zH hgb
 have HGI:=zH hgi
 have HGC:=zH hgc
 have HG5:=zH hg5
 have HB:=zH hB
 have HBW:=zH hBw
 have HK:=zH hk
 have HV:=zH hv
 have H0:=zH h0
 have H1:=zH h1
 have HN:=zH hn
 have HIC:=zH hic
 have HT1:=zH ht1
 have HT2:=zH ht2
 have HIO:=zH (aAq hg5)
 unfold lfP at HIO
 have r0:w.cell? ⟨gb,1,none⟩=some (.slice (some ⟨gc,0,none⟩) n (n+1)):=aAa hgb
 have r1:w.cell? ⟨gc,i,none⟩=some (.iface 117 (.pointer (some ⟨g5,0,none⟩))):=by rw [aAa hgc,List.getElem?_toArray,List.getElem?_append_left (by omega)];exact hcv
 have hcq3:¬ cq=4:=by omega
 have xi:(i:Int)<(n:Int):=by omega
 have HT:=zH (aAm (.pointer (some ⟨g5,0,none⟩)))
 clear hgb hgi hgc hg5 hB hBw h0 h1 hn hic ht1 ht2 hk hv hcv
 go_enter Tryz.func83,Tryz.ntmps83
 go_wp2_with fail
 refine HIO.o.mono ?_
 rintro e w1 ⟨rfl,hw⟩
 have hw:=hw.symm
 subst hw
 go_upto_region 2 with fail
 go_cut [6,7] from 21 to 33 (fun a b wx=>∃ g1 g2,a=.iface 117 (.pointer (some ⟨g1,0,none⟩))/\b=.iface 117 (.pointer (some ⟨g2,0,none⟩))/\wx.heap[g1]?=some (.cells #[.slice (some ⟨gq,oq,none⟩) 3 cq] 120 (0,0))/\wx.heap[g2]?=some (.cells #[.slice (some ⟨gq,oq+8,none⟩) 2 (cq-4)] 120 (0,0))/\g1≠g2/\w.heap.size<=g1/\w.heap.size<=g2/\Below w.heap.size w wx)
 case first =>
  go_region
  ·go_wp2
   go_meet
   obtain ⟨q1,q2,q3⟩:=aBs w #[.slice (some ⟨gq,oq,none⟩) 3 cq] #[.slice (some ⟨gq,oq+8,none⟩) 2 (cq-4)] 120 120
   exact ⟨w.heap.size,w.heap.size+1,rfl,rfl,q1,q2,by omega,by omega,by omega,q3⟩
  ·go_wp2
   go_meet
   obtain ⟨q1,q2,q3⟩:=aBs w #[.slice (some ⟨gq,oq+8,none⟩) 2 (cq-4)] #[.slice (some ⟨gq,oq,none⟩) 3 cq] 120 120
   exact ⟨w.heap.size+1,w.heap.size,rfl,rfl,q2,q1,by omega,by omega,by omega,q3⟩
 case rest =>
  obtain ⟨gl,gr,rfl,rfl,z1,z2,z3,z4,z5,z6⟩:=hcut
  have HZ1:=zH z1
  have HZ2:=zH z2
  have HZ6:=zH z6
  have HGBc:Hid (wc.heap[gb]?=some (.cells #[.slice (some ⟨gi,0,none⟩) m (m+1),.slice (some ⟨gc,0,none⟩) n (n+1)] 138 (0,0))):=(z6.block gb (lO HGB.o)).trans HGB.o
  have c0:wc.cell? ⟨gb,0,none⟩=some (.slice (some ⟨gi,0,none⟩) m (m+1)):=aAa HGBc.o
  have c1:wc.cell? ⟨gb,1,none⟩=some (.slice (some ⟨gc,0,none⟩) n (n+1)):=aAa HGBc.o
  have c2:wc.cell? ⟨gc,i,none⟩=some (.iface 117 (.pointer (some ⟨g5,0,none⟩))):=(z6.cell (p:=⟨gc,i,none⟩) (block_lt_of_cell r1)).trans r1
  have c3:wc.cell? ⟨gq,oq+6,none⟩=some (.slice ka kn kc):=(z6.cell (p:=⟨gq,oq+6,none⟩) (block_lt_of_cell HK.o)).trans HK.o
  have c4:wc.cell? ⟨gq,oq+7,none⟩=some (.slice va vn vc):=(z6.cell (p:=⟨gq,oq+7,none⟩) (block_lt_of_cell HV.o)).trans HV.o
  have ta:=HT.o wc
  have f0:wc.frozen? ⟨gb,0,none⟩=false:=aAc HGBc.o
  have hgbl:=(lO HGBc.o)
  have hgql:gq<wc.heap.size:=block_lt_of_cell c3
  clear z1 z2 z6 r0 r1
  go_upto_region 7 with fail
  have hgib:gi≠gb:=by
   intro q9
   have h9:=HGI.o
   rw [q9,HGB.o] at h9
   simp only [oI,cI] at h9
   exact absurd h9.2.1 (by decide)
  have hgcb:gc≠gb:=by
   intro q9
   have h9:=HGC.o
   rw [q9,HGB.o] at h9
   simp only [oI,cI] at h9
   exact absurd h9.2.1 (by decide)
  have hgci:gc≠gi:=by
   intro q9
   have h9:=HGC.o
   rw [q9,HGI.o] at h9
   simp only [oI,cI] at h9
   exact absurd h9.2.1 (by decide)
  have hgiw:=(lO HGI.o)
  have hgcw:=(lO HGC.o)
  have hgbw:=(lO HGB.o)
  have hsz:=HZ6.o.size
  have HBA:=zH ((aAb wc (.cells #[.slice ka kn kc,.slice va vn vc] 69)).drew)
  have HNA:Hid ((wc.alloc (.cells #[.slice ka kn kc,.slice va vn vc] 69)).drew.heap[wc.heap.size]?=some (.cells #[.slice ka kn kc,.slice va vn vc] 69 (0,0))):=heap_alloc_new wc _
  have HII:=zH (aFi (w:=(wc.alloc (.cells #[.slice ka kn kc,.slice va vn vc] 69)).drew) (i:=i) ((HBA.o.block gi (by omega)).trans ((HZ6.o.block gi hgiw).trans HGI.o)) HIC.o HT1.o hm10 him (show wc.heap.size≠gi by omega) HNA.o H0.o rfl rfl)
  go_cut [] from 73 to 86 (fun wx=>wx.heap[gb]?=some (.cells #[.slice (some ⟨gi,0,none⟩) (m+1) (m+1),.slice (some ⟨gc,0,none⟩) n (n+1)] 138 (0,0))/\wx.heap[gi]?=some (.cells (ic.take (i*2)++.slice ka kn kc::.slice va vn vc::ic.drop (i*2)).toArray 69 (0,0))/\Ex B [gb,gi] wc wx)
  case first =>
   go_region_with ((go_at_call 109;refine HII.o.mono ?_;rintro e w2 ⟨rfl,hgi2,hoth2,hbl2⟩;have HGB2:Hid (w2.heap[gb]?=some (.cells #[.slice (some ⟨gi,0,none⟩) m (m+1),.slice (some ⟨gc,0,none⟩) n (n+1)] 138 (0,0))):=(hoth2 gb hgib.symm).trans ((HBA.o.block gb hgbl).trans HGBc.o);have z0:w2.cell? ⟨gb,0,none⟩=some (.slice (some ⟨gi,0,none⟩) m (m+1)):=aAa HGB2.o;have f2:w2.frozen? ⟨gb,0,none⟩=false:=aAc HGB2.o;have HG2:=zH hgi2;have HO2:=zH hoth2;have HBL2:=zH (hbl2 B HB.o.2.1);clear hgi2 hoth2 hbl2))
   all_goals
    go_wp2
    go_meet
    refine ⟨?_,?_,?_,?_⟩
    ·rw [heap_setCell_same _ _ _ _ _ _ HGB2.o]
     rfl
    ·rw [heap_setCell_other _ _ _ _ (by exact hgib)]
     exact HG2.o
    ·exact ((HBA.o.mono (nT HBW.o HZ6.o.size)).trans HBL2.o).trans ((Below.refl B w2).setCell (p:=⟨gb,0,none⟩) HB.o.1 _)
    ·intro k hk hnk
     simp only [List.mem_cons,List.not_mem_nil,or_false,not_or] at hnk
     rw [heap_setCell_other _ _ _ _ (by exact hnk.1),HO2.o k hnk.2,HBA.o.block k hk]
  case rest =>
   obtain ⟨y1,y2,y6⟩:=hcut
   have HGC2:Hid (wc.heap[gc]?=some (.cells (cv++t2).toArray 94 (0,0))):=by
    show _=_
    rw [y6.2 gc (Nat.lt_of_lt_of_le hgcw HZ6.o.size) (by simp [hgcb,hgci]),HZ6.o.block gc hgcw]
    exact HGC.o
   have hglb:gl≠gb:=by omega
   have hgrb:gr≠gb:=by omega
   have hgli:gl≠gi:=by omega
   have hgri:gr≠gi:=by omega
   have hglc:gl≠gc:=by omega
   have hgrc:gr≠gc:=by omega
   have HL2:Hid (wc.heap[gl]?=some (.cells #[.slice (some ⟨gq,oq,none⟩) 3 cq] 120 (0,0))):=(y6.2 gl (lO HZ1.o) (by simp [hglb,hgli])).trans HZ1.o
   have HR2:Hid (wc.heap[gr]?=some (.cells #[.slice (some ⟨gq,oq+8,none⟩) 2 (cq-4)] 120 (0,0))):=(y6.2 gr (lO HZ2.o) (by simp [hgrb,hgri])).trans HZ2.o
   have HEx:Hid (Ex B [gb,gi] w wc):=⟨(HZ6.o.mono HBW.o).trans y6.1,fun k hk hnk=>(y6.2 k (Nat.lt_of_lt_of_le hk HZ6.o.size) hnk).trans (HZ6.o.block k hk)⟩
   have HSW:Hid (w.heap.size<=wc.heap.size):=nT HZ6.o.size y6.1.size
   have hsw:w.heap.size<=wc.heap.size:=HSW.o
   have HY1:=zH y1
   have HY2:=zH y2
   have hgbl9:=(lO y1)
   clear c0 c1 c2 c3 c4 ta f0 hgbl hgql y1 y2 y6 HBA HNA HII
   have d1:wc.cell? ⟨gb,1,none⟩=some (.slice (some ⟨gc,0,none⟩) n (n+1)):=aAa HY1.o
   have HBA:=zH (aAb wc (.cells #[lfP gl,lfP gr] 94))
   have HNA:Hid ((wc.alloc (.cells #[lfP gl,lfP gr] 94)).heap[wc.heap.size]?=some (.cells #[lfP gl,lfP gr] 94 (0,0))):=heap_alloc_new wc _
   have HRP:=zH (aD5 (w:=wc.alloc (.cells #[lfP gl,lfP gr] 94)) (i:=i) ((HBA.o.block gc (lO HGC2.o)).trans HGC2.o) HN.o HT2.o hn10 hi (show wc.heap.size≠gc by omega) HNA.o H1.o rfl rfl)
   unfold lfP at HRP HBA HNA
   clear hgib hgcb hgci hgiw hgcw hgbw hglb hgrb hgli hgri hglc hgrc
   go_wp2_with fail
   refine HRP.o.mono ?_
   rintro e w5 ⟨rfl,hgc5,hoth5,hbl5⟩
   have hgib:gi≠gb:=by
    intro q9
    have h9:=HGI.o
    rw [q9,HGB.o] at h9
    simp only [oI,cI] at h9
    exact absurd h9.2.1 (by decide)
   have hgcb:gc≠gb:=by
    intro q9
    have h9:=HGC.o
    rw [q9,HGB.o] at h9
    simp only [oI,cI] at h9
    exact absurd h9.2.1 (by decide)
   have hgci:gc≠gi:=by
    intro q9
    have h9:=HGC.o
    rw [q9,HGI.o] at h9
    simp only [oI,cI] at h9
    exact absurd h9.2.1 (by decide)
   have HG5n:=zH hgc5
   have HO5:=zH hoth5
   have HBL5:=zH (hbl5 B HB.o.2.2)
   have HGB5:Hid (w5.heap[gb]?=some (.cells #[.slice (some ⟨gi,0,none⟩) (m+1) (m+1),.slice (some ⟨gc,0,none⟩) n (n+1)] 138 (0,0))):=(hoth5 gb hgcb.symm).trans ((HBA.o.block gb hgbl9).trans HY1.o)
   have e1:w5.cell? ⟨gb,1,none⟩=some (.slice (some ⟨gc,0,none⟩) n (n+1)):=aAa HGB5.o
   have f5:w5.frozen? ⟨gb,1,none⟩=false:=aAc HGB5.o
   have HNE:Hid (gi≠gb/\gc≠gb/\gc≠gi):=⟨hgib,hgcb,hgci⟩
   clear hgc5 hoth5 hbl5 HRP d1 hgib hgcb hgci
   go_wp2
   go_end0
   obtain ⟨hgib,hgcb,hgci⟩:=HNE.o
   have hgiw:=(lO HGI.o)
   have hgcw:=(lO HGC.o)
   have hgbw:=(lO HGB.o)
   have oth:∀ k,k≠gb->k≠gc->k<wc.heap.size->(w5.setCell ⟨gb,1,none⟩ (.slice (some ⟨gc,0,none⟩) (n+1) (n+1))).heap[k]?=wc.heap[k]?:=fun k hk hk2 hk3=>by
    rw [heap_setCell_other _ _ _ _ (by exact hk),HO5.o k hk2,HBA.o.block k hk3]
   refine ⟨rfl,gl,gr,⟨?_,?_,?_,?_,?_⟩,?_,?_,z3,z4,z5⟩
   ·rw [heap_setCell_same _ _ _ _ _ _ HGB5.o]
    rfl
   ·rw [oth gi hgib hgci.symm (by omega)]
    exact HY2.o
   ·rw [heap_setCell_other _ _ _ _ (by exact hgcb)]
    exact HG5n.o
   ·exact ((HEx.o.1.trans (HBA.o.mono (nT HBW.o HSW.o))).trans HBL5.o).trans ((Below.refl B w5).setCell (p:=⟨gb,1,none⟩) HB.o.1 _)
   ·intro k hk hnk
    simp only [List.mem_cons,List.not_mem_nil,or_false,not_or] at hnk
    rw [oth k hnk.1 hnk.2.2 (by omega)]
    exact HEx.o.2 k hk (by simp [hnk.1,hnk.2.1])
   ·rw [oth gl (by omega) (by omega) (lO HL2.o)]
    exact HL2.o
   ·rw [oth gr (by omega) (by omega) (lO HR2.o)]
    exact HR2.o
end Go.Proofs.YtfobcelkmopohaaGreat
