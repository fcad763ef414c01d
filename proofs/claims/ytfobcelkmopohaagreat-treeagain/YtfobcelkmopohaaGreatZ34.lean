import Derived.Test.YtfobcelkmopohaaGreatZ32
import Derived.Lib.AppendZeros
set_option maxRecDepth 100000
set_option maxHeartbeats 16000000
set_option linter.unusedVariables false
namespace Go.Proofs.YtfobcelkmopohaaGreat
open Go.RowKit
def SrcC (w:World) (size:Nat) (u:Value) (s:Nat×List Value):Prop:=∃ ad c,u=.slice (some ad) s.1 c/\s.2.length=s.1*size/\(∀ j v,s.2[j]?=some v->w.cell? (ad.add j)=some v)/\∀ v∈s.2,v.oneCell'=true
theorem SrcC.later {w w':World} {size:Nat} {u:Value} {s:Nat×List Value} (h:SrcC w size u s) (hb:Below w.heap.size w w'):SrcC w' size u s:=by
 obtain ⟨ad,c,e,h1,h2,h3⟩:=h
 exact ⟨ad,c,e,h1,fun j v hj=>(hb.cell (block_lt_of_cell (h2 j v hj))).trans (h2 j v hj),h3⟩
def sumS (S:List (Nat×List Value)):Nat:=(S.map (·.1)).sum
def flatS (S:List (Nat×List Value)):List Value:=S.flatMap (·.2)
theorem aDz {S:List (Nat×List Value)} {j:Nat} {s:Nat×List Value} (h:S[j]?=some s):sumS (S.take (j+1))=sumS (S.take j)+s.1/\flatS (S.take (j+1))=flatS (S.take j)++s.2:=by
 have e:S.take (j+1)=S.take j++[s]:=by
  rw [List.take_succ_eq_append_getElem (lL h),(List.getElem?_eq_some_iff.1 h).2]
 rw [e]
 constructor
 ·simp [sumS]
 ·simp [flatS]
theorem sumS_le (S:List (Nat×List Value)) (j:Nat):sumS (S.take j)<=sumS S:=by
 conv=>rhs;rw [<-List.take_append_drop j S]
 unfold sumS
 rw [List.map_append,List.sum_append]
 exact Nat.le_add_right _ _
theorem growI_nil (n:Nat) (h0:0<n) (hn:n<=1000) (w:World) :
  Calls Tryz.prog 146 #[.slice none 0 0,.int .i64 (n:Int)] w fun e w'=>∃ c,e=.returned (.slice (some ⟨w.heap.size,0,none⟩) 0 c)/\w'.ownsRow w.heap.size 69 2 (.slice (some ⟨w.heap.size,0,none⟩) 0 c) 0 []/\Below w.heap.size w w':=by
 obtain ⟨i0,hi0,hz0,hz1,hz2⟩:=info_parts aBk
 have hr:=Go.Lib.run_append_nil_zeros (P:=Tryz.prog) w 118 3 118 69 i0 (.agg #[.slice none 0 0,.slice none 0 0]) .i64 .i64 Tryz.underlying118 Tryz.underlying3 hi0 hz0 n h0 (by rw [hz1];omega) (by omega) (by rw [hz2];omega)
 have hge:=grownCap_ge w n 0 69
 have HO:Hid ((w.drew.alloc (.cells (Builtin.zeroCells ((.agg #[.slice none 0 0,.slice none 0 0]):Value).cells n++Builtin.zeroCells ((.agg #[.slice none 0 0,.slice none 0 0]):Value).cells (grownCap w n 0 69-n)) 69)).ownsRow w.heap.size 69 2 (.slice (some ⟨w.heap.size,0,none⟩) 0 (grownCap w n 0 69)) 0 []):=by
  refine World.ownsRow_made w.drew _ _ (nR _) (grownCap_le_maxLen w n 0 69 (by simp only [maxLen];omega)) ?_
  rw [Array.size_append,size_zeroCells,size_zeroCells]
  simp [Value.cells]
  omega
 have HB:Hid (Below w.heap.size w (w.drew.alloc (.cells (Builtin.zeroCells ((.agg #[.slice none 0 0,.slice none 0 0]):Value).cells n++Builtin.zeroCells ((.agg #[.slice none 0 0,.slice none 0 0]):Value).cells (grownCap w n 0 69-n)) 69))):=(Below.refl _ _).drew.trans ((Below.refl w.heap.size w.drew).alloc (nR _) _)
 have HR:=zH hr
 clear hr
 generalize hW:w.drew.alloc (.cells (Builtin.zeroCells ((.agg #[.slice none 0 0,.slice none 0 0]):Value).cells n++Builtin.zeroCells ((.agg #[.slice none 0 0,.slice none 0 0]):Value).cells (grownCap w n 0 69-n)) 69)=W at *
 generalize grownCap w n 0 69=gc at *
 have HGE:Hid (n<=gc):=hge
 have k1:¬ (n:Int)<0:=by omega
 have k2:(0:Int)<(n:Int):=by omega
 clear hge hW
 go_enter Tryz.func146,Tryz.ntmps146
 go_wp2_with (at_builtin;refine Go.Lib.wpList_append_run w rfl (.tmp 20) (.tmp 21) _ _ rfl _ _ rfl rfl _ _ HR.o ?_)
 go_ret
 exact ⟨gc,rfl,HO.o,HB.o⟩
theorem aHd {gs m:Nat} {us:List Value} {S:List (Nat×List Value)} {w:World} (hg:w.heap[gs]?=some (.cells us.toArray 118 (0,0))) (hu:us.length=m) (hS:S.length=m) (hall:∀ (j:Nat) u s,us[j]?=some u->S[j]?=some s->SrcC w 2 u s) (h0:0<sumS S) (hs:sumS S<=1000) (hm:m<=1000) :
  Calls Tryz.prog 129 #[.slice (some ⟨gs,0,none⟩) m m] w fun e w'=>∃ v,e=.returned v/\w'.ownsRow w.heap.size 69 2 v (sumS S) (flatS S)/\Below w.heap.size w w':=by
 obtain ⟨i0,hi0,hz0,hz1,hz2⟩:=info_parts aBk
 have HG:=zH hg
 have HU:=zH hu
 have HS:=zH hS
 have HALL:=zH hall
 have HGR:=zH (fun ww=>growI_nil (sumS S) h0 hs ww)
 have HSL:=zH (fun j=>sumS_le S j)
 have HH0:=zH h0
 have HHS:=zH hs
 have HGL:Hid (gs<w.heap.size):=(lO hg)
 have HFIN:Hid (sumS (S.take m)=sumS S/\flatS (S.take m)=flatS S):=by
  have:S.take m=S:=List.take_of_length_le (by omega)
  rw [this]
  exact ⟨rfl,rfl⟩
 clear hg hu hS hall h0 hs
 go_enter Tryz.func129,Tryz.ntmps129
 go_wp2_with fail
 go_loopw [3,5,11] (fun t _ i wx=>wx=w/\∃ j:Nat,j<=m/\i=.int .i64 (j:Int)/\t=.int .i64 ((sumS (S.take j):Nat):Int)) (fun _ _ i _=>m-(intOf i).toNat)
 case atStart=>exact ⟨rfl,0,by omega,rfl,by simp [sumS]⟩
 case round =>
  obtain ⟨rfl,j,hj,rfl,rfl⟩:=hrel
  by_cases q:j<m
  ·obtain ⟨u,hu⟩:∃ u,us[j]?=some u:=⟨_,gE (by rw [HU.o];exact q)⟩
   obtain ⟨s,hs⟩:∃ s,S[j]?=some s:=⟨_,gE (by rw [HS.o];exact q)⟩
   obtain ⟨ad,c,rfl,_,_,_⟩:=HALL.o j u s hu hs
   have c0:wr.cell? ⟨gs,j,none⟩=some (.slice (some ad) s.1 c):=by rw [aAa HG.o,List.getElem?_toArray];exact hu
   have i1:(j:Int)<(m:Int):=by omega
   have hs2:=(aDz hs).1
   have hle:=HSL.o (j+1)
   have hhs:=HHS.o
   have HS2:=zH hs2
   have b1:(sumS (S.take j):Int)+(s.1:Int)<=1000:=by omega
   have b0:(0:Int)<=(sumS (S.take j):Int)+(s.1:Int):=by omega
   have b2:¬ (sumS (S.take j):Int)+(s.1:Int)<0:=by omega
   clear hs2 hle hhs hu hs
   generalize sumS (S.take j)=t0 at *
   generalize hn1:s.1=n1 at *
   go_wp2
   go_roundw
   case rel=>exact ⟨trivial,j+1,by omega,by go_num,by rw [HS2.o];go_num⟩
   case measure=>simp [intOf];omega
  ·obtain rfl:j=m:=by omega
   rw [HFIN.o.1]
   go_wp2_with fail
   refine (HGR.o wr).mono ?_
   rintro e w1 ⟨c1,rfl,ho1,hb1⟩
   have HO1:=zH ho1
   have HB1:=zH hb1
   clear ho1 hb1
   generalize hG:wr.heap.size=G at *
   have HHG:=zH hG
   clear hG
   generalize hW:wr=W at *
   have HW0:=zH hW
   clear hW
   go_wp2_with fail
   go_loopw [6,8,27] (fun v _ i wx=>∃ k:Nat,k<=j/\i=.int .i64 (k:Int)/\wx.ownsRow G 69 2 v (sumS (S.take k)) (flatS (S.take k))/\Below G W wx) (fun _ _ i _=>j-(intOf i).toNat)
   case atStart=>exact ⟨0,by omega,rfl,HO1.o,HB1.o⟩
   case round =>
    obtain ⟨k,hk,rfl,hown,hbel⟩:=hrel
    obtain ⟨va,vc,rfl⟩:=aAf hown
    have HOW:=zH hown
    have HBE:=zH hbel
    clear hown hbel
    by_cases q2:k<j
    ·obtain ⟨u,hu⟩:∃ u,us[k]?=some u:=⟨_,gE (by rw [HU.o];exact q2)⟩
     obtain ⟨s,hs⟩:∃ s,S[k]?=some s:=⟨_,gE (by rw [HS.o];exact q2)⟩
     have hsr:=HALL.o k u s hu hs
     obtain ⟨ad,c,rfl,s1,s2,s3⟩:=hsr
     have c0:wr.cell? ⟨gs,k,none⟩=some (.slice (some ad) s.1 c):=by
      rw [HBE.o.cell (p:=⟨gs,k,none⟩) (by have h9:=HGL.o;exact h9),aAa HG.o,List.getElem?_toArray]
      exact hu
     have i1:(k:Int)<(j:Int):=by omega
     obtain ⟨e1,e2⟩:=aDz hs
     have HE1:=zH e1
     have HE2:=zH e2
     have HS1:=zH s1
     have HS2:Hid (∀ t v,s.2[t]?=some v->wr.cell? (ad.add t)=some v):=fun t v ht=>(HBE.o.cell (by rw [<-HHG.o];exact block_lt_of_cell (s2 t v ht))).trans (s2 t v ht)
     have HS3:=zH s3
     have HLE:Hid (sumS (S.take k)+s.1<=1000):=by
      have h1:=HSL.o (k+1)
      have h2:=HHS.o
      show _<=_
      omega
     have HBS:Hid (G<=wr.heap.size):=by rw [<-HHG.o];exact HBE.o.size
     clear s1 s2 s3 e1 e2 hu hs
     generalize sumS (S.take k)=t0 at *
     generalize flatS (S.take k)=f0 at *
     generalize hn1:s.1=n1 at *
     go_wp2_with (at_builtin;refine wpList_append_own wr rfl (.tmp 31) (.tmp 32) 118 rfl G 69 i0 (.agg #[.slice none 0 0,.slice none 0 0]) 2 48 Tryz.underlying118 hi0 hz0 hz1 hz2 rfl (by omega) (.slice va t0 vc) t0 f0 rfl HOW.o ad n1 c s.2 rfl HS1.o HS2.o HS3.o (by have:=HLE.o;unfold maxLen;omega) (by have:=HLE.o;omega) HBS.o ?_;intro v3 w3 ho3 hg3 hz3;have HO3:=zH ho3;have HG3:=zH hg3;clear ho3 hg3 hz3)
     go_roundw
     case rel=>exact ⟨k+1,by omega,by go_num,by rw [HE1.o,HE2.o];exact HO3.o,HBE.o.grown HG3.o HBS.o (fun b hb=>(HOW.o.lt b hb).1)⟩
     case measure=>simp [intOf];omega
    ·obtain rfl:k=j:=by omega
     have i1:¬ (k:Int)<(k:Int):=by omega
     rw [HFIN.o.1,HFIN.o.2] at HOW
     rw [HFIN.o.1]
     go_wp2
     go_ret
     obtain rfl:=HW0.o
     obtain rfl:=HHG.o
     exact ⟨_,rfl,HOW.o,HBE.o⟩
theorem growN_nil (n:Nat) (h0:0<n) (hn:n<=1000) (w:World) :
  Calls Tryz.prog 147 #[.slice none 0 0,.int .i64 (n:Int)] w fun e w'=>∃ c,e=.returned (.slice (some ⟨w.heap.size,0,none⟩) 0 c)/\w'.ownsRow w.heap.size 94 1 (.slice (some ⟨w.heap.size,0,none⟩) 0 c) 0 []/\Below w.heap.size w w':=by
 obtain ⟨i0,hi0,hz0,hz1,hz2⟩:=info_parts aBq
 have hr:=Go.Lib.run_append_nil_zeros (P:=Tryz.prog) w 136 3 136 94 i0 (.nilIface) .i64 .i64 Tryz.underlying136 Tryz.underlying3 hi0 hz0 n h0 (by rw [hz1];omega) (by omega) (by rw [hz2];omega)
 have hge:=grownCap_ge w n 0 94
 have HO:Hid ((w.drew.alloc (.cells (Builtin.zeroCells ((.nilIface):Value).cells n++Builtin.zeroCells ((.nilIface):Value).cells (grownCap w n 0 94-n)) 94)).ownsRow w.heap.size 94 1 (.slice (some ⟨w.heap.size,0,none⟩) 0 (grownCap w n 0 94)) 0 []):=by
  refine World.ownsRow_made w.drew _ _ (nR _) (grownCap_le_maxLen w n 0 94 (by simp only [maxLen];omega)) ?_
  rw [Array.size_append,size_zeroCells,size_zeroCells]
  simp [Value.cells]
  omega
 have HB:Hid (Below w.heap.size w (w.drew.alloc (.cells (Builtin.zeroCells ((.nilIface):Value).cells n++Builtin.zeroCells ((.nilIface):Value).cells (grownCap w n 0 94-n)) 94))):=(Below.refl _ _).drew.trans ((Below.refl w.heap.size w.drew).alloc (nR _) _)
 have HR:=zH hr
 clear hr
 generalize hW:w.drew.alloc (.cells (Builtin.zeroCells ((.nilIface):Value).cells n++Builtin.zeroCells ((.nilIface):Value).cells (grownCap w n 0 94-n)) 94)=W at *
 generalize grownCap w n 0 94=gc at *
 have HGE:Hid (n<=gc):=hge
 have k1:¬ (n:Int)<0:=by omega
 have k2:(0:Int)<(n:Int):=by omega
 clear hge hW
 go_enter Tryz.func147,Tryz.ntmps147
 go_wp2_with (at_builtin;refine Go.Lib.wpList_append_run w rfl (.tmp 20) (.tmp 21) _ _ rfl _ _ rfl rfl _ _ HR.o ?_)
 go_ret
 exact ⟨gc,rfl,HO.o,HB.o⟩
theorem concatN_ok {gs m:Nat} {us:List Value} {S:List (Nat×List Value)} {w:World} (hg:w.heap[gs]?=some (.cells us.toArray 136 (0,0))) (hu:us.length=m) (hS:S.length=m) (hall:∀ (j:Nat) u s,us[j]?=some u->S[j]?=some s->SrcC w 1 u s) (h0:0<sumS S) (hs:sumS S<=1000) (hm:m<=1000) :
  Calls Tryz.prog 130 #[.slice (some ⟨gs,0,none⟩) m m] w fun e w'=>∃ v,e=.returned v/\w'.ownsRow w.heap.size 94 1 v (sumS S) (flatS S)/\Below w.heap.size w w':=by
 obtain ⟨i0,hi0,hz0,hz1,hz2⟩:=info_parts aBq
 have HG:=zH hg
 have HU:=zH hu
 have HS:=zH hS
 have HALL:=zH hall
 have HGR:=zH (fun ww=>growN_nil (sumS S) h0 hs ww)
 have HSL:=zH (fun j=>sumS_le S j)
 have HH0:=zH h0
 have HHS:=zH hs
 have HGL:Hid (gs<w.heap.size):=(lO hg)
 have HFIN:Hid (sumS (S.take m)=sumS S/\flatS (S.take m)=flatS S):=by
  have:S.take m=S:=List.take_of_length_le (by omega)
  rw [this]
  exact ⟨rfl,rfl⟩
 clear hg hu hS hall h0 hs
 go_enter Tryz.func130,Tryz.ntmps130
 go_wp2_with fail
 go_loopw [3,5,11] (fun t _ i wx=>wx=w/\∃ j:Nat,j<=m/\i=.int .i64 (j:Int)/\t=.int .i64 ((sumS (S.take j):Nat):Int)) (fun _ _ i _=>m-(intOf i).toNat)
 case atStart=>exact ⟨rfl,0,by omega,rfl,by simp [sumS]⟩
 case round =>
  obtain ⟨rfl,j,hj,rfl,rfl⟩:=hrel
  by_cases q:j<m
  ·obtain ⟨u,hu⟩:∃ u,us[j]?=some u:=⟨_,gE (by rw [HU.o];exact q)⟩
   obtain ⟨s,hs⟩:∃ s,S[j]?=some s:=⟨_,gE (by rw [HS.o];exact q)⟩
   obtain ⟨ad,c,rfl,_,_,_⟩:=HALL.o j u s hu hs
   have c0:wr.cell? ⟨gs,j,none⟩=some (.slice (some ad) s.1 c):=by rw [aAa HG.o,List.getElem?_toArray];exact hu
   have i1:(j:Int)<(m:Int):=by omega
   have hs2:=(aDz hs).1
   have hle:=HSL.o (j+1)
   have hhs:=HHS.o
   have HS2:=zH hs2
   have b1:(sumS (S.take j):Int)+(s.1:Int)<=1000:=by omega
   have b0:(0:Int)<=(sumS (S.take j):Int)+(s.1:Int):=by omega
   have b2:¬ (sumS (S.take j):Int)+(s.1:Int)<0:=by omega
   clear hs2 hle hhs hu hs
   generalize sumS (S.take j)=t0 at *
   generalize hn1:s.1=n1 at *
   go_wp2
   go_roundw
   case rel=>exact ⟨trivial,j+1,by omega,by go_num,by rw [HS2.o];go_num⟩
   case measure=>simp [intOf];omega
  ·obtain rfl:j=m:=by omega
   rw [HFIN.o.1]
   go_wp2_with fail
   refine (HGR.o wr).mono ?_
   rintro e w1 ⟨c1,rfl,ho1,hb1⟩
   have HO1:=zH ho1
   have HB1:=zH hb1
   clear ho1 hb1
   generalize hG:wr.heap.size=G at *
   have HHG:=zH hG
   clear hG
   generalize hW:wr=W at *
   have HW0:=zH hW
   clear hW
   go_wp2_with fail
   go_loopw [6,8,27] (fun v _ i wx=>∃ k:Nat,k<=j/\i=.int .i64 (k:Int)/\wx.ownsRow G 94 1 v (sumS (S.take k)) (flatS (S.take k))/\Below G W wx) (fun _ _ i _=>j-(intOf i).toNat)
   case atStart=>exact ⟨0,by omega,rfl,HO1.o,HB1.o⟩
   case round =>
    obtain ⟨k,hk,rfl,hown,hbel⟩:=hrel
    obtain ⟨va,vc,rfl⟩:=aAf hown
    have HOW:=zH hown
    have HBE:=zH hbel
    clear hown hbel
    by_cases q2:k<j
    ·obtain ⟨u,hu⟩:∃ u,us[k]?=some u:=⟨_,gE (by rw [HU.o];exact q2)⟩
     obtain ⟨s,hs⟩:∃ s,S[k]?=some s:=⟨_,gE (by rw [HS.o];exact q2)⟩
     have hsr:=HALL.o k u s hu hs
     obtain ⟨ad,c,rfl,s1,s2,s3⟩:=hsr
     have c0:wr.cell? ⟨gs,k,none⟩=some (.slice (some ad) s.1 c):=by
      rw [HBE.o.cell (p:=⟨gs,k,none⟩) (by have h9:=HGL.o;exact h9),aAa HG.o,List.getElem?_toArray]
      exact hu
     have i1:(k:Int)<(j:Int):=by omega
     obtain ⟨e1,e2⟩:=aDz hs
     have HE1:=zH e1
     have HE2:=zH e2
     have HS1:=zH s1
     have HS2:Hid (∀ t v,s.2[t]?=some v->wr.cell? (ad.add t)=some v):=fun t v ht=>(HBE.o.cell (by rw [<-HHG.o];exact block_lt_of_cell (s2 t v ht))).trans (s2 t v ht)
     have HS3:=zH s3
     have HLE:Hid (sumS (S.take k)+s.1<=1000):=by
      have h1:=HSL.o (k+1)
      have h2:=HHS.o
      show _<=_
      omega
     have HBS:Hid (G<=wr.heap.size):=by rw [<-HHG.o];exact HBE.o.size
     clear s1 s2 s3 e1 e2 hu hs
     generalize sumS (S.take k)=t0 at *
     generalize flatS (S.take k)=f0 at *
     generalize hn1:s.1=n1 at *
     go_wp2_with (at_builtin;refine wpList_append_own wr rfl (.tmp 31) (.tmp 32) 136 rfl G 94 i0 (.nilIface) 1 16 Tryz.underlying136 hi0 hz0 hz1 hz2 rfl (by omega) (.slice va t0 vc) t0 f0 rfl HOW.o ad n1 c s.2 rfl HS1.o HS2.o HS3.o (by have:=HLE.o;unfold maxLen;omega) (by have:=HLE.o;omega) HBS.o ?_;intro v3 w3 ho3 hg3 hz3;have HO3:=zH ho3;have HG3:=zH hg3;clear ho3 hg3 hz3)
     go_roundw
     case rel=>exact ⟨k+1,by omega,by go_num,by rw [HE1.o,HE2.o];exact HO3.o,HBE.o.grown HG3.o HBS.o (fun b hb=>(HOW.o.lt b hb).1)⟩
     case measure=>simp [intOf];omega
    ·obtain rfl:k=j:=by omega
     have i1:¬ (k:Int)<(k:Int):=by omega
     rw [HFIN.o.1,HFIN.o.2] at HOW
     rw [HFIN.o.1]
     go_wp2
     go_ret
     obtain rfl:=HW0.o
     obtain rfl:=HHG.o
     exact ⟨_,rfl,HOW.o,HBE.o⟩
theorem aDh {w:World} {g o c:Nat} {ty:TypeId} {cur:Array Value} (hg:w.heap[g]?=some (.cells cur 94 (0,0))) (hl:o+1<=cur.size) :
  (Builtin.clear_ #[136] ty #[.slice (some ⟨g,o,none⟩) 1 c]).run Tryz.prog w=.ok (.tuple #[]) (w.setRow g (cur.toList.take o++[Value.nilIface]++cur.toList.drop (o+1)).toArray):=by
 have hst:=run_storeCells_at Tryz.prog g o 94 [Value.nilIface] 0 cur w hg (by simpa using hl) (by intro v hv;simp at hv;subst hv;rfl)
 obtain ⟨i0,hi0,hz0,hz1,hz2⟩:=info_parts aBq
 have hz:(zeroValue 94).run Tryz.prog w=.ok .nilIface w:=by
  simp [zeroValue,typeInfo,hi0,hz0]
 have hzc:(Builtin.zeroCells (Value.nilIface).cells 1).toList=[Value.nilIface]:=by
  apply List.ext_getElem?
  intro i
  match i with
  | 0=>simp [Builtin.zeroCells,Value.cells]
  | i+1=>simp [Builtin.zeroCells,Value.cells]
 simp only [Nat.add_zero,List.length_cons,List.length_nil,Nat.zero_add] at hst
 simp [Builtin.clear_,run_underlying Tryz.underlying136,hz,hzc,hst]
theorem repl_end {w:World} {g gv i:Nat} {cs:List Value} {one:Value} (hg:w.heap[g]?=some (.cells cs.toArray 94 (0,0))) (hl:cs.length=i+2) (hL:i<=10) (hv:w.heap[gv]?=some (.cells #[one] 94 (0,0))) (h1:one.oneCell'=true) :
  Calls Tryz.prog 110 #[.slice (some ⟨g,0,none⟩) (i+2) (i+2),.int .i64 (i:Int),.int .i64 ((i+2:Nat):Int),.slice (some ⟨gv,0,none⟩) 1 1] w fun e w'=>e=.returned (.slice (some ⟨g,0,none⟩) (i+1) (i+2))/\w'.heap[g]?=some (.cells (cs.take i++one::cs.drop (i+2)++[Value.nilIface]).toArray 94 (0,0))/\(∀ k,k≠g->w'.heap[k]?=w.heap[k]?)/\∀ B,B<=g->Below B w w':=by
 obtain ⟨i0,hi0,hz0,hz1,hz2⟩:=info_parts aBq
 have hr:=fun ty=>run_append_room_cells (P:=Tryz.prog) w 136 ty 94 i0 Tryz.underlying136 hi0 g 0 i (i+2) ⟨gv,0,none⟩ 1 1 [one] (by rw [hz1];rfl) (fun j u hj=>by
  rw [Addr.add_lit,Nat.zero_add,aAa hv]
  simpa using hj) (by intro u hu;simp at hu;subst hu;exact h1) (by omega) (fun j hj=>by
  rw [hz1,aAa hg,List.getElem?_toArray,gE (by simp at hj;omega)];rfl) (fun j hj=>aAc hg)
 have hW1':=aCk (w:=w) (o:=0+i*i0.size) (vs:=[one]) hg (by rw [hz1];simp;omega) (by intro u hu;simp at hu;subst hu;exact h1)
 obtain ⟨W1,hW1⟩:∃ W1,W1=w.setCells g (0+i*i0.size) [one]:=⟨_,rfl⟩
 rw [<-hW1] at hW1' hr
 have hh1:W1.heap[g]?=some (.cells (cs.take i++[one]++cs.drop (i+1)).toArray 94 (0,0)):=by
  rw [hW1',hz1,Nat.zero_add,Nat.mul_one]
  have:=aAy (w:=w) (new:=(cs.toArray.toList.take i++[one]++cs.toArray.toList.drop (i+1)).toArray) hg
  simpa using this
 have hend:((cs.take i++[one]++cs.drop (i+1)).toArray.toList.take (i+1)++[Value.nilIface]++(cs.take i++[one]++cs.drop (i+1)).toArray.toList.drop (i+1+1))=cs.take i++one::cs.drop (i+2)++[Value.nilIface]:=by
  have ha:(cs.take i++[one]).length=i+1:=by rw [lA,List.length_take];simp;omega
  rw [List.toList_toArray,List.take_left' ha,List.drop_of_length_le (by rw [lA,ha,List.length_drop];omega),List.append_nil,List.drop_of_length_le (i:=i+2) (by omega)]
 have hcl:=fun ty c=>aDh (ty:=ty) (c:=c) (o:=i+1) hh1 (by simp;omega)
 rw [hend] at hcl
 generalize hrow:(cs.take i++one::cs.drop (i+2)++[Value.nilIface]).toArray=row at *
 have HPO:Hid ((W1.setRow g row).heap[g]?=some (.cells row 94 (0,0))/\(∀ k,k≠g->(W1.setRow g row).heap[k]?=w.heap[k]?)/\∀ B,B<=g->Below B w (W1.setRow g row)):=by
  refine ⟨aAy hh1,fun k hk=>?_,fun B hB=>?_⟩
  ·rw [setRow_other W1 g k row hk,hW1',setRow_other w g k _ hk]
  ·refine below_setRow ?_ hB row
   rw [hW1']
   exact below_setRow (Below.refl B w) hB _
 have HR:=zH hr
 have k1:(0:Int)<=(i:Int)+2:=by omega
 clear hW1 hW1' hh1 hg hl h1 hend hrow hr hv
 go_enter Tryz.func110,Tryz.ntmps110
 go_wp2_with (at_builtin;refine Go.Lib.wpList_append_run w rfl (.tmp 32) (.tmp 33) _ _ rfl _ _ rfl rfl _ _ (HR.o _) ?_)
 go_ret
 exact ⟨rfl,HPO.o⟩
theorem repl_mid {w:World} {g gv i M:Nat} {cs:List Value} {one:Value} (hg:w.heap[g]?=some (.cells cs.toArray 94 (0,0))) (hl:cs.length=M+1) (hL:M<=10) (hi:i+2<=M) (hne:gv≠g) (hv:w.heap[gv]?=some (.cells #[one] 94 (0,0))) (h1:one.oneCell'=true) (hcs:∀ u∈cs,u.oneCell'=true) :
  Calls Tryz.prog 110 #[.slice (some ⟨g,0,none⟩) (M+1) (M+1),.int .i64 (i:Int),.int .i64 ((i+2:Nat):Int),.slice (some ⟨gv,0,none⟩) 1 1] w fun e w'=>e=.returned (.slice (some ⟨g,0,none⟩) M (M+1))/\w'.heap[g]?=some (.cells (cs.take i++one::cs.drop (i+2)++[Value.nilIface]).toArray 94 (0,0))/\(∀ k,k≠g->w'.heap[k]?=w.heap[k]?)/\∀ B,B<=g->Below B w w':=by
 -- the three steps
 have hg0:w.drew.heap[g]?=some (.cells cs.toArray 94 (0,0)):=hg
 have hT:(cs.take i).length=i:=by rw [List.length_take];omega
 have hr1:(cs.toArray.toList.take i++[one]++cs.toArray.toList.drop (i+1))=cs.take i++one::cs.drop (i+1):=by simp
 have c1:=fun ty c=>aA6 w.drew 136 136 ty 94 1 g i (M-i) c ⟨gv,0,none⟩ 1 1 cs.toArray 94 [one] Tryz.underlying136 aCr hg0 (by show 1=Nat.min 1 (M-i)*1;rw [Nat.mul_one];exact (Nat.min_eq_left (by omega)).symm) (fun j v hj=>by
  rw [Addr.add_lit,Nat.zero_add,aAa (show w.drew.heap[gv]?=_ from hv)]
  simpa using hj) (by simp;omega) (by intro u hu;simp at hu;subst hu;exact h1)
 simp only [List.length_singleton] at c1
 rw [hr1] at c1
 obtain ⟨W1,hW1⟩:∃ W1,W1=(w.drew.setRow g (cs.take i++one::cs.drop (i+1)).toArray):=⟨_,rfl⟩
 rw [<-hW1] at c1
 have hh1:W1.drew.heap[g]?=some (.cells (cs.take i++one::cs.drop (i+1)).toArray 94 (0,0)):=by rw [hW1];exact aAy hg0
 have hd2:(cs.take i++one::cs.drop (i+1)).drop (i+2)=cs.drop (i+2):=by
  rw [List.drop_append,List.drop_of_length_le (by omega),hT,show i+2-i=1+1 by omega,List.drop_succ_cons,List.drop_drop,List.nil_append]
 have hr2:((cs.take i++one::cs.drop (i+1)).toArray.toList.take (i+1)++cs.drop (i+2)++(cs.take i++one::cs.drop (i+1)).toArray.toList.drop (i+1+(cs.drop (i+2)).length))=(cs.take i++one::cs.drop (i+2))++(cs.take i++one::cs.drop (i+1)).drop M:=by
  have t1:(cs.take i++one::cs.drop (i+1)).take (i+1)=cs.take i++[one]:=by
   rw [List.take_append,hT,List.take_of_length_le (by omega),show i+1-i=1 by omega]
   rfl
  have t2:i+1+(cs.drop (i+2)).length=M:=by rw [List.length_drop,hl];omega
  rw [List.toList_toArray,t1,t2]
  simp
 have c2:=fun ty c=>aA6 W1.drew 136 136 ty 94 1 g (i+1) (M-(i+1)) c ⟨g,i+2,none⟩ (M-(i+1)) (M-(i+1)) (cs.take i++one::cs.drop (i+1)).toArray 94 (cs.drop (i+2)) Tryz.underlying136 aCr hh1 (by rw [List.length_drop,hl,Nat.mul_one];show _=min _ _;omega) (fun j v hj=>by
  rw [Addr.add_lit,aAa hh1,List.getElem?_toArray,<-List.getElem?_drop,hd2]
  exact hj) (by simp;omega) (fun u hu=>hcs u (List.mem_of_mem_drop hu))
 rw [hr2] at c2
 obtain ⟨W2,hW2⟩:∃ W2,W2=(W1.drew.setRow g ((cs.take i++one::cs.drop (i+2))++(cs.take i++one::cs.drop (i+1)).drop M).toArray):=⟨_,rfl⟩
 rw [<-hW2] at c2
 have hh2:W2.heap[g]?=some (.cells ((cs.take i++one::cs.drop (i+2))++(cs.take i++one::cs.drop (i+1)).drop M).toArray 94 (0,0)):=by rw [hW2];exact aAy hh1
 have hM:(cs.take i++one::cs.drop (i+2)).length=M:=by rw [lA,hT];simp;omega
 have hM1:((cs.take i++one::cs.drop (i+1)).drop M).length=1:=by rw [List.length_drop,lA,hT];simp;omega
 have hend:(((cs.take i++one::cs.drop (i+2))++(cs.take i++one::cs.drop (i+1)).drop M).toArray.toList.take M++[Value.nilIface]++((cs.take i++one::cs.drop (i+2))++(cs.take i++one::cs.drop (i+1)).drop M).toArray.toList.drop (M+1))=cs.take i++one::cs.drop (i+2)++[Value.nilIface]:=by
  have h9:((cs.take i++one::cs.drop (i+2))++(cs.take i++one::cs.drop (i+1)).drop M).drop (M+1)=[]:=List.drop_of_length_le (by rw [lA,hM,hM1];exact nR _)
  rw [List.toList_toArray,List.take_left' hM,h9,List.append_nil]
 have c3:=fun ty c=>aDh (ty:=ty) (c:=c) (o:=M) hh2 (by rw [List.size_toArray,lA,hM,hM1];exact nR _)
 rw [hend] at c3
 generalize hrow:(cs.take i++one::cs.drop (i+2)++[Value.nilIface]).toArray=row at *
 have HPO:Hid ((W2.setRow g row).heap[g]?=some (.cells row 94 (0,0))/\(∀ k,k≠g->(W2.setRow g row).heap[k]?=w.heap[k]?)/\∀ B,B<=g->Below B w (W2.setRow g row)):=by
  refine ⟨aAy hh2,fun k hk=>?_,fun B hB=>?_⟩
  ·rw [setRow_other W2 g k row hk,hW2,setRow_other W1.drew g k _ hk]
   show W1.heap[k]?=_
   rw [hW1,setRow_other w.drew g k _ hk]
   rfl
  ·refine below_setRow ?_ hB row
   rw [hW2]
   refine below_setRow (Below.drew ?_) hB _
   rw [hW1]
   exact below_setRow ((Below.refl B w).drew) hB _
 have k0:(i:Int)<=(M:Int)+1:=by omega
 have k1:(0:Int)<=(i:Int)+2:=by omega
 have k2:(i:Int)+2<=(M:Int)+1:=by omega
 have b1:((i:Int)+2 == (M:Int)+1)=false:=by simp;omega
 have hMi:i<=M:=by omega
 have hMi1:i+1<=M:=by omega
 have e1:(i:Int)+1+((M-(i+1):Nat):Int)=(M:Int):=by omega
 clear hW1 hW2 hh1 hh2 hg hg0 hl h1 hend hrow hv hM hM1 hr1 hr2 hd2 hT hcs
 go_enter Tryz.func110,Tryz.ntmps110
 go_upto_region 9 with fail
 go_region
 go_wp2
 go_region
 go_wp2
 go_ret
 exact ⟨rfl,HPO.o⟩
end Go.Proofs.YtfobcelkmopohaaGreat
