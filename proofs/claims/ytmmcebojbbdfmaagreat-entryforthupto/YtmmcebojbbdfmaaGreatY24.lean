import Derived.Test.YtmmcebojbbdfmaaGreatY22
import Derived.Test.YtmmcebojbbdfmaaGreatY20
import Derived.Test.YtmmcebojbbdfmaaGreatY14
set_option maxRecDepth 100000
set_option maxHeartbeats 16000000
set_option linter.unusedVariables false
namespace Go.Proofs.YtmmcebojbbdfmaaGreat
open Go.RowKit _root_.Go.Proofs.Tryz
variable {k pos:Nat} {s:ByteArray} {xs:List Nat}
theorem hiB_snoc (m c s:Nat) (hc:c<256):hiB (m*256+c) (s+1)=hiB m s++[c]:=by
 unfold hiB;rw [List.range_succ,List.map_append]
 congr 1
 ·apply List.map_congr_left;intro i hi;have hi':i<s:=by simpa using hi
  have e:s+1-1-i=(s-1-i)+1:=by omega
  have e2:(m*256+c) / 256=m:=by omega
  rw [e,Nat.pow_succ,Nat.mul_comm (256 ^ (s-1-i)) 256,<-Nat.div_div_eq_div_mul,e2]
 ·simp;omega
theorem aEu:∀ (n:Nat) (l:List Nat),l.length=n->(∀ c∈l,c<256)->hiB (valHi l) n=l
 | 0,l,h,_=>by
  have:l=[]:=List.eq_nil_of_length_eq_zero h
  subst this
  rfl
 | n+1,l,h,hb=>by
  have hne:l≠[]:=by intro e;rw [e] at h;simp at h
  have e:=List.dropLast_concat_getLast hne;have hl:l.dropLast.length=n:=by simp [h]
  have h1:valHi l=valHi l.dropLast*256+l.getLast hne:=by
   conv=>lhs;rw [<-e]
   rw [aFc]
  have ih:=aEu n l.dropLast hl (fun c hc=>hb c ((List.dropLast_sublist l).subset hc));rw [h1,hiB_snoc _ _ _ (hb _ (List.getLast_mem hne)),ih,e]
theorem rt_back:∀ (n:Nat) (ys rs:List Nat) (k:Nat),ys.length<=n->(∀ c∈ys,c<256)->rt ys=some (rs,k)->(∀ r∈rs,vr r)/\ys.take k=runeB rs++hiB 0 3/\k=3*rs.length+3
 | 0,ys,rs,k,hn,hb,h=>by
  have:ys=[]:=List.eq_nil_of_length_eq_zero (by omega)
  subst this
  rw [rt_eq,if_pos (by simp)] at h
  cases h
 | n+1,ys,rs,k,hn,hb,h=>by
  rw [rt_eq] at h
  split at h
  ·cases h
  ·rename_i hl
   have h3:(ys.take 3).length=3:=by rw [List.length_take];omega
   have hv:=aEu 3 (ys.take 3) h3 (fun c hc=>hb c (List.mem_of_mem_take hc))
   split at h
   ·rename_i hz
    cases h;rw [hz] at hv;exact ⟨by simp,by rw [hv];simp [runeB],by simp⟩
   ·rename_i hz
    split at h
    ·rename_i hvr
     cases hr:rt (ys.drop 3) with
     | none=>rw [hr] at h;cases h
     | some q =>
      obtain ⟨rs',k'⟩:=q;rw [hr] at h;simp only [Option.map_some,oI,Prod.mk.injEq] at h;obtain ⟨rfl,rfl⟩:=h;obtain ⟨i1,i2,i3⟩:=rt_back n (ys.drop 3) rs' k' (by rw [List.length_drop];omega) (fun c hc=>hb c (List.mem_of_mem_drop hc)) hr;refine ⟨?_,?_,by simp only [List.length_cons];omega⟩
      ·intro r hm;rcases List.mem_cons.1 hm with rfl | hm
       ·exact hvr
       ·exact i1 r hm
      ·have e:ys.take (k'+3)=ys.take 3++(ys.drop 3).take k':=by rw [Nat.add_comm,List.take_add]
       have e2:valHi (ys.take 3)-1+1=valHi (ys.take 3):=by omega
       rw [e,i2,<-List.append_assoc]
       congr 1
       simp only [runeB,List.flatMap_cons,e2,hv]
    ·cases h
theorem numB_back (n:Nat):numB ((n:Int)-9223372036854775808)=n:=by unfold numB;omega
theorem aBg (h:0<xs.length) (k:Nat):xs.take (k+1)=xs.getD 0 0::(xs.drop 1).take k:=by
 cases xs with
 | nil=>simp at h
 | cons a r=>rfl
theorem rh_back {h:H} (hx:xs≠[]) (hb:∀ c∈xs,c<256) (hl:xs.length<=1048576) (e:rh xs=some (h,k)):h.ov.err=0/\h.ov.bytes=xs.take k/\h.ov.ok:=by
 have h0:0<xs.length:=List.length_pos_iff.2 hx;have hd:(xs.drop 1).length=xs.length-1:=by rw [List.length_drop]
 have hbd:∀ c∈xs.drop 1,c<256:=fun c hc=>hb c (List.mem_of_mem_drop hc)
 unfold rh at e
 split at e
 ·rename_i c1
  cases e;refine ⟨by decide +kernel,?_,by unfold H.ov Val.ok;decide +kernel⟩;rw [aBg h0,c1];simp [Val.bytes,H.ov,holdOf,H.bytes]
 ·split at e
  ·rename_i c2
   split at e
   ·rename_i h8
    cases e;have h3:((xs.drop 1).take 8).length=8:=by rw [List.length_take];omega
    have hv:=aEu 8 ((xs.drop 1).take 8) h3 (fun c hc=>hbd c (List.mem_of_mem_take hc));have hlt:=aDp ((xs.drop 1).take 8) (fun c hc=>hbd c (List.mem_of_mem_take hc));rw [h3] at hlt;have hlt2:valHi ((xs.drop 1).take 8)<18446744073709551616:=hlt;refine ⟨?_,?_,?_⟩
    ·unfold Val.err H.ov;simp only;rw [r1,if_pos (by rw [ByteArray.toList_eq];rfl)]
    ·rw [aBg h0,c2];simp only [Val.bytes,H.ov];have:holdOf 1 ((valHi ((xs.drop 1).take 8):Int)-9223372036854775808) ⟨#[]⟩=.number ((valHi ((xs.drop 1).take 8):Int)-9223372036854775808):=by simp [holdOf]
     rw [this];simp only [H.bytes];rw [numB_back,hv]
    ·unfold Val.ok H.ov;simp only;refine ⟨by omega,by omega,by omega,by omega,by decide⟩
   ·cases e
  ·split at e
   ·rename_i c4
    split at e
    ·rename_i h1
     cases e;obtain ⟨c,r,hcr⟩:∃ c r,xs.drop 1=c::r:=by
      cases hq:xs.drop 1 with
      | nil=>rw [hq] at h1;simp at h1
      | cons c r=>exact ⟨c,r,rfl⟩
     rw [hcr] at h1 ⊢;have hv:valHi ((c::r).take 1)=c:=by simp [valHi]
     rw [hv] at h1 ⊢;have hc:c=0\/c=1:=by omega
     rw [aBg h0,c4,hcr];rcases hc with rfl | rfl
     ·refine ⟨by decide +kernel,by simp [Val.bytes,H.ov,holdOf,H.bytes,bi],by unfold H.ov Val.ok;decide +kernel⟩
     ·refine ⟨by decide +kernel,by simp [Val.bytes,H.ov,holdOf,H.bytes,bi],by unfold H.ov Val.ok;decide +kernel⟩
    ·cases e
   ·split at e
    ·rename_i c3
     cases hr:rt (xs.drop 1) with
     | none=>rw [hr] at e;cases e
     | some q =>
      obtain ⟨rs,k'⟩:=q;rw [hr] at e;simp only [Option.map_some,oI,Prod.mk.injEq] at e;obtain ⟨rfl,rfl⟩:=e;obtain ⟨i1,i2,i3⟩:=rt_back _ (xs.drop 1) rs k' (nR _) hbd hr;have hle:=rt_le (xs.drop 1) rs k' hr;have hrs:runes (bl ⟨(encs rs).toArray⟩)=some rs:=aDr rs i1;have hsz:(⟨(encs rs).toArray⟩:ByteArray).size=(encs rs).length:=by simp [ByteArray.size]
      have h4:=aE0 rs;refine ⟨?_,?_,?_⟩
      ·unfold Val.err H.ov;simp only;rw [r2,if_pos rfl,hrs,if_neg (by simp)]
      ·rw [aBg h0,c3,i2];have:holdOf 2 0 ⟨(encs rs).toArray⟩=.text ⟨(encs rs).toArray⟩:=by simp [holdOf]
       simp only [Val.bytes,H.ov];rw [this,hrs];simp [H.bytes]
      ·unfold Val.ok H.ov;simp only;refine ⟨by omega,by omega,by omega,by omega,by rw [hsz];omega⟩
    ·cases e
theorem rd_back:∀ (n:Nat) (xs:List Nat) (vs:List Val),xs.length<=n->xs.length<=1048576->(∀ c∈xs,c<256)->rd xs=some vs->keyErr vs=0/\keyBytes vs=xs/\(∀ x∈vs,x.ok)/\vs.length<=xs.length
 | 0,xs,vs,hn,_,hb,h=>by
  have:xs=[]:=List.eq_nil_of_length_eq_zero (by omega)
  subst this
  rw [rd_nil] at h
  cases h
  exact ⟨rfl,rfl,by simp,by simp⟩
 | n+1,xs,vs,hn,hl,hb,h=>by
  by_cases hx:xs=[]
  ·subst hx
   rw [rd_nil] at h
   cases h
   exact ⟨rfl,rfl,by simp,by simp⟩
  ·cases e:rh xs with
   | none=>rw [rd_none hx e] at h;cases h
   | some q =>
    obtain ⟨hh,k⟩:=q
    have hk:=aFu hx e
    obtain ⟨b1,b2,b3⟩:=rh_back hx hb hl e
    rw [rd_some hx e] at h
    cases hr:rd (xs.drop k) with
    | none=>rw [hr] at h;cases h
    | some vs' =>
     rw [hr] at h
     simp only [Option.map_some,oI] at h
     subst h
     obtain ⟨i1,i2,i3,i4⟩:=rd_back n (xs.drop k) vs' (by rw [List.length_drop];omega) (by rw [List.length_drop];omega) (fun c hc=>hb c (List.mem_of_mem_drop hc)) hr
     rw [List.length_drop] at i4
     refine ⟨by simp only [keyErr,b1,if_true];exact i1,?_,?_,by simp only [List.length_cons];omega⟩
     ·have:keyBytes (hh.ov::vs')=hh.ov.bytes++keyBytes vs':=by simp [keyBytes]
      rw [this,b2,i2,List.take_append_drop]
     ·intro x hm;rcases List.mem_cons.1 hm with rfl | hm
      ·exact b3
      ·exact i3 x hm
theorem aBi (h:s.toList.isEmpty=true):s=⟨#[]⟩:=by
 rw [ByteArray.toList_eq] at h;obtain ⟨⟨l⟩⟩:=s;simp at h;subst h;rfl
def isLt (b:UInt8):Bool:=decide (97<=b.toNat) && decide (b.toNat<=122)
def isNm (s:ByteArray):Bool:=decide (1<=s.size) && decide (s.size<=8) && (bl s).all isLt
theorem dl_low {b:UInt8} (t:List UInt8) (h:b.toNat<=127):dl (b::t)=(b.toNat,1):=by
 have e:=enc1 h;have e2:(b.toNat).toUInt8=b:=by simp
 rw [e2] at e;have:=dl_enc (r:=b.toNat) (Or.inl (by omega)) t;rw [e] at this;exact this
theorem dl_high {b:UInt8} (t:List UInt8) (h:¬ b.toNat<=127):128<=(dl (b::t)).1:=by
 refine Classical.byContradiction fun hc=>?_
 have hn:dl (b::t)≠(65533,1):=fun e=>by rw [e] at hc;omega
 obtain ⟨r,rest,h1,h2,h3⟩:=dl_ok (by simp) hn;rw [h1] at hc;have hr:r<=127:=by show r<=127;simp at hc;omega
 rw [enc1 hr] at h3;simp only [List.cons_append,List.nil_append,List.cons.injEq] at h3;rw [h3.1,tn (by omega)] at h;exact h hr
theorem dl_letter {b:UInt8} (t:List UInt8) {R W:Nat} (h:dl (b::t)=(R,W)):(97<=R/\R<=122->W=1/\isLt b=true)/\(¬ (97<=R/\R<=122)->isLt b=false):=by
 by_cases hb:b.toNat<=127
 ·rw [dl_low t hb] at h;simp only [Prod.mk.injEq] at h;obtain ⟨rfl,rfl⟩:=h;refine ⟨fun q=>⟨rfl,?_⟩,fun q=>?_⟩
  ·unfold isLt;rw [decide_eq_true q.1,decide_eq_true q.2];rfl
  ·unfold isLt
   cases h1:decide (97<=b.toNat) with
   | false=>rfl
   | true=>rw [Bool.true_and];exact decide_eq_false fun h2=>q ⟨of_decide_eq_true h1,h2⟩
 ·have hh:=dl_high t hb;rw [h] at hh;dsimp only at hh;refine ⟨fun q=>by omega,fun q=>?_⟩;unfold isLt;rw [decide_eq_false (show ¬ b.toNat<=122 by omega),Bool.and_false]
theorem nm_bad {b:UInt8} {t:List UInt8} (h:(bl s).drop pos=b::t) (hb:isLt b=false):isNm s=false:=by
 have:(bl s).all isLt=false:=by
  rw [List.all_eq_false]
  exact ⟨b,by
   have:b∈(bl s).drop pos:=by rw [h];exact List.mem_cons_self
   exact List.mem_of_mem_drop this,by rw [hb];decide⟩
 unfold isNm;rw [this,Bool.and_false]
def NmM (s:ByteArray) (pos:Nat):Prop:=pos<=s.size/\((bl s).take pos).all isLt=true
theorem NmM.step {b:UInt8} {t:List UInt8} (h:NmM s pos) (hp:pos<s.size) (hd:(bl s).drop pos=b::t) (hb:isLt b=true):NmM s (pos+1):=by
 refine ⟨hp,?_⟩;have hl:pos<(bl s).length:=by rw [aDc];exact hp
 have e:(bl s).take (pos+1)=(bl s).take pos++[b]:=by
  rw [List.take_add_one,gE hl];have:=List.drop_eq_getElem_cons hl;rw [hd] at this;simp only [List.cons.injEq] at this;rw [<-this.1];rfl
 rw [e,List.all_append,h.2];simp [hb]
theorem NmM.fin (h:NmM s pos) (hp:¬ pos<s.size):isNm s=(decide (1<=s.size) && decide (s.size<=8)):=by
 have e:(bl s).take pos=bl s:=List.take_of_length_le (by rw [aDc];have:=h.1;omega);have:=h.2;rw [e] at this;unfold isNm;rw [this,Bool.and_true]
theorem aCa (s:ByteArray) (w:World) :
  Calls prog 97 #[.string s] w fun e w'=>e=.returned (.bool (isNm s))/\Below w.heap.size w w':=by
 go_enter func97,ntmps97;go_wp2;go_loopw [] (fun wr=>∃ pos:Nat,wr=w.iter s pos/\NmM s pos) (fun wr=>s.size-wr.iterPos w.heap.size)
 case atStart=>exact ⟨0,rfl,by omega,by simp⟩
 case round =>
  obtain ⟨pos,rfl,hm⟩:=hrel;have HM:Hid (NmM s pos):=hm;clear hm;by_cases hp:pos<s.size
  ·obtain ⟨R,W,hd⟩:∃ R W,dl ((bl s).drop pos)=(R,W):=⟨_,_,rfl⟩;obtain ⟨b,t,hbt⟩:∃ b t,(bl s).drop pos=b::t:=by
    cases hx:(bl s).drop pos with
    | nil=>exact absurd hx (aCd hp)
    | cons b t=>exact ⟨b,t,rfl⟩
   have hnx:∀ ty,(Instr.next (.pointer (some ⟨w.heap.size,0,none⟩)) true ty).run prog (w.iter s pos)=.ok (.tuple #[.bool true,.int .i64 pos,.int .i32 R]) (w.iter s (pos+W)):=fun ty=>by rw [run_next_any w s pos ty hp,dec_at,hd]
   rw [hbt] at hd;have hl:=dl_letter t hd;by_cases hR:97<=R/\R<=122
   ·obtain ⟨rfl,hb⟩:=hl.1 hR;have r1:¬ (R:Int)<97:=by omega
    have r2:¬ (122:Int)<(R:Int):=by omega
    have HN:Hid (NmM s (pos+1)):=HM.o.step hp hbt hb;clear hl hR hd hbt;go_wp2;go_roundw
    case rel=>exact ⟨pos+1,rfl,HN.o⟩
    case measure=>simp;omega
   ·have HF:Hid (isNm s=false):=nm_bad hbt (hl.2 hR);clear hl hd hbt;by_cases c1:(R:Int)<97
    ·go_wp2;go_ret;exact ⟨by rw [HF.o];rfl,aBf w s _⟩
    ·have r2:(122:Int)<(R:Int):=by omega
     go_wp2;go_ret;exact ⟨by rw [HF.o];rfl,aBf w s _⟩
  ·have hnx:∀ ty,(Instr.next (.pointer (some ⟨w.heap.size,0,none⟩)) true ty).run prog (w.iter s pos)=_:=fun ty=>run_next_end w s pos ty hp
   have HF:=zH (HM.o.fin hp);by_cases h0:s=⟨#[]⟩
   ·subst h0;go_wp2;go_ret;exact ⟨by rw [HF.o];rfl,aBf w _ pos⟩
   ·have hz:s.size≠0:=fun q=>h0 (by cases s with | mk d=>simp [ByteArray.size] at q;simp [q])
    have hq:s.toList.isEmpty=false:=by
     cases hx:s.toList.isEmpty with
     | false=>rfl
     | true=>exact absurd (aBi hx) h0
    have e8:decide ((s.size:Int)<=8)=decide (s.size<=8):=decide_eq_decide.2 (by omega);rw [decide_eq_true (show 1<=s.size by omega),Bool.true_and,<-e8] at HF;clear hz h0 e8;go_wp2;go_ret;exact ⟨by rw [HF.o];rfl,aBf w s pos⟩
end Go.Proofs.YtmmcebojbbdfmaaGreat
