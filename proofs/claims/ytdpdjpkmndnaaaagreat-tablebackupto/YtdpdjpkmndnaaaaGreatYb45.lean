import Derived.Test.YtdpdjpkmndnaaaaGreatYb42
import Derived.Test.YtdpdjpkmndnaaaaGreatYb34
set_option maxRecDepth 100000
set_option maxHeartbeats 16000000
set_option linter.unusedVariables false
namespace Go.Proofs.YtdpdjpkmndnaaaaGreat
open Go.RowKit _root_.Go.Proofs.Tryz
variable {B k pos:Nat} {v:Value} {w w1 w2 wr:World} {x:Val} {xs:List Nat}
theorem bF3 (m c s:Nat) (hc:c<256):hiB (m*256+c) (s+1)=hiB m s++[c]:=by
 unfold hiB;rw [List.range_succ,List.map_append]
 congr 1
 ·apply List.map_congr_left;intro i hi;have hi':i<s:=by simpa using hi
  have e:s+1-1-i=(s-1-i)+1:=by omega
  have e2:(m*256+c) / 256=m:=by omega
  rw [e,Nat.pow_succ,Nat.mul_comm (256 ^ (s-1-i)) 256,<-Nat.div_div_eq_div_mul,e2]
 ·simp;omega
theorem aIn:∀ (n:Nat) (l:List Nat),l.length=n->(∀ c∈l,c<256)->hiB (bAg l) n=l
 | 0,l,h,_=>by
  have:l=[]:=kAf h
  subst this
  rfl
 | n+1,l,h,hb=>by
  have hne:l≠[]:=by intro e;rw [e] at h;simp at h
  have e:=List.dropLast_concat_getLast hne;have hl:l.dropLast.length=n:=by simp [h]
  have h1:bAg l=bAg l.dropLast*256+l.getLast hne:=by
   conv=>lhs;rw [<-e]
   rw [aGh]
  have ih:=aIn n l.dropLast hl (fun c hc=>hb c ((List.dropLast_sublist l).subset hc));rw [h1,bF3 _ _ _ (hb _ (List.getLast_mem hne)),ih,e]
theorem bIx:∀ (n:Nat) (ys rs:List Nat) (k:Nat),ys.length<=n->(∀ c∈ys,c<256)->rt ys=some (rs,k)->(∀ r∈rs,vr r)/\ys.take k=bAe rs++hiB 0 3/\k=3*rs.length+3
 | 0,ys,rs,k,hn,hb,h=>by
  have:ys=[]:=kAf (by omega)
  subst this
  rw [bDw,kAg (by simp)] at h
  cases h
 | n+1,ys,rs,k,hn,hb,h=>by
  rw [bDw] at h
  split at h
  ·cases h
  ·rename_i hl
   have h3:(ys.take 3).length=3:=by rw [kAt];omega
   have hv:=aIn 3 (ys.take 3) h3 (fun c hc=>hb c (kA2 hc))
   split at h
   ·rename_i hz
    cases h;rw [hz] at hv;exact ⟨by simp,by rw [hv];simp [bAe],by simp⟩
   ·rename_i hz
    split at h
    ·rename_i hvr
     cases hr:rt (ys.drop 3) with
     | none=>rw [hr] at h;cases h
     | some q =>
      obtain ⟨rs',k'⟩:=q;rw [hr] at h;simp only [Option.map_some,oI,Prod.mk.injEq] at h;obtain ⟨rfl,rfl⟩:=h;obtain ⟨i1,i2,i3⟩:=bIx n (ys.drop 3) rs' k' (by rw [kAk];omega) (fun c hc=>hb c (kBa hc)) hr;refine ⟨?_,?_,by simp only [List.length_cons];omega⟩
      ·intro r hm;rcases kAv.1 hm with rfl | hm
       ·exact hvr
       ·exact i1 r hm
      ·have e:ys.take (k'+3)=ys.take 3++(ys.drop 3).take k':=by rw [Nat.add_comm,List.take_add]
       have e2:bAg (ys.take 3)-1+1=bAg (ys.take 3):=by omega
       rw [e,i2,<-kAu]
       congr 1
       simp only [bAe,List.flatMap_cons,e2,hv]
    ·cases h
theorem bJ0 (n:Nat):bBe ((n:Int)-9223372036854775808)=n:=by unfold bBe;omega
theorem aB3 (h:0<xs.length) (k:Nat):xs.take (k+1)=xs.getD 0 0::(xs.drop 1).take k:=by
 cases xs with
 | nil=>simp at h
 | cons a r=>rfl
theorem bQm {h:H} (hx:xs≠[]) (hb:∀ c∈xs,c<256) (hl:xs.length<=1048576) (e:rh xs=some (h,k)):h.ov.err=0/\h.ov.bytes=xs.take k/\h.ov.ok:=by
 have h0:0<xs.length:=kA4.2 hx;have hd:(xs.drop 1).length=xs.length-1:=by rw [kAk]
 have hbd:∀ c∈xs.drop 1,c<256:=fun c hc=>hb c (kBa hc);unfold rh at e
 split at e
 ·rename_i c1
  cases e;refine ⟨by decide +kernel,?_,by unfold H.ov Val.ok;decide +kernel⟩;rw [aB3 h0,c1];simp [Val.bytes,H.ov,bAa,H.bytes]
 ·split at e
  ·rename_i c2
   split at e
   ·rename_i h8
    cases e;have h3:((xs.drop 1).take 8).length=8:=by rw [kAt];omega
    have hv:=aIn 8 ((xs.drop 1).take 8) h3 (fun c hc=>hbd c (kA2 hc));have hlt:=aFe ((xs.drop 1).take 8) (fun c hc=>hbd c (kA2 hc));rw [h3] at hlt;have hlt2:bAg ((xs.drop 1).take 8)<18446744073709551616:=hlt;refine ⟨?_,?_,?_⟩
    ·unfold Val.err H.ov;simp only;rw [r1,kAg (by rw [ByteArray.toList_eq];rfl)]
    ·rw [aB3 h0,c2];simp only [Val.bytes,H.ov];have:bAa 1 ((bAg ((xs.drop 1).take 8):Int)-9223372036854775808) ⟨#[]⟩=.number ((bAg ((xs.drop 1).take 8):Int)-9223372036854775808):=by simp [bAa]
     rw [this];simp only [H.bytes];rw [bJ0,hv]
    ·unfold Val.ok H.ov;simp only;refine ⟨by omega,by omega,by omega,by omega,by decide⟩
   ·cases e
  ·split at e
   ·rename_i c4
    split at e
    ·rename_i h1
     cases e;obtain ⟨c,r,hcr⟩:∃ c r,xs.drop 1=c::r:=by
      cases hq:xs.drop 1 with
      | nil=>rw [hq] at h1;simp at h1
      | cons c r=>exact ⟨c,r,rfl⟩
     rw [hcr] at h1 ⊢;have hv:bAg ((c::r).take 1)=c:=by simp [bAg]
     rw [hv] at h1 ⊢;have hc:c=0\/c=1:=by omega
     rw [aB3 h0,c4,hcr];rcases hc with rfl | rfl
     ·refine ⟨by decide +kernel,by simp [Val.bytes,H.ov,bAa,H.bytes,bi],by unfold H.ov Val.ok;decide +kernel⟩
     ·refine ⟨by decide +kernel,by simp [Val.bytes,H.ov,bAa,H.bytes,bi],by unfold H.ov Val.ok;decide +kernel⟩
    ·cases e
   ·split at e
    ·rename_i c3
     cases hr:rt (xs.drop 1) with
     | none=>rw [hr] at e;cases e
     | some q =>
      obtain ⟨rs,k'⟩:=q;rw [hr] at e;simp only [Option.map_some,oI,Prod.mk.injEq] at e;obtain ⟨rfl,rfl⟩:=e;obtain ⟨i1,i2,i3⟩:=bIx _ (xs.drop 1) rs k' (nR _) hbd hr;have hle:=bQk (xs.drop 1) rs k' hr;have hrs:runes (bl ⟨(encs rs).toArray⟩)=some rs:=aFl rs i1;have hsz:(⟨(encs rs).toArray⟩:ByteArray).size=(encs rs).length:=by simp [ByteArray.size]
      have h4:=aIr rs;refine ⟨?_,?_,?_⟩
      ·unfold Val.err H.ov;simp only;rw [r2,kAg rfl,hrs,kAb (by simp)]
      ·rw [aB3 h0,c3,i2];have:bAa 2 0 ⟨(encs rs).toArray⟩=.text ⟨(encs rs).toArray⟩:=by simp [bAa]
       simp only [Val.bytes,H.ov];rw [this,hrs];simp [H.bytes]
      ·unfold Val.ok H.ov;simp only;refine ⟨by omega,by omega,by omega,by omega,by rw [hsz];omega⟩
    ·cases e
theorem bD4:∀ (n:Nat) (xs:List Nat) (vs:List Val),xs.length<=n->xs.length<=1048576->(∀ c∈xs,c<256)->rd xs=some vs->bAd vs=0/\keyBytes vs=xs/\(∀ x∈vs,x.ok)/\vs.length<=xs.length
 | 0,xs,vs,hn,_,hb,h=>by
  have:xs=[]:=kAf (by omega)
  subst this
  rw [bI4] at h
  cases h
  exact ⟨rfl,rfl,by simp,by simp⟩
 | n+1,xs,vs,hn,hl,hb,h=>by
  by_cases hx:xs=[]
  ·subst hx
   rw [bI4] at h
   cases h
   exact ⟨rfl,rfl,by simp,by simp⟩
  ·cases e:rh xs with
   | none=>rw [bI3 hx e] at h;cases h
   | some q =>
    obtain ⟨hh,k⟩:=q
    have hk:=aKa hx e
    obtain ⟨b1,b2,b3⟩:=bQm hx hb hl e
    rw [rd_some hx e] at h
    cases hr:rd (xs.drop k) with
    | none=>rw [hr] at h;cases h
    | some vs' =>
     rw [hr] at h
     simp only [Option.map_some,oI] at h
     subst h
     obtain ⟨i1,i2,i3,i4⟩:=bD4 n (xs.drop k) vs' (by rw [kAk];omega) (by rw [kAk];omega) (fun c hc=>hb c (kBa hc)) hr
     rw [kAk] at i4
     refine ⟨by simp only [bAd,b1,if_true];exact i1,?_,?_,by simp only [List.length_cons];omega⟩
     ·have:keyBytes (hh.ov::vs')=hh.ov.bytes++keyBytes vs':=by simp [keyBytes]
      rw [this,b2,i2,List.take_append_drop]
     ·intro x hm;rcases kAv.1 hm with rfl | hm
      ·exact b3
      ·exact i3 x hm
theorem aFf:∀ (s n:Nat),n<256 ^ s->bAg (hiB n s)=n
 | 0,n,h=>by
  have:n=0:=by simpa using h
  subst this;rfl
 | s+1,n,h=>by
  have e:n=(n / 256)*256+n % 256:=by omega
  have hd:n / 256<256 ^ s:=by rw [Nat.pow_succ] at h;omega
  have h1:hiB n (s+1)=hiB (n / 256) s++[n % 256]:=by
   conv=>lhs;rw [e]
   exact bF3 _ _ _ (by omega)
  rw [h1,aGh,aFf s _ hd];omega
theorem bIw:∀ (rs:List Nat) (r:List Nat),(∀ x∈rs,vr x)->rt (bAe rs++hiB 0 3++r)=some (rs,3*rs.length+3)
 | [],r,_=>by
  have e:(bAe []++hiB 0 3++r).take 3=hiB 0 3:=by simp [bAe,hiB,List.range_succ]
  rw [bDw,kAb (by simp [bAe,hiB]),e,kAg (aFf 3 0 (by decide))];simp
 | x::rs,r,h=>by
  have hx:vr x:=h x (by simp);have hlt:x+1<256 ^ 3:=by unfold vr at hx;omega
  have e0:bAe (x::rs)++hiB 0 3++r=hiB (x+1) 3++(bAe rs++hiB 0 3++r):=by simp [bAe]
  have e1:(hiB (x+1) 3++(bAe rs++hiB 0 3++r)).take 3=hiB (x+1) 3:=List.take_left' (aBc _ _);have e2:(hiB (x+1) 3++(bAe rs++hiB 0 3++r)).drop 3=bAe rs++hiB 0 3++r:=List.drop_left' (aBc _ _);rw [e0,bDw,kAb (by rw [lA,aBc];omega),e1,e2,aFf 3 _ hlt,kAb (by omega),Nat.add_sub_cancel,kAg hx,bIw rs r (fun y hy=>h y (kAl _ hy))];simp only [Option.map_some,oI,Prod.mk.injEq,List.length_cons,true_and];omega
theorem aA8 {s:ByteArray} (h:s.toList.isEmpty=true):s=⟨#[]⟩:=by
 rw [ByteArray.toList_eq] at h;obtain ⟨⟨l⟩⟩:=s;simp at h;subst h;rfl
theorem aCb (r:List Nat) (hx:x.ok) (he:x.err=0):∃ h,rh (x.bytes++r)=some (h,x.bytes.length)/\h.ov=x/\x.bytes≠[]:=by
 obtain ⟨k,n,s⟩:=x;obtain ⟨o1,o2,o3,o4,o5⟩:=hx;simp only at o1 o2 o3 o4 o5;unfold Val.err at he;simp only at he;obtain ⟨hk,h2⟩:=aBb he;unfold Val.bytes;simp only;rcases hk with rfl | rfl | rfl | rfl
 ·rw [r0] at he
  split at he
  ·rename_i hc
   obtain ⟨rfl,hs⟩:=hc;have:=aA8 hs;subst this;refine ⟨.nothing,?_,rfl,by simp [bAa,H.bytes]⟩;simp [bAa,H.bytes,rh]
  ·cases he
 ·rw [r1] at he
  split at he
  ·rename_i hs
   have:=aA8 hs;subst this;have hh:bAa 1 n ⟨#[]⟩=.number n:=by simp [bAa]
   rw [hh];have h88:(256:Nat) ^ 8=18446744073709551616:=by decide
   have hlt:bBe n<256 ^ 8:=by unfold bBe;omega
   refine ⟨.number n,?_,rfl,by simp [H.bytes]⟩;have e1:(hiB (bBe n) 8++r).take 8=hiB (bBe n) 8:=List.take_left' (aBc _ _);have e3:((bBe n:Nat):Int)-9223372036854775808=n:=by unfold bBe;omega
   simp only [H.bytes,rh,List.cons_append,List.getD_cons_zero,List.drop_succ_cons,List.drop_zero];rw [kAb (by decide),kAg trivial,kAg (by rw [lA,aBc];omega),e1,aFf 8 _ hlt,e3,List.length_cons,aBc]
  ·cases he
 ·obtain ⟨rs,hrs⟩:=h2 rfl;rw [r2] at he
  split at he
  ·rename_i hn
   subst hn;have hh:bAa 2 0 s=.text s:=by simp [bAa]
   rw [hh,hrs];obtain ⟨i1,i2⟩:=(aC7 _ _).1 hrs;have es:(⟨(encs rs).toArray⟩:ByteArray)=s:=by
    obtain ⟨⟨l⟩⟩:=s;simp only [bl] at i1;rw [<-i1]
   refine ⟨.text s,?_,rfl,by simp [H.bytes]⟩;simp only [H.bytes,rh,List.cons_append,List.getD_cons_zero,List.drop_succ_cons,List.drop_zero,Option.getD_some];have hl:(bAe rs).length=3*rs.length:=by
    clear hrs i1 i2 es
    induction rs with
    | nil=>rfl
    | cons a t ih=>simp only [bAe,List.flatMap_cons,lA,aBc,List.length_cons] at ih ⊢;omega
   rw [kAb (by decide),kAb (by decide),kAb (by decide),kAg trivial,bIw rs r i2];simp only [Option.map_some,List.length_cons,lA,hl,aBc,es]
  ·cases he
 ·rw [r3] at he
  split at he
  ·rename_i hc
   obtain ⟨hs,hn⟩:=hc;have:=aA8 hs;subst this;rcases hn with rfl | rfl
   ·refine ⟨.truth false,?_,rfl,by simp [bAa,H.bytes]⟩;simp [bAa,H.bytes,rh,bi,bAg]
   ·refine ⟨.truth true,?_,rfl,by simp [bAa,H.bytes]⟩;simp [bAa,H.bytes,rh,bi,bAg]
  ·cases he
theorem bI7:∀ (vs:List Val),(∀ x∈vs,x.ok)->bAd vs=0->rd (keyBytes vs)=some vs
 | [],_,_=>rfl
 | x::vs,ho,he=>by
  have hx:x.err=0:=by
   simp only [bAd] at he
   split at he
   ·assumption
   ·exact he
  have hr:bAd vs=0:=by simpa only [bAd,hx,if_true] using he
  obtain ⟨h,e1,e2,e3⟩:=aCb (keyBytes vs) (ho x (by simp)) hx;have eb:keyBytes (x::vs)=x.bytes++keyBytes vs:=by simp [keyBytes]
  rw [eb,rd_some (by simp [e3]) e1,List.drop_left,bI7 vs (fun y hy=>ho y (kAl _ hy)) hr,e2];rfl
def bL5 (b:UInt8):Bool:=decide (97<=b.toNat) && decide (b.toNat<=122)
def bCv (s:ByteArray):Bool:=decide (1<=s.size) && decide (s.size<=8) && (bl s).all bL5
theorem bTw {b:UInt8} (t:List UInt8) (h:b.toNat<=127):dl (b::t)=(b.toNat,1):=by
 have e:=enc1 h;have e2:(b.toNat).toUInt8=b:=by simp
 rw [e2] at e;have:=bGg (r:=b.toNat) (Or.inl (by omega)) t;rw [e] at this;exact this
theorem bRy {b:UInt8} (t:List UInt8) (h:¬ b.toNat<=127):128<=(dl (b::t)).1:=by
 refine Classical.byContradiction fun hc=>?_;have hn:dl (b::t)≠(65533,1):=fun e=>by rw [e] at hc;omega
 obtain ⟨r,rest,h1,h2,h3⟩:=bHm (by simp) hn;rw [h1] at hc;have hr:r<=127:=by show r<=127;simp at hc;omega
 rw [enc1 hr] at h3;simp only [List.cons_append,List.nil_append,List.cons.injEq] at h3;rw [h3.1,tn (by omega)] at h;exact h hr
theorem bLj {b:UInt8} (t:List UInt8) {R W:Nat} (h:dl (b::t)=(R,W)):(97<=R/\R<=122->W=1/\bL5 b=true)/\(¬ (97<=R/\R<=122)->bL5 b=false):=by
 by_cases hb:b.toNat<=127
 ·rw [bTw t hb] at h;simp only [Prod.mk.injEq] at h;obtain ⟨rfl,rfl⟩:=h;refine ⟨fun q=>⟨rfl,?_⟩,fun q=>?_⟩
  ·unfold bL5;rw [kAc q.1,kAc q.2];rfl
  ·unfold bL5
   cases h1:decide (97<=b.toNat) with
   | false=>rfl
   | true=>rw [Bool.true_and];exact kAd fun h2=>q ⟨of_decide_eq_true h1,h2⟩
 ·have hh:=bRy t hb;rw [h] at hh;dsimp only at hh;refine ⟨fun q=>by omega,fun q=>?_⟩;unfold bL5;rw [kAd (show ¬ b.toNat<=122 by omega),Bool.and_false]
theorem bS6 {s:ByteArray} {b:UInt8} {t:List UInt8} (h:(bl s).drop pos=b::t) (hb:bL5 b=false):bCv s=false:=by
 have:(bl s).all bL5=false:=by
  rw [List.all_eq_false]
  exact ⟨b,by
   have:b∈(bl s).drop pos:=by rw [h];exact kAn
   exact kBa this,by rw [hb];decide⟩
 unfold bCv;rw [this,Bool.and_false]
def NmM (s:ByteArray) (pos:Nat):Prop:=pos<=s.size/\((bl s).take pos).all bL5=true
theorem NmM.step {s:ByteArray} {b:UInt8} {t:List UInt8} (h:NmM s pos) (hp:pos<s.size) (hd:(bl s).drop pos=b::t) (hb:bL5 b=true):NmM s (pos+1):=by
 refine ⟨hp,?_⟩;have hl:pos<(bl s).length:=by rw [aCy];exact hp
 have e:(bl s).take (pos+1)=(bl s).take pos++[b]:=by
  rw [kAs,gE hl];have:=kAy hl;rw [hd] at this;simp only [List.cons.injEq] at this;rw [<-this.1];rfl
 rw [e,List.all_append,h.2];simp [hb]
theorem NmM.fin {s:ByteArray} (h:NmM s pos) (hp:¬ pos<s.size):bCv s=(decide (1<=s.size) && decide (s.size<=8)):=by
 have e:(bl s).take pos=bl s:=kAh (by rw [aCy];have:=h.1;omega);have:=h.2;rw [e] at this;unfold bCv;rw [this,Bool.and_true]
theorem aKg (s:ByteArray) (w:World) :
  Calls prog 80 #[.string s] w fun e w'=>e=.returned (.bool (bCv s))/\Below w.heap.size w w':=by
 go_enter func80,ntmps80;go_wp2;go_loopw [] (fun wr=>∃ pos:Nat,wr=w.iter s pos/\NmM s pos) (fun wr=>s.size-wr.iterPos w.heap.size)
 case atStart=>exact ⟨0,rfl,by omega,by simp⟩
 case round =>
  obtain ⟨pos,rfl,hm⟩:=hrel;have HM:Hid (NmM s pos):=hm;clear hm;by_cases hp:pos<s.size
  ·obtain ⟨R,W,hd⟩:∃ R W,dl ((bl s).drop pos)=(R,W):=⟨_,_,rfl⟩;obtain ⟨b,t,hbt⟩:∃ b t,(bl s).drop pos=b::t:=by
    cases hx:(bl s).drop pos with
    | nil=>exact absurd hx (aC1 hp)
    | cons b t=>exact ⟨b,t,rfl⟩
   have hnx:∀ ty,(Instr.next (.pointer (some ⟨w.heap.size,0,none⟩)) true ty).run prog (w.iter s pos)=.ok (.tuple #[.bool true,.int .i64 pos,.int .i32 R]) (w.iter s (pos+W)):=fun ty=>by rw [run_next_any w s pos ty hp,bGh,hd]
   rw [hbt] at hd;have hl:=bLj t hd;by_cases hR:97<=R/\R<=122
   ·obtain ⟨rfl,hb⟩:=hl.1 hR;have r1:¬ (R:Int)<97:=by omega
    have r2:¬ (122:Int)<(R:Int):=by omega
    have HN:Hid (NmM s (pos+1)):=HM.o.step hp hbt hb;clear hl hR hd hbt;go_wp2;go_roundw
    case rel=>exact ⟨pos+1,rfl,HN.o⟩
    case measure=>simp;omega
   ·have HF:Hid (bCv s=false):=bS6 hbt (hl.2 hR);clear hl hd hbt;by_cases c1:(R:Int)<97
    ·go_wp2;go_ret;exact ⟨by rw [HF.o];rfl,aB2 w s _⟩
    ·have r2:(122:Int)<(R:Int):=by omega
     go_wp2;go_ret;exact ⟨by rw [HF.o];rfl,aB2 w s _⟩
  ·have hnx:∀ ty,(Instr.next (.pointer (some ⟨w.heap.size,0,none⟩)) true ty).run prog (w.iter s pos)=_:=fun ty=>run_next_end w s pos ty hp
   have HF:=aAc (HM.o.fin hp);by_cases h0:s=⟨#[]⟩
   ·subst h0;go_wp2;go_ret;exact ⟨by rw [HF.o];rfl,aB2 w _ pos⟩
   ·have hz:s.size≠0:=fun q=>h0 (by cases s with | mk d=>simp [ByteArray.size] at q;simp [q])
    have hq:s.toList.isEmpty=false:=by
     cases hx:s.toList.isEmpty with
     | false=>rfl
     | true=>exact absurd (aA8 hx) h0
    have e8:decide ((s.size:Int)<=8)=decide (s.size<=8):=decide_eq_decide.2 (by omega);rw [kAc (show 1<=s.size by omega),Bool.true_and,<-e8] at HF;clear hz h0 e8;go_wp2;go_ret;exact ⟨by rw [HF.o];rfl,aB2 w s pos⟩
theorem aCm {p:Prop} (h:p):Hid p:=h
def cmpL:List Nat->List Nat->Int
 | [],[]=>0
 | [],_::_=>-1
 | _::_,[]=>1
 | x::a,y::b=>if x=y then cmpL a b else if x<y then -1 else 1
def H.kind:H->Int
 | .nothing=>0
 | .number _=>1
 | .text _=>2
 | .truth _=>3
 | .none=>0
def bL6:H->H->Int
 | .number a,.number b=>Lib.compareInt a b
 | .text s,.text t=>cmpL ((runes (bl s)).getD []) ((runes (bl t)).getD [])
 | .truth a,.truth b=>Lib.compareInt (bi a) (bi b)
 | a,b=>Lib.compareInt a.kind b.kind
def Val.held (x:Val):H:=bAa x.1 x.2.1 x.2.2
def bDf (x y:Val):Int:=bL6 x.held y.held
def bDe:List Val->List Val->Int
 | [],[]=>0
 | [],_::_=>-1
 | _::_,[]=>1
 | x::a,y::b=>if bDf x y=0 then bDe a b else bDf x y
theorem bOv {a b:List Val} (h1:k<a.length) (h2:k<b.length):bDe (a.drop k) (b.drop k)=if bDf (a.getD k v0) (b.getD k v0)=0 then bDe (a.drop (k+1)) (b.drop (k+1)) else bDf (a.getD k v0) (b.getD k v0):=by
 rw [kAy h1,kAy h2];have e1:a.getD k v0=a[k]:=by simp [List.getD,h1]
 have e2:b.getD k v0=b[k]:=by simp [List.getD,h2]
 rw [e1,e2];rfl
theorem bLu {a b:List Val} (h:¬ k<min a.length b.length) (hk:k<=min a.length b.length):bDe (a.drop k) (b.drop k)=Lib.compareInt a.length b.length:=by
 unfold Lib.compareInt;by_cases h1:a.length<b.length
 ·have e1:a.drop k=[]:=kA7 (by omega);rw [e1,kAy (by omega),kAg (by omega)];rfl
 ·by_cases h2:b.length<a.length
  ·have e1:b.drop k=[]:=kA7 (by omega);rw [e1,kAy (by omega),kAb (by omega),kAg (by omega)];rfl
  ·have e1:a.drop k=[]:=kA7 (by omega);have e2:b.drop k=[]:=kA7 (by omega);rw [e1,e2,kAb (by omega),kAb (by omega)];rfl
theorem bJb (ys:List Nat) (i:Nat) (hi:i<ys.length):(bAz ys)[i]?=some (.int .i32 (ys.getD i 0:Nat)):=by simp [bAz,hi]
theorem aCq (x y:Nat) (a b:List Nat):cmpL (x::a) (y::b)=if x=y then cmpL a b else if x<y then -1 else 1:=rfl
theorem bC0 (n s:Nat):hiB n (s+1)=(n / 256 ^ s % 256)::hiB n s:=by
 unfold hiB;rw [List.range_succ_eq_map,List.map_cons,List.map_map]
 congr 1
 apply List.map_congr_left;intro i hi;have hi':i<s:=by simpa using hi
 simp only [Function.comp];have e:s+1-1-Nat.succ i=s-1-i:=by omega
 rw [e]
theorem bGm (a b:List Nat):∀ (s m n:Nat),cmpL (hiB m s++a) (hiB n s++b)=if m % 256 ^ s=n % 256 ^ s then cmpL a b else if m % 256 ^ s<n % 256 ^ s then -1 else 1
 | 0,m,n=>by simp [hiB,Nat.mod_one]
 | s+1,m,n=>by
  have hm:=Nat.mod_pow_succ (b:=256) (k:=s) (x:=m)
  have hn:=Nat.mod_pow_succ (b:=256) (k:=s) (x:=n)
  have p:0<256 ^ s:=Nat.pow_pos (by decide)
  have lm:=Nat.mod_lt m p
  have ln:=Nat.mod_lt n p
  rw [bC0,bC0,List.cons_append,List.cons_append,aCq,bGm a b s m n,hm,hn]
  by_cases h:m / 256 ^ s % 256=n / 256 ^ s % 256
  ·rw [kAg h,h]
   simp only [Nat.add_right_cancel_iff,Nat.add_lt_add_iff_right]
  ·rw [kAb h]
   generalize m / 256 ^ s % 256=c at h ⊢
   generalize n / 256 ^ s % 256=d at h ⊢
   generalize 256 ^ s=P at p lm ln ⊢
   by_cases h2:c<d
   ·have:P*(c+1)<=P*d:=Nat.mul_le_mul_left _ h2
    rw [Nat.mul_add,Nat.mul_one] at this
    rw [kAg h2,kAb (by omega),kAg (by omega)]
   ·have:P*(d+1)<=P*c:=Nat.mul_le_mul_left _ (by omega)
    rw [Nat.mul_add,Nat.mul_one] at this
    rw [kAb h2,kAb (by omega),kAb (by omega)]
theorem aI0 (a b:List Nat) (s m n:Nat) (hm:m<256 ^ s) (hn:n<256 ^ s):cmpL (hiB m s++a) (hiB n s++b)=if m=n then cmpL a b else if m<n then -1 else 1:=by
 rw [bGm,Nat.mod_eq_of_lt hm,Nat.mod_eq_of_lt hn]
theorem bMe {r:Nat} (h:vr r):r+1<256 ^ 3:=by unfold vr at h;omega
theorem aJr (a b:List Nat):∀ (rs qs:List Nat),(∀ r∈rs,vr r)->(∀ r∈qs,vr r)->cmpL (bAe rs++(hiB 0 3++a)) (bAe qs++(hiB 0 3++b))=if cmpL rs qs=0 then cmpL a b else cmpL rs qs
 | [],[],_,_=>by
  have:=aI0 a b 3 0 0 (by decide) (by decide)
  simpa [bAe,cmpL] using this
 | [],y::qs,_,h2=>by
  have:=aI0 a (bAe qs++(hiB 0 3++b)) 3 0 (y+1) (by decide) (bMe (h2 y (by simp)))
  simpa [bAe,cmpL] using this
 | x::rs,[],h1,_=>by
  have:=aI0 (bAe rs++(hiB 0 3++a)) b 3 (x+1) 0 (bMe (h1 x (by simp))) (by decide)
  simpa [bAe,cmpL] using this
 | x::rs,y::qs,h1,h2=>by
  have e1:bAe (x::rs)++(hiB 0 3++a)=hiB (x+1) 3++(bAe rs++(hiB 0 3++a)):=by simp [bAe]
  have e2:bAe (y::qs)++(hiB 0 3++b)=hiB (y+1) 3++(bAe qs++(hiB 0 3++b)):=by simp [bAe]
  rw [e1,e2,aI0 _ _ 3 _ _ (bMe (h1 x (by simp))) (bMe (h2 y (by simp))),aJr a b rs qs (fun r hr=>h1 r (kAl _ hr)) (fun r hr=>h2 r (kAl _ hr)),aCq];by_cases h:x=y
  ·subst h;simp
  ·rw [kAb (by omega),kAb h];by_cases h3:x<y
   ·simp [h3]
   ·simp [h3]
theorem aE8 (hx:x.ok) (he:x.err=0) :
  (x.held=.nothing/\x.bytes=[1]) \/
  (∃ n,x.held=.number n/\x.bytes=2::hiB (bBe n) 8/\-9223372036854775808<=n/\n<=9223372036854775807) \/
  (∃ s rs,x.held=.text s/\runes (bl s)=some rs/\x.bytes=3::(bAe rs++hiB 0 3)/\∀ r∈rs,vr r) \/
  (∃ b,x.held=.truth b/\x.bytes=[4,(bi b).toNat]):=by
 obtain ⟨k,n,s⟩:=x;obtain ⟨o1,o2,o3,o4,o5⟩:=hx;simp only at o1 o2 o3 o4 o5;unfold Val.err at he;simp only at he;obtain ⟨hk,h2⟩:=aBb he;unfold Val.bytes Val.held;simp only;rcases hk with rfl | rfl | rfl | rfl
 ·exact .inl ⟨by simp [bAa],by simp [bAa,H.bytes]⟩
 ·exact .inr (.inl ⟨n,by simp [bAa],by simp [bAa,H.bytes],o3,o4⟩)
 ·obtain ⟨rs,hrs⟩:=h2 rfl;exact .inr (.inr (.inl ⟨s,rs,by simp [bAa],hrs,by rw [hrs];simp [bAa,H.bytes],((aC7 _ _).1 hrs).2⟩))
 ·exact .inr (.inr (.inr ⟨n == 1,by simp [bAa],by simp [bAa,H.bytes]⟩))
theorem bFi {n:Int} (h1:-9223372036854775808<=n) (h2:n<=9223372036854775807):bBe n<256 ^ 8:=by
 have h88:(256:Nat) ^ 8=18446744073709551616:=by decide
 unfold bBe;omega
theorem bHp {y:Val} (a b:List Nat) (hx:x.ok) (he:x.err=0) (hy:y.ok) (hf:y.err=0) :
  cmpL (x.bytes++a) (y.bytes++b)=if bDf x y=0 then cmpL a b else bDf x y:=by
 unfold bDf;rcases aE8 hx he with ⟨p1,p2⟩ | ⟨n,p1,p2,p3,p4⟩ | ⟨s,rs,p1,p3,p2,p4⟩ | ⟨c,p1,p2⟩ <;>
 rcases aE8 hy hf with ⟨q1,q2⟩ | ⟨m,q1,q2,q3,q4⟩ | ⟨t,qs,q1,q3,q2,q4⟩ | ⟨d,q1,q2⟩ <;>
 rw [p1,p2,q1,q2]
 case inr.inl.inr.inl =>
  rw [List.cons_append,List.cons_append,aCq,kAg rfl,aI0 _ _ 8 _ _ (bFi p3 p4) (bFi q3 q4)];simp only [bL6,Lib.compareInt];by_cases h:n=m
  ·subst h;simp
  ·have hne:¬ bBe n=bBe m:=by unfold bBe;omega
   rw [kAb hne];by_cases h1:n<m
   ·have:bBe n<bBe m:=by unfold bBe;omega
    simp [h1,this]
   ·have h2:¬ bBe n<bBe m:=by unfold bBe;omega
    have h3:m<n:=by omega
    simp [h1,h2,h3]
 case inr.inr.inl.inr.inr.inl =>
  rw [List.cons_append,List.cons_append,aCq,kAg rfl,kAu,kAu,aJr a b rs qs p4 q4];simp only [bL6,p3,q3,Option.getD_some]
 case inr.inr.inr.inr.inr.inr =>
  cases c<;>cases d<;>simp [aCq,bL6,Lib.compareInt,bi]
 all_goals simp [aCq,bL6,Lib.compareInt,H.kind]
theorem aDk (x y:Int) (w:World):Calls prog 52 #[.int .i64 x,.int .i64 y] w fun e w'=>e=.returned (.int .i64 (Lib.compareInt x y))/\w'=w:=by
 unfold Lib.compareInt;by_cases h1:x<y
 ·go_enter func52,ntmps52;go_wp2;go_ret;simp
 ·by_cases h2:y<x
  ·go_enter func52,ntmps52;go_wp2;go_ret;exact ⟨by first | rfl | simp,rfl⟩
  ·go_enter func52,ntmps52;go_wp2;go_ret;exact ⟨by first | rfl | simp,rfl⟩
theorem aH0 (w:World) (o p:Obj):Below w.heap.size w ((w.alloc o).alloc p) :=
 have h:=(kBh w.heap.size w).alloc (nR _) o
 h.alloc h.size p
theorem bMr (w:World) (o p:Obj):w.heap.size+1<((w.alloc o).alloc p).heap.size:=by
 have e1:((w.alloc o).alloc p).heap.size=(w.alloc o).heap.size+1:=by simp
 have e2:(w.alloc o).heap.size=w.heap.size+1:=by simp
 omega
theorem bMs (w:World) (o:Obj) (k n:Int) (s:ByteArray) (t:TypeId):((w.alloc o).alloc (.cells #[.int .i64 k,.int .i64 n,.string s] t)).cell? ⟨w.heap.size+1,2,none⟩=some (.string s):=by
 have h:=bJ3 (w.alloc o) k n s t 2 (.string s) rfl;have e2:(w.alloc o).heap.size=w.heap.size+1:=by simp
 rw [e2] at h;exact h
theorem bJx (x y:Val) (w:World) (h:x.1≠y.1):Calls prog 51 #[av x.1 x.2.1 x.2.2,av y.1 y.2.1 y.2.2] w fun e w'=>e=.returned (.int .i64 (Lib.compareInt x.1 y.1))/\Below w.heap.size w w':=by
 obtain ⟨k,n,s⟩:=x;obtain ⟨l,m,t⟩:=y;simp only at h ⊢;unfold av;have h1:(k != l)=true:=by simp [h]
 go_enter func51,ntmps51;go_wp2_with (go_at_call 52;refine (aDk _ _ _).mono ?_;rintro e w3 ⟨rfl,hw3⟩;have hw3:=hw3.symm;subst hw3);go_ret;exact ⟨rfl,aH0 _ _ _⟩
theorem bJw (x y:Val) (w:World) (h:x.1=y.1) (h2:x.1≠2):Calls prog 51 #[av x.1 x.2.1 x.2.2,av y.1 y.2.1 y.2.2] w fun e w'=>e=.returned (.int .i64 (Lib.compareInt x.2.1 y.2.1))/\Below w.heap.size w w':=by
 obtain ⟨k,n,s⟩:=x;obtain ⟨l,m,t⟩:=y;simp only at h h2 ⊢;subst h;unfold av;have h1:(k != 2)=true:=by simp [h2]
 go_enter func51,ntmps51;go_wp2_with (go_at_call 52;refine (aDk _ _ _).mono ?_;rintro e w3 ⟨rfl,hw3⟩;have hw3:=hw3.symm;subst hw3);go_ret;exact ⟨rfl,aH0 _ _ _⟩
theorem bR4 {a b:List Nat} (h1:k<a.length) (h2:k<b.length):cmpL (a.drop k) (b.drop k)=if a.getD k 0=b.getD k 0 then cmpL (a.drop (k+1)) (b.drop (k+1)) else Lib.compareInt (a.getD k 0:Nat) (b.getD k 0:Nat):=by
 rw [kAy h1,kAy h2];have e1:a.getD k 0=a[k]:=by simp [List.getD,h1]
 have e2:b.getD k 0=b[k]:=by simp [List.getD,h2]
 rw [e1,e2];unfold Lib.compareInt;simp only [cmpL];by_cases h:a[k]=b[k]
 ·rw [kAg h,kAg h]
 ·rw [kAb h,kAb h];by_cases h3:a[k]<b[k]
  ·rw [kAg h3,kAg (by omega)]
  ·rw [kAb h3,kAb (by omega),kAg (by omega)]
theorem bOw {a b:List Nat} (h:¬ k<min a.length b.length) (hk:k<=min a.length b.length):cmpL (a.drop k) (b.drop k)=Lib.compareInt a.length b.length:=by
 unfold Lib.compareInt;by_cases h1:a.length<b.length
 ·have e1:a.drop k=[]:=kA7 (by omega);rw [e1,kAy (by omega),kAg (by omega)];rfl
 ·by_cases h2:b.length<a.length
  ·have e1:b.drop k=[]:=kA7 (by omega);rw [e1,kAy (by omega),kAb (by omega),kAg (by omega)];rfl
  ·have e1:a.drop k=[]:=kA7 (by omega);have e2:b.drop k=[]:=kA7 (by omega);rw [e1,e2,kAb (by omega),kAb (by omega)];rfl
theorem bE9 {rs:List Nat} (ho:wr.ownsRow B 21 1 v rs.length (bAz rs)) :
  ∃ a cap,v=.slice a rs.length cap/\rs.length<=cap/\cap<=maxLen/\(0<rs.length->∃ g,a=some ⟨g,0,none⟩/\g<wr.heap.size/\∀ i,i<rs.length->wr.cell? ⟨g,i,none⟩=some (.int .i32 (rs.getD i 0:Nat))):=by
 rcases ho.2 with ⟨rfl,h0⟩ | ⟨g,cap,cur,rfl,hg,h1,h2,h3,h4,h5⟩
 ·exact ⟨none,0,by rw [h0],by omega,by unfold maxLen;omega,fun h=>by omega⟩
 ·refine ⟨some ⟨g,0,none⟩,cap,rfl,h2,h3,fun _=>⟨g,rfl,?_,?_⟩⟩
  ·rcases Nat.lt_or_ge g wr.heap.size with q | q
   ·exact q
   ·rw [Array.getElem?_eq_none q] at h1;cases h1
  ·intro i hi;rw [ho.cellAt i (by omega),bJb rs i hi]
theorem bNi (s t:ByteArray) (rs qs:List Nat) (w:World) (hs:s.size<=1048576) (ht:t.size<=1048576) (hr:runes (bl s)=some rs) (hq:runes (bl t)=some qs) :
  Calls prog 51 #[av 2 0 s,av 2 0 t] w fun e w'=>e=.returned (.int .i64 (cmpL rs qs))/\Below w.heap.size w w':=by
 unfold av;have hv1:=((aC7 (bl s) rs).1 hr).2;have hv2:=((aC7 (bl t) qs).1 hq).2;have HV1:=aCm hv1;have HV2:=aCm hv2;have hl1:=aD4 hr;have hl2:=aD4 hq;rw [aCy] at hl1 hl2;clear hv1 hv2;go_enter func51,ntmps51;go_wp2_with fail;refine (aJp s _ hs).mono ?_;rintro e w1 ⟨hd,hb1⟩;unfold DecR at hd;rw [hr] at hd;obtain ⟨v,rfl,ho⟩:=hd;have HB0:=aCm (aH0 w (.cells #[.int .i64 2,.int .i64 0,.string s] 36) (.cells #[.int .i64 2,.int .i64 0,.string t] 36));have hy:w1.cell? ⟨w.heap.size+1,2,none⟩=some (.string t):=by
  exact (hb1.cell (bMr _ _ _)).trans (bMs _ _ _ _ _ _)
 have HB1:=aCm hb1;have HO1:=aCm ho;clear hb1 ho;go_wp2_with fail;refine (aJp t _ ht).mono ?_;rintro e w2 ⟨hd,hb2⟩;unfold DecR at hd;rw [hq] at hd;obtain ⟨u,rfl,ho2⟩:=hd;have ho1:=aAq HO1.o hb2;obtain ⟨a1,c1,rfl,p1,p2,p3⟩:=bE9 ho1;obtain ⟨a2,c2,rfl,q1,q2,q3⟩:=bE9 ho2;unfold maxLen at p2 q2;have HBW:Hid (Below w.heap.size w w2):=(HB0.o.trans (HB1.o.mono HB0.o.size)).trans (hb2.mono (nT HB0.o.size HB1.o.size));have P3:=aCm p3;have Q3:=aCm q3;clear ho1 ho2 hb2 p3 q3 HO1 HB1 HB0 hy;obtain ⟨M,hM⟩:∃ M:Nat,Hid (M=min rs.length qs.length):=⟨_,rfl⟩;have hM1:M<=rs.length:=by rw [hM.out];omega
 have hM2:M<=qs.length:=by rw [hM.out];omega
 go_wp2;go_loopw [9] (fun i wr=>∃ k:Nat,k<=M/\i=.int .i64 k/\Below w2.heap.size w2 wr/\cmpL rs qs=cmpL (rs.drop k) (qs.drop k)) (fun i _=>M-(intOf i).toNat)
 case atStart=>exact ⟨0,by omega,rfl,kBh _ _,rfl⟩
 case round =>
  obtain ⟨k,hk,rfl,hbel,heq⟩:=hrel;have HE:=aCm heq;have HB:=aCm hbel;clear heq hbel;by_cases hlt:k<M
  ·obtain ⟨g1,e1,l1,cl1⟩:=P3.out (by omega);obtain ⟨g2,e2,l2,cl2⟩:=Q3.out (by omega);subst e1 e2;have lx:k<rs.length:=by omega
   have ly:k<qs.length:=by omega
   have HQ:=aCm (bR4 lx ly);have z1:=(HB.o.cell l1).trans (cl1 k lx);have z2:=(HB.o.cell l2).trans (cl2 k ly);obtain ⟨x,HX⟩:∃ x,Hid (rs.getD k 0=x):=⟨_,rfl⟩;obtain ⟨y,HY⟩:∃ y,Hid (qs.getD k 0=y):=⟨_,rfl⟩;have vx:vr x:=by rw [<-HX.o];apply HV1.o;simp [List.getD,lx]
   have vy:vr y:=by rw [<-HY.o];apply HV2.o;simp [List.getD,ly]
   have x1:(x:Int)<=1114111:=by unfold vr at vx;omega
   have y1:(y:Int)<=1114111:=by unfold vr at vy;omega
   rw [HX.o] at z1;rw [HY.o] at z2;rw [HX.o,HY.o] at HQ;clear vx vy cl1 cl2;have i0:(0:Int)<=(k:Int):=by omega
   have i1:(k:Int)<(rs.length:Int):=by omega
   have i2:(k:Int)<(qs.length:Int):=by omega
   have HC:Hid (wr.cell? ⟨g1,k,none⟩=some (.int .i32 (x:Nat))/\wr.cell? ⟨g2,k,none⟩=some (.int .i32 (y:Nat))):=⟨z1,z2⟩;have HD:Hid (wr.drew.cell? ⟨g1,k,none⟩=some (.int .i32 (x:Nat))/\wr.drew.cell? ⟨g2,k,none⟩=some (.int .i32 (y:Nat))):=⟨z1,z2⟩;have HD2:Hid (wr.drew.drew.cell? ⟨g1,k,none⟩=some (.int .i32 (x:Nat))/\wr.drew.drew.cell? ⟨g2,k,none⟩=some (.int .i32 (y:Nat))):=⟨z1,z2⟩;clear z1 z2;by_cases hxy:x=y
   ·subst hxy;go_wp2_with fail;go_region_held3 (fun wx=>wx.cell? ⟨g1,k,none⟩=some (.int .i32 (x:Nat))/\wx.cell? ⟨g2,k,none⟩=some (.int .i32 (x:Nat))) (exact HD.o) (fail);go_wp2;go_roundw
    case rel =>
     refine ⟨k+1,by omega,by go_num,HB.o.drew,?_⟩;rw [HE.o,HQ.o];simp
    case measure=>simp [intOf];omega
   ·have hne:((x:Int) != (y:Int))=true:=by simp;omega
    go_wp2_with fail;go_region_held3 (fun wx=>wx.cell? ⟨g1,k,none⟩=some (.int .i32 (x:Nat))/\wx.cell? ⟨g2,k,none⟩=some (.int .i32 (y:Nat))) (exact HD.o) (fail);go_wp2_with fail;go_region_held3 (fun wx=>wx.cell? ⟨g1,k,none⟩=some (.int .i32 (x:Nat))/\wx.cell? ⟨g2,k,none⟩=some (.int .i32 (y:Nat))) (exact HD2.o)
     (first
     | (go_at_call 52;refine (aDk _ _ _).mono ?_;rintro e w3 ⟨rfl,hw3⟩;have hw3:=hw3.symm;subst hw3))
    go_wp2;go_ret;rw [HE.o,HQ.o,kAb hxy];have wx:IntKind.i64.wrap (x:Int)=(x:Int):=by rw [IntKind.wrap_i64];omega
    have wy:IntKind.i64.wrap (y:Int)=(y:Int):=by rw [IntKind.wrap_i64];omega
    refine ⟨?_,HBW.o.trans (HB.o.drew.drew.mono HBW.o.size)⟩;show Ending.returned (.int .i64 (Lib.compareInt (IntKind.i64.wrap (x:Int)) (IntKind.i64.wrap (y:Int))))=_;rw [wx,wy]
  ·have HF:=aCm (bOw (a:=rs) (b:=qs) (k:=k) (by rw [<-hM.out];exact hlt) (by rw [<-hM.out];exact hk));have hkM:k=M:=by omega
   by_cases hx:k<rs.length
   ·have hz:¬ k<qs.length:=by have:=hM.out;omega
    go_wp2_with (go_at_call 52;refine (aDk _ _ _).mono ?_;rintro e w3 ⟨rfl,hw3⟩;have hw3:=hw3.symm;subst hw3);go_ret;rw [HE.o,HF.o];exact ⟨rfl,HBW.o.trans (HB.o.mono HBW.o.size)⟩
   ·go_wp2_with (go_at_call 52;refine (aDk _ _ _).mono ?_;rintro e w3 ⟨rfl,hw3⟩;have hw3:=hw3.symm;subst hw3);go_ret;rw [HE.o,HF.o];exact ⟨rfl,HBW.o.trans (HB.o.mono HBW.o.size)⟩
attribute [local go_sem ↓] Go.wp_at_zero Go.wp_at_succ
theorem bQ0 (x y:Val) (w:World) (hx:x.err=0) (hy:y.err=0) (sx:x.2.2.size<=1048576) (sy:y.2.2.size<=1048576) :
  Calls prog 51 #[av x.1 x.2.1 x.2.2,av y.1 y.2.1 y.2.2] w fun e w'=>e=.returned (.int .i64 (bDf x y))/\Below w.heap.size w w':=by
 by_cases h:x.1=y.1
 ·by_cases h2:x.1=2
  ·obtain ⟨k,n,s⟩:=x;obtain ⟨l,m,t⟩:=y;simp only at h h2 sx sy ⊢;subst h h2;unfold Val.err at hx hy;simp only at hx hy;obtain ⟨rs,hr⟩:=(aBb hx).2 rfl;obtain ⟨qs,hq⟩:=(aBb hy).2 rfl;rw [r2] at hx hy;have hn:n=0:=Classical.byContradiction fun hc=>by rw [kAb hc] at hx;cases hx
   have hm:m=0:=Classical.byContradiction fun hc=>by rw [kAb hc] at hy;cases hy
   subst hn hm;refine (bNi s t rs qs w sx sy hr hq).mono ?_;rintro e w' ⟨rfl,hb⟩;refine ⟨?_,hb⟩;have e1:bDf (2,0,s) (2,0,t)=cmpL rs qs:=by simp [bDf,Val.held,bAa,bL6,hr,hq]
   rw [e1]
  ·refine (bJw x y w h h2).mono ?_;rintro e w' ⟨rfl,hb⟩;refine ⟨?_,hb⟩;have e1:bDf x y=Lib.compareInt x.2.1 y.2.1:=by
    obtain ⟨k,n,s⟩:=x;obtain ⟨l,m,t⟩:=y;simp only at h h2 ⊢;subst h;unfold Val.err at hx hy;simp only at hx hy;rcases (aBb hx).1 with rfl | rfl | rfl | rfl
    ·rw [r0] at hx hy;have hn:n=0:=Classical.byContradiction fun hc=>by rw [kAb (fun q=>hc q.1)] at hx;cases hx
     have hm:m=0:=Classical.byContradiction fun hc=>by rw [kAb (fun q=>hc q.1)] at hy;cases hy
     subst hn hm;simp [bDf,Val.held,bAa,bL6,H.kind,Lib.compareInt]
    ·simp [bDf,Val.held,bAa,bL6]
    ·exact absurd rfl h2
    ·rw [r3] at hx hy;have hn:n=0\/n=1:=Classical.byContradiction fun hc=>by rw [kAb (fun q=>hc q.2)] at hx;cases hx
     have hm:m=0\/m=1:=Classical.byContradiction fun hc=>by rw [kAb (fun q=>hc q.2)] at hy;cases hy
     rcases hn with rfl | rfl<;>rcases hm with rfl | rfl<;>simp [bDf,Val.held,bAa,bL6,bi,Lib.compareInt]
   rw [e1]
 ·refine (bJx x y w h).mono ?_;rintro e w' ⟨rfl,hb⟩;refine ⟨?_,hb⟩;have e1:bDf x y=Lib.compareInt x.1 y.1:=by
   obtain ⟨k,n,s⟩:=x;obtain ⟨l,m,t⟩:=y;simp only at h ⊢;unfold Val.err at hx hy;simp only at hx hy;rcases (aBb hx).1 with rfl | rfl | rfl | rfl<;>rcases (aBb hy).1 with rfl | rfl | rfl | rfl
   all_goals first | exact absurd rfl h | simp [bDf,Val.held,bAa,bL6,H.kind,Lib.compareInt]
  rw [e1]
structure C3x (w:World) (b1 o1 b2 o2 k:Nat) (x y:Val) (wx:World):Prop where
 x0:wx.cell? ⟨b1,o1+k*3,none⟩=some (.int .i64 x.1)
 x1:wx.cell? ⟨b1,o1+k*3+1,none⟩=some (.int .i64 x.2.1)
 x2:wx.cell? ⟨b1,o1+k*3+2,none⟩=some (.string x.2.2)
 y0:wx.cell? ⟨b2,o2+k*3,none⟩=some (.int .i64 y.1)
 y1:wx.cell? ⟨b2,o2+k*3+1,none⟩=some (.int .i64 y.2.1)
 y2:wx.cell? ⟨b2,o2+k*3+2,none⟩=some (.string y.2.2)
 bel:Below w.heap.size w wx
 l1:b1<wx.heap.size
 l2:b2<wx.heap.size
theorem C3x.next {b1 o1 b2 o2:Nat} {y:Val} (h:Hid (C3x w b1 o1 b2 o2 k x y w1)) (hb:Below w1.heap.size w1 w2):Hid (C3x w b1 o1 b2 o2 k x y w2) :=
 ⟨(hb.cell h.out.l1).trans h.out.x0,(hb.cell h.out.l1).trans h.out.x1,(hb.cell h.out.l1).trans h.out.x2,(hb.cell h.out.l2).trans h.out.y0,(hb.cell h.out.l2).trans h.out.y1,(hb.cell h.out.l2).trans h.out.y2,h.out.bel.trans (hb.mono h.out.bel.size),kAi h.out.l1 hb.size,kAi h.out.l2 hb.size⟩
theorem aEx (a1 a2:Option Addr) (n1 c1 n2 c2:Nat) (xs ys:List Val) (w:World) (h1:VS w a1 n1 c1 xs) (h2:VS w a2 n2 c2 ys) (r1:∀ x∈xs,x.err=0) (r2:∀ y∈ys,y.err=0) (s1:∀ x∈xs,x.2.2.size<=1048576) (s2:∀ y∈ys,y.2.2.size<=1048576) :
  Calls prog 22 #[.slice a1 n1 c1,.slice a2 n2 c2] w fun e w'=>e=.returned (.int .i64 (bDe xs ys))/\Below w.heap.size w w':=by
 have H1:=aCm h1;have H2:=aCm h2;have R1:=aCm r1;have R2:=aCm r2;have S1:=aCm s1;have S2:=aCm s2;have m1:=h1.hmax;have m2:=h2.hmax;have q1:=h1.hcap;have q2:=h2.hcap;obtain ⟨M,hM⟩:∃ M:Nat,Hid (M=min n1 n2):=⟨_,rfl⟩;have hM1:M<=n1:=by rw [hM.out];omega
 have hM2:M<=n2:=by rw [hM.out];omega
 have hL1:=aCm h1.hlen;have hL2:=aCm h2.hlen;clear h1 h2 r1 r2 s1 s2;go_enter func22,ntmps22;go_wp2;go_loopw [5] (fun i wr=>∃ k:Nat,k<=M/\i=.int .i64 k/\Below w.heap.size w wr/\bDe xs ys=bDe (xs.drop k) (ys.drop k)) (fun i _=>M-(intOf i).toNat)
 case atStart=>exact ⟨0,by omega,rfl,kBh _ _,rfl⟩
 case round =>
  obtain ⟨k,hk,rfl,hbel,heq⟩:=hrel;have HE:=aCm heq;have HB:=aCm hbel;clear heq hbel;by_cases hlt:k<M
  ·obtain ⟨b1,o1,e1⟩:=H1.o.hform (by omega);obtain ⟨b2,o2,e2⟩:=H2.o.hform (by omega);subst e1 e2;have lx:k<xs.length:=by rw [hL1.out];omega
   have ly:k<ys.length:=by rw [hL2.out];omega
   obtain ⟨x,HX⟩:∃ x,Hid (xs.getD k v0=x):=⟨_,rfl⟩;obtain ⟨y,HY⟩:∃ y,Hid (ys.getD k v0=y):=⟨_,rfl⟩;have hc1:=H1.o.hcell b1 o1 rfl k (by omega);have hc2:=H2.o.hcell b2 o2 rfl k (by omega);have mx:x∈xs:=by rw [<-HX.o];simp [List.getD,lx]
   have my:y∈ys:=by rw [<-HY.o];simp [List.getD,ly]
   have l1:=H1.o.lt (by omega);have l2:=H2.o.lt (by omega);have ct:=fun ww=>bQ0 x y ww (R1.out x mx) (R2.out y my) (S1.out x mx) (S2.out y my);unfold av at ct;have HQ:=aCm (bOv lx ly);rw [HX.o,HY.o] at HQ;have HC:Hid (C3x w b1 o1 b2 o2 k x y wr.drew):=by
    have hc1':=hc1;have hc2':=hc2;have e1:xs.getD k (0,0,⟨#[]⟩)=x:=HX.o;have e2:ys.getD k (0,0,⟨#[]⟩)=y:=HY.o;rw [e1] at hc1';rw [e2] at hc2';have hb:=HB.o;exact ⟨(hb.cell l1).trans hc1'.1,(hb.cell l1).trans hc1'.2.1,(hb.cell l1).trans hc1'.2.2,(hb.cell l2).trans hc2'.1,(hb.cell l2).trans hc2'.2.1,(hb.cell l2).trans hc2'.2.2,hb.drew,kAi l1 hb.size,kAi l2 hb.size⟩
   have i0:(0:Int)<=(k:Int):=by omega
   have i1:(k:Int)<(n1:Int):=by omega
   have i2:(k:Int)<(n2:Int):=by omega
   generalize bDf x y=c at ct HQ;obtain ⟨xk,xn,xt⟩:=x;obtain ⟨yk,yn,yt⟩:=y;simp only at ct;clear hc1 hc2 mx my;by_cases hc:c=0
   ·subst hc;go_wp2_with fail;go_region_held3 (fun wx=>(wx.cell? ⟨b1,o1+k*3,none⟩=some (.int .i64 xk)/\wx.cell? ⟨b1,o1+k*3+1,none⟩=some (.int .i64 xn)/\wx.cell? ⟨b1,o1+k*3+2,none⟩=some (.string xt))/\(wx.cell? ⟨b2,o2+k*3,none⟩=some (.int .i64 yk)/\wx.cell? ⟨b2,o2+k*3+1,none⟩=some (.int .i64 yn)/\wx.cell? ⟨b2,o2+k*3+2,none⟩=some (.string yt)))
     (exact ⟨⟨HC.o.x0,HC.o.x1,HC.o.x2⟩,HC.o.y0,HC.o.y1,HC.o.y2⟩)
     (first
     | (go_at_call 51;refine (ct _).mono ?_;rintro e wn ⟨rfl,hbn⟩;have HC:=C3x.next HC hbn;clear hbn))
    go_wp2;go_roundw
    case rel =>
     refine ⟨k+1,by omega,by go_num,HC.o.bel,?_⟩;rw [HE.o,HQ.o];simp
    case measure=>simp [intOf];omega
   ·have hne:(c != 0)=true:=by simp [hc]
    go_wp2_with fail;go_region_held3 (fun wx=>(wx.cell? ⟨b1,o1+k*3,none⟩=some (.int .i64 xk)/\wx.cell? ⟨b1,o1+k*3+1,none⟩=some (.int .i64 xn)/\wx.cell? ⟨b1,o1+k*3+2,none⟩=some (.string xt))/\(wx.cell? ⟨b2,o2+k*3,none⟩=some (.int .i64 yk)/\wx.cell? ⟨b2,o2+k*3+1,none⟩=some (.int .i64 yn)/\wx.cell? ⟨b2,o2+k*3+2,none⟩=some (.string yt)))
     (exact ⟨⟨HC.o.x0,HC.o.x1,HC.o.x2⟩,HC.o.y0,HC.o.y1,HC.o.y2⟩)
     (first
     | (go_at_call 51;refine (ct _).mono ?_;rintro e wn ⟨rfl,hbn⟩;have HC:=C3x.next HC hbn;clear hbn))
    go_wp2;go_ret;rw [HE.o,HQ.o,kAb hc];exact ⟨rfl,HC.o.bel⟩
  ·have hfin:=bLu (a:=xs) (b:=ys) (k:=k) (by rw [hL1.out,hL2.out,<-hM.out];exact hlt) (by rw [hL1.out,hL2.out,<-hM.out];exact hk);rw [hL1.out,hL2.out] at hfin;have HF:=aCm hfin;clear hfin;by_cases hx:k<n1
   ·have hz:¬ k<n2:=by have:=hM.out;omega
    go_wp2_with (go_at_call 52;refine (aDk _ _ _).mono ?_;rintro e w3 ⟨rfl,hw3⟩;have hw3:=hw3.symm;subst hw3);go_ret;rw [HE.o,HF.o];exact ⟨rfl,HB.o⟩
   ·go_wp2_with (go_at_call 52;refine (aDk _ _ _).mono ?_;rintro e w3 ⟨rfl,hw3⟩;have hw3:=hw3.symm;subst hw3);go_ret;rw [HE.o,HF.o];exact ⟨rfl,HB.o⟩
end Go.Proofs.YtdpdjpkmndnaaaaGreat
