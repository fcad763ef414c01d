import Derived.WalkKit
import Derived.BigCall
import Derived.Below
import Derived.Lib.OthersKept
import Derived.Shelf.Small.Utf8
import Derived.Shelf.Small.Bits
import Derived.Shelf.Utf8.AppendRune
import Derived.Shelf.Strconv.Itoa0
import Derived.Shelf.Strings.Prefix
import Derived.Shelf.Bytes.SlSearch0
import Derived.Ground.SlbNamesProg
import Derived.Shelf.Bytes.SlJoin
import Derived.Shelf.Bytes.Small
import Derived.Test.YtdpdjpkmndnaaaaGreatProg
import Derived.Lib.DecodeN
import Derived.Lib.RuneBytes
set_option maxRecDepth 100000
set_option maxHeartbeats 16000000
set_option linter.unusedVariables false
namespace Go.Proofs.YtdpdjpkmndnaaaaGreat
open Go Go.Lib
variable {k m n p q u y z:Nat}
def dl (l:List UInt8):Nat×Nat:=decodeN l.length (l.getD 0 0).toNat (l.getD 1 0).toNat (l.getD 2 0).toNat (l.getD 3 0).toNat
theorem aFx (s:ByteArray) (i:Nat):s.data.toList.getD i 0=s.get! i:=by
 cases s with
 | mk d =>
  show d.toList.getD i 0=d[i]!;by_cases h:i<d.size
  ·rw [getElem!_pos d i h];simp [List.getD,h]
  ·rw [getElem!_neg d i h];simp [List.getD,h];rfl
theorem aJq (s:ByteArray):s.size=s.data.toList.length:=by cases s;simp [ByteArray.size]
theorem getD_drop (l:List UInt8) (p k:Nat):(l.drop p).getD k 0=l.getD (p+k) 0:=by simp [List.getD,List.getElem?_drop]
theorem decode_dl (s:ByteArray) (pos:Nat):Utf8.decode s pos=dl (s.data.toList.drop pos):=by
 rw [decode_at];unfold dl;rw [List.length_drop,getD_drop,getD_drop,getD_drop,getD_drop,aFx,aFx,aFx,aFx,aJq];rfl
def vr (r:Nat):Prop:=r<55296\/(57344<=r/\r<=1114111)
instance (r:Nat):Decidable (vr r):=by unfold vr;infer_instance
def encK (r:Nat):List UInt8:=encodeRune (r:Int)
theorem tou {a:UInt8} (h:n=a.toNat):n.toUInt8=a:=by subst h;simp
theorem enc1 {r:Nat} (h:r<=127):encK r=[r.toUInt8]:=by
 unfold encK encodeRune;rw [encodeRuneZ_one (by omega) (by omega)];simp
theorem enc2 {r:Nat} (h0:128<=r) (h1:r<=2047):encK r=[(192+r / 64).toUInt8,(128+r % 64).toUInt8]:=by
 unfold encK encodeRune;rw [encodeRuneZ_two (by omega) (by omega)];simp only [List.map_cons,List.map_nil]
 congr 2
theorem enc3 {r:Nat} (h0:2048<=r) (h1:r<=65535) (h:vr r):encK r=[(224+r / 4096).toUInt8,(128+r / 64 % 64).toUInt8,(128+r % 64).toUInt8]:=by
 unfold vr at h;unfold encK encodeRune;rw [encodeRuneZ_three (by omega)];simp only [List.map_cons,List.map_nil]
 congr 2
theorem enc4 {r:Nat} (h0:65536<=r) (h1:r<=1114111):encK r=[(240+r / 262144).toUInt8,(128+r / 4096 % 64).toUInt8,(128+r / 64 % 64).toUInt8,(128+r % 64).toUInt8]:=by
 unfold encK encodeRune;rw [encodeRuneZ_four (by omega) (by omega)];simp only [List.map_cons,List.map_nil]
 congr 2
theorem tn (h:n<256):n.toUInt8.toNat=n:=by simp [Nat.mod_eq_of_lt h]
theorem e2 {x:Nat} (hx:x<32) (hy:y<64) (h:128<=x*64+y):encK (x*64+y)=[(192+x).toUInt8,(128+y).toUInt8]:=by
 have a1:(x*64+y) / 64=x:=by omega
 have a2:(x*64+y) % 64=y:=by omega
 rw [enc2 h (by omega),a1,a2]
theorem e3 {x:Nat} (hx:x<16) (hy:y<64) (hz:z<64) (h:2048<=x*4096+y*64+z) (hv:vr (x*4096+y*64+z)):encK (x*4096+y*64+z)=[(224+x).toUInt8,(128+y).toUInt8,(128+z).toUInt8]:=by
 have a1:(x*4096+y*64+z) / 4096=x:=by omega
 have a2:(x*4096+y*64+z) / 64=x*64+y:=by omega
 have a3:(x*64+y) % 64=y:=by omega
 have a4:(x*4096+y*64+z) % 64=z:=by omega
 rw [enc3 h (by omega) hv,a1,a2,a3,a4]
theorem e4 {x:Nat} (hx:x<8) (hy:y<64) (hz:z<64) (hu:u<64) (h:65536<=x*262144+y*4096+z*64+u) (h2:x*262144+y*4096+z*64+u<=1114111) :
  encK (x*262144+y*4096+z*64+u)=[(240+x).toUInt8,(128+y).toUInt8,(128+z).toUInt8,(128+u).toUInt8]:=by
 have a1:(x*262144+y*4096+z*64+u) / 262144=x:=by omega
 have a2:(x*262144+y*4096+z*64+u) / 4096=x*64+y:=by omega
 have a3:(x*64+y) % 64=y:=by omega
 have a4:(x*262144+y*4096+z*64+u) / 64=(x*64+y)*64+z:=by omega
 have a5:((x*64+y)*64+z) % 64=z:=by omega
 have a6:(x*262144+y*4096+z*64+u) % 64=u:=by omega
 rw [enc4 h h2,a1,a2,a3,a4,a5,a6]
theorem cont (h:y<64):(128+y) / 64=2/\(128+y) % 64=y:=by omega
theorem d2 {x:Nat} (hn:1<n) (hx:x<32) (hy:y<64) (h:128<=x*64+y):decodeN n (192+x) (128+y) p q=(x*64+y,2):=by
 have a1:¬ 192+x<128:=by omega
 have a2:(192+x) / 32=6:=by omega
 have a3:(192+x) % 32=x:=by omega
 have c:=cont hy;simp only [decodeN,a1,a2,a3,c.1,c.2,hn,and_self,if_true,if_false,ge_iff_le,h]
theorem d3 {x:Nat} (hn:2<n) (hx:x<16) (hy:y<64) (hz:z<64) (h:2048<=x*4096+y*64+z) (hv:vr (x*4096+y*64+z)):decodeN n (224+x) (128+y) (128+z) q=(x*4096+y*64+z,3):=by
 have a1:¬ 224+x<128:=by omega
 have a2:¬ (224+x) / 32=6:=by omega
 have a3:(224+x) / 16=14:=by omega
 have a4:(224+x) % 16=x:=by omega
 have hn1:1<n:=by omega
 have c:=cont hy;have d:=cont hz;have v:x*4096+y*64+z<55296\/57344<=x*4096+y*64+z/\x*4096+y*64+z<=1114111:=hv;simp only [decodeN,a1,a2,a3,a4,c.1,c.2,d.1,d.2,hn,hn1,false_and,and_self,if_true,if_false,ge_iff_le,h,v]
theorem d4 {x:Nat} (hn:3<n) (hx:x<8) (hy:y<64) (hz:z<64) (hu:u<64) (h:65536<=x*262144+y*4096+z*64+u) (h2:x*262144+y*4096+z*64+u<=1114111) :
  decodeN n (240+x) (128+y) (128+z) (128+u)=(x*262144+y*4096+z*64+u,4):=by
 have a1:¬ 240+x<128:=by omega
 have a2:¬ (240+x) / 32=6:=by omega
 have a3:¬ (240+x) / 16=14:=by omega
 have a4:(240+x) / 8=30:=by omega
 have a5:(240+x) % 8=x:=by omega
 have hn1:1<n:=by omega
 have hn2:2<n:=by omega
 have c:=cont hy;have d:=cont hz;have e:=cont hu;have v:x*262144+y*4096+z*64+u<55296\/57344<=x*262144+y*4096+z*64+u/\x*262144+y*4096+z*64+u<=1114111:=by omega
 simp only [decodeN,a1,a2,a3,a4,a5,c.1,c.2,d.1,d.2,e.1,e.2,hn,hn1,hn2,false_and,and_self,if_true,if_false,ge_iff_le,h,v]
theorem dl_enc {r:Nat} (h:vr r) (rest:List UInt8):dl (encK r++rest)=(r,(encK r).length):=by
 by_cases h1:r<=127
 ·rw [enc1 h1];have a:=tn (n:=r) (by omega);simp only [dl,List.cons_append,List.nil_append,List.getD_cons_zero,List.length_cons,List.length_nil,a,decodeN];rw [if_pos (by omega)]
 ·by_cases h2:r<=2047
  ·obtain ⟨x,y,rfl,hx,hy⟩:∃ x y,r=x*64+y/\x<32/\y<64:=⟨r / 64,r % 64,by omega,by omega,by omega⟩;rw [e2 hx hy (by omega)];simp only [dl,List.cons_append,List.nil_append,List.getD_cons_zero,List.getD_cons_succ,List.length_cons,List.length_nil,tn (n:=192+x) (by omega),tn (n:=128+y) (by omega)];exact d2 (by omega) hx hy (by omega)
  ·by_cases h3:r<=65535
   ·obtain ⟨x,y,z,rfl,hx,hy,hz⟩:∃ x y z,r=x*4096+y*64+z/\x<16/\y<64/\z<64:=by
     have a1:r / 4096<16:=by omega
     have a2:r / 64=r / 4096*64+r / 64 % 64:=by omega
     exact ⟨r / 4096,r / 64 % 64,r % 64,by omega,a1,by omega,by omega⟩
    rw [e3 hx hy hz (by omega) h];simp only [dl,List.cons_append,List.nil_append,List.getD_cons_zero,List.getD_cons_succ,List.length_cons,List.length_nil,tn (n:=224+x) (by omega),tn (n:=128+y) (by omega),tn (n:=128+z) (by omega)];exact d3 (by omega) hx hy hz (by omega) h
   ·have hm:r<=1114111:=by unfold vr at h;omega
    obtain ⟨x,y,z,u,rfl,hx,hy,hz,hu⟩:∃ x y z u,r=x*262144+y*4096+z*64+u/\x<8/\y<64/\z<64/\u<64:=by
     have a1:r / 4096 / 64<8:=by omega
     have a2:r / 64 / 64=r / 4096:=by rw [Nat.div_div_eq_div_mul]
     have b1:r=r / 64*64+r % 64:=by omega
     have b2:r / 64=r / 64 / 64*64+r / 64 % 64:=by omega
     have b3:r / 4096=r / 4096 / 64*64+r / 4096 % 64:=by omega
     exact ⟨r / 4096 / 64,r / 4096 % 64,r / 64 % 64,r % 64,by omega,a1,by omega,by omega,by omega⟩
    rw [e4 hx hy hz hu (by omega) hm];simp only [dl,List.cons_append,List.nil_append,List.getD_cons_zero,List.getD_cons_succ,List.length_cons,List.length_nil,tn (n:=240+x) (by omega),tn (n:=128+y) (by omega),tn (n:=128+z) (by omega),tn (n:=128+u) (by omega)];exact d4 (by omega) hx hy hz hu (by omega) hm
def Good (l:List UInt8) (r:Nat) (rest:List UInt8):Prop:=dl l=(r,(encK r).length)/\vr r/\l=encK r++rest
theorem aKk {r:Nat} {rest l:List UInt8} (v:vr r) (e:l=encK r++rest):∃ r rest,Good l r rest:=⟨r,rest,by rw [e];exact dl_enc v rest,v,e⟩
theorem lead {a:UInt8} (h:a.toNat / m=q) (hm:m*q=k) (h0:0<m):∃ x,x<m/\a.toNat=k+x/\a.toNat % m=x:=by
 refine ⟨a.toNat % m,Nat.mod_lt _ h0,?_,rfl⟩;have:=Nat.div_add_mod a.toNat m;rw [h,hm] at this;exact this.symm
theorem len2 {t:List UInt8} (h:2<=t.length):∃ b c u,t=b::c::u:=by
 match t,h with
 | b::c::u,_=>exact ⟨b,c,u,rfl⟩
theorem len3 {t:List UInt8} (h:3<=t.length):∃ b c d u,t=b::c::d::u:=by
 match t,h with
 | b::c::d::u,_=>exact ⟨b,c,d,u,rfl⟩
theorem dl_ok {l:List UInt8} (h:l≠[]) (hn:dl l≠(65533,1)):∃ r rest,Good l r rest:=by
 obtain ⟨a,t,rfl⟩:∃ a t,l=a::t:=by cases l with | nil=>exact absurd rfl h | cons a t=>exact ⟨a,t,rfl⟩
 unfold dl at hn;simp only [List.getD_cons_zero,List.getD_cons_succ] at hn;unfold decodeN at hn
 split at hn
 ·rename_i h1
  have e:encK a.toNat=[a]:=by rw [enc1 (by omega)];rw [tou rfl]
  exact aKk (r:=a.toNat) (rest:=t) (by unfold vr;omega) (by rw [e];rfl)
 ·split at hn
  ·rename_i h1 h2
   obtain ⟨b,u,rfl⟩:∃ b u,t=b::u:=by
    cases t with
    | nil=>simp at h2
    | cons b u=>exact ⟨b,u,rfl⟩
   simp only [List.getD_cons_zero] at h2 hn;obtain ⟨ha,_,hb⟩:=h2;obtain ⟨x,hx,ha,ea⟩:=lead (k:=192) ha rfl (by omega);obtain ⟨y,hy,hb,eb⟩:=lead (k:=128) hb rfl (by omega);rw [ea,eb] at hn
   split at hn
   ·rename_i h3
    refine aKk (r:=x*64+y) (rest:=u) (by unfold vr;omega) ?_;rw [e2 hx hy h3,tou (a:=a) ha.symm,tou (a:=b) hb.symm];rfl
   ·exact absurd rfl hn
  ·split at hn
   ·rename_i h1 h2 h3
    obtain ⟨b,c,u,rfl⟩:∃ b c u,t=b::c::u:=len2 (by have:=h3.2.2.1;simp only [List.length_cons] at this;omega);simp only [List.getD_cons_zero,List.getD_cons_succ] at h3 hn;obtain ⟨ha,⟨_,hb⟩,_,hc⟩:=h3;clear h2;obtain ⟨x,hx,ha,ea⟩:=lead (k:=224) ha rfl (by omega);obtain ⟨y,hy,hb,eb⟩:=lead (k:=128) hb rfl (by omega);obtain ⟨z,hz,hc,ec⟩:=lead (k:=128) hc rfl (by omega);rw [ea,eb,ec] at hn;generalize hS:x*4096+y*64+z=S at hn
    split at hn
    ·rename_i h4
     rw [<-hS] at h4;have v:vr (x*4096+y*64+z):=h4.2;have e:encK (x*4096+y*64+z)=[a,b,c]:=by rw [e3 hx hy hz h4.1 v,tou (a:=a) ha.symm,tou (a:=b) hb.symm,tou (a:=c) hc.symm]
     exact aKk v (rest:=u) (by rw [e];rfl)
    ·exact absurd rfl hn
   ·split at hn
    ·rename_i h1 h2 h3 h4
     obtain ⟨b,c,d,u,rfl⟩:∃ b c d u,t=b::c::d::u:=len3 (by have:=h4.2.2.2.1;simp only [List.length_cons] at this;omega);simp only [List.getD_cons_zero,List.getD_cons_succ] at h4 hn;obtain ⟨ha,⟨_,hb⟩,⟨_,hc⟩,_,hd⟩:=h4;clear h2 h3;obtain ⟨x,hx,ha,ea⟩:=lead (k:=240) ha rfl (by omega);obtain ⟨y,hy,hb,eb⟩:=lead (k:=128) hb rfl (by omega);obtain ⟨z,hz,hc,ec⟩:=lead (k:=128) hc rfl (by omega);obtain ⟨g,hg,hd,ed⟩:=lead (k:=128) hd rfl (by omega);rw [ea,eb,ec,ed] at hn;generalize hS:x*262144+y*4096+z*64+g=S at hn
     split at hn
     ·rename_i h5
      rw [<-hS] at h5;have v:vr (x*262144+y*4096+z*64+g):=h5.2;have m:x*262144+y*4096+z*64+g<=1114111:=by unfold vr at v;omega
      have e:encK (x*262144+y*4096+z*64+g)=[a,b,c,d]:=by rw [e4 hx hy hz hg h5.1 m,tou (a:=a) ha.symm,tou (a:=b) hb.symm,tou (a:=c) hc.symm,tou (a:=d) hd.symm]
      exact aKk v (rest:=u) (by rw [e];rfl)
     ·exact absurd rfl hn
    ·exact absurd rfl hn
theorem aIk (r:Nat):1<=(encK r).length/\(encK r).length<=4:=by
 have:=encodeRuneZ_length (r:Int);simpa [encK,encodeRune] using this
theorem enc_bad:encK 65533=[239,191,189]:=by rw [enc3 (by omega) (by omega) (by decide)];rfl
theorem aDk {l:List UInt8} (h:l≠[]):1<=(dl l).2/\(dl l).2<=l.length:=by
 by_cases hn:dl l=(65533,1)
 ·rw [hn];have:0<l.length:=List.length_pos_iff.2 h;exact ⟨Nat.le_refl _,this⟩
 ·obtain ⟨r,rest,hd,_,he⟩:=dl_ok h hn;rw [hd];have:=aIk r;have hl:l.length=(encK r).length+rest.length:=by rw [he];simp
  simp only;omega
def rl:Nat->List UInt8->Option (List Nat)
 | 0,_=>some []
 | f+1,l=>if l=[] then some [] else if dl l=(65533,1) then none else (rl f (l.drop (dl l).2)).map ((dl l).1::·)
def runes (l:List UInt8):Option (List Nat):=rl l.length l
theorem rl_nil (f:Nat):rl f []=some []:=by cases f<;>simp [rl]
theorem rl_fuel:∀ (f:Nat) (l:List UInt8),l.length<=f->rl f l=rl l.length l
 | 0,l,h=>by
  have:l=[]:=List.eq_nil_of_length_eq_zero (by omega)
  subst this
  rfl
 | f+1,l,h=>by
  by_cases hl:l=[]
  ·subst hl;rw [rl_nil,rl_nil]
  ·have hw:=aDk hl
   obtain ⟨k,hk⟩:∃ k,l.length=k+1:=⟨l.length-1,by omega⟩
   have e1:rl f (l.drop (dl l).2)=rl (l.drop (dl l).2).length (l.drop (dl l).2):=rl_fuel f _ (by rw [List.length_drop];omega)
   have e2:rl k (l.drop (dl l).2)=rl (l.drop (dl l).2).length (l.drop (dl l).2):=rl_fuel k _ (by rw [List.length_drop];omega)
   rw [hk]
   simp only [rl,if_neg hl]
   rw [e1,e2]
 termination_by f=>f
theorem aFd:runes []=some []:=rfl
theorem aI8 {l:List UInt8} (hl:l≠[]):runes l=if dl l=(65533,1) then none else (runes (l.drop (dl l).2)).map ((dl l).1::·):=by
 have hw:=aDk hl;obtain ⟨k,hk⟩:∃ k,l.length=k+1:=⟨l.length-1,by omega⟩;unfold runes;rw [hk];simp only [rl,if_neg hl];rw [rl_fuel k _ (by rw [List.length_drop];omega)]
theorem runes_bad {l:List UInt8} (hl:l≠[]) (h:dl l=(65533,1)):runes l=none:=by rw [aI8 hl,if_pos h]
theorem aGa {l:List UInt8} (hl:l≠[]) (h:dl l≠(65533,1)):runes l=(runes (l.drop (dl l).2)).map ((dl l).1::·):=by rw [aI8 hl,if_neg h]
theorem runes_enc {r:Nat} (h:vr r) (rest:List UInt8):runes (encK r++rest)=(runes rest).map (r::·):=by
 have hd:=dl_enc h rest;have hl:=aIk r;have hne:encK r++rest≠[]:=by
  intro e;have h2:(encK r++rest).length=0:=by rw [e];rfl
  rw [List.length_append] at h2;omega
 have hnb:dl (encK r++rest)≠(65533,1):=by
  rw [hd];intro e;simp only [Prod.mk.injEq] at e;rw [e.1,enc_bad] at e;simp at e
 rw [aGa hne hnb,hd];simp
def encs (rs:List Nat):List UInt8:=rs.flatMap encK
theorem aI7:∀ (rs:List Nat) (rest:List UInt8),(∀ r∈rs,vr r)->runes (encs rs++rest)=(runes rest).map (rs++·)
 | [],rest,_=>by simp [encs]
 | r::rs,rest,h=>by
  have ih:=aI7 rs rest (fun x hx=>h x (List.mem_cons_of_mem _ hx))
  have e:encs (r::rs)++rest=encK r++(encs rs++rest):=by simp [encs]
  rw [e,runes_enc (h r (List.mem_cons_self ..)),ih];simp [Option.map_map,Function.comp_def]
theorem aFc (rs:List Nat) (h:∀ r∈rs,vr r):runes (encs rs)=some rs:=by
 have:=aI7 rs [] h;simpa [aFd] using this
theorem aI6:∀ (n:Nat) (l:List UInt8) (rs:List Nat),l.length<=n->runes l=some rs->l=encs rs/\∀ r∈rs,vr r
 | 0,l,rs,hn,h=>by
  have:l=[]:=List.eq_nil_of_length_eq_zero (by omega)
  subst this
  rw [aFd] at h
  cases h
  simp [encs]
 | n+1,l,rs,hn,h=>by
  by_cases hl:l=[]
  ·subst hl
   rw [aFd] at h
   cases h
   simp [encs]
  ·by_cases hb:dl l=(65533,1)
   ·rw [runes_bad hl hb] at h;cases h
   ·rw [aGa hl hb] at h
    obtain ⟨r,rest,hd,hv,he⟩:=dl_ok hl hb
    have hw:=aDk hl
    have hdr:l.drop (dl l).2=rest:=by (rw [hd];simp only;rw [he];simp)
    rw [hdr] at h
    cases hr:runes rest with
    | none=>rw [hr] at h;cases h
    | some rs' =>
     rw [hr] at h;simp only [Option.map_some,Option.some.injEq] at h;have hlen:rest.length<=n:=by rw [<-hdr,List.length_drop];omega
     obtain ⟨i1,i2⟩:=aI6 n rest rs' hlen hr;rw [hd] at h;simp only at h;subst h;refine ⟨?_,?_⟩
     ·rw [he,i1];simp [encs]
     ·intro x hx;rcases List.mem_cons.1 hx with rfl | hx
      ·exact hv
      ·exact i2 x hx
theorem aC1 (l:List UInt8) (rs:List Nat):runes l=some rs↔l=encs rs/\∀ r∈rs,vr r :=
 ⟨fun h=>aI6 l.length l rs (Nat.le_refl _) h,fun ⟨h1,h2⟩=>by rw [h1];exact aFc rs h2⟩
theorem encs_lenK (rs:List Nat):rs.length<=(encs rs).length:=by
 induction rs with
 | nil=>simp [encs]
 | cons r rs ih =>
  have:=aIk r;have e:(encs (r::rs)).length=(encK r).length+(encs rs).length:=by simp [encs]
  simp only [List.length_cons];omega
theorem aDz {l:List UInt8} {rs:List Nat} (h:runes l=some rs):rs.length<=l.length:=by
 obtain ⟨rfl,_⟩:=(aC1 l rs).1 h;exact encs_lenK rs
theorem bad_prefix {l:List UInt8} (hl:l≠[]) (h:(dl l).1=65533):dl l=(65533,1)↔¬ [239,191,189] <+: l:=by
 constructor
 ·intro hb ⟨t,ht⟩;have:=dl_enc (r:=65533) (by decide) t;rw [enc_bad,ht,hb] at this;simp at this
 ·intro hp;by_cases hb:dl l=(65533,1)
  ·exact hb
  ·obtain ⟨r,rest,hd,hv,he⟩:=dl_ok hl hb;rw [hd] at h;simp only at h;subst h;rw [enc_bad] at he;exact absurd ⟨rest,he.symm⟩ hp
end Go.Proofs.YtdpdjpkmndnaaaaGreat
set_option maxRecDepth 100000
set_option maxHeartbeats 16000000
namespace Go.Proofs
open Go.Shelf Go.RowKit Tryz
def lays119_ren:Go.Shelf.Ren:=⟨fun | 119=>239 | n=>n,fun | 21=>21 | 4=>4 | n=>n,fun | n=>n⟩
theorem lays119:Go.Proofs.Lays.n119 prog lays119_ren:={
 mixed:=by kernel_rfl
 f119:=func239.trans (congrArg some (by kernel_rfl))
 t4:=underlying4
 a4:=isAgg4
 z4:=sizeOf4
 v4:=zeroValue4
 t21:=underlying21
 a21:=isAgg21
 z21:=sizeOf21
 v21:=zeroValue21 }
theorem utf8_ValidRune (r:Int) (w:World) :
  Calls prog 239 #[.int .i32 r] w fun e w'=>e=.returned (.bool (Lib.validRune r))/\w'=w:=Any.utf8_ValidRune lays119 r w
def lays242_ren:Go.Shelf.Ren:=⟨fun | 242=>240 | 278=>243 | n=>n,fun | 37=>97 | 21=>21 | 51=>319 | 4=>4 | 5=>5 | 46=>235 | n=>n,fun | n=>n⟩
theorem lays242:Go.Proofs.Lays.n242 prog lays242_ren:={
 mixed:=by kernel_rfl
 f242:=func240.trans (congrArg some (by kernel_rfl))
 f278:=func243.trans (congrArg some (by kernel_rfl))
 t4:=underlying4
 a4:=isAgg4
 z4:=sizeOf4
 v4:=zeroValue4
 t5:=underlying5
 a5:=isAgg5
 z5:=sizeOf5
 v5:=zeroValue5
 t21:=underlying21
 a21:=isAgg21
 z21:=sizeOf21
 v21:=zeroValue21
 t37:=underlying97
 a37:=isAgg97
 z37:=sizeOf97
 v37:=zeroValue97
 t46:=underlying235
 a46:=isAgg235
 z46:=sizeOf235
 v46:=zeroValue235
 t51:=underlying319
 a51:=isAgg319
 z51:=sizeOf319
 v51:=zeroValue319 }
theorem utf8_AppendRune_row (B:Nat) (v:Value) (n:Nat) (xs:List Value) (r:Int) (hr0:-2147483648<=r) (hr1:r<=2147483647) (w:World) (hown:w.ownsRowF B 5 1 v n xs) (hlen:n+4<=140737488355328) (hBw:B<=w.heap.size) :
  Calls prog 240 #[v,.int .i32 r] w fun e w'=>∃ v',e=.returned v'/\w'.ownsRowF B 5 1 v' (n+(Lib.runeCells r).length) (xs++Lib.runeCells r)/\∃ o,(w.alloc o).grownBy w' v.ownBlock:=Any.utf8_AppendRune_row lays242 (by kernel_rfl) B v n xs r hr0 hr1 w hown hlen hBw
def lays99_ren:Go.Shelf.Ren:=⟨fun | 99=>172 | 206=>207 | n=>n,fun | 9=>9 | 4=>4 | 3=>3 | n=>n,fun | n=>n⟩
theorem lays99:Go.Proofs.Lays.n99 prog lays99_ren:={
 mixed:=by kernel_rfl
 f99:=func172.trans (congrArg some (by kernel_rfl))
 f206:=func207.trans (congrArg some (by kernel_rfl))
 t3:=underlying3
 a3:=isAgg3
 z3:=sizeOf3
 v3:=zeroValue3
 t4:=underlying4
 a4:=isAgg4
 z4:=sizeOf4
 v4:=zeroValue4
 t9:=underlying9
 a9:=isAgg9
 z9:=sizeOf9
 v9:=zeroValue9 }
theorem strings_HasPrefix (s p:ByteArray) (w:World) :
  Calls prog 172 #[.string s,.string p] w fun e w'=>e=.returned (.bool (Lib.hasPrefix s.data.toList p.data.toList))/\w'=w:=Any.strings_HasPrefix lays99 s p w
end Go.Proofs
namespace Go.Proofs
open Go.Shelf Go.RowKit Tryz
def laysSlJ14_ren:Go.Shelf.Ren:=⟨fun | 14=>129 | 15=>170 | n=>n,fun | 26=>191 | 22=>97 | 3=>3 | 4=>4 | 0=>0 | 9=>9 | 20=>20 | 5=>5 | n=>n,fun | n=>n⟩
theorem laysSlJ14:Go.Proofs.SlLaysJ.n14 prog laysSlJ14_ren:={
 mixed:=by kernel_rfl
 f14:=func129.trans (congrArg some (by kernel_rfl))
 f15:=func170.trans (congrArg some (by kernel_rfl))
 t0:=underlying0
 a0:=isAgg0
 z0:=sizeOf0
 v0:=zeroValue0
 t3:=underlying3
 a3:=isAgg3
 z3:=sizeOf3
 v3:=zeroValue3
 t4:=underlying4
 a4:=isAgg4
 z4:=sizeOf4
 v4:=zeroValue4
 t9:=underlying9
 a9:=isAgg9
 z9:=sizeOf9
 v9:=zeroValue9
 t20:=underlying20
 a20:=isAgg20
 z20:=sizeOf20
 v20:=zeroValue20
 t22:=underlying97
 a22:=isAgg97
 z22:=sizeOf97
 v22:=zeroValue97
 t26:=underlying191
 a26:=isAgg191
 z26:=sizeOf191
 v26:=zeroValue191
 t5:=underlying5
 z5:=sizeOf5
 i5:=by kernel_rfl }
theorem bytes_Join_many (b o n c:Nat) (vs:List Value) (ls:List (List UInt8)) (sv:Value) (sep:List UInt8) (w:World) (hn:ls.length=n) (h2:2<=n) (hP:Lib.PartsAt w ⟨b,o,none⟩ vs ls) (hcap:n<=c) (hS:Lib.HoldsBytes w sv sep) (hn47:n<=140737488355328) (hlen:Lib.lens ls+sep.length*(n-1)<=140737488355328) :
  Calls prog 129 #[.slice (some ⟨b,o,none⟩) n c,sv] w fun e w'=>∃ v',e=.returned v'/\Lib.FreshBytes w.heap.size w' v' (Lib.join ls sep)/\Below w.heap.size w w':=Any.bytes_Join_many laysSlJ14 b o n c vs ls sv sep w hn h2 hP hcap hS hn47 hlen
theorem bytes_Join_none (p:Option Addr) (c:Nat) (sv:Value) (w:World) :
  Calls prog 129 #[.slice p 0 c,sv] w fun e w'=>e=.returned (.slice (some ⟨w.heap.size,0,none⟩) 0 0)/\w'=w.alloc (.cells #[] 5):=Any.bytes_Join_none laysSlJ14 p c sv w
theorem bytes_Join_one (b o c:Nat) (ad0:Addr) (c0:Nat) (l0:List UInt8) (sv:Value) (w:World) (hcell:w.cell? ⟨b,o,none⟩=some (.slice (some ad0) l0.length c0)) (hc:∀ (i:Nat) x,l0[i]?=some x->w.cell? (ad0.add i)=some (.int .u8 (x.toNat:Int))) (h0:0<l0.length) (hs:l0.length<=140737488355328) :
  Calls prog 129 #[.slice (some ⟨b,o,none⟩) 1 c,sv] w fun e w'=>∃ v',e=.returned v'/\Lib.FreshBytes w.heap.size w' v' l0/\Below w.heap.size w w':=Any.bytes_Join_one laysSlJ14 b o c ad0 c0 l0 sv w hcell hc h0 hs
end Go.Proofs
set_option maxRecDepth 100000
set_option maxHeartbeats 16000000
namespace Go.Proofs.YtdpdjpkmndnaaaaGreat
open Go.RowKit Tryz
variable {R pos:Nat} {pre:List Nat}
def bl (s:ByteArray):List UInt8:=s.data.toList
def countOf (o:Option (List Nat)):Int:=match o with | none=>-1 | some l=>l.length
theorem dec_at (s:ByteArray) (pos:Nat):Utf8.decode s pos=dl ((bl s).drop pos):=decode_dl s pos
theorem aCr (s:ByteArray):(bl s).length=s.size:=(aJq s).symm
theorem aCv {s:ByteArray} (h:pos<s.size):(bl s).drop pos≠[]:=by
 intro e;have h2:((bl s).drop pos).length=0:=by rw [e];rfl
 rw [List.length_drop,aCr] at h2;omega
theorem drop_end {s:ByteArray} (h:¬ pos<s.size):(bl s).drop pos=[]:=List.drop_eq_nil_of_le (by rw [aCr];omega)
theorem pre_bad {s:ByteArray} {W:Nat} (hp:pos<s.size) (hd:dl ((bl s).drop pos)=(65533,W)):Lib.hasPrefix (List.take (s.size-pos) (List.drop pos s.data.toList)) [239,191,189]=true↔W≠1:=by
 have e:List.take (s.size-pos) (List.drop pos s.data.toList)=(bl s).drop pos:=List.take_of_length_le (by rw [List.length_drop,aJq];exact Nat.le_refl _);have b:=bad_prefix (aCv hp) (by rw [hd]);rw [hd] at b;simp only [Prod.mk.injEq,true_and] at b;rw [e,Lib.hasPrefix,List.isPrefixOf_iff_prefix];constructor
 ·intro h1 h2;exact b.1 h2 h1
 ·intro h1;exact Classical.byContradiction fun h2=>h1 (b.2 h2)
theorem aBy (w:World) (s:ByteArray) (pos:Nat):Below w.heap.size w (w.iter s pos):=(Below.refl _ w).alloc (Nat.le_refl _) _
def Met (s:ByteArray) (pos:Nat) (pre:List Nat):Prop:=runes (bl s)=(runes ((bl s).drop pos)).map (pre++·)/\pre.length<=pos
theorem Met.start (s:ByteArray):Met s 0 []:=⟨by simp,by simp⟩
theorem Met.step {s:ByteArray} {W:Nat} (h:Met s pos pre) (hp:pos<s.size) (hd:dl ((bl s).drop pos)=(R,W)) (hb:(R,W)≠(65533,1)):Met s (pos+W) (pre++[R]):=by
 have hw:=aDk (aCv hp);rw [hd] at hw;refine ⟨?_,by simp only [List.length_append,List.length_singleton];have:=h.2;omega⟩;rw [h.1,aGa (aCv hp) (by rw [hd];exact hb),hd,List.drop_drop];simp [Option.map_map,Function.comp_def]
theorem Met.bad {s:ByteArray} (h:Met s pos pre) (hp:pos<s.size) (hd:dl ((bl s).drop pos)=(65533,1)):runes (bl s)=none:=by
 rw [h.1,runes_bad (aCv hp) hd];rfl
theorem Met.fin {s:ByteArray} (h:Met s pos pre) (hp:¬ pos<s.size):runes (bl s)=some pre:=by
 rw [h.1,drop_end hp,aFd];simp
theorem runes_any (s:ByteArray) (w:World) (hs:s.size<=140737488355328) :
  Calls prog 133 #[.string s] w fun e w'=>e=.returned (.int .i64 (countOf (runes (bl s))))/\Below w.heap.size w w':=by
 go_enter func133,ntmps133;go_wp2;go_loopw [3] (fun c wr=>∃ (pos:Nat) (pre:List Nat),wr=w.iter s pos/\c=.int .i64 pre.length/\Met s pos pre/\pos<=s.size) (fun _ wr=>s.size-wr.iterPos w.heap.size)
 case atStart=>exact ⟨0,[],rfl,rfl,Met.start s,by omega⟩
 case round =>
  obtain ⟨pos,pre,rfl,rfl,hm,hps⟩:=hrel;have hpl:=hm.2;have HM:Hid (Met s pos pre):=hm;clear hm;by_cases hp:pos<s.size
  ·obtain ⟨R,W,hd⟩:∃ R W,dl ((bl s).drop pos)=(R,W):=⟨_,_,rfl⟩;have hw:=aDk (aCv hp);rw [hd] at hw;rw [List.length_drop,aCr] at hw;have hnx:∀ ty,(Instr.next (.pointer (some ⟨w.heap.size,0,none⟩)) true ty).run prog (w.iter s pos)=.ok (.tuple #[.bool true,.int .i64 pos,.int .i32 R]) (w.iter s (pos+W)):=fun ty=>by rw [run_next_any w s pos ty hp,dec_at,hd]
   have HD:Hid (dl ((bl s).drop pos)=(R,W)):=hd;clear hd;by_cases hR:R=65533
   ·subst hR;have hpb:=pre_bad hp HD.out;by_cases hW:W=1
    ·subst hW;have hpx:Lib.hasPrefix (List.take (s.size-pos) (List.drop pos s.data.toList)) [239,191,189]=false:=by
      cases hq:Lib.hasPrefix (List.take (s.size-pos) (List.drop pos s.data.toList)) [239,191,189] with
      | false=>rfl
      | true=>exact absurd rfl (hpb.1 hq)
     clear hpb;go_wp2_with (go_at_call 172;refine (strings_HasPrefix _ _ _).mono ?_;rintro e w1 ⟨rfl,rfl⟩);go_ret;rw [HM.out.bad hp HD.out];exact ⟨rfl,aBy w s _⟩
    ·have hpx:=hpb.2 hW;clear hpb;go_wp2_with (go_at_call 172;refine (strings_HasPrefix _ _ _).mono ?_;rintro e w1 ⟨rfl,rfl⟩);go_roundw
     case rel =>
      exact ⟨pos+W,pre++[65533],rfl,by simp only [List.length_append,List.length_singleton];go_num,HM.out.step hp HD.out (by simp [hW]),by omega⟩
     case measure =>
      simp;omega
   ·have hR':((R:Int) == 65533)=false:=by simp;omega
    go_wp2;go_roundw
    case rel =>
     exact ⟨pos+W,pre++[R],rfl,by simp only [List.length_append,List.length_singleton];go_num,HM.out.step hp HD.out (by simp [hR]),by omega⟩
    case measure =>
     simp;omega
  ·have hnx:∀ ty,(Instr.next (.pointer (some ⟨w.heap.size,0,none⟩)) true ty).run prog (w.iter s pos)=_:=fun ty=>run_next_end w s pos ty hp
   go_wp2;go_ret;rw [HM.out.fin hp];exact ⟨rfl,aBy w s pos⟩
end Go.Proofs.YtdpdjpkmndnaaaaGreat
