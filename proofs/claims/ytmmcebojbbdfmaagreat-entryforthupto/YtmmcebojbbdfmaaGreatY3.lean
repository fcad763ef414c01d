import Derived.Lib.DecodeN
import Derived.Lib.RuneBytes
set_option maxRecDepth 100000
set_option maxHeartbeats 16000000
set_option linter.unusedVariables false
namespace Go.Proofs.YtmmcebojbbdfmaaGreat
open Go Go.Lib
variable {k m n p r x z:Nat}
def dl (l:List UInt8):Nat×Nat:=decodeN l.length (l.getD 0 0).toNat (l.getD 1 0).toNat (l.getD 2 0).toNat (l.getD 3 0).toNat
theorem aEj (s:ByteArray) (i:Nat):s.data.toList.getD i 0=s.get! i:=by
 cases s with
 | mk d =>
  show d.toList.getD i 0=d[i]!;by_cases h:i<d.size
  ·rw [getElem!_pos d i h];simp [List.getD,h]
  ·rw [getElem!_neg d i h];simp [List.getD,h];rfl
theorem aFr (s:ByteArray):s.size=s.data.toList.length:=by cases s;simp [ByteArray.size]
theorem getD_drop (l:List UInt8) (p k:Nat):(l.drop p).getD k 0=l.getD (p+k) 0:=by simp [List.getD,List.getElem?_drop]
theorem decode_dl (s:ByteArray) (pos:Nat):Utf8.decode s pos=dl (s.data.toList.drop pos):=by
 rw [decode_at];unfold dl;rw [List.length_drop,getD_drop,getD_drop,getD_drop,getD_drop,aEj,aEj,aEj,aEj,aFr];rfl
def vr (r:Nat):Prop:=r<55296\/(57344<=r/\r<=1114111)
instance (r:Nat):Decidable (vr r):=by unfold vr;infer_instance
def enc (r:Nat):List UInt8:=encodeRune (r:Int)
theorem tou {a:UInt8} (h:n=a.toNat):n.toUInt8=a:=by subst h;simp
theorem enc1 (h:r<=127):enc r=[r.toUInt8]:=by
 unfold enc encodeRune;rw [encodeRuneZ_one (by omega) (by omega)];simp
theorem enc2 (h0:128<=r) (h1:r<=2047):enc r=[(192+r / 64).toUInt8,(128+r % 64).toUInt8]:=by
 unfold enc encodeRune;rw [encodeRuneZ_two (by omega) (by omega)];simp only [List.map_cons,List.map_nil]
 congr 2
theorem enc3 (h0:2048<=r) (h1:r<=65535) (h:vr r):enc r=[(224+r / 4096).toUInt8,(128+r / 64 % 64).toUInt8,(128+r % 64).toUInt8]:=by
 unfold vr at h;unfold enc encodeRune;rw [encodeRuneZ_three (by omega)];simp only [List.map_cons,List.map_nil]
 congr 2
theorem enc4 (h0:65536<=r) (h1:r<=1114111):enc r=[(240+r / 262144).toUInt8,(128+r / 4096 % 64).toUInt8,(128+r / 64 % 64).toUInt8,(128+r % 64).toUInt8]:=by
 unfold enc encodeRune;rw [encodeRuneZ_four (by omega) (by omega)];simp only [List.map_cons,List.map_nil]
 congr 2
theorem tn (h:n<256):n.toUInt8.toNat=n:=by simp [Nat.mod_eq_of_lt h]
theorem e2 {y:Nat} (hx:x<32) (hy:y<64) (h:128<=x*64+y):enc (x*64+y)=[(192+x).toUInt8,(128+y).toUInt8]:=by
 have a1:(x*64+y) / 64=x:=by omega
 have a2:(x*64+y) % 64=y:=by omega
 rw [enc2 h (by omega),a1,a2]
theorem e3 {y:Nat} (hx:x<16) (hy:y<64) (hz:z<64) (h:2048<=x*4096+y*64+z) (hv:vr (x*4096+y*64+z)):enc (x*4096+y*64+z)=[(224+x).toUInt8,(128+y).toUInt8,(128+z).toUInt8]:=by
 have a1:(x*4096+y*64+z) / 4096=x:=by omega
 have a2:(x*4096+y*64+z) / 64=x*64+y:=by omega
 have a3:(x*64+y) % 64=y:=by omega
 have a4:(x*4096+y*64+z) % 64=z:=by omega
 rw [enc3 h (by omega) hv,a1,a2,a3,a4]
theorem e4 {y u:Nat} (hx:x<8) (hy:y<64) (hz:z<64) (hu:u<64) (h:65536<=x*262144+y*4096+z*64+u) (h2:x*262144+y*4096+z*64+u<=1114111) :
  enc (x*262144+y*4096+z*64+u)=[(240+x).toUInt8,(128+y).toUInt8,(128+z).toUInt8,(128+u).toUInt8]:=by
 have a1:(x*262144+y*4096+z*64+u) / 262144=x:=by omega
 have a2:(x*262144+y*4096+z*64+u) / 4096=x*64+y:=by omega
 have a3:(x*64+y) % 64=y:=by omega
 have a4:(x*262144+y*4096+z*64+u) / 64=(x*64+y)*64+z:=by omega
 have a5:((x*64+y)*64+z) % 64=z:=by omega
 have a6:(x*262144+y*4096+z*64+u) % 64=u:=by omega
 rw [enc4 h h2,a1,a2,a3,a4,a5,a6]
theorem cont {y:Nat} (h:y<64):(128+y) / 64=2/\(128+y) % 64=y:=by omega
theorem d2 {y q:Nat} (hn:1<n) (hx:x<32) (hy:y<64) (h:128<=x*64+y):decodeN n (192+x) (128+y) p q=(x*64+y,2):=by
 have a1:¬ 192+x<128:=by omega
 have a2:(192+x) / 32=6:=by omega
 have a3:(192+x) % 32=x:=by omega
 have c:=cont hy;simp only [decodeN,a1,a2,a3,c.1,c.2,hn,and_self,if_true,if_false,ge_iff_le,h]
theorem d3 {y q:Nat} (hn:2<n) (hx:x<16) (hy:y<64) (hz:z<64) (h:2048<=x*4096+y*64+z) (hv:vr (x*4096+y*64+z)):decodeN n (224+x) (128+y) (128+z) q=(x*4096+y*64+z,3):=by
 have a1:¬ 224+x<128:=by omega
 have a2:¬ (224+x) / 32=6:=by omega
 have a3:(224+x) / 16=14:=by omega
 have a4:(224+x) % 16=x:=by omega
 have hn1:1<n:=by omega
 have c:=cont hy;have d:=cont hz;have v:x*4096+y*64+z<55296\/57344<=x*4096+y*64+z/\x*4096+y*64+z<=1114111:=hv;simp only [decodeN,a1,a2,a3,a4,c.1,c.2,d.1,d.2,hn,hn1,false_and,and_self,if_true,if_false,ge_iff_le,h,v]
theorem d4 {y u:Nat} (hn:3<n) (hx:x<8) (hy:y<64) (hz:z<64) (hu:u<64) (h:65536<=x*262144+y*4096+z*64+u) (h2:x*262144+y*4096+z*64+u<=1114111) :
  decodeN n (240+x) (128+y) (128+z) (128+u)=(x*262144+y*4096+z*64+u,4):=by
 have a1:¬ 240+x<128:=by omega
 have a2:¬ (240+x) / 32=6:=by omega
 have a3:¬ (240+x) / 16=14:=by omega
 have a4:(240+x) / 8=30:=by omega
 have a5:(240+x) % 8=x:=by omega
 have hn1:1<n:=by omega
 have hn2:2<n:=by omega
 have c:=cont hy;have d:=cont hz;have e:=cont hu;have v:x*262144+y*4096+z*64+u<55296\/57344<=x*262144+y*4096+z*64+u/\x*262144+y*4096+z*64+u<=1114111:=by omega
 simp only [decodeN,a1,a2,a3,a4,a5,c.1,c.2,d.1,d.2,e.1,e.2,hn,hn1,hn2,false_and,and_self,if_true,if_false,ge_iff_le,h,v]
theorem dl_enc (h:vr r) (rest:List UInt8):dl (enc r++rest)=(r,(enc r).length):=by
 by_cases h1:r<=127
 ·rw [enc1 h1];have a:=tn (n:=r) (by omega);simp only [dl,List.cons_append,List.nil_append,List.getD_cons_zero,List.length_cons,List.length_nil,a,decodeN];rw [if_pos (by omega)]
 ·by_cases h2:r<=2047
  ·obtain ⟨x,y,rfl,hx,hy⟩:∃ x y,r=x*64+y/\x<32/\y<64:=⟨r / 64,r % 64,by omega,by omega,by omega⟩;rw [e2 hx hy (by omega)];simp only [dl,List.cons_append,List.nil_append,List.getD_cons_zero,List.getD_cons_succ,List.length_cons,List.length_nil,tn (n:=192+x) (by omega),tn (n:=128+y) (by omega)];exact d2 (by omega) hx hy (by omega)
  ·by_cases h3:r<=65535
   ·obtain ⟨x,y,z,rfl,hx,hy,hz⟩:∃ x y z,r=x*4096+y*64+z/\x<16/\y<64/\z<64:=by
     have a1:r / 4096<16:=by omega
     have a2:r / 64=r / 4096*64+r / 64 % 64:=by omega
     exact ⟨r / 4096,r / 64 % 64,r % 64,by omega,a1,by omega,by omega⟩
    rw [e3 hx hy hz (by omega) h];simp only [dl,List.cons_append,List.nil_append,List.getD_cons_zero,List.getD_cons_succ,List.length_cons,List.length_nil,tn (n:=224+x) (by omega),tn (n:=128+y) (by omega),tn (n:=128+z) (by omega)];exact d3 (by omega) hx hy hz (by omega) h
   ·have hm:r<=1114111:=by unfold vr at h;omega
    obtain ⟨x,y,z,u,rfl,hx,hy,hz,hu⟩:∃ x y z u,r=x*262144+y*4096+z*64+u/\x<8/\y<64/\z<64/\u<64:=by
     have a1:r / 4096 / 64<8:=by omega
     have a2:r / 64 / 64=r / 4096:=by rw [Nat.div_div_eq_div_mul]
     have b1:r=r / 64*64+r % 64:=by omega
     have b2:r / 64=r / 64 / 64*64+r / 64 % 64:=by omega
     have b3:r / 4096=r / 4096 / 64*64+r / 4096 % 64:=by omega
     exact ⟨r / 4096 / 64,r / 4096 % 64,r / 64 % 64,r % 64,by omega,a1,by omega,by omega,by omega⟩
    rw [e4 hx hy hz hu (by omega) hm];simp only [dl,List.cons_append,List.nil_append,List.getD_cons_zero,List.getD_cons_succ,List.length_cons,List.length_nil,tn (n:=240+x) (by omega),tn (n:=128+y) (by omega),tn (n:=128+z) (by omega),tn (n:=128+u) (by omega)];exact d4 (by omega) hx hy hz hu (by omega) hm
def Good (l:List UInt8) (r:Nat) (rest:List UInt8):Prop:=dl l=(r,(enc r).length)/\vr r/\l=enc r++rest
theorem aF3 {rest l:List UInt8} (v:vr r) (e:l=enc r++rest):∃ r rest,Good l r rest:=⟨r,rest,by rw [e];exact dl_enc v rest,v,e⟩
theorem lead {a:UInt8} {q:Nat} (h:a.toNat / m=q) (hm:m*q=k) (h0:0<m):∃ x,x<m/\a.toNat=k+x/\a.toNat % m=x:=by
 refine ⟨a.toNat % m,Nat.mod_lt _ h0,?_,rfl⟩;have:=Nat.div_add_mod a.toNat m;rw [h,hm] at this;exact this.symm
theorem len2 {t:List UInt8} (h:2<=t.length):∃ b c u,t=b::c::u:=by
 match t,h with
 | b::c::u,_=>exact ⟨b,c,u,rfl⟩
theorem len3 {t:List UInt8} (h:3<=t.length):∃ b c d u,t=b::c::d::u:=by
 match t,h with
 | b::c::d::u,_=>exact ⟨b,c,d,u,rfl⟩
theorem dl_ok {l:List UInt8} (h:l≠[]) (hn:dl l≠(65533,1)):∃ r rest,Good l r rest:=by
 obtain ⟨a,t,rfl⟩:∃ a t,l=a::t:=by cases l with | nil=>exact absurd rfl h | cons a t=>exact ⟨a,t,rfl⟩
 unfold dl at hn;simp only [List.getD_cons_zero,List.getD_cons_succ] at hn;unfold decodeN at hn
 split at hn
 ·rename_i h1
  have e:enc a.toNat=[a]:=by rw [enc1 (by omega)];rw [tou rfl]
  exact aF3 (r:=a.toNat) (rest:=t) (by unfold vr;omega) (by rw [e];rfl)
 ·split at hn
  ·rename_i h1 h2
   obtain ⟨b,u,rfl⟩:∃ b u,t=b::u:=by
    cases t with
    | nil=>simp at h2
    | cons b u=>exact ⟨b,u,rfl⟩
   simp only [List.getD_cons_zero] at h2 hn;obtain ⟨ha,_,hb⟩:=h2;obtain ⟨x,hx,ha,ea⟩:=lead (k:=192) ha rfl (by omega);obtain ⟨y,hy,hb,eb⟩:=lead (k:=128) hb rfl (by omega);rw [ea,eb] at hn
   split at hn
   ·rename_i h3
    refine aF3 (r:=x*64+y) (rest:=u) (by unfold vr;omega) ?_;rw [e2 hx hy h3,tou (a:=a) ha.symm,tou (a:=b) hb.symm];rfl
   ·exact absurd rfl hn
  ·split at hn
   ·rename_i h1 h2 h3
    obtain ⟨b,c,u,rfl⟩:∃ b c u,t=b::c::u:=len2 (by have:=h3.2.2.1;simp only [List.length_cons] at this;omega);simp only [List.getD_cons_zero,List.getD_cons_succ] at h3 hn;obtain ⟨ha,⟨_,hb⟩,_,hc⟩:=h3;clear h2;obtain ⟨x,hx,ha,ea⟩:=lead (k:=224) ha rfl (by omega);obtain ⟨y,hy,hb,eb⟩:=lead (k:=128) hb rfl (by omega);obtain ⟨z,hz,hc,ec⟩:=lead (k:=128) hc rfl (by omega);rw [ea,eb,ec] at hn;generalize hS:x*4096+y*64+z=S at hn
    split at hn
    ·rename_i h4
     rw [<-hS] at h4;have v:vr (x*4096+y*64+z):=h4.2;have e:enc (x*4096+y*64+z)=[a,b,c]:=by rw [e3 hx hy hz h4.1 v,tou (a:=a) ha.symm,tou (a:=b) hb.symm,tou (a:=c) hc.symm]
     exact aF3 v (rest:=u) (by rw [e];rfl)
    ·exact absurd rfl hn
   ·split at hn
    ·rename_i h1 h2 h3 h4
     obtain ⟨b,c,d,u,rfl⟩:∃ b c d u,t=b::c::d::u:=len3 (by have:=h4.2.2.2.1;simp only [List.length_cons] at this;omega);simp only [List.getD_cons_zero,List.getD_cons_succ] at h4 hn;obtain ⟨ha,⟨_,hb⟩,⟨_,hc⟩,_,hd⟩:=h4;clear h2 h3;obtain ⟨x,hx,ha,ea⟩:=lead (k:=240) ha rfl (by omega);obtain ⟨y,hy,hb,eb⟩:=lead (k:=128) hb rfl (by omega);obtain ⟨z,hz,hc,ec⟩:=lead (k:=128) hc rfl (by omega);obtain ⟨g,hg,hd,ed⟩:=lead (k:=128) hd rfl (by omega);rw [ea,eb,ec,ed] at hn;generalize hS:x*262144+y*4096+z*64+g=S at hn
     split at hn
     ·rename_i h5
      rw [<-hS] at h5;have v:vr (x*262144+y*4096+z*64+g):=h5.2;have m:x*262144+y*4096+z*64+g<=1114111:=by unfold vr at v;omega
      have e:enc (x*262144+y*4096+z*64+g)=[a,b,c,d]:=by rw [e4 hx hy hz hg h5.1 m,tou (a:=a) ha.symm,tou (a:=b) hb.symm,tou (a:=c) hc.symm,tou (a:=d) hd.symm]
      exact aF3 v (rest:=u) (by rw [e];rfl)
     ·exact absurd rfl hn
    ·exact absurd rfl hn
theorem aE1 (r:Nat):1<=(enc r).length/\(enc r).length<=4:=by
 have:=encodeRuneZ_length (r:Int);simpa [enc,encodeRune] using this
theorem enc_bad:enc 65533=[239,191,189]:=by rw [enc3 (by omega) (by omega) (by decide)];rfl
theorem aCe {l:List UInt8} (h:l≠[]):1<=(dl l).2/\(dl l).2<=l.length:=by
 by_cases hn:dl l=(65533,1)
 ·rw [hn];have:0<l.length:=List.length_pos_iff.2 h;exact ⟨Nat.le_refl _,this⟩
 ·obtain ⟨r,rest,hd,_,he⟩:=dl_ok h hn;rw [hd];have:=aE1 r;have hl:l.length=(enc r).length+rest.length:=by rw [he];simp
  simp only;omega
def rl:Nat->List UInt8->Option (List Nat)
 | 0,_=>some []
 | f+1,l=>if l=[] then some [] else if dl l=(65533,1) then none else (rl f (l.drop (dl l).2)).map ((dl l).1::·)
def runes (l:List UInt8):Option (List Nat):=rl l.length l
theorem rl_nil (f:Nat):rl f []=some []:=by cases f<;>simp [rl]
theorem rl_fuel:∀ (f:Nat) (l:List UInt8),l.length<=f->rl f l=rl l.length l
 | 0,l,h=>by
  have:l=[]:=List.eq_nil_of_length_eq_zero (by omega)
  subst this
  rfl
 | f+1,l,h=>by
  by_cases hl:l=[]
  ·subst hl;rw [rl_nil,rl_nil]
  ·have hw:=aCe hl
   obtain ⟨k,hk⟩:∃ k,l.length=k+1:=⟨l.length-1,by omega⟩
   have e1:rl f (l.drop (dl l).2)=rl (l.drop (dl l).2).length (l.drop (dl l).2):=rl_fuel f _ (by rw [List.length_drop];omega)
   have e2:rl k (l.drop (dl l).2)=rl (l.drop (dl l).2).length (l.drop (dl l).2):=rl_fuel k _ (by rw [List.length_drop];omega)
   rw [hk]
   simp only [rl,if_neg hl]
   rw [e1,e2]
 termination_by f=>f
theorem aDs:runes []=some []:=rfl
theorem aFg {l:List UInt8} (hl:l≠[]):runes l=if dl l=(65533,1) then none else (runes (l.drop (dl l).2)).map ((dl l).1::·):=by
 have hw:=aCe hl;obtain ⟨k,hk⟩:∃ k,l.length=k+1:=⟨l.length-1,by omega⟩;unfold runes;rw [hk];simp only [rl,if_neg hl];rw [rl_fuel k _ (by rw [List.length_drop];omega)]
theorem runes_bad {l:List UInt8} (hl:l≠[]) (h:dl l=(65533,1)):runes l=none:=by rw [aFg hl,if_pos h]
theorem aD1 {l:List UInt8} (hl:l≠[]) (h:dl l≠(65533,1)):runes l=(runes (l.drop (dl l).2)).map ((dl l).1::·):=by rw [aFg hl,if_neg h]
theorem runes_enc (h:vr r) (rest:List UInt8):runes (enc r++rest)=(runes rest).map (r::·):=by
 have hd:=dl_enc h rest;have hl:=aE1 r;have hne:enc r++rest≠[]:=by
  intro e;have h2:(enc r++rest).length=0:=by rw [e];rfl
  rw [List.length_append] at h2;omega
 have hnb:dl (enc r++rest)≠(65533,1):=by
  rw [hd];intro e;simp only [Prod.mk.injEq] at e;rw [e.1,enc_bad] at e;simp at e
 rw [aD1 hne hnb,hd];simp
def encs (rs:List Nat):List UInt8:=rs.flatMap enc
theorem aFf:∀ (rs:List Nat) (rest:List UInt8),(∀ r∈rs,vr r)->runes (encs rs++rest)=(runes rest).map (rs++·)
 | [],rest,_=>by simp [encs]
 | r::rs,rest,h=>by
  have ih:=aFf rs rest (fun x hx=>h x (List.mem_cons_of_mem _ hx))
  have e:encs (r::rs)++rest=enc r++(encs rs++rest):=by simp [encs]
  rw [e,runes_enc (h r (List.mem_cons_self ..)),ih];simp [Option.map_map,Function.comp_def]
theorem aDr (rs:List Nat) (h:∀ r∈rs,vr r):runes (encs rs)=some rs:=by
 have:=aFf rs [] h;simpa [aDs] using this
theorem aFe:∀ (n:Nat) (l:List UInt8) (rs:List Nat),l.length<=n->runes l=some rs->l=encs rs/\∀ r∈rs,vr r
 | 0,l,rs,hn,h=>by
  have:l=[]:=List.eq_nil_of_length_eq_zero (by omega)
  subst this
  rw [aDs] at h
  cases h
  simp [encs]
 | n+1,l,rs,hn,h=>by
  by_cases hl:l=[]
  ·subst hl
   rw [aDs] at h
   cases h
   simp [encs]
  ·by_cases hb:dl l=(65533,1)
   ·rw [runes_bad hl hb] at h;cases h
   ·rw [aD1 hl hb] at h
    obtain ⟨r,rest,hd,hv,he⟩:=dl_ok hl hb
    have hw:=aCe hl
    have hdr:l.drop (dl l).2=rest:=by (rw [hd];simp only;rw [he];simp)
    rw [hdr] at h
    cases hr:runes rest with
    | none=>rw [hr] at h;cases h
    | some rs' =>
     rw [hr] at h;simp only [Option.map_some,Option.some.injEq] at h;have hlen:rest.length<=n:=by rw [<-hdr,List.length_drop];omega
     obtain ⟨i1,i2⟩:=aFe n rest rs' hlen hr;rw [hd] at h;simp only at h;subst h;refine ⟨?_,?_⟩
     ·rw [he,i1];simp [encs]
     ·intro x hx;rcases List.mem_cons.1 hx with rfl | hx
      ·exact hv
      ·exact i2 x hx
theorem runes_iff (l:List UInt8) (rs:List Nat):runes l=some rs↔l=encs rs/\∀ r∈rs,vr r :=
 ⟨fun h=>aFe l.length l rs (Nat.le_refl _) h,fun ⟨h1,h2⟩=>by rw [h1];exact aDr rs h2⟩
theorem encs_len (rs:List Nat):rs.length<=(encs rs).length:=by
 induction rs with
 | nil=>simp [encs]
 | cons r rs ih =>
  have:=aE1 r;have e:(encs (r::rs)).length=(enc r).length+(encs rs).length:=by simp [encs]
  simp only [List.length_cons];omega
theorem runes_len {l:List UInt8} {rs:List Nat} (h:runes l=some rs):rs.length<=l.length:=by
 obtain ⟨rfl,_⟩:=(runes_iff l rs).1 h;exact encs_len rs
theorem bad_prefix {l:List UInt8} (hl:l≠[]) (h:(dl l).1=65533):dl l=(65533,1)↔¬ [239,191,189] <+: l:=by
 constructor
 ·intro hb ⟨t,ht⟩;have:=dl_enc (r:=65533) (by decide) t;rw [enc_bad,ht,hb] at this;simp at this
 ·intro hp;by_cases hb:dl l=(65533,1)
  ·exact hb
  ·obtain ⟨r,rest,hd,hv,he⟩:=dl_ok hl hb;rw [hd] at h;simp only at h;subst h;rw [enc_bad] at he;exact absurd ⟨rest,he.symm⟩ hp
end Go.Proofs.YtmmcebojbbdfmaaGreat
