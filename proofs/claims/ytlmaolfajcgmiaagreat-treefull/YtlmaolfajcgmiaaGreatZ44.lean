import Derived.Test.YtlmaolfajcgmiaaGreatZ43
set_option maxRecDepth 100000
set_option maxHeartbeats 16000000
set_option linter.unusedVariables false
namespace Go.Proofs.YtlmaolfajcgmiaaGreat
open Go.RowKit
theorem putL_parts {l:List It} (hs:Srt l) (it:It):l.take (fndI l it.1)++[it]++l.drop (if hasI l it.1 then fndI l it.1+1 else fndI l it.1)=putL l it:=by
 unfold putL
 by_cases h:hasI l it.1=true
 ·obtain ⟨x,hx,_⟩:=(hs.has it.1).1 h
  rw [if_pos h,if_pos h,List.set_eq_take_append_cons_drop,if_pos (lL hx)]
  simp
 ·rw [if_neg h,if_neg h]
  simp
theorem refPut_ok {B:Nat} {w:World} {v:Value} {l:List It} {it:It} {ka va:Option Addr} {kn kc vn vc:Nat} (h:PRW B B w v l) (hs:Srt l) (hk:BK B w ka kn kc it.1) (hv:BK B w va vn vc it.2) (hB:B≤w.heap.size) (hl:l.length≤10000) (hkn:kn≤10000) (hvn:vn≤10000) :
  Calls Tryz.prog 12 #[v,.slice ka kn kc,.slice va vn vc] w fun e w'=>∃ v',e=.returned v'∧PRW B w.heap.size w' v' (putL l it)∧Below w.heap.size w w':=by
 obtain ⟨la,lc,e1⟩:=h.form
 subst e1
 have HAT:=hide (at_ok h hs hk.1 (by omega))
 have hcc:=h.cells
 have hKn:fndI l it.1≤l.length:=aA4 l it.1
 have hKh:hasI l it.1=true→fndI l it.1<l.length:=fun q9=>by
  obtain ⟨x,hx,_⟩:=(hs.has it.1).1 q9
  exact (lL hx)
 have HPP:=hide (putL_parts hs it)
 have H:=hide h
 have HK:=hide hk
 have HV:=hide hv
 have hkl:=hk.len
 have hvl:=hv.len
 have HKB:=hide hk.1.hbyte
 have HVB:=hide hv.1.hbyte
 obtain ⟨c0,c1,c2,_⟩:=hcc
 have hcm:lc≤9223372036854775807:=by
  obtain ⟨kv,_,h9,_⟩:=h
  rcases h9.2 with ⟨e,_⟩ | ⟨g,cap,cur,e,_,_,_,h8,_⟩
  ·simp only [Value.slice.injEq] at e
   omega
  ·simp only [Value.slice.injEq] at e
   unfold maxLen at h8
   omega
 clear h hs hk hv
 generalize hN:l.length=N at *
 generalize hKK:fndI l it.1=K at *
 generalize hHH:hasI l it.1=hb at *
 generalize hw0:w.heap.size=n0 at *
 have u0:(0:Int)≤(K:Int):=by omega
 have u1:(K:Int)≤(lc:Int):=by omega
 have u2:(lc:Int)≤9223372036854775807:=by omega
 have u3:(N:Int)≤10000:=by omega
 have u4:(K:Int)≤(N:Int):=by omega
 have HC2:=hide c2
 have HN:=hide hN
 have HKH:=hide hKh
 clear c0 c2 hN hKK hHH hKh
 go_enter Tryz.func12,Tryz.ntmps12
 go_wp2_with fail
 refine HAT.out.mono ?_
 rintro e w1 ⟨rfl,hb1,hh1⟩
 have HB1:=hide hb1
 have HFR:=hide ((H.out.later (by rw [hw0];exact hb1) (by rw [hw0];exact hB)).front (k:=K) (by omega))
 have HS1:Hid (n0≤w1.heap.size):=by show _≤_;have:=hb1.size;omega
 clear hb1 hh1
 go_wp2_with (at_builtin;refine aAq (by rfl) (.tmp 16) (.tmp 19) rfl rfl rfl (PRW.nil B n0 w1) HFR.out hB HS1.out (by rw [List.length_take];simp;omega) ?_;intro v2 w2 hp2 hf2 hb2 hk2;have HP2:=hide hp2;have HB2:=hide hb2;clear hp2 hf2 hb2 hk2)
 have HB02:Hid (Below n0 w w2):=HB1.out.trans HB2.out
 have HC1:=hide (aGb (B:=B) (HK.out.later (by rw [hw0];exact HB02.out) (by rw [hw0];exact hB)).1 (by omega))
 refine HC1.out.mono ?_
 rintro e w3 ⟨v3,rfl,ho3,hb3⟩
 obtain ⟨k3a,k3c,rfl,hk3⟩:=BK.owned (B:=B) (by rw [hkl];exact ho3) (by omega) HKB.out
 rw [hkl] at hk3 ⊢
 have HK3:=hide hk3
 have HB3:=hide hb3
 have HS2:Hid (n0≤w2.heap.size):=by show _≤_;have:=HB02.out.size;omega
 have HB03:Hid (Below n0 w w3):=HB02.out.trans (hb3.mono HS2.out)
 clear ho3 hk3 hb3 HC1
 have HC3:=hide (aGb (B:=B) (HV.out.later (by rw [hw0];exact HB03.out) (by rw [hw0];exact hB)).1 (by omega))
 go_wp2_with fail
 refine HC3.out.mono ?_
 rintro e w4 ⟨v4,rfl,ho4,hb4⟩
 obtain ⟨k4a,k4c,rfl,hk4⟩:=BK.owned (B:=B) (by rw [hvl];exact ho4) (by omega) HVB.out
 rw [hvl] at hk4 ⊢
 have HS3:Hid (n0≤w3.heap.size):=by show _≤_;have:=HB03.out.size;omega
 have HB04:Hid (Below n0 w w4):=HB03.out.trans (hb4.mono HS3.out)
 have HS4:Hid (n0≤w4.heap.size):=by show _≤_;have:=HB04.out.size;omega
 have HBX:=hide (aAb w4 (.cells #[.int .i64 0,.slice k3a kn k3c,.slice k4a vn k4c] 69))
 have HP4:Hid (PRW B n0 (w4.alloc (.cells #[.int .i64 0,.slice k3a kn k3c,.slice k4a vn k4c] 69)) v2 ([]++l.take K)):=((HP2.out.later HB3.out (nT hB HS2.out)).later hb4 (nT hB HS3.out)).later HBX.out (nT hB HS4.out)
 have HON:Hid (PRV B (w4.alloc (.cells #[.int .i64 0,.slice k3a kn k3c,.slice k4a vn k4c] 69)) (.slice (some ⟨w4.heap.size,0,none⟩) 1 1) [it]):=by
  refine PRV.one (heap_alloc_new w4 _) ?_ ?_
  ·exact ⟨k3a,k3c,by rw [hkl],by rw [hkl];exact (HK3.out.later hb4 (nT hB HS3.out)).later HBX.out (nT hB HS4.out)⟩
  ·exact ⟨k4a,k4c,by rw [hvl],by rw [hvl];exact hk4.later HBX.out (nT hB HS4.out)⟩
 have HSX:Hid (n0≤(w4.alloc (.cells #[.int .i64 0,.slice k3a kn k3c,.slice k4a vn k4c] 69)).heap.size):=nT HS4.out HBX.out.size
 have HB04x:Hid (Below n0 w (w4.alloc (.cells #[.int .i64 0,.slice k3a kn k3c,.slice k4a vn k4c] 69))):=HB04.out.trans (HBX.out.mono HS4.out)
 clear ho4 hk4 hb4 HC3
 go_upto_region 5 with (at_builtin;refine aAq (by rfl) (.tmp 21) (.tmp 27) rfl rfl rfl HP4.out HON.out hB HSX.out (by rw [List.nil_append,List.length_take];simp;omega) ?_;intro v5 w5 hp5 hf5 hb5 hk5;have HP5:=hide hp5;have HB5:=hide hb5;clear hp5 hf5 hb5 hk5)
 have HB05:Hid (Below n0 w w5):=HB04x.out.trans HB5.out
 have HS5:Hid (n0≤w5.heap.size):=by show _≤_;have:=HB05.out.size;omega
 have HL5:Hid (PRW B B w5 (.slice la N lc) l):=H.out.later (by rw [hw0];exact HB05.out) (by rw [hw0];exact hB)
 rw [List.nil_append] at HP5
 clear HBX HP4 HON HSX HB04x HFR HAT
 cases hb with
 | false =>
  have HPQ:Hid (l.take K++[it]++l.drop (K)=putL l it):=HPP.out
  have b0:(K:Nat)≤N:=hKn
  have HLN:Hid ((l.take K++[it]).length+(l.drop (K)).length≤100000):=by
   show _≤_
   simp only [lA,List.length_take,List.length_drop,List.length_singleton]
   have:=HN.out
   omega
  cases la with
  | none =>
   obtain ⟨hl0,rfl⟩:=HC2.out rfl
   have hn0:N=0:=by rw [←HN.out,hl0];rfl
   have hK0:K=0:=by omega
   subst hK0
   subst hn0
   have HPV:Hid (PRV B w5 (.slice none 0 0) (l.drop 0)):=by rw [hl0];exact PRV.nil _ _
   clear hl0
   go_wp2_with (at_builtin;refine aAq (by rfl) (.tmp 32) (.tmp 35) rfl rfl rfl HP5.out HPV.out hB HS5.out HLN.out ?_;intro v6 w6 hp6 hf6 hb6 hk6;rw [HPQ.out] at hp6;have HP6:=hide hp6;have HB6:=hide hb6;clear hp6 hf6 hb6 hk6)
   go_ret
   exact ⟨_,rfl,HP6.out,HB05.out.trans HB6.out⟩
  | some x =>
   obtain ⟨g,rfl⟩:∃ g,x=⟨g,0,none⟩:=by
    obtain ⟨_,_,_,kv,_,e4,_⟩:=HL5.out.cells
    obtain ⟨g,e,_⟩:=e4 x rfl
    exact ⟨g,e⟩
   by_cases hlow:(K:Nat)<lc
   ·have t1:((K:Nat):Int)<(lc:Int):=by omega
    have t2:(K:Int)<(lc:Int):=by omega
    have t3:(K:Int)≤(N:Int):=by omega
    have HPV:=hide (HL5.out.back b0)
    clear t1
    go_wp2_with (at_builtin;refine aAq (by rfl) (.tmp 32) (.tmp 35) rfl rfl rfl HP5.out HPV.out hB HS5.out HLN.out ?_;intro v6 w6 hp6 hf6 hb6 hk6;rw [HPQ.out] at hp6;have HP6:=hide hp6;have HB6:=hide hb6;clear hp6 hf6 hb6 hk6)
    go_ret
    exact ⟨_,rfl,HP6.out,HB05.out.trans HB6.out⟩
   ·have t1:¬ (K:Int)<(lc:Int):=by omega
    have t3:(K:Int)≤(N:Int):=by omega
    have hz:l.drop (K)=[]:=List.drop_of_length_le (by have:=HN.out;omega)
    have hN:N=K:=by omega
    have hlc:lc=K:=by omega
    have HPV:Hid (PRV B w5 (.slice (some ⟨g,0,none⟩) 0 0) (l.drop (K))):=by rw [hz];exact PRV.zero _ _ _ _
    clear hz
    subst hlc
    have HNE:=hide hN
    subst hN
    clear HNE
    go_wp2_with (at_builtin;refine aAq (by rfl) (.tmp 32) (.tmp 35) rfl rfl rfl HP5.out HPV.out hB HS5.out HLN.out ?_;intro v6 w6 hp6 hf6 hb6 hk6;rw [HPQ.out] at hp6;have HP6:=hide hp6;have HB6:=hide hb6;clear hp6 hf6 hb6 hk6)
    go_ret
    exact ⟨_,rfl,HP6.out,HB05.out.trans HB6.out⟩
 | true =>
  have HPQ:Hid (l.take K++[it]++l.drop (K+1)=putL l it):=HPP.out
  have b0:(K+1:Nat)≤N:=HKH.out rfl
  have HLN:Hid ((l.take K++[it]).length+(l.drop (K+1)).length≤100000):=by
   show _≤_
   simp only [lA,List.length_take,List.length_drop,List.length_singleton]
   have:=HN.out
   omega
  cases la with
  | none =>
   obtain ⟨hl0,rfl⟩:=HC2.out rfl
   have hn0:N=0:=by rw [←HN.out,hl0];rfl
   omega
  | some x =>
   obtain ⟨g,rfl⟩:∃ g,x=⟨g,0,none⟩:=by
    obtain ⟨_,_,_,kv,_,e4,_⟩:=HL5.out.cells
    obtain ⟨g,e,_⟩:=e4 x rfl
    exact ⟨g,e⟩
   by_cases hlow:(K+1:Nat)<lc
   ·have t1:((K+1:Nat):Int)<(lc:Int):=by omega
    have t2:(K:Int)+1<(lc:Int):=by omega
    have t3:(K:Int)+1≤(N:Int):=by omega
    have HPV:=hide (HL5.out.back b0)
    clear t1
    go_wp2_with (at_builtin;refine aAq (by rfl) (.tmp 32) (.tmp 35) rfl rfl rfl HP5.out HPV.out hB HS5.out HLN.out ?_;intro v6 w6 hp6 hf6 hb6 hk6;rw [HPQ.out] at hp6;have HP6:=hide hp6;have HB6:=hide hb6;clear hp6 hf6 hb6 hk6)
    go_ret
    exact ⟨_,rfl,HP6.out,HB05.out.trans HB6.out⟩
   ·have t1:¬ (K:Int)+1<(lc:Int):=by omega
    have t3:(K:Int)+1≤(N:Int):=by omega
    have hz:l.drop (K+1)=[]:=List.drop_of_length_le (by have:=HN.out;omega)
    have hN:N=K+1:=by omega
    have hlc:lc=K+1:=by omega
    have HPV:Hid (PRV B w5 (.slice (some ⟨g,0,none⟩) 0 0) (l.drop (K+1))):=by rw [hz];exact PRV.zero _ _ _ _
    clear hz
    subst hlc
    have HNE:=hide hN
    subst hN
    clear HNE
    go_wp2_with (at_builtin;refine aAq (by rfl) (.tmp 32) (.tmp 35) rfl rfl rfl HP5.out HPV.out hB HS5.out HLN.out ?_;intro v6 w6 hp6 hf6 hb6 hk6;rw [HPQ.out] at hp6;have HP6:=hide hp6;have HB6:=hide hb6;clear hp6 hf6 hb6 hk6)
    go_ret
    exact ⟨_,rfl,HP6.out,HB05.out.trans HB6.out⟩
end Go.Proofs.YtlmaolfajcgmiaaGreat
