/- The law DraftSame holds for every input: called with whatever values of its parameters' types it returns true, and each argument reads afterwards as it read before. No condition beyond the form's own reach. -/
import Derived.Test.YthgleplmbnkacaaGreatY51
import Derived.Laws.Concat
set_option maxRecDepth 100000
set_option maxHeartbeats 16000000
set_option linter.unusedVariables false
namespace Go.Proofs.YthgleplmbnkacaaGreat
open Go.RowKit
def SL (n0:Nat) (w0:World) (L:List AV) (v7 v8:Value) (wx:World):Prop:=KRW n0 wx v7 L∧ARW n0 wx v8 L∧Below n0 w0 wx
theorem SL.later {n0:Nat} {w0 w w':World} {L:List AV} {v7 v8:Value} (h:SL n0 w0 L v7 v8 w) (hn:n0≤w.heap.size) (hb:Below w.heap.size w w'):SL n0 w0 L v7 v8 w' :=
 ⟨aAk h.1 fun i cs e1 e2=>(hb.block i (lO e2)).trans e2,aAk h.2.1 fun i cs e1 e2=>(hb.block i (lO e2)).trans e2,h.2.2.trans (hb.mono hn)⟩
theorem AP.one {w:World} {b o K i:Nat} {q:Nat→AV} (h:AP 0 w (some ⟨b,o,none⟩) K q) (hi:i<K):AP 0 w (some ⟨b,o+i*5,none⟩) 1 (fun _=>q i):=by
 intro _
 obtain ⟨b',o',h1,h2,h3⟩:=h (by omega)
 simp only [oI,Addr.mk.injEq] at h1
 obtain ⟨rfl,rfl,_⟩:=h1
 refine ⟨b,o+i*5,rfl,h2,fun j hj=>?_⟩
 obtain rfl:j=0:=by omega
 simpa using h3 i hi
def SM2 [Gd] (B lsa da B2 lsb dbb:Nat) (va vb:Value) (ca cb:List Ch) (a8:Option Addr) (K:Nat) (q:Nat→AV) (W wx:World):Prop:=DZ2 B2 lsb dbb vb cb wx∧DZ2 B lsa da va ca wx∧AP 0 wx a8 K q∧Below W.heap.size W wx∧(∀ i,va.ownBlock=some i→vb.ownBlock≠some i)
theorem SM2.next [Gd] {B lsa da B2 lsb dbb:Nat} {va vb vb':Value} {ca cb cb':List Ch} {a8:Option Addr} {K:Nat} {q:Nat→AV} {W w w':World} (h:SM2 B lsa da B2 lsb dbb va vb ca cb a8 K q W w) (hd:da<dbb) (hW:W.heap.size≤dbb) (d:DZ2 B2 lsb dbb vb' cb' w') (f:DFr 0 dbb vb w vb' w'):SM2 B lsa da B2 lsb dbb va vb' ca cb' a8 K q W w':=by
 obtain ⟨h1,h2,h3,h4,h5⟩:=h
 refine ⟨d,h2.oth h1.dd f (by omega) h5,h3.fr h1.dd f,h4.trans (f.bel h1.dd hW h4.size),fun i hi q=>?_⟩
 rcases f.own i q with q | q
 ·exact h5 i hi q
 ·have:=(h2.dd.row.blk hi).2.1
  omega
def sawB (L:List AV) (k:ByteArray) (t:Nat):Bool:=(L.take t).any fun a=>(kS a).toList == k.toList
theorem sawB_next {L:List AV} {k:ByteArray} {t:Nat} {a:AV} (h:L[t]?=some a):sawB L k (t+1)=(sawB L k t || ((kS a).toList == k.toList)):=by
 unfold sawB
 rw [List.take_add_one,h]
 simp
theorem bs_byte {w:World} (z:Int) (hz:0≤z) (hz2:z<256):BS (w.alloc (.cells #[.int .u8 z] 5)) (some ⟨w.heap.size,0,none⟩) 1 1 [z.toNat]:=by
 refine BS.of rfl (by omega) (by omega) (by omega) (by intro n hn;simp at hn;omega) ?_
 intro i hi
 obtain rfl:i=0:=by omega
 rw [cell_of_row _ w.heap.size _ _ _ _ (heap_alloc_new w _)]
 show some (Value.int .u8 z)=some (.int .u8 ((z.toNat:Nat):Int))
 rw [Int.toNat_of_nonneg hz]
theorem aDm (a0:Option Addr) (l0 c0:Nat) (q0:Nat→AV) (W:World) (h0:AS W a0 l0 q0) :
  Calls Tryz.prog 5 #[.slice a0 l0 c0] W fun e w'=>e=.returned (.bool true)∧Below W.heap.size W w':=by
 letI:Gd:=⟨fun _=>False⟩
 have lt:∀ {k:Nat} {o:Obj} {ww:World},ww.heap[k]?=some o→k<ww.heap.size:=fun e=>(lO e)
 obtain ⟨i4,hi4,hy0,hy1,hy2⟩:=info_parts info_str
 obtain ⟨i5,hi5,hx0,hx1,hx2⟩:=info_parts info_act
 have HIS:=hide (And.intro hi4 (And.intro hy0 (And.intro hy1 hy2)))
 have HIA:=hide (And.intro hi5 (And.intro hx0 (And.intro hx1 hx2)))
 clear hi4 hy0 hy1 hy2 hi5 hx0 hx1 hx2
 obtain ⟨B,hB⟩:∃ B,W.heap.size=B:=⟨_,rfl⟩
 have HA0:=hide (h0.ap rfl)
 have HO0:Hid (∀ i,i<l0→(q0 i).Ok W):=fun i hi=>h0.ok hi
 have HL0:=hide h0.hl
 have HB:=hide hB
 have HN1:=hide (lnew_two W)
 rw [hB] at HN1 HA0 ⊢
 clear hB h0
 go_enter Tryz.func5,Tryz.ntmps5
 go_wp2_with fail
 refine HN1.out.mono ?_
 rintro e w1 ⟨lsa,da,rfl,hA1,hb1⟩
 have HAA:=hide hA1
 have HB1:=hide hb1
 have HN2:=hide (lnew_two w1)
 clear hA1 hb1 HN1
 go_wp2_with fail
 refine HN2.out.mono ?_
 rintro e w2 ⟨lsb,dbb,rfl,hA2,hb2⟩
 have HDA:=hide (HAA.out.later hb2)
 have HDB:=hide hA2
 have HDD:Hid (da<dbb):=by show da<dbb;have:=hA2.hd;have:=HAA.out.dd.bw;omega
 have HB2:Hid (Below B W w2):=HB1.out.trans (hb2.mono (by have:=HB1.out.size;have:=HB.out;omega))
 have hb2':Below W.heap.size W w2:=by rw [HB.out];exact HB2.out
 have HAP:=hide (HA0.out.blk fun b hb _=>hb2'.block b hb)
 generalize w1.heap.size=B2 at *
 clear hA2 hb2 hb2' HN2 HAA HB1 HA0
 obtain ⟨n,hn⟩:∃ n,n=min l0 25:=⟨_,rfl⟩
 have hn1:n≤l0:=by omega
 have hn2:n≤25:=by omega
 have hn3:n=l0∨n=25:=by omega
 clear hn
 go_wp2_with fail
 generalize hn0:w2.heap.size=n0 at *
 go_loopg [7,8,9] n (fun gh s7 s8 s9 wx=>∃ j:Nat,j+gh=n∧s9=.int .i64 (j:Int)∧∃ a7 c7 a8 c8 K,s7=.slice a7 K c7∧s8=.slice a8 K c8∧K=(keepA q0 j).length∧SL n0 w2 (keepA q0 j) (.slice a7 K c7) (.slice a8 K c8) wx)
 case atStart=>exact ⟨0,by omega,rfl,none,0,none,0,0,rfl,rfl,rfl,⟨⟨rfl,Or.inl ⟨rfl,rfl⟩⟩,⟨rfl,Or.inl ⟨rfl,rfl⟩⟩,Below.refl _ _⟩⟩
 case round =>
  obtain ⟨j,hj,rfl,a7,c7,a8,c8,K,rfl,rfl,hK,hSL⟩:=hrel
  have HSL:=hide hSL
  have HK:=hide hK
  have HNW:Hid (n0≤wr.heap.size):=by show n0≤_;rw [←hn0];exact hSL.2.2.size
  clear hSL hK
  by_cases hjn:j<n
  ·have xj:(j:Int)<(l0:Int):=by omega
   have xm:(j:Int)<25:=by omega
   have xl:(l0:Int)≤9223372036854775807:=by have:=HL0.out;omega
   have HQ:=hide (HO0.out j (by omega))
   have hbw:Below W.heap.size W wr:=by rw [HB.out];exact HB2.out.trans (HSL.out.2.2.mono (by have:=HB2.out.size;have:=HB.out;omega))
   obtain ⟨b,o,e0,hb,hcs⟩:=HAP.out (by omega)
   have hbk:wr.heap[b]?=w2.heap[b]?:=HSL.out.2.2.block b (by rw [←hn0];exact aAr (hcs 0 (by omega)).c0)
   have hac:=(hcs j (by omega)).blk hbk
   have HPR:=hide (pair_ok (B:=0) (sp:=(q0 j).sp) HQ.out.lc HQ.out.cm (HQ.out.bs.later hbw (nR _)) HQ.out.vlc HQ.out.vcm (HQ.out.vbs.later hbw (nR _)) (Nat.zero_le _))
   have HXL:Hid ((q0 j).xs.length≤62):=by show _≤_;rw [HQ.out.bs.hlen];omega
   have HKN:Hid (keepA q0 (j+1)=if (keepA q0 j).any (fun a=>(kS a).toList == (kS (q0 j)).toList) then keepA q0 j else keepA q0 j++[q0 j]):=rfl
   have HKL:Hid ((keepA q0 j).length≤25):=by show _≤_;have:=aDd q0 j;omega
   have HKS:Hid (kS (q0 j)=str [((q0 j).sp % 256).toNat]++str (q0 j).xs):=rfl
   have HKQ:Hid (kS (q0 j)=kS (q0 j)):=rfl
   obtain ⟨kk,hkk⟩:∃ kk,kk=kS (q0 j):=⟨_,rfl⟩
   have HKK:=hide hkk
   rw [←hkk] at HKS HKN
   clear hkk HKQ
   obtain ⟨LN,hLN⟩:∃ LN,keepA q0 (j+1)=LN:=⟨_,rfl⟩
   have HLN:=hide hLN
   rw [hLN] at HKN
   clear hLN
   generalize keepA q0 j=L at *
   have HXA:Hid (∀ wx,Below n0 w2 wx→AC wx b (o+j*5) (q0 j)):=fun wx hx=>(hcs j (by omega)).blk (hx.block b (by rw [←hn0];exact aAr (hcs 0 (by omega)).c0))
   generalize q0 j=aj at *
   obtain ⟨kind,at_,sp,ka,kl,kc,xs,va,vl,vc,vs⟩:=aj
   obtain ⟨d0,d1,d2,d3,d4⟩:=hac
   try dsimp only at *
   subst e0
   have HXC:=hide (AC.mk (q:=⟨kind,at_,sp,ka,kl,kc,xs,va,vl,vc,vs⟩) d0 d1 d2 d3 d4)
   clear hbw hcs hb hbk HQ
   go_wp2_with fail
   refine HPR.out.mono ?_
   rintro e w3 ⟨ka',kc',va',vc',rfl,hk3,hv3,hb3⟩
   have hbx:=aAb w3 (.cells #[.int .i64 sp,.slice ka' xs.length kc',.slice va' vs.length vc'] 35)
   have HR4:Hid ((w3.alloc (.cells #[.int .i64 sp,.slice ka' xs.length kc',.slice va' vs.length vc'] 35)).heap[w3.heap.size]?=some (.cells #[.int .i64 sp,.slice ka' xs.length kc',.slice va' vs.length vc'] 35 (0,0))):=heap_alloc_new w3 _
   have HS4:=hide ((HSL.out.later HNW.out hb3).later (nT HNW.out hb3.size) hbx)
   have HK4:=hide (hk3.later hbx (Nat.zero_le _))
   have HX4:=hide ((HXC.out.blk (hb3.block b (aAr HXC.out.c0))).blk (hbx.block b (Nat.lt_of_lt_of_le (aAr HXC.out.c0) hb3.size)))
   have HN4:Hid (n0≤(w3.alloc (.cells #[.int .i64 sp,.slice ka' xs.length kc',.slice va' vs.length vc'] 35)).heap.size):=nT HNW.out (nT hb3.size hbx.size)
   clear hk3 hv3 hb3 hbx HPR d0 d1 d2 d3 d4 HXC HSL HNW
   go_upto_region 11 with fail
   generalize w3.alloc (.cells #[.int .i64 sp,.slice ka' xs.length kc',.slice va' vs.length vc'] 35)=w4 at *
   generalize w3.heap.size=L4 at *
   have z0:w4.cell? ⟨L4,0,none⟩=some (.int .i64 sp):=aAa HR4.out
   have z1:(w4.alloc (.cells #[.int .u8 (sp % 256)] 5)).cell? ⟨L4,1,none⟩=some (.slice ka' xs.length kc'):=((aAb w4 _).cell (lt HR4.out)).trans (aAa HR4.out)
   have hm0:0≤sp % 256:=by omega
   have hm1:sp % 256<256:=by omega
   have cv1:(convert 33 9 (.slice (some ⟨w4.heap.size,0,none⟩) 1 1)).run Tryz.prog (w4.alloc (.cells #[.int .u8 (sp % 256)] 5))=.ok (.string (str [(sp % 256).toNat])) (w4.alloc (.cells #[.int .u8 (sp % 256)] 5)):=run_text (bs_byte _ hm0 hm1)
   have cv2:(convert 33 9 (.slice ka' xs.length kc')).run Tryz.prog (w4.alloc (.cells #[.int .u8 (sp % 256)] 5))=.ok (.string (str xs)) (w4.alloc (.cells #[.int .u8 (sp % 256)] 5)):=run_text (HK4.out.later (aAb w4 _) (Nat.zero_le _)).1
   have hadd:=fun ww:World=>run_string_add_sum (P:=Tryz.prog) ww (str [(sp % 256).toNat]) (str xs) (by rw [aDy,aDy];have:=HXL.out;simp only [List.length_singleton];omega)
   go_upto_region 12 with fail
   clear hadd
   rw [←HKS.out]
   have HS5:=hide (HS4.out.later HN4.out (aAb w4 (.cells #[.int .u8 (sp % 256)] 5)))
   have HX5:=hide (HX4.out.blk ((aAb w4 (.cells #[.int .u8 (sp % 256)] 5)).block b (aAr HX4.out.c0)))
   have HN5:Hid (n0≤(w4.alloc (.cells #[.int .u8 (sp % 256)] 5)).heap.size):=nT HN4.out (aAb w4 _).size
   clear z0 z1 cv1 cv2 hm0 hm1 HS4 HX4 HN4 HK4 HR4
   generalize w4.alloc (.cells #[.int .u8 (sp % 256)] 5)=w5 at *
   go_wp2_with fail
   go_loopg [12,13] K (fun gh s12 s13 wx=>∃ t:Nat,t+gh=K∧s13=.int .i64 (t:Int)∧s12=.bool (sawB L kk t)∧wx=w5)
   case atStart=>exact ⟨0,by omega,rfl,rfl,rfl⟩
   case round =>
    obtain ⟨t,ht,rfl,rfl,hw⟩:=hrel
    have hw:=hw.symm
    subst hw
    clear hw
    have xk:(t:Int)≤25:=by have:=HKL.out;have:=HK.out;omega
    by_cases htk:t<K
    ·have xt:(t:Int)<(K:Int):=by omega
     obtain ⟨a,ha⟩:∃ a,L[t]?=some a:=⟨_,gE (by rw [←HK.out];exact htk)⟩
     have HNX:=hide (sawB_next (k:=kk) ha)
     obtain ⟨g7,hg7,hcell⟩:∃ g7,a7=some ⟨g7,0,none⟩∧w5.cell? ⟨g7,t,none⟩=some (.string (kS a)):=by
      rcases HS5.out.1.2 with ⟨e,hn⟩ | ⟨g',cap',cur,e,h5,h6,h7,h8,h9,h10⟩
      ·rw [←HK.out] at hn;omega
      ·simp only [Value.slice.injEq] at e
       refine ⟨g',e.1,?_⟩
       have hg:(L.map fun a=>Value.string (kS a))[t]?=some (.string (kS a)):=by rw [List.getElem?_map,ha];rfl
       rw [aAa h6,←Array.getElem?_toList]
       rw [←h10,List.getElem?_take] at hg
       split at hg
       ·exact hg
       ·cases hg
     subst hg7
     clear ha
     generalize sawB L kk t=sb at *
     cases sb with
     | true =>
      go_wp2
      go_roundg (gk-1)
      case measure=>omega
      case rel=>exact ⟨t+1,by omega,rfl,by rw [HNX.out];rfl,rfl⟩
     | false =>
      go_wp2
      go_roundg (gk-1)
      case measure=>omega
      case rel=>exact ⟨t+1,by omega,rfl,by rw [HNX.out];rfl,rfl⟩
    ·have xt:¬ (t:Int)<(K:Int):=by omega
     have et:t=K:=by omega
     have HSW:Hid (sawB L kk t=L.any fun a=>(kS a).toList == kk.toList):=by
      show _=_
      unfold sawB
      rw [et,HK.out,List.take_length]
     rw [←HSW.out] at HKN
     clear et
     generalize sawB L kk t=sb at *
     cases sb with
     | true =>
      have HE:Hid (LN=L):=HKN.out.trans (if_pos rfl)
      go_wp2
      go_roundg (n-(j+1))
      case measure=>omega
      case rel=>exact ⟨j+1,by omega,rfl,a7,c7,a8,c8,K,rfl,rfl,by rw [HLN.out,HE.out];exact HK.out,by rw [HLN.out,HE.out];exact HS5.out⟩
     | false =>
      have HE:Hid (LN=L++[⟨kind,at_,sp,ka,kl,kc,xs,va,vl,vc,vs⟩]):=HKN.out.trans (if_neg (by decide))
      have HKR:Hid (KRW n0 (w5.alloc (.cells #[.string kk] 9)) (.slice a7 K c7) L):=aAk HS5.out.1 fun i cs e1 e2=>((aAb w5 _).block i (lO e2)).trans e2
      have HAR:Hid (ARW n0 (w5.alloc (.cells #[.string kk] 9)) (.slice a8 K c8) L):=aAk HS5.out.2.1 fun i cs e1 e2=>((aAb w5 _).block i (lO e2)).trans e2
      have HX6:=hide (HX5.out.blk ((aAb w5 (.cells #[.string kk] 9)).block b (aAr HX5.out.c0)))
      have HBX6:Hid (Below n0 w2 (w5.alloc (.cells #[.string kk] 9))):=HS5.out.2.2.trans ((aAb w5 _).mono HN5.out)
      have HN6:Hid (n0≤(w5.alloc (.cells #[.string kk] 9)).heap.size):=nT HN5.out (aAb w5 _).size
      have HNS:Hid (∀ (j:Nat) u,[Value.string kk][j]?=some u→(w5.alloc (.cells #[.string kk] 9)).cell? ((⟨w5.heap.size,0,none⟩:Addr).add j)=some u):=by
       intro j u hu
       rw [add_plain,Nat.zero_add,cell_of_row _ w5.heap.size _ _ _ _ (heap_alloc_new w5 _)]
       simpa using hu
      rw [show L.length=K from HK.out.symm] at HKL
      unfold KRW at HKR
      rw [←HK.out] at HKR
      go_upto_region 19 with (at_builtin;refine wpList_append_own _ rfl (.tmp 71) (.tmp 73) 74 rfl n0 9 i4 (.string ⟨#[]⟩) 1 16 Tryz.underlying74 HIS.out.1 HIS.out.2.1 HIS.out.2.2.1 HIS.out.2.2.2 rfl (by omega) (.slice a7 K c7) K (L.map fun a=>Value.string (kS a)) rfl HKR.out ⟨w5.heap.size,0,none⟩ 1 1 [.string kk] rfl rfl HNS.out (by intro u hu;simp at hu;subst hu;rfl) (by have:=HKL.out;unfold maxLen;omega) (by have:=HKL.out;omega) HN6.out ?_;intro v7 w7 ho7 hg7 hz7;have HO7:=hide ho7;have HG7:=hide hg7;clear ho7 hg7 hz7)
      have HB7:Hid (Below n0 w2 w7):=HBX6.out.trans ((Below.refl n0 _).grown HG7.out HN6.out (fun k hk=>(HKR.out.lt k hk).1))
      have HA7:Hid (ARW n0 w7 (.slice a8 K c8) L):=own_apart HAR.out HKR.out (by decide) HG7.out
      obtain ⟨e0,e1,e2,e3,e4⟩:=HXA.out w7 HB7.out
      try dsimp only at e0 e1 e2 e3 e4
      have HN7:Hid (n0≤w7.heap.size):=by show n0≤_;rw [←hn0];exact HB7.out.size
      have HKX:Hid (KRW n0 (w7.alloc (.cells #[.int .i64 kind,.int .i64 at_,.int .i64 sp,.slice ka kl kc,.slice va vl vc] 47)) v7 (L++[⟨kind,at_,sp,ka,kl,kc,xs,va,vl,vc,vs⟩])):=by
       show World.ownsRow _ _ _ _ _ _ _
       rw [lA,List.map_append,←HK.out]
       have h9:=HO7.out
       rw [HKK.out] at h9
       exact aAk h9 fun i cs e1 e2=>((aAb w7 _).block i (lO e2)).trans e2
      have HA8:Hid (World.ownsRow (w7.alloc (.cells #[.int .i64 kind,.int .i64 at_,.int .i64 sp,.slice ka kl kc,.slice va vl vc] 47)) n0 47 5 (.slice a8 K c8) K (rA L)):=by
       have h9:=HA7.out
       unfold ARW at h9
       rw [←HK.out] at h9
       exact aAk h9 fun i cs e1 e2=>((aAb w7 _).block i (lO e2)).trans e2
      have HN8:Hid (n0≤(w7.alloc (.cells #[.int .i64 kind,.int .i64 at_,.int .i64 sp,.slice ka kl kc,.slice va vl vc] 47)).heap.size):=nT HN7.out (aAb w7 _).size
      have HB8:Hid (Below n0 w2 (w7.alloc (.cells #[.int .i64 kind,.int .i64 at_,.int .i64 sp,.slice ka kl kc,.slice va vl vc] 47))):=HB7.out.trans ((aAb w7 _).mono HN7.out)
      have HNA:Hid (∀ (j:Nat) u,(cA ⟨kind,at_,sp,ka,kl,kc,xs,va,vl,vc,vs⟩)[j]?=some u→(w7.alloc (.cells #[.int .i64 kind,.int .i64 at_,.int .i64 sp,.slice ka kl kc,.slice va vl vc] 47)).cell? ((⟨w7.heap.size,0,none⟩:Addr).add j)=some u):=by
       intro j u hu
       rw [add_plain,Nat.zero_add,cell_of_row _ w7.heap.size _ _ _ _ (heap_alloc_new w7 _)]
       simpa [cA] using hu
      obtain ⟨a7',c7',ev7⟩:=own_form2 HO7.out
      subst ev7
      clear HKR HAR HX6 HBX6 HN6 HNS HO7 HG7 HA7
      go_wp2_with (at_builtin;refine wpList_append_own _ rfl (.tmp 75) (.tmp 80) 23 rfl n0 47 i5 (.agg #[.int .i64 0,.int .i64 0,.int .i64 0,.slice none 0 0,.slice none 0 0]) 5 72 Tryz.underlying23 HIA.out.1 HIA.out.2.1 HIA.out.2.2.1 HIA.out.2.2.2 rfl (by omega) (.slice a8 K c8) K (rA L) rfl HA8.out ⟨w7.heap.size,0,none⟩ 1 1 (cA ⟨kind,at_,sp,ka,kl,kc,xs,va,vl,vc,vs⟩) rfl rfl HNA.out (by intro u hu;simp only [cA,List.mem_cons,List.not_mem_nil,or_false] at hu;rcases hu with rfl | rfl | rfl | rfl | rfl<;>rfl) (by have:=HKL.out;unfold maxLen;omega) (by have:=HKL.out;omega) HN8.out ?_;intro v9 w9 ho9 hg9 hz9;have HO9:=hide ho9;have HG9:=hide hg9;clear ho9 hg9 hz9)
      have HB9:Hid (Below n0 w2 w9):=HB8.out.trans ((Below.refl n0 _).grown HG9.out HN8.out (fun k hk=>(HA8.out.lt k hk).1))
      have HK9:Hid (KRW n0 w9 (.slice a7' (K+1) c7') (L++[⟨kind,at_,sp,ka,kl,kc,xs,va,vl,vc,vs⟩])):=own_apart HKX.out HA8.out (by decide) HG9.out
      obtain ⟨a9,c9,ev9⟩:=own_form2 HO9.out
      subst ev9
      have HAX:Hid (ARW n0 w9 (.slice a9 (K+1) c9) (L++[⟨kind,at_,sp,ka,kl,kc,xs,va,vl,vc,vs⟩])):=by
       show World.ownsRow _ _ _ _ _ _ _
       rw [rA_app,lA,←HK.out]
       exact HO9.out
      clear e0 e1 e2 e3 e4 HKX HA8 HNA HO9 HG9
      go_roundg (n-(j+1))
      case measure=>omega
      case rel=>exact ⟨j+1,by omega,rfl,a7',c7',a9,c9,K+1,rfl,rfl,by rw [HLN.out,HE.out,lA,←HK.out];rfl,by rw [HLN.out,HE.out];exact ⟨HK9.out,HAX.out,HB9.out⟩⟩
  ·have ej:j=n:=by omega
   subst ej
   obtain ⟨L,hL⟩:∃ L,keepA q0 j=L:=⟨_,rfl⟩
   have HLL:Hid (L.length≤25):=by show _≤_;rw [←hL];have:=aDd q0 j;omega
   have HLD:Hid (L.Pairwise fun a b=>kS a≠kS b):=by show _;rw [←hL];exact aDq q0 j
   have HLO:Hid (∀ a∈L,a.Ok W):=by
    intro a ha
    rw [←hL] at ha
    obtain ⟨i,h1,rfl⟩:=aDc q0 j a ha
    exact HO0.out i (by omega)
   rw [hL] at HSL HK
   have HU:Hid (Unl (L.flatMap one)):=unl_flat L (fun a ha=>(HLO.out a ha).bs.hbyte) HLD.out
   have HCA:Hid ((L.flatMap one).length≤25):=by
    show _≤_
    have:∀ M:List AV,(M.flatMap one).length≤M.length:=by
     intro M
     induction M with
     | nil=>simp
     | cons a M ih=>have:=aD4 a;rw [List.flatMap_cons,lA,List.length_cons];omega
    exact nT (this L) HLL.out
   clear hL HLD
   have hb0:Below w2.heap.size w2 wr:=by rw [hn0];exact HSL.out.2.2
   have HDA3:=hide (HDA.out.later hb0)
   have HDB3:=hide (HDB.out.later hb0)
   have HBW:Hid (Below W.heap.size W wr):=by show Below _ _ _;rw [HB.out];exact HB2.out.trans (HSL.out.2.2.mono (by have:=HB2.out.size;have:=HB.out;omega))
   have HARW:=hide HSL.out.2.1
   clear hb0 HSL HDA HDB HB2 HAP HO0 HL0 HNW
   have HWA:Hid (W.heap.size≤da):=by show _≤_;rw [HB.out];exact HDA3.out.hd
   have HWB:Hid (W.heap.size≤dbb):=by show _≤_;have:=HWA.out;have:=HDD.out;omega
   have HAP:Hid (AP 0 wr a8 K (fun i=>L.getD i ⟨0,0,0,none,0,0,[],none,0,0,[]⟩)):=by
    show AP _ _ _ _ _
    by_cases h0:0<K
    ·have h9:=HARW.out
     rcases h9.2 with ⟨e,hn⟩ | ⟨g',cap',cur,e,_⟩
     ·rw [←HK.out] at hn;omega
     ·simp only [Value.slice.injEq] at e
      obtain ⟨rfl,_,rfl⟩:=e
      rw [HK.out] at h9
      have:=ARW.ap h9 (i:=0) L.length (by omega)
      rw [HK.out]
      simpa using this
    ·exact fun q=>absurd q h0
   have HR:=hide (run2_ok (cap:=c8) (most:=25) HBW.out HWA.out HDA3.out HAP.out (fun i hi=>by
    rw [HK.out] at hi
    rw [List.getD_eq_getElem?_getD,gE hi]
    exact HLO.out _ (List.getElem_mem hi)) (by have:=HLL.out;have:=HK.out;omega) (by decide) (by decide))
   have HRC:Hid (runC [] (fun i=>L.getD i ⟨0,0,0,none,0,0,[],none,0,0,[]⟩) (min K 25)=L.flatMap one):=by
    show _=_
    rw [runC_one,List.nil_append,Nat.min_eq_left (by rw [HK.out];exact HLL.out)]
    congr 1
    rw [HK.out]
    apply List.ext_getElem (by simp)
    intro i h1 h2
    have h3:i<L.length:=h2
    simp only [List.getElem_map,List.getElem_range,List.getD_eq_getElem?_getD,gE h3,Option.getD_some]
   rw [HRC.out] at HR
   have xk:(K:Int)≤25:=by have:=HLL.out;have:=HK.out;omega
   have HCAP:Hid (K≤c8∧c8≤9223372036854775807):=by
    rcases HARW.out.2 with ⟨e,hn⟩ | ⟨g',cap',cur,e,h5,h6,h7,h8,_⟩
    ·simp only [Value.slice.injEq] at e
     obtain ⟨_,h1,h2⟩:=e
     exact ⟨by omega,by omega⟩
    ·simp only [Value.slice.injEq] at e
     obtain ⟨_,h1,h2⟩:=e
     unfold maxLen at h8
     rw [←HK.out] at h7
     exact ⟨by omega,by omega⟩
   have hx:(¬ (j:Int)<(l0:Int))∨((j:Int)<(l0:Int)∧¬ (j:Int)<25):=by omega
   have hcp:(c8:Int)≤9223372036854775807:=by have:=HCAP.out.2;omega
   have hkc:(K:Int)≤(c8:Int):=by have:=HCAP.out.1;omega
   have HQ:Hid (∀ i,i<L.length→L.getD i ⟨0,0,0,none,0,0,[],none,0,0,[]⟩=L[i]?.getD ⟨0,0,0,none,0,0,[],none,0,0,[]⟩):=fun i hi=>List.getD_eq_getElem?_getD
   obtain ⟨qL,hqL⟩:∃ q:Nat→AV,q=fun i=>L.getD i ⟨0,0,0,none,0,0,[],none,0,0,[]⟩:=⟨_,rfl⟩
   have HQL:Hid (∀ (i:Nat) a,L[i]?=some a→qL i=a):=by
    intro i a ha
    rw [hqL]
    show L.getD i _=a
    rw [List.getD_eq_getElem?_getD,ha]
    rfl
   rw [←hqL] at HAP
   clear hqL HQ HARW HRC
   rcases hx with x1 | ⟨x1,x2⟩
   all_goals
    go_wp2_with fail
    refine HR.out.mono ?_
    rintro e w3 ⟨rfl,va,ha3,hf3⟩
    have HSM:Hid (SM2 B lsa da B2 lsb dbb va (.slice none 0 0) (L.flatMap one) [] a8 K qL W w3):=⟨HDB3.out.oth HDA3.out.dd hf3 (by have:=HDD.out;omega) (fun i hi=>by cases hi),ha3,HAP.out.fr HDA3.out.dd hf3,HBW.out.trans (hf3.bel HDA3.out.dd HWA.out HBW.out.size),fun i hi q=>by cases q⟩
    clear ha3 hf3
    go_wp2_with fail
    go_loopg [14] K (fun gh s14 wx=>s14=.int .i64 ((gh:Int)-1)∧gh≤K∧∃ vb,SM2 B lsa da B2 lsb dbb va vb (L.flatMap one) ((L.drop gh).reverse.flatMap one) a8 K qL W wx)
    case atStart=>exact ⟨rfl,nR _,.slice none 0 0,by rw [show L.drop K=[] from by rw [HK.out,List.drop_length]];exact HSM.out⟩
    case round =>
     obtain ⟨rfl,hg,vb,hS⟩:=hrel
     have HS:=hide hS
     clear hS
     by_cases hj0:0<gk
     ·obtain ⟨i,rfl⟩:∃ i,gk=i+1:=⟨gk-1,by omega⟩
      have ei:(((i+1:Nat):Int)-1)=(i:Int):=by omega
      rw [ei]
      have xi0:(0:Int)≤(i:Int):=by omega
      have xi1:(i:Int)+1≤(c8:Int):=by omega
      have xi2:(i:Int)<25:=by omega
      obtain ⟨ai,hai⟩:∃ a,L[i]?=some a:=⟨_,gE (by rw [←HK.out];omega)⟩
      obtain ⟨b8,o8,e8,_⟩:=HS.out.2.2.1 (by omega)
      subst e8
      have HAI:=hide (AP.one (i:=i) HS.out.2.2.1 (by omega))
      have HR2:=hide (run2_ok (cap:=c8-i) (most:=1) HS.out.2.2.2.1 HWB.out HS.out.1 HAI.out (fun t _=>by rw [HQL.out i ai hai];exact HLO.out ai (mG hai)) (by omega) (by decide) (by
       have:∀ M:List AV,(M.flatMap one).length≤M.length:=by
        intro M
        induction M with
        | nil=>simp
        | cons a M ih=>have:=aD4 a;rw [List.flatMap_cons,lA,List.length_cons];omega
       have h9:=this (L.drop (i+1)).reverse
       rw [List.length_reverse,List.length_drop] at h9
       have:=HLL.out
       omega))
      have HDR:Hid (runC ((L.drop (i+1)).reverse.flatMap one) (fun _=>qL i) (min 1 1)=(L.drop i).reverse.flatMap one):=by
       show addC ((L.drop (i+1)).reverse.flatMap one) (chA (qL i))=_
       rw [addC_one,HQL.out i ai hai]
       have hd:L.drop i=ai::L.drop (i+1):=by
        rw [List.drop_eq_getElem_cons (by rw [←HK.out];omega)]
        congr 1
        exact (List.getElem?_eq_some_iff.1 hai).2
       rw [hd,List.reverse_cons,List.flatMap_append]
       simp [one]
      rw [HDR.out] at HR2
      clear ei hai HAI HDR
      go_wp2_with fail
      refine HR2.out.mono ?_
      rintro e w4 ⟨rfl,vb4,hd4,hf4⟩
      have HS4:=hide (HS.out.next HDD.out HWB.out hd4 hf4)
      clear hd4 hf4 HR2
      go_wp2
      go_roundg i
      case measure=>omega
      case rel=>exact ⟨rfl,by omega,vb4,HS4.out⟩
     ·have e0:gk=0:=by omega
      subst e0
      have HS0:Hid (SM2 B lsa da B2 lsb dbb va vb (L.flatMap one) (L.flatMap one).reverse a8 K qL W wr):=by
       have h9:=HS.out
       rw [List.drop_zero,rev_one] at h9
       exact h9
      clear HS HSM
      go_wp2_with fail
      refine (told13 wr).mono ?_
      rintro e w4 ⟨rfl,hb4⟩
      have HA4:=hide (HS0.out.2.1.later hb4)
      have HB4:=hide (HS0.out.1.later hb4)
      have HW4:Hid (Below W.heap.size W w4):=HS0.out.2.2.2.1.trans (hb4.mono HS0.out.2.2.2.1.size)
      clear hb4 HS0
      have HC:=hide (aCk HA4.out.dd (by have:=HCA.out;omega))
      go_wp2_with fail
      refine HC.out.mono ?_
      rintro e w5 ⟨v5,rfl,hr5,hb5⟩
      have HR5:=hide hr5
      have HA5:=hide (HA4.out.later hb5)
      have HB5:=hide (HB4.out.later hb5)
      have HW5:Hid (Below W.heap.size W w5):=HW4.out.trans (hb5.mono HW4.out.size)
      clear hr5 hb5 HC HA4 HB4 HW4
      have HC:=hide (aCk HB5.out.dd (by rw [List.length_reverse];have:=HCA.out;omega))
      go_wp2_with fail
      refine HC.out.mono ?_
      rintro e w6 ⟨v6,rfl,hr6,hb6⟩
      rw [HU.out.chg] at hr6
      have HSC:=hide (sameC_ok (HR5.out.later hb6 (Nat.zero_le _)) hr6 (by have:=chg_len (L.flatMap one) 16;have:=HCA.out;omega))
      have HA6:=hide (HA5.out.later hb6)
      have HB6:=hide (HB5.out.later hb6)
      have HW6:Hid (Below W.heap.size W w6):=HW5.out.trans (hb6.mono HW5.out.size)
      clear hr6 hb6 HC HA5 HB5 HW5 HR5
      go_wp2_with fail
      refine HSC.out.mono ?_
      rintro e w7 ⟨rfl,hb7⟩
      have HA7:=hide (HA6.out.later hb7)
      have HB7:=hide (HB6.out.later hb7)
      have HW7:Hid (Below W.heap.size W w7):=HW6.out.trans (hb7.mono HW6.out.size)
      clear hb7 HSC HA6 HB6 HW6
      have HAL:=hide (HA7.out.all (by have:=HCA.out;omega))
      go_wp2_with fail
      refine HAL.out.mono ?_
      rintro e w8 ⟨v8,rfl,hr8,hb8⟩
      have HR8:=hide (hr8.up (B2:=max B B2) (by omega))
      have HA8:=hide (HA7.out.later hb8)
      have HB8:=hide (HB7.out.later hb8)
      have HW8:Hid (Below W.heap.size W w8):=HW7.out.trans (hb8.mono HW7.out.size)
      have HMX:Hid (max B B2≤w8.heap.size):=by
       show _≤_
       have:=HA8.out.hd
       have:=HA8.out.dd.bw
       have:=HB8.out.hd
       have:=HB8.out.dd.bw
       omega
      clear hr8 hb8 HAL HA7 HB7 HW7
      have HAL:=hide (HB8.out.all (by rw [List.length_reverse];have:=HCA.out;omega))
      go_wp2_with fail
      refine HAL.out.mono ?_
      rintro e w9 ⟨v9,rfl,hr9,hb9⟩
      rw [HU.out.all] at hr9
      have HSP:=hide (sameP_ok (HR8.out.later hb9 HMX.out) (hr9.up (B2:=max B B2) (by omega)) (by have:=all_len (L.flatMap one) 16;have:=HCA.out;omega))
      have HA9:=hide (HA8.out.later hb9)
      have HB9:=hide (HB8.out.later hb9)
      have HW9:Hid (Below W.heap.size W w9):=HW8.out.trans (hb9.mono HW8.out.size)
      clear hr9 hb9 HAL HA8 HB8 HW8 HR8
      go_wp2_with fail
      refine HSP.out.mono ?_
      rintro e w10 ⟨rfl,hb10⟩
      have HA10:=hide (HA9.out.later hb10)
      have HB10:=hide (HB9.out.later hb10)
      have HW10:Hid (Below B W w10):=by show Below B W w10;rw [←HB.out];exact HW9.out.trans (hb10.mono HW9.out.size)
      clear hb10 HSP HA9 HB9 HW9
      have HM1:=hide (mark_ok HA10.out.dd)
      have HM2:=hide (mark_ok HB10.out.dd)
      rw [List.length_reverse] at HM2
      generalize (L.flatMap one).length=M at *
      go_wp2_with fail
      refine HM1.out.mono ?_
      rintro e w11 ⟨rfl,hw⟩
      have hw:=hw.symm
      subst hw
      clear hw HM1
      go_wp2_with fail
      refine HM2.out.mono ?_
      rintro e w11 ⟨rfl,hw⟩
      have hw:=hw.symm
      subst hw
      clear hw HM2
      go_wp2
      go_ret
      exact ⟨rfl,HW10.out⟩
end Go.Proofs.YthgleplmbnkacaaGreat
namespace Go.Proofs.YthgleplmbnkacaaGreat
open Go.ChangeShapes Go.WideShapes Go.ChangeAt Go.RowKit
set_option linter.unusedVariables false
theorem aCv (os:Os) (started:os.Started) (H:Type) (enc:TypeId×Value→H) :
  ReturnsInHanded {} Tryz.checked os 5 .any (Rows.draftSameSpec.pre6 enc Tryz.prog Tryz.f5 Rows.draftSameRow.domain false) (Rows.draftSameSpec.post enc Tryz.prog Tryz.f5 false true false false):=by
 refine returnsInHanded_of_change_sized (C:=Tryz.checked) own started (by kernel_rfl) Tryz.func5
  (ChangeSpec.witness6 (enc:=enc) (C:=Tryz.checked) false ⟨#[],#[.slice none 0 0],[]⟩ 8 (by kernel_rfl) (by kernel_rfl) (by kernel_rfl) (by kernel_rfl)) ?_
 intro W base args ds gs before hval0 hW hcnd hsz0 _
 have hval:∀ (j:Nat) t v,Tryz.f5.params[j]?=some t→args[j]?=some v→Value.okWide Tryz.prog W .any base t v:=hval0
 have hsz:(DataW.weightsEach Tryz.prog (Tryz.f5.params.toList++Rows.draftSameSpec.plain.varTypes Tryz.prog) (ds++gs)).all (·≤reachBytes)=true:=hsz0
 have hW':=hW
 obtain ⟨p,q,hA0,hV,rfl,hfz,hnd⟩:=hW
 have hA:DataW.TrodAll enc Tryz.prog W 0 (fun _=>true) true Tryz.f5.params.toList args.toList ds p:=hA0
 rw [Tryz.params5] at hA hval hsz
 obtain ⟨v0,vs0,d0,ds0,p0,q0,hargs,rfl,rfl,h0,r0⟩:=trodAll_cons hA
 obtain ⟨rfl,rfl,rfl⟩:=trodAll_nil r0
 obtain rfl:args=#[v0]:=by cases args;simp_all
 obtain ⟨rfl,rfl⟩:=trodVars_none hV
 obtain ⟨a0,len0,cap0,rfl⟩:=okWide_slice Tryz.underlying23 (hval 0 23 v0 rfl rfl)
 have k0:=h0
 have lt0:∀ x∈p0,x.block<W.heap.size:=by obtain ⟨m,hm⟩:=k0;exact DataW.trod_lt m _ _ _ hm
 obtain ⟨xs0,w0⟩:=open_as h0
 clear hA0 hval0 hsz0
 refine (aDm a0 len0 cap0 xs0 W w0).mono fun e W' ⟨he,bel⟩=>?_
 subst he
 exact ⟨_,rfl,_,_,_,[],_,[],hW',trodAll_mk1 (shut_bool Tryz.underlying4 _),(trodAll_cons_mk (Below.trod laidOut (by kernel_rfl) (of_decide_eq_true (by kernel_rfl)) k0 bel lt0) trodAll_mk0),rfl,bel.frame _,fun h=>by cases h⟩
theorem draftSame_holds:Rows.DraftSameSaid :=
 OpenClaim.holds_of_wide 5 Tryz.f5 rfl rfl rfl rfl rfl rfl rfl ⟨rfl,rfl,rfl,rfl,rfl⟩ rfl rfl rfl rfl rfl (by kernel_rfl) Tryz.func5 (by kernel_rfl)
  (of_decide_eq_true (by kernel_rfl)) (by unfold Func.isWrapper;first | (rw [if_pos (by decide +kernel)];kernel_rfl) | (rw [if_neg (by decide +kernel)];exact ⟨rfl,rfl⟩))
  (fun os started H enc _=>aCv os started H enc)
#print axioms draftSame_holds
end Go.Proofs.YthgleplmbnkacaaGreat
