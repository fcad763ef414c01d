/- The law RegisterApart holds for every input: called with whatever values of its parameters' types it returns true, and each argument reads afterwards as it read before. No condition beyond the form's own reach. -/
import Derived.Test.YtgfpmfafegcpiaaGreatZ46
import Derived.Test.YtgfpmfafegcpiaaGreatZ18
set_option maxRecDepth 100000
set_option maxHeartbeats 16000000
set_option linter.unusedVariables false
namespace Go.Proofs.YtgfpmfafegcpiaaGreat
open Go.RowKit
theorem act_bs {B m c:Nat} {W w:World} {a:Option Addr} {xs:List Nat} (hB:W.heap.size=B) (h:BS W a m c xs) (hb:Below B W w):∀ w',FT B w w'→BS w' a m c xs:=by
 intro w' f
 exact h.later (hb.trans f.1) (by rw [hB];exact nR B)
theorem and15 (z:Int):∃ v:Nat,v≤15∧bits BinOp.and IntKind.i64 z 15=(v:Int):=⟨(z % 16).toNat,by omega,by rw [i64_mask z 4 (by omega) 15 (by decide)];omega⟩
theorem and1023 (z:Int):∃ v:Nat,v≤1023∧bits BinOp.and IntKind.i64 z 1023=(v:Int):=⟨(z % 1024).toNat,by omega,by rw [i64_mask z 10 (by omega) 1023 (by decide)];omega⟩
theorem aDg (a0:Option Addr) (T cap0:Nat) (q0:Nat→AV) (a1:Option Addr) (T1 cap1:Nat) (q1:Nat→AV) (ver:Int) (W:World) (h0:AS W a0 T q0) (h1:AS W a1 T1 q1) :
  Calls Tryz.prog 4 #[.slice a0 T cap0,.slice a1 T1 cap1,.int .i64 ver] W fun e w'=>e=.returned (.bool true)∧Below W.heap.size W w':=by
 letI:Gd:=⟨none⟩
 have hg0:Hid (Gd.g=none):=rfl
 have lt:∀ {k:Nat} {o:Obj} {ww:World},ww.heap[k]?=some o→k<ww.heap.size:=fun e=>(lO e)
 have hT63:=h0.hl
 have hT64:=h1.hl
 obtain ⟨b0,o0,H0⟩:∃ b o,Hid (0<T→a0=some ⟨b,o,none⟩∧∀ i,i<T→AC W b (o+i*8) (q0 i)∧(q0 i).Ok W):=by
  by_cases hG:0<T
  ·obtain ⟨b,o,h3⟩:=h0.place hG
   exact ⟨b,o,hide fun _=>h3⟩
  ·exact ⟨0,0,hide fun h=>absurd h hG⟩
 obtain ⟨b1,o1,H1⟩:∃ b o,Hid (0<T1→a1=some ⟨b,o,none⟩∧∀ i,i<T1→AC W b (o+i*8) (q1 i)∧(q1 i).Ok W):=by
  by_cases hG:0<T1
  ·obtain ⟨b,o,h3⟩:=h1.place hG
   exact ⟨b,o,hide fun _=>h3⟩
  ·exact ⟨0,0,hide fun h=>absurd h hG⟩
 obtain ⟨v,hv15,hmv⟩:=and15 ver
 obtain ⟨s0,hs0⟩:∃ s,s=DS.new 300:=⟨_,rfl⟩
 have HS0:=hide hs0
 have HNW:=hide (new_any W.heap.size 300 W (by omega) (by omega) (nR _) hg0.out)
 rw [←hs0] at HNW
 clear hs0 h0 h1
 generalize hB:W.heap.size=B at *
 go_enter Tryz.func4,Tryz.ntmps4
 go_wp2_with fail
 refine HNW.out.mono ?_
 rintro e w1 ⟨p,rfl,hD,hb1⟩
 have HOP:=hide (law_open (W:=W) (n:=300) HS0.out hD (by have:=hb1.size;omega) hb1 (by decide) (by decide))
 clear hD hb1 HNW
 go_wp2_with fail
 refine HOP.out.mono ?_
 rintro e w2 ⟨q,g,ls,rg,rfl,h2⟩
 have HX0:Hid (RX B p q g ls rg 0 R0 W w2):=⟨0,0,[],h2,RL.nil,by simp,by omega,by omega⟩
 clear h2 HOP
 go_wp2_with fail
 go_loopw [10,11] (fun tp i wx=>∃ (j t:Nat) (R:Nat→Rec),j≤15∧i=.int .i64 j∧tp=.int .i64 t∧t≤1023∧RX B p q g ls rg j R W wx∧(R v).1≤t) (fun _ i _=>15-(intOf i).toNat)
 case atStart=>exact ⟨0,0,R0,by omega,rfl,rfl,by omega,HX0.out,nR _⟩
 case round =>
  obtain ⟨j,t,R,hj,rfl,rfl,ht,hX,hRt⟩:=hrel
  have HX:=hide hX
  have HRT:=hide hRt
  clear hX hRt HX0
  obtain ⟨cb,hcb⟩:∃ cb,cb=decide (j<T∧j<15):=⟨_,rfl⟩
  go_upto_region 10 with fail
  go_cut [36] from 29 to 74 (fun c wx=>c=.bool cb∧wr=wx)
  case first =>
   have HCB:=hide hcb
   clear hcb
   by_cases q1:j<T
   ·have i1:(j:Int)<(T:Int):=by omega
    have d1:decide ((j:Int)<(T:Int))=true:=by simp;omega
    by_cases q2:j<15
    ·have i2:(j:Int)<15:=by omega
     go_wp2
     go_meet
     exact ⟨by rw [HCB.out];simp [q1,q2],rfl⟩
    ·have i2:¬ (j:Int)<15:=by omega
     go_wp2
     go_meet
     exact ⟨by rw [HCB.out];simp [q1,q2],rfl⟩
   ·have i1:¬ (j:Int)<(T:Int):=by omega
    have d1:decide ((j:Int)<(T:Int))=false:=by simp;omega
    go_wp2
    go_meet
    exact ⟨by rw [HCB.out];simp [q1],rfl⟩
  case rest =>
   obtain ⟨rfl,rfl⟩:=hcut
   cases cb with
   | true =>
    have hjj:j<T∧j<15:=by simpa using hcb.symm
    clear hcb
    have i1:(j:Int)<(T:Int):=by omega
    obtain ⟨hpl,hcs⟩:=H0.out (by omega)
    subst hpl
    obtain ⟨hac,hok⟩:=hcs j hjj.1
    have cc:∀ {o:Nat} {x:Value},W.cell? ⟨b0,o,none⟩=some x→wr.cell? ⟨b0,o,none⟩=some x:=fun e=>(HX.out.be.cell (p:=⟨b0,_,none⟩) (by rw [←hB];exact block_lt_of_cell e)).trans e
    have c0:=cc hac.c0
    have c2:=cc hac.c2
    have c3:=cc hac.c3
    obtain ⟨nb,hnb,hmb⟩:=and1023 (q0 j).bit
    obtain ⟨m,hm⟩:∃ m,m=max t nb:=⟨_,rfl⟩
    have x1:max (t:Int) (nb:Int)=(m:Int):=by omega
    have x2:(if (t:Int)<(nb:Int) then (nb:Int) else (t:Int))=(m:Int):=by split<;>omega
    have HM:Hid (t≤m∧nb≤m∧m≤1023):=⟨by omega,by omega,by omega⟩
    have HOK:=hide hok
    obtain ⟨kd,hkd⟩:∃ kd,(q0 j).kind=kd:=⟨_,rfl⟩
    obtain ⟨aa,haa⟩:∃ x,(q0 j).a=x:=⟨_,rfl⟩
    obtain ⟨ll,hll⟩:∃ x,(q0 j).l=x:=⟨_,rfl⟩
    obtain ⟨lc,hlc⟩:∃ x,(q0 j).c=x:=⟨_,rfl⟩
    rw [hkd] at c0
    rw [haa,hll,hlc] at c3
    have HW3:Hid (W.cell? ⟨b0,o0+j*8+3,none⟩=some (.slice aa ll lc)):=by have:=hac.c3;rw [haa,hll,hlc] at this;exact this
    have HLT:Hid (b0<W.heap.size):=block_lt_of_cell HW3.out
    clear hcs hac hok hm
    by_cases hk0:kd=0
    ·subst hk0
     have HPR:=hide (HX.out.prep hg0.out (by omega) (ver:=(v:Int)) (b:=(nb:Int)) (by omega))
     go_wp2_with fail
     refine HPR.out.mono ?_
     rintro e w3 ⟨⟨av,rfl⟩,R',hX',h3,h4,h5,h6⟩
     have HX':=hide hX'
     have HR':Hid ((R' v).1≤m):=h4 v m (nT HRT.out HM.out.1) (by have:=HM.out;omega)
     clear hX' h3 h4 h5 h6 HPR
     go_wp2_with fail
     go_roundw
     case rel=>exact ⟨j+1,m,R',by omega,by go_num,rfl,HM.out.2.2,HX'.out,HR'.out⟩
     case measure=>simp [intOf];omega
    ·obtain ⟨mm,hmm⟩:∃ mm,mm=min ll 50:=⟨_,rfl⟩
     have hcl:=HOK.out.lc
     have hcm:=HOK.out.cm
     rw [hll,hlc] at hcl
     rw [hlc] at hcm
     have em:min (ll:Int) 50=(mm:Int):=by omega
     have u0:(0:Int)≤(mm:Int):=by omega
     have v0:(mm:Int)≤(lc:Int):=by omega
     have y0:(lc:Int)≤9223372036854775807:=by omega
     have hbs:=HOK.out.bs
     rw [haa,hll,hlc,←hmm] at hbs
     have hdr:Below wr.heap.size wr wr.drew:=(Below.refl _ _).drew
     have HXD:=hide (HX.out.later hdr)
     have HAC:=hide (HXD.out.acc hg0.out (by omega) (ver:=(v:Int)) (b:=(nb:Int)) (by omega) (act_bs hB hbs HXD.out.be) (by omega))
     have HS0:Hid ((fun wx=>wx.cell? ⟨b0,o0+j*8+3,none⟩=some (.slice aa ll lc)) wr.drew):=c3
     clear hbs hdr hcl hcm hmm
     go_upto_region 16 with fail
     refine wp_region_noPanic ?_
     refine wp_region_held_drew (S:=fun wx=>wx.cell? ⟨b0,o0+j*8+3,none⟩=some (.slice aa ll lc)) (by kernel_rfl) HS0.out (fun hHeld=>?_)
     refine wpAnyH_tk 0 58 ?_
     refine wpAnyH_tk 1 59 ?_
     refine wpAnyH_tk 2 60 ?_
     refine wpAnyH_tk 3 61 ?_
     refine wpAnyH_tk 4 62 ?_
     refine wpAnyH_tk 5 63 ?_
     refine wpAnyH_tk 6 64 ?_
     refine wpAnyH_tk 7 65 ?_
     refine wpAnyH_tk 8 66 ?_
     refine wpAnyH_tk 9 67 ?_
     refine wpAnyH_tk 10 68 ?_
     refine wpAnyH_tk 11 69 ?_
     refine wpAnyH_tk 12 70 ?_
     refine wpAnyH_tk 13 71 ?_
     refine wpAnyH_tk 14 72 ?_
     refine wpAnyH_tk 15 73 ?_
     refine wpAnyH_cm 16 ?_;intro K hK
     go_simp
     refine HAC.out.mono ?_
     rintro e w3 ⟨⟨av,rfl⟩,R',hX',h3,h4,h5,h6⟩
     have HX':=hide hX'
     have HR':Hid ((R' v).1≤m):=h4 v m (nT HRT.out HM.out.1) (by have:=HM.out;omega)
     have HS3:Hid ((fun wx=>wx.cell? ⟨b0,o0+j*8+3,none⟩=some (.slice aa ll lc)) w3):=(hX'.be.cell (p:=⟨b0,_,none⟩) (by rw [←hB];exact HLT.out)).trans HW3.out
     clear hX' h3 h4 h5 h6 hHeld
     refine hK.out _ _ HS3.out (fun hHeld=>?_)
     clear hK K
     try simp only [Act.put,siT,scZ,scS]
     refine wpAnyH_done (by kernel_rfl) ?_ _
     refine NoPanic.normal ?_
     clear hHeld HAC
     go_wp2_with fail
     go_roundw
     case rel=>exact ⟨j+1,m,R',by omega,by go_num,rfl,HM.out.2.2,HX'.out,HR'.out⟩
     case measure=>simp [intOf];omega
   | false =>
    have hjj:¬ (j<T∧j<15):=by simpa using hcb.symm
    clear hcb hjj
    obtain ⟨t1,ht1⟩:∃ t1,t1=t+1:=⟨_,rfl⟩
    obtain ⟨t2,ht2⟩:∃ t2,t2=t+2:=⟨_,rfl⟩
    have e1:(t:Int)+1=(t1:Int):=by omega
    have e2:(t1:Int)+1=(t2:Int):=by omega
    have e3:(t:Int)+2=(t2:Int):=by omega
    have HT1:=hide ht1
    have HT2:=hide ht2
    have HPK:=hide (HX.out.prepOk hg0.out (by omega) (v:=v) (b:=t1) (by omega) (by omega) (by omega) (by have:=HRT.out;omega))
    generalize hRv:R v=rv at *
    obtain ⟨rp,rl,rval⟩:=rv
    have HRV:=hide hRv
    clear ht1 ht2 hRv
    generalize hvn:(if rl=0 then 0 else rval.length)=vn at *
    generalize hvs:(if rl=0 then [] else rval)=vs at *
    have HVN:=hide hvn
    have HVS:=hide hvs
    clear hvn hvs
    go_wp2_with fail
    refine HPK.out.mono ?_
    rintro e w4 ⟨⟨av,rfl,va,vc,hav,hk4⟩,hX4,hf4,hn4⟩
    replace hav:av=.agg #[.int .i64 0,.int .i64 (t1:Int),.bool false,.int .i64 0,.int .i64 (rl:Int),.slice va vn vc]:=by rw [hav];show Value.agg #[_,_,_,_,_,.slice va (if rl=0 then 0 else rval.length) vc]=_;rw [HVN.out]
    replace hk4:BK B w4 va vn vc vs:=by rw [←HVN.out,←HVS.out];exact hk4
    subst hav
    have HB5:=hide (aAb w4 (.cells #[.int .i64 0,.int .i64 (t1:Int),.bool false,.int .i64 0,.int .i64 (rl:Int),.slice va vn vc] 36))
    have HN5:Hid ((w4.alloc (.cells #[.int .i64 0,.int .i64 (t1:Int),.bool false,.int .i64 0,.int .i64 (rl:Int),.slice va vn vc] 36)).heap[w4.heap.size]?=some (.cells #[.int .i64 0,.int .i64 (t1:Int),.bool false,.int .i64 0,.int .i64 (rl:Int),.slice va vn vc] 36 (0,0))):=heap_alloc_new w4 _
    have HX5:=hide (hX4.later HB5.out)
    have HK5:=hide (hk4.later HB5.out hX4.bw)
    have HBN:Hid (B≤w4.heap.size):=hX4.bw
    have HR5:Hid (upR R v (t1,rl,rval) v=(t1,rl,rval)):=by show _=_;unfold upR;rw [if_pos rfl]
    clear hX4 hf4 hn4 hk4 HPK
    go_upto_region 18 with fail
    generalize w4.alloc (.cells #[.int .i64 0,.int .i64 (t1:Int),.bool false,.int .i64 0,.int .i64 (rl:Int),.slice va vn vc] 36)=w5 at *
    generalize w4.heap.size=nW at *
    generalize upR R v (t1,rl,rval)=R5 at *
    go_wp2_with fail
    go_loopw [14] (fun i wx=>∃ (k:Nat) (R':Nat→Rec),k≤20∧i=.int .i64 k∧RX B p q g ls rg (j+1+k) R' W wx∧R' v=(t1,rl,rval)∧wx.heap[nW]?=some (.cells #[.int .i64 0,.int .i64 (t1:Int),.bool false,.int .i64 0,.int .i64 (rl:Int),.slice va vn vc] 36 (0,0))∧BK B wx va vn vc vs) (fun i _=>20-(intOf i).toNat)
    case atStart=>exact ⟨0,R5,by omega,rfl,HX5.out,HR5.out,HN5.out,HK5.out⟩
    case round =>
     obtain ⟨k,R',hk,rfl,hX,hRv,hN,hK⟩:=hrel
     have HX:=hide hX
     have HRV:=hide hRv
     have HNN:=hide hN
     have HKK:=hide hK
     clear hX hRv hN hK HX5 HR5 HN5 HK5
     obtain ⟨cb,hcb⟩:∃ cb,cb=decide (k<T1∧k<20):=⟨_,rfl⟩
     go_upto_region 19 with fail
     go_cut [87] from 80 to 133 (fun c wx=>c=.bool cb∧wr=wx)
     case first =>
      have HCB:=hide hcb
      clear hcb
      by_cases q1:k<T1
      ·have i1:(k:Int)<(T1:Int):=by omega
       have d1:decide ((k:Int)<(T1:Int))=true:=by simp;omega
       by_cases q2:k<20
       ·have i2:(k:Int)<20:=by omega
        go_wp2
        go_meet
        exact ⟨by rw [HCB.out];simp [q1,q2],rfl⟩
       ·have i2:¬ (k:Int)<20:=by omega
        go_wp2
        go_meet
        exact ⟨by rw [HCB.out];simp [q1,q2],rfl⟩
      ·have i1:¬ (k:Int)<(T1:Int):=by omega
       have d1:decide ((k:Int)<(T1:Int))=false:=by simp;omega
       go_wp2
       go_meet
       exact ⟨by rw [HCB.out];simp [q1],rfl⟩
     case rest =>
      obtain ⟨rfl,rfl⟩:=hcut
      cases cb with
      | true =>
       have hjj:k<T1∧k<20:=by simpa using hcb.symm
       clear hcb
       have i1:(k:Int)<(T1:Int):=by omega
       obtain ⟨hpl,hcs⟩:=H1.out (by omega)
       subst hpl
       obtain ⟨hac,hok⟩:=hcs k hjj.1
       have cc:∀ {o:Nat} {x:Value},W.cell? ⟨b1,o,none⟩=some x→wr.cell? ⟨b1,o,none⟩=some x:=fun e=>(HX.out.be.cell (p:=⟨b1,_,none⟩) (by rw [←hB];exact block_lt_of_cell e)).trans e
       have HW2:=hide hac.c2
       have HW3:=hide hac.c3
       have c0:=cc hac.c0
       have c1:=cc hac.c1
       have c2:=cc hac.c2
       have c3:=cc hac.c3
       have HOK:=hide hok
       obtain ⟨kk,hkk,hmk⟩:=and15 (q1 k).at_
       obtain ⟨kd,hkd⟩:∃ kd,(q1 k).kind=kd:=⟨_,rfl⟩
       obtain ⟨at1,hat⟩:∃ x,(q1 k).at_=x:=⟨_,rfl⟩
       obtain ⟨bl,hbl⟩:∃ bl,(q1 k).bit=bl:=⟨_,rfl⟩
       obtain ⟨aa,haa⟩:∃ x,(q1 k).a=x:=⟨_,rfl⟩
       obtain ⟨ll,hll⟩:∃ x,(q1 k).l=x:=⟨_,rfl⟩
       obtain ⟨lc,hlc⟩:∃ x,(q1 k).c=x:=⟨_,rfl⟩
       rw [hkd] at c0
       rw [hat] at c1 hmk
       rw [hbl] at c2 HW2
       rw [haa,hll,hlc] at c3 HW3
       have HBT:Hid (bl<9223372036854775808):=by show _<_;have:=hok.bt;rw [hbl] at this;omega
       have HLT:Hid (b1<W.heap.size):=block_lt_of_cell HW3.out
       obtain ⟨mm,hmm⟩:∃ mm,mm=min ll 50:=⟨_,rfl⟩
       have hcl:=hok.lc
       have hcm:=hok.cm
       rw [hll,hlc] at hcl
       rw [hlc] at hcm
       have em:min (ll:Int) 50=(mm:Int):=by omega
       have u0:(0:Int)≤(mm:Int):=by omega
       have v0:(mm:Int)≤(lc:Int):=by omega
       have y0:(lc:Int)≤9223372036854775807:=by omega
       have hbs:=hok.bs
       rw [haa,hll,hlc,←hmm] at hbs
       have HBS:=hide hbs
       have HMM:Hid (mm≤50):=by show _≤_;omega
       clear hcs hac hok hbs hcl hcm hmm hkd hat hbl haa hll hlc HOK
       by_cases hkv:kk=v
       ·have z1:(kk:Int)=(v:Int):=by omega
        have HNE:Hid ((v:Int)≠16):=by show _≠_;omega
        clear hkv
        by_cases hk0:kd=0
        ·subst hk0
         have HPR:=hide (HX.out.prep hg0.out (by omega) (ver:=16) (b:=bl) HBT.out)
         go_wp2_with fail
         refine HPR.out.mono ?_
         rintro e w3 ⟨⟨av,rfl⟩,R2,hX2,h3,h4,h5,h6⟩
         have HX2:Hid (RX B p q g ls rg (j+1+(k+1)) R2 W w3):=hX2
         have HRV2:Hid (R2 v=(t1,rl,rval)):=(h3 v HNE.out).trans HRV.out
         have HN2:=hide (h6 _ _ HNN.out)
         have HK2:=hide (HKK.out.ft h5)
         clear hX2 h3 h4 h5 h6 HPR
         go_wp2_with fail
         go_roundw
         case rel=>exact ⟨k+1,R2,by omega,by go_num,HX2.out,HRV2.out,HN2.out,HK2.out⟩
         case measure=>simp [intOf];omega
        ·have hdr:Below wr.heap.size wr wr.drew:=(Below.refl _ _).drew
         have HXD:=hide (HX.out.later hdr)
         have HAC:=hide (HXD.out.acc hg0.out (by omega) (ver:=16) (b:=bl) HBT.out (act_bs hB HBS.out HXD.out.be) (by have:=HMM.out;omega))
         have HS0:Hid ((fun wx=>wx.cell? ⟨b1,o1+k*8+2,none⟩=some (.int .i64 bl)∧wx.cell? ⟨b1,o1+k*8+3,none⟩=some (.slice aa ll lc)) wr.drew):=⟨c2,c3⟩
         clear hdr
         go_upto_region 26 with fail
         refine wp_region_noPanic ?_
         refine wp_region_held_drew (S:=fun wx=>wx.cell? ⟨b1,o1+k*8+2,none⟩=some (.int .i64 bl)∧wx.cell? ⟨b1,o1+k*8+3,none⟩=some (.slice aa ll lc)) (by kernel_rfl) HS0.out (fun hHeld=>?_)
         refine wpAnyH_tk 0 113 ?_
         refine wpAnyH_tk 1 114 ?_
         refine wpAnyH_tk 2 115 ?_
         refine wpAnyH_tk 3 116 ?_
         refine wpAnyH_tk 4 117 ?_
         refine wpAnyH_tk 5 118 ?_
         refine wpAnyH_tk 6 119 ?_
         refine wpAnyH_tk 7 120 ?_
         refine wpAnyH_tk 8 121 ?_
         refine wpAnyH_tk 9 122 ?_
         refine wpAnyH_tk 10 123 ?_
         refine wpAnyH_tk 11 124 ?_
         refine wpAnyH_tk 12 125 ?_
         refine wpAnyH_tk 13 126 ?_
         refine wpAnyH_tk 14 127 ?_
         refine wpAnyH_tk 15 128 ?_
         refine wpAnyH_tk 16 129 ?_
         refine wpAnyH_tk 17 130 ?_
         refine wpAnyH_tk 18 131 ?_
         refine wpAnyH_tk 19 132 ?_
         refine wpAnyH_cm 20 ?_;intro K hK
         go_simp
         refine HAC.out.mono ?_
         rintro e w3 ⟨⟨av,rfl⟩,R2,hX2,h3,h4,h5,h6⟩
         have HS3:Hid ((fun wx=>wx.cell? ⟨b1,o1+k*8+2,none⟩=some (.int .i64 bl)∧wx.cell? ⟨b1,o1+k*8+3,none⟩=some (.slice aa ll lc)) w3):=⟨(hX2.be.cell (p:=⟨b1,_,none⟩) (by rw [←hB];exact HLT.out)).trans HW2.out,(hX2.be.cell (p:=⟨b1,_,none⟩) (by rw [←hB];exact HLT.out)).trans HW3.out⟩
         have HX2:Hid (RX B p q g ls rg (j+1+(k+1)) R2 W w3):=hX2
         have HRV2:Hid (R2 v=(t1,rl,rval)):=(h3 v HNE.out).trans HRV.out
         have HN2:=hide (h6 _ _ HNN.out)
         have HK2:=hide ((HKK.out.later (Below.refl _ _).drew HX.out.bw).ft h5)
         clear hX2 h3 h4 h5 h6 hHeld
         refine hK.out _ _ HS3.out (fun hHeld=>?_)
         clear hK K
         try simp only [Act.put,siT,scZ,scS]
         refine wpAnyH_done (by kernel_rfl) ?_ _
         refine NoPanic.normal ?_
         clear hHeld HAC
         go_wp2_with fail
         go_roundw
         case rel=>exact ⟨k+1,R2,by omega,by go_num,HX2.out,HRV2.out,HN2.out,HK2.out⟩
         case measure=>simp [intOf];omega
       ·have z1:¬ (kk:Int)=(v:Int):=by omega
        have HNE:Hid ((v:Int)≠(kk:Int)):=by show _≠_;omega
        clear hkv
        by_cases hk0:kd=0
        ·subst hk0
         have HPR:=hide (HX.out.prep hg0.out (by omega) (ver:=(kk:Int)) (b:=bl) HBT.out)
         go_wp2_with fail
         refine HPR.out.mono ?_
         rintro e w3 ⟨⟨av,rfl⟩,R2,hX2,h3,h4,h5,h6⟩
         have HX2:Hid (RX B p q g ls rg (j+1+(k+1)) R2 W w3):=hX2
         have HRV2:Hid (R2 v=(t1,rl,rval)):=(h3 v HNE.out).trans HRV.out
         have HN2:=hide (h6 _ _ HNN.out)
         have HK2:=hide (HKK.out.ft h5)
         clear hX2 h3 h4 h5 h6 HPR
         go_wp2_with fail
         go_roundw
         case rel=>exact ⟨k+1,R2,by omega,by go_num,HX2.out,HRV2.out,HN2.out,HK2.out⟩
         case measure=>simp [intOf];omega
        ·have hdr:Below wr.heap.size wr wr.drew:=(Below.refl _ _).drew
         have HXD:=hide (HX.out.later hdr)
         have HAC:=hide (HXD.out.acc hg0.out (by omega) (ver:=(kk:Int)) (b:=bl) HBT.out (act_bs hB HBS.out HXD.out.be) (by have:=HMM.out;omega))
         have HS0:Hid ((fun wx=>wx.cell? ⟨b1,o1+k*8+2,none⟩=some (.int .i64 bl)∧wx.cell? ⟨b1,o1+k*8+3,none⟩=some (.slice aa ll lc)) wr.drew):=⟨c2,c3⟩
         clear hdr
         go_upto_region 26 with fail
         refine wp_region_noPanic ?_
         refine wp_region_held_drew (S:=fun wx=>wx.cell? ⟨b1,o1+k*8+2,none⟩=some (.int .i64 bl)∧wx.cell? ⟨b1,o1+k*8+3,none⟩=some (.slice aa ll lc)) (by kernel_rfl) HS0.out (fun hHeld=>?_)
         refine wpAnyH_tk 0 113 ?_
         refine wpAnyH_tk 1 114 ?_
         refine wpAnyH_tk 2 115 ?_
         refine wpAnyH_tk 3 116 ?_
         refine wpAnyH_tk 4 117 ?_
         refine wpAnyH_tk 5 118 ?_
         refine wpAnyH_tk 6 119 ?_
         refine wpAnyH_tk 7 120 ?_
         refine wpAnyH_tk 8 121 ?_
         refine wpAnyH_tk 9 122 ?_
         refine wpAnyH_tk 10 123 ?_
         refine wpAnyH_tk 11 124 ?_
         refine wpAnyH_tk 12 125 ?_
         refine wpAnyH_tk 13 126 ?_
         refine wpAnyH_tk 14 127 ?_
         refine wpAnyH_tk 15 128 ?_
         refine wpAnyH_tk 16 129 ?_
         refine wpAnyH_tk 17 130 ?_
         refine wpAnyH_tk 18 131 ?_
         refine wpAnyH_tk 19 132 ?_
         refine wpAnyH_cm 20 ?_;intro K hK
         go_simp
         refine HAC.out.mono ?_
         rintro e w3 ⟨⟨av,rfl⟩,R2,hX2,h3,h4,h5,h6⟩
         have HS3:Hid ((fun wx=>wx.cell? ⟨b1,o1+k*8+2,none⟩=some (.int .i64 bl)∧wx.cell? ⟨b1,o1+k*8+3,none⟩=some (.slice aa ll lc)) w3):=⟨(hX2.be.cell (p:=⟨b1,_,none⟩) (by rw [←hB];exact HLT.out)).trans HW2.out,(hX2.be.cell (p:=⟨b1,_,none⟩) (by rw [←hB];exact HLT.out)).trans HW3.out⟩
         have HX2:Hid (RX B p q g ls rg (j+1+(k+1)) R2 W w3):=hX2
         have HRV2:Hid (R2 v=(t1,rl,rval)):=(h3 v HNE.out).trans HRV.out
         have HN2:=hide (h6 _ _ HNN.out)
         have HK2:=hide ((HKK.out.later (Below.refl _ _).drew HX.out.bw).ft h5)
         clear hX2 h3 h4 h5 h6 hHeld
         refine hK.out _ _ HS3.out (fun hHeld=>?_)
         clear hK K
         try simp only [Act.put,siT,scZ,scS]
         refine wpAnyH_done (by kernel_rfl) ?_ _
         refine NoPanic.normal ?_
         clear hHeld HAC
         go_wp2_with fail
         go_roundw
         case rel=>exact ⟨k+1,R2,by omega,by go_num,HX2.out,HRV2.out,HN2.out,HK2.out⟩
         case measure=>simp [intOf];omega
      | false =>
       clear hcb
       have HPK:=hide (HX.out.prepOk hg0.out (by omega) (v:=v) (b:=t2) (by omega) (by have:=HT2.out;omega) (by have:=HT2.out;omega) (by rw [HRV.out];have:=HT1.out;have:=HT2.out;show t1<t2;omega))
       rw [HRV.out] at HPK
       go_wp2_with fail
       refine HPK.out.mono ?_
       rintro e w7 ⟨⟨av,rfl,vb,vd,hav,hk7⟩,hX7,hf7,hn7⟩
       replace hav:av=.agg #[.int .i64 0,.int .i64 (t2:Int),.bool false,.int .i64 0,.int .i64 (rl:Int),.slice vb vn vd]:=by rw [hav];show Value.agg #[_,_,_,_,_,.slice vb (if rl=0 then 0 else rval.length) vd]=_;rw [HVN.out]
       replace hk7:BK B w7 vb vn vd vs:=by rw [←HVN.out,←HVS.out];exact hk7
       subst hav
       have HB8:=hide (aAb w7 (.cells #[.int .i64 0,.int .i64 (t2:Int),.bool false,.int .i64 0,.int .i64 (rl:Int),.slice vb vn vd] 36))
       have HM8:Hid ((w7.alloc (.cells #[.int .i64 0,.int .i64 (t2:Int),.bool false,.int .i64 0,.int .i64 (rl:Int),.slice vb vn vd] 36)).heap[w7.heap.size]?=some (.cells #[.int .i64 0,.int .i64 (t2:Int),.bool false,.int .i64 0,.int .i64 (rl:Int),.slice vb vn vd] 36 (0,0))):=heap_alloc_new w7 _
       have HN7:=hide (hn7 _ _ HNN.out)
       have HN8:=hide ((HB8.out.block nW (lt HN7.out)).trans HN7.out)
       have HNE:Hid (w7.heap.size≠nW):=by show _≠_;have:=lt HN7.out;omega
       have HA8:=hide ((HKK.out.ft hf7).later HB8.out hX7.bw)
       have HK8:=hide (hk7.later HB8.out hX7.bw)
       have HBE:Hid (Below B W (w7.alloc (.cells #[.int .i64 0,.int .i64 (t2:Int),.bool false,.int .i64 0,.int .i64 (rl:Int),.slice vb vn vd] 36))):=hX7.be.trans (HB8.out.mono hX7.bw)
       clear hX7 hf7 hn7 hk7 HPK
       go_upto_region 28 with fail
       generalize w7.alloc (.cells #[.int .i64 0,.int .i64 (t2:Int),.bool false,.int .i64 0,.int .i64 (rl:Int),.slice vb vn vd] 36)=w8 at *
       generalize w7.heap.size=n8 at *
       have c1:w8.cell? ⟨nW,1,none⟩=some (.int .i64 (t1:Int)):=aAa HN8.out
       have f1:w8.frozen? ⟨nW,1,none⟩=false:=aAc HN8.out
       have HP8:Hid ((w8.setCell ⟨nW,1,none⟩ (.int .i64 (t2:Int))).heap[nW]?=some (.cells #[.int .i64 0,.int .i64 (t2:Int),.bool false,.int .i64 0,.int .i64 (rl:Int),.slice va vn vc] 36 (0,0))):=heap_setCell_same _ _ _ _ _ _ HN8.out
       have HQ8:Hid ((w8.setCell ⟨nW,1,none⟩ (.int .i64 (t2:Int))).heap[n8]?=some (.cells #[.int .i64 0,.int .i64 (t2:Int),.bool false,.int .i64 0,.int .i64 (rl:Int),.slice vb vn vd] 36 (0,0))):=by show _=_;rw [heap_setCell_other _ _ _ _ HNE.out];exact HM8.out
       have hft:=ft1 (B:=B) (o:=1) (b0:=.int .i64 (t2:Int)) HN8.out (by decide) HBN.out
       have HA9:=hide (HA8.out.ft hft)
       have HK9:=hide (HK8.out.ft hft)
       have HBE9:Hid (Below B W (w8.setCell ⟨nW,1,none⟩ (.int .i64 (t2:Int)))):=HBE.out.setCell (p:=⟨nW,1,none⟩) HBN.out _
       clear hft
       go_upto_region 29 with fail
       generalize w8.setCell ⟨nW,1,none⟩ (.int .i64 (t2:Int))=w9 at *
       have HTD:=hide (told7 w9)
       clear c1 f1
       go_wp2_with fail
       refine HTD.out.mono ?_
       rintro e w10 ⟨rfl,hb10⟩
       have HPA:=hide ((hb10.block nW (lt HP8.out)).trans HP8.out)
       have HQA:=hide ((hb10.block n8 (lt HQ8.out)).trans HQ8.out)
       have hbw9:B≤w9.heap.size:=by have:=HBE9.out.size;omega
       have HSM:=hide (same7 (w:=w10) (ae:=0) (at_:=(t2:Int)) (ar:=(rl:Int)) (HA9.out.later hb10 hbw9).1 (HK9.out.later hb10 hbw9).1)
       have HBF:=hide (HBE9.out.trans (hb10.mono hbw9))
       clear hb10 hbw9 HTD
       have y0:w10.cell? ⟨nW,0,none⟩=some (.int .i64 0):=aAa HPA.out
       have y1:w10.cell? ⟨nW,1,none⟩=some (.int .i64 (t2:Int)):=aAa HPA.out
       have y2:w10.cell? ⟨nW,2,none⟩=some (.bool false):=aAa HPA.out
       have y3:w10.cell? ⟨nW,3,none⟩=some (.int .i64 0):=aAa HPA.out
       have y4:w10.cell? ⟨nW,4,none⟩=some (.int .i64 (rl:Int)):=aAa HPA.out
       have y5:w10.cell? ⟨nW,5,none⟩=some (.slice va vn vc):=aAa HPA.out
       have z0:w10.cell? ⟨n8,0,none⟩=some (.int .i64 0):=aAa HQA.out
       have z1:w10.cell? ⟨n8,1,none⟩=some (.int .i64 (t2:Int)):=aAa HQA.out
       have z2:w10.cell? ⟨n8,2,none⟩=some (.bool false):=aAa HQA.out
       have z3:w10.cell? ⟨n8,3,none⟩=some (.int .i64 0):=aAa HQA.out
       have z4:w10.cell? ⟨n8,4,none⟩=some (.int .i64 (rl:Int)):=aAa HQA.out
       have z5:w10.cell? ⟨n8,5,none⟩=some (.slice vb vn vd):=aAa HQA.out
       have HS10:Hid (B≤w10.heap.size):=by show _≤_;have:=HBF.out.size;omega
       go_wp2_with fail
       refine HSM.out.mono ?_
       rintro e w11 ⟨rfl,hb11⟩
       have HBG:=hide (HBF.out.trans (hb11.mono HS10.out))
       clear hb11 HSM
       go_wp2
       go_ret
       exact ⟨rfl,HBG.out⟩
end Go.Proofs.YtgfpmfafegcpiaaGreat
namespace Go.Proofs.YtgfpmfafegcpiaaGreat
open Go.ChangeShapes Go.WideShapes Go.ChangeAt Go.RowKit
set_option linter.unusedVariables false
theorem aCx (os:Os) (started:os.Started) (H:Type) (enc:TypeId×Value→H) :
  ReturnsInHanded {} Tryz.checked os 4 .any (Rows.registerApartSpec.pre6 enc Tryz.prog Tryz.f4 Rows.registerApartRow.domain false) (Rows.registerApartSpec.post enc Tryz.prog Tryz.f4 false true false false):=by
 refine returnsInHanded_of_change_sized (C:=Tryz.checked) own started (by kernel_rfl) Tryz.func4
  (ChangeSpec.witness6 (enc:=enc) (C:=Tryz.checked) false ⟨#[],#[.slice none 0 0,.slice none 0 0,.int .i64 0],[]⟩ 8 (by kernel_rfl) (by kernel_rfl) (by kernel_rfl) (by kernel_rfl)) ?_
 intro W base args ds gs before hval0 hW hcnd hsz0 _
 have hval:∀ (j:Nat) t v,Tryz.f4.params[j]?=some t→args[j]?=some v→Value.okWide Tryz.prog W .any base t v:=hval0
 have hsz:(DataW.weightsEach Tryz.prog (Tryz.f4.params.toList++Rows.registerApartSpec.plain.varTypes Tryz.prog) (ds++gs)).all (·≤reachBytes)=true:=hsz0
 have hW':=hW
 obtain ⟨p,q,hA0,hV,rfl,hfz,hnd⟩:=hW
 have hA:DataW.TrodAll enc Tryz.prog W 0 (fun _=>true) true Tryz.f4.params.toList args.toList ds p:=hA0
 rw [Tryz.params4] at hA hval hsz
 obtain ⟨v0,vs0,d0,ds0,p0,q0,hargs,rfl,rfl,h0,r0⟩:=trodAll_cons hA
 obtain ⟨v1,vs1,d1,ds1,p1,q1,rfl,rfl,rfl,h1,r1⟩:=trodAll_cons r0
 obtain ⟨v2,vs2,d2,ds2,p2,q2,rfl,rfl,rfl,h2,r2⟩:=trodAll_cons r1
 obtain ⟨rfl,rfl,rfl⟩:=trodAll_nil r2
 obtain rfl:args=#[v0,v1,v2]:=by cases args;simp_all
 obtain ⟨rfl,rfl⟩:=trodVars_none hV
 obtain ⟨a0,len0,cap0,rfl⟩:=okWide_slice Tryz.underlying22 (hval 0 22 v0 rfl rfl)
 have k0:=h0
 have lt0:∀ x∈p0,x.block<W.heap.size:=by obtain ⟨m,hm⟩:=k0;exact DataW.trod_lt m _ _ _ hm
 obtain ⟨xs0,w0⟩:=open_as h0
 obtain ⟨a1,len1,cap1,rfl⟩:=okWide_slice Tryz.underlying22 (hval 1 22 v1 rfl rfl)
 have k1:=h1
 have lt1:∀ x∈p1,x.block<W.heap.size:=by obtain ⟨m,hm⟩:=k1;exact DataW.trod_lt m _ _ _ hm
 obtain ⟨xs1,w1⟩:=open_as h1
 obtain ⟨a2,rfl,rfl,rfl,w2⟩:=open_int Tryz.underlying3 (hval 2 3 v2 rfl rfl) h2
 clear hA0 hval0 hsz0
 refine (aDg a0 len0 cap0 xs0 a1 len1 cap1 xs1 a2 W w0 w1).mono fun e W' ⟨he,bel⟩=>?_
 subst he
 exact ⟨_,rfl,_,_,_,[],_,[],hW',trodAll_mk1 (shut_bool Tryz.underlying4 _),(trodAll_cons_mk (Below.trod laidOut (by kernel_rfl) (of_decide_eq_true (by kernel_rfl)) k0 bel lt0) (trodAll_cons_mk (Below.trod laidOut (by kernel_rfl) (of_decide_eq_true (by kernel_rfl)) k1 bel lt1) (trodAll_cons_mk (shut_int Tryz.underlying3 w2) trodAll_mk0))),rfl,bel.frame _,fun h=>by cases h⟩
theorem registerApart_holds:Rows.RegisterApartSaid :=
 OpenClaim.holds_of_wide 4 Tryz.f4 rfl rfl rfl rfl rfl rfl rfl ⟨rfl,rfl,rfl,rfl,rfl⟩ rfl rfl rfl rfl rfl (by kernel_rfl) Tryz.func4 (by kernel_rfl)
  (of_decide_eq_true (by kernel_rfl)) (by unfold Func.isWrapper;first | (rw [if_pos (by decide +kernel)];kernel_rfl) | (rw [if_neg (by decide +kernel)];exact ⟨rfl,rfl⟩))
  (fun os started H enc _=>aCx os started H enc)
#print axioms registerApart_holds
end Go.Proofs.YtgfpmfafegcpiaaGreat
