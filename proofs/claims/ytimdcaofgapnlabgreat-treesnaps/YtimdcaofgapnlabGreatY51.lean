import Derived.Test.YtimdcaofgapnlabGreatY50
import Derived.Test.YtimdcaofgapnlabGreatY23
set_option maxRecDepth 100000
set_option maxHeartbeats 16000000
set_option linter.unusedVariables false
namespace Go.Proofs.YtimdcaofgapnlabGreat
open Go.RowKit
def AR (go gs:Nat) (rec:List Rc) (w:World):Prop:=∃ co cp,w.heap[go]?=some (.cells co 55 (0,0))∧co.size=4∧w.heap[gs]?=some (.cells cp 57 (0,0))∧cp.size=4∧∀ (j:Nat) r,rec[j]?=some r→co[j]?=some r.2.2.2∧cp[j]?=some (.pointer (some ⟨r.1,0,none⟩))
theorem AR.nf {B go gs:Nat} {rec:List Rc} {w w':World} (h:AR go gs rec w) (f:NF B w w'):AR go gs rec w':=by
 obtain ⟨co,cp,h1,h2,h3,h4,h5⟩:=h
 exact ⟨co,cp,f.2 _ _ _ _ h1 (by decide) (by decide) (by decide) (by decide),h2,f.2 _ _ _ _ h3 (by decide) (by decide) (by decide) (by decide),h4,h5⟩
section
variable [Gd] {B p q g N c u:Nat} {rec:List Rc} {l:List It} {s:DS} {t:PS} {now last:StT} {left:Int} {sv:Value} {W wx wy:World}
theorem SI.keep (h:SI B p q g N c u rec l s t now last left sv W wx) (hb:Below B wx wy) (f:∀ (k:Nat) (cs:Array Value) (t:TypeId) (fz:Nat×Nat),wx.heap[k]?=some (Obj.cells cs t fz)→t≠55→t≠57→wy.heap[k]?=some (Obj.cells cs t fz)):SI B p q g N c u rec l s t now last left sv W wy:=by
 obtain ⟨cg,hg,hT⟩:=h.tm.tv
 have hst:ST B p q s t wy:=by
  obtain ⟨h1,gs,h2⟩:=h.tm.st
  refine ⟨?_,gs,f _ _ _ _ h2.hq (by decide) (by decide),f _ _ _ _ h2.hs (by decide) (by decide),h2.qB,h2.gB,h2.ok⟩
  exact h1.of_stay (fun k cs t e ht=>f k cs t _ e (by rcases ht with rfl | rfl | rfl | rfl | rfl<;>decide) (by rcases ht with rfl | rfl | rfl | rfl | rfl<;>decide))
 refine ⟨⟨hst,nT h.tm.bw hb.size,h.tm.bg,⟨cg,f _ _ _ _ hg (by decide) (by decide),hT⟩,h.tm.lf,h.tm.dn,h.tm.af,h.tm.l1,h.tm.sn,h.tm.hd⟩,⟨h.sn.n,aAj h.sn.v fun k cs _ e=>f k cs _ _ e (by decide) (by decide),fun x hx=>?_⟩,h.tr,h.ln,fun r hr=>⟨(h.rs r hr).1,(h.rs r hr).2.1,(h.rs r hr).2.2.stay ⟨hb,fun k cs fz e=>f k cs _ fz e (by decide) (by decide)⟩ fun k cs _ e=>f k cs _ _ e (by decide) (by decide)⟩,h.nd,h.nB,h.nn,h.mu,h.cu,h.nm,h.hd,h.be.trans hb⟩
 obtain ⟨cx,e1,e2⟩:=h.sn.s x hx
 exact ⟨cx,f _ _ _ _ e1 (by decide) (by decide),e2⟩
end
def INo [Gd] (B p q g go gs c:Nat) (W wx:World):Prop:=∃ rec l s t now left sv,SI B p q g 900 c (90*c) rec l s t now now left sv W wx∧rec.length=c∧l.length≤10*c∧AR go gs rec wx
def INi [Gd] (B p q g go gs c k:Nat) (rec:List Rc) (last:StT) (sv:Value) (W wx:World):Prop:=∃ l s t now left,SI B p q g 900 c (90*c+9*k) rec l s t now last left sv W wx∧l.length≤10*c+k∧AR go gs rec wx
def INc [Gd] (B p g go gs:Nat) (rec:List Rc) (l:List It) (now:StT) (j:Nat) (W wx:World):Prop:=∃ q s t left sv,SI B p q g 900 4 900 (rec.drop j) l s t now now left sv W wx∧AR go gs rec wx
theorem bk_two {B g x y:Nat} {w:World} {fz:Nat×Nat} (h:w.heap[g]?=some (.cells #[.int .u8 (x:Int),.int .u8 (y:Int)] 5 fz)) (hx:x<256) (hy:y<256):BK B w (some ⟨g,0,none⟩) 2 2 [x,y]:=by
 refine ⟨BS.of rfl (by omega) (by omega) (by omega) (by intro b hb;simp at hb;omega) ?_,fun z hz=>?_⟩
 ·intro i hi
  have:i=0∨i=1:=by omega
  rcases this with rfl | rfl
  ·rw [cell_of_row w g _ _ _ _ h];rfl
  ·rw [cell_of_row w g _ _ _ _ h];rfl
 ·simp only [oI] at hz
  subst hz
  exact Or.inr ⟨_,_,h⟩
theorem aGi (a0:Option Addr) (T cap0 b0 o0:Nat) (A:Nat→Option Addr) (L C:Nat→Nat) (tf:Nat→List Nat) (a1:Option Addr) (G cap1:Nat) (Z:Nat→Bool) (W:World) (h0:TXS W a0 T 64 b0 o0 A L C tf) (hG:G≤9223372036854775807) (h1:0<G→∃ b o,a1=some ⟨b,o,none⟩∧∀ i,i<G→W.cell? ⟨b,o+i,none⟩=some (.bool (Z i))) :
  Calls Tryz.prog 6 #[.slice a0 T cap0,.slice a1 G cap1] W fun e w'=>e=.returned (.bool true)∧Below W.heap.size W w':=by
 letI:Gd:=⟨none⟩
 have hg0:Hid (Gd.g=none):=rfl
 have H0:=hide h0
 have H1:=hide h1
 have hT63:=h0.hl
 have HOP:=hide (open_any (n:=900) hg0.out W (by decide) (by decide))
 clear h0 h1
 generalize hB:W.heap.size=B at *
 go_enter Tryz.func6,Tryz.ntmps6
 go_wp2_with fail
 refine HOP.out.mono ?_
 rintro e w1 ⟨p,g,rfl,hgB,hO,hb1⟩
 obtain ⟨q,s0,t0,st0,left0,hTI,hleft⟩:=hO.ti (by decide) hb1
 obtain ⟨q1,q2,q3⟩:=aBn w1 #[.slice none 0 0,.slice none 0 0,.slice none 0 0,.slice none 0 0] #[.pointer none,.pointer none,.pointer none,.pointer none] 55 57
 have HP0:Hid (INo B p q g w1.heap.size (w1.heap.size+1) 0 W ((w1.alloc (.cells #[.slice none 0 0,.slice none 0 0,.slice none 0 0,.slice none 0 0] 55)).alloc (.cells #[.pointer none,.pointer none,.pointer none,.pointer none] 57))):=by
  have hbb:Below w1.heap.size w1 ((w1.alloc (.cells #[.slice none 0 0,.slice none 0 0,.slice none 0 0,.slice none 0 0] 55)).alloc (.cells #[.pointer none,.pointer none,.pointer none,.pointer none] 57)):=(aAb w1 _).trans ((aAb (w1.alloc (.cells #[.slice none 0 0,.slice none 0 0,.slice none 0 0,.slice none 0 0] 55)) _).mono (aAb w1 (.cells #[.slice none 0 0,.slice none 0 0,.slice none 0 0,.slice none 0 0] 55)).size)
  have hT2:=hTI.later hbb
  refine ⟨[],[],s0,t0,st0,left0,_,⟨hT2.tm,SnO.nil _ _ _,hT2.tr,by simp,fun r hr=>by simp at hr,by simp,fun r hr=>by simp at hr,hT2.sn,hT2.mu,hT2.cu,hT2.nm,⟨fun h9=>by omega,fun h9=>by omega⟩,hT2.be⟩,rfl,by simp,⟨_,_,q1,rfl,q2,rfl,fun j r hr=>by simp at hr⟩⟩
 have HGB9:Hid (B≤w1.heap.size):=hTI.tm.bw
 clear hgB hO hTI hb1 HOP hleft q1 q2 q3
 go_upto_region 6 with fail
 generalize hgo:w1.heap.size=go at *
 have HGOB:Hid (B≤go):=by exact HGB9.out
 generalize hgs:go+1=gs at *
 generalize (w1.alloc (.cells #[.slice none 0 0,.slice none 0 0,.slice none 0 0,.slice none 0 0] 55)).alloc (.cells #[.pointer none,.pointer none,.pointer none,.pointer none] 57)=w2 at *
 go_wp2_with fail
 go_loopw [9] (fun i wx=>∃ c:Nat,c≤4∧i=.int .i64 c∧INo B p q g go gs c W wx) (fun i _=>4-(intOf i).toNat)
 case atStart=>exact ⟨0,by omega,rfl,HP0.out⟩
 case round =>
  obtain ⟨c,hc,rfl,hP⟩:=hrel
  obtain ⟨rec,l0,s0',t0',now0,left0',sv0,hSI0,hrc,hl0,hAR0⟩:=hP
  have HRC:=hide hrc
  clear HP0
  by_cases hc4:c<4
  ·have i4:(c:Int)<4:=by omega
   have HI0:Hid (INi B p q g go gs c 0 rec now0 sv0 W wr):=⟨l0,s0',t0',now0,left0',hSI0,by omega,hAR0⟩
   clear hSI0 hAR0 hl0 hrc
   go_wp2_with fail
   go_loopw [10] (fun i wx=>∃ k:Nat,k≤10∧i=.int .i64 ((c+4*k:Nat):Int)∧INi B p q g go gs c k rec now0 sv0 W wx) (fun i _=>50-(intOf i).toNat)
   case atStart=>exact ⟨0,by omega,by simp,HI0.out⟩
   case round =>
    obtain ⟨k,hk,rfl,hP⟩:=hrel
    have HP:=hide hP
    clear hP HI0
    obtain ⟨i,hi⟩:∃ i,i=c+4*k:=⟨_,rfl⟩
    rw [←hi]
    obtain ⟨cb,hcb⟩:∃ cb,cb=decide (i<T∧i<40):=⟨_,rfl⟩
    have HII:=hide hi
    have i43:i≤43:=by omega
    clear hi
    go_upto_region 10 with fail
    go_cut [41] from 34 to 75 (fun cnd wx=>cnd=.bool cb∧wr=wx)
    case first =>
     have HCB:=hide hcb
     clear hcb
     by_cases q1:i<T
     ·have j1:(i:Int)<(T:Int):=by omega
      have d1:decide ((i:Int)<(T:Int))=true:=by simp;omega
      by_cases q2:i<40
      ·have j2:(i:Int)<40:=by omega
       go_wp2
       go_meet
       exact ⟨by rw [HCB.out];simp [q1,q2],rfl⟩
      ·have j2:¬ (i:Int)<40:=by omega
       go_wp2
       go_meet
       exact ⟨by rw [HCB.out];simp [q1,q2],rfl⟩
     ·have j1:¬ (i:Int)<(T:Int):=by omega
      have d1:decide ((i:Int)<(T:Int))=false:=by simp;omega
      go_wp2
      go_meet
      exact ⟨by rw [HCB.out];simp [q1],rfl⟩
    case rest =>
     obtain ⟨rfl,rfl⟩:=hcut
     cases cb with
     | true =>
      have hjj:i<T∧i<40:=by simpa using hcb.symm
      obtain rfl:a0=some ⟨b0,o0,none⟩:=H0.out.place (by omega)
      have HC0:=hide (H0.out.cell i (by omega))
      have hcp:=H0.out.cap i (by omega)
      have HBS:=hide (H0.out.bs i (by omega))
      have i1:(i:Int)<(T:Int):=by omega
      have i40:i<40:=hjj.2
      have k9:k≤9:=by have:=HII.out;omega
      obtain ⟨aa,haa⟩:∃ x,A i=x:=⟨_,rfl⟩
      obtain ⟨ll,hll⟩:∃ x,L i=x:=⟨_,rfl⟩
      obtain ⟨cc,hcc⟩:∃ x,C i=x:=⟨_,rfl⟩
      obtain ⟨m,hm⟩:∃ m,m=min ll 64:=⟨_,rfl⟩
      rw [haa,hll,hcc] at HC0
      rw [haa,hll,hcc,←hm] at HBS
      rw [hll,hcc] at hcp
      have em:min (ll:Int) 64=(m:Int):=by omega
      have u0:(0:Int)≤(m:Int):=by omega
      have v0:(m:Int)≤(cc:Int):=by omega
      have m64:m≤64:=by omega
      have y0:(cc:Int)≤9223372036854775807:=by omega
      have w4:IntKind.i64.wrap ((i:Int)+4)=(i:Int)+4:=by rw [IntKind.wrap_i64];omega
      have ew1:IntKind.u8.wrap (c:Int)=(c:Int):=by rw [IntKind.wrap_u8];omega
      have ew2:IntKind.u8.wrap (i:Int)=(i:Int):=by rw [IntKind.wrap_u8];omega
      obtain ⟨l,s,t,now,left,hSI,hl1,hAR⟩:=HP.out
      have hdr:Below wr.heap.size wr wr.drew:=(Below.refl _ _).drew
      have HC1:Hid (wr.cell? ⟨b0,o0+i,none⟩=some (.slice aa ll cc)):=(hSI.be.cell (p:=⟨b0,o0+i,none⟩) (by rw [←hB];exact block_lt_of_cell HC0.out)).trans HC0.out
      have HX0:Hid ((fun wx=>wx.cell? ⟨b0,o0+i,none⟩=some (.slice aa ll cc)) wr.drew):=HC1.out
      have HS1:=hide (hSI.later hdr)
      have HA1:=hide (hAR.nf (NF.of (B:=B) hdr hSI.tm.bw))
      clear hSI hAR hcp hm hdr hcb hjj
      go_upto_region 12 with fail
      refine wp_region_noPanic ?_
      refine wp_region_held_drew (S:=fun wx=>wx.cell? ⟨b0,o0+i,none⟩=some (.slice aa ll cc)) (by kernel_rfl) HX0.out (fun hHeld=>?_)
      refine wpAnyH_tk 0 44 ?_
      refine wpAnyH_tk 1 45 ?_
      refine wpAnyH_tk 2 46 ?_
      refine wpAnyH_tk 3 47 ?_
      refine wpAnyH_tk 4 48 ?_
      refine wpAnyH_tk 5 49 ?_
      refine wpAnyH_tk 6 50 ?_
      refine wpAnyH_tk 7 51 ?_
      refine wpAnyH_tk 8 52 ?_
      refine wpAnyH_tk 9 53 ?_
      refine wpAnyH_tk 10 54 ?_
      refine wpAnyH_tk 11 11 ?_
      refine wpAnyH_done (by kernel_rfl) ?_ _
      refine NoPanic.normal ?_
      clear hHeld HX0
      generalize wr.drew=w3 at *
      obtain ⟨gb,hgb⟩:∃ gb,gb=(decide (i<G) && Z i):=⟨_,rfl⟩
      go_upto_region 13 with fail
      go_cut [64] from 55 to 75 (fun cnd wx=>cnd=.bool gb∧w3=wx)
      case first =>
       have HGG:=hide hgb
       clear hgb
       by_cases qG:i<G
       ·have j1:(i:Int)<(G:Int):=by omega
        have d1:decide ((i:Int)<(G:Int))=true:=by simp;omega
        obtain ⟨b1,o1,e1,hcell⟩:=H1.out (by omega)
        subst e1
        have r3:w3.cell? ⟨b1,o1+i,none⟩=some (.bool (Z i)):=(HS1.out.be.cell (p:=⟨b1,o1+i,none⟩) (by rw [←hB];exact block_lt_of_cell (hcell i qG))).trans (hcell i qG)
        clear hcell
        go_wp2
        go_meet
        exact ⟨by rw [HGG.out];simp [qG],rfl⟩
       ·have j1:¬ (i:Int)<(G:Int):=by omega
        have d1:decide ((i:Int)<(G:Int))=false:=by simp;omega
        go_wp2
        go_meet
        exact ⟨by rw [HGG.out];simp [qG],rfl⟩
      case rest =>
       obtain ⟨rfl,rfl⟩:=hcut
       clear hgb
       cases gb with
       | true =>
        have HDL:Hid (Calls Tryz.prog 15 #[.pointer (some ⟨g,0,none⟩),.slice aa m cc] w3 fun e w'=>∃ (b9:Bool) (r9:Int),e=.returned (.tuple #[.bool b9,.int .i64 r9])∧INi B p q g go gs c (k+1) rec now0 sv0 W w'):=by
         by_cases hm0:m=0
         ·refine (Delete_arg HS1.out.tm aa m cc (Or.inl hm0)).mono ?_
          rintro e w' ⟨rfl,hb⟩
          exact ⟨_,_,rfl,l,s,t,now,left,(HS1.out.later hb).more (by omega),by omega,HA1.out.nf (NF.of (B:=B) hb HS1.out.tm.bw)⟩
         ·refine (HS1.out.Delete hg0.out (by omega) (by omega) (tf i) HBS.out.hlen (by omega) m64 (arg_bk (b0:=b0) hB HBS.out HS1.out.be (by omega))).mono ?_
          rintro e w' ⟨rfl,hnf,s',t',now',left',hS2⟩
          exact ⟨_,_,rfl,_,s',t',now',left',hS2,by have:=List.length_filter_le (fun x:It=>decide (x.1≠tf i)) l;show (delL l (tf i)).length≤_;unfold delL;omega,HA1.out.nf hnf⟩
        go_wp2_with fail
        refine HDL.out.mono ?_
        rintro e w5 ⟨b9,r9,rfl,hP5⟩
        have HP5:=hide hP5
        clear hP5 HDL
        go_wp2_with fail
        go_roundw
        case rel=>exact ⟨k+1,by omega,by have h9:=HII.out;show Value.int .i64 ((i:Int)+4)=_;congr 1;omega,HP5.out⟩
        case measure=>simp [intOf];omega
       | false =>
        have HBX:=hide (aAb w3 (.cells #[.int .u8 (c:Int),.int .u8 (i:Int)] 5))
        have HVX:Hid ((w3.alloc (.cells #[.int .u8 (c:Int),.int .u8 (i:Int)] 5)).heap[w3.heap.size]?=some (.cells #[.int .u8 (c:Int),.int .u8 (i:Int)] 5 (0,0))):=heap_alloc_new w3 _
        have HPU:Hid (Calls Tryz.prog 8 #[.pointer (some ⟨g,0,none⟩),.slice aa m cc,.slice (some ⟨w3.heap.size,0,none⟩) 2 2] (w3.alloc (.cells #[.int .u8 (c:Int),.int .u8 (i:Int)] 5)) fun e w'=>∃ r9:Int,e=.returned (.int .i64 r9)∧INi B p q g go gs c (k+1) rec now0 sv0 W w'):=by
         have hS2:=HS1.out.later HBX.out
         have hA2:=HA1.out.nf (NF.of (B:=B) HBX.out HS1.out.tm.bw)
         by_cases hm0:m=0
         ·refine (Put_arg hS2.tm aa (some ⟨w3.heap.size,0,none⟩) m cc 2 2 (Or.inl hm0)).mono ?_
          rintro e w' ⟨rfl,hb⟩
          exact ⟨_,rfl,l,s,t,now,left,(hS2.later hb).more (by omega),by omega,hA2.nf (NF.of (B:=B) hb hS2.tm.bw)⟩
         ·have hok:ItOk (tf i,[c,i]):=by
           refine ⟨fun q9=>?_,?_,by show (2:Nat)≤1800;decide,HBS.out.hbyte,fun x hx=>by simp at hx;omega⟩
           ·have h9:=HBS.out.hlen
            have q9:tf i=[]:=q9
            rw [q9] at h9
            simp at h9
            omega
           ·show (tf i).length≤64
            rw [HBS.out.hlen];exact m64
          refine (hS2.Put hg0.out (by omega) (by omega) (by omega) (tf i,[c,i]) hok (kn:=m) (vn:=2) HBS.out.hlen rfl (arg_bk (b0:=b0) hB HBS.out hS2.be (by omega)) (bk_two HVX.out (by omega) (by omega))).mono ?_
          rintro e w' ⟨rfl,hnf,s',t',now',left',hS3⟩
          have hln:=aFc l (tf i,[c,i])
          refine ⟨0,rfl,_,s',t',now',left',hS3,?_,hA2.nf hnf⟩
          rw [hln];split<;>omega
        go_wp2_with fail
        refine HPU.out.mono ?_
        rintro e w5 ⟨r9,rfl,hP5⟩
        have HP5:=hide hP5
        clear hP5 HPU
        go_wp2_with fail
        go_roundw
        case rel=>exact ⟨k+1,by omega,by have h9:=HII.out;show Value.int .i64 ((i:Int)+4)=_;congr 1;omega,HP5.out⟩
        case measure=>simp [intOf];omega
     | false =>
      obtain ⟨l,s,t,now,left,hSI,hl1,hAR⟩:=HP.out
      have HCM:=hide ((hSI.more (u':=90*(c+1)) (by omega)).commit (by decide) (by omega))
      have HAR:=hide hAR
      have HL1:Hid (l.length≤10*(c+1)):=by show _≤_;omega
      clear hSI hAR hcb HP hl1
      go_wp2_with fail
      refine HCM.out.mono ?_
      rintro e w3 ⟨rfl,hnf3,s3,t3,left3,hS3⟩
      have HAR3:=hide (HAR.out.nf hnf3)
      have HRG:=hide hS3.Range
      have HS3:=hide hS3
      clear hnf3 hS3 HCM
      go_wp2_with fail
      refine HRG.out.mono ?_
      rintro e w4 ⟨fv,rfl,hpr,hb4⟩
      obtain ⟨fa,fc,rfl⟩:=hpr.form
      have HS4:=hide (HS3.out.later hb4)
      have HAR4:=hide (HAR3.out.nf (NF.of (B:=B) hb4 HS3.out.tm.bw))
      have HSN:=hide (HS4.out.Snap (by rw [HRC.out];exact hc4) _ hpr)
      clear hpr hb4 HRG
      generalize hfn:l.length=fn at *
      go_wp2_with fail
      refine HSN.out.mono ?_
      rintro e w5 ⟨nb,sv5,rfl,hnf5,hS5⟩
      obtain ⟨co,cp,x1,x2,x3,x4,x5⟩:=HAR4.out.nf hnf5
      have HS5:=hide hS5
      have HX1:=hide x1
      have HX3:=hide x3
      have HX2:=hide x2
      have HX4:=hide x4
      have HX5:=hide x5
      have hgos:go≠gs:=by omega
      have hgos':gs≠go:=by omega
      obtain ⟨z1,hz1⟩:∃ z,co[c]?=some z:=⟨_,Array.getElem?_eq_getElem (by omega)⟩
      obtain ⟨z2,hz2⟩:∃ z,cp[c]?=some z:=⟨_,Array.getElem?_eq_getElem (by omega)⟩
      have r1:w5.cell? ⟨go,c,none⟩=some z1:=(aAa x1).trans hz1
      have f1:w5.frozen? ⟨go,c,none⟩=false:=aAc x1
      have HO6:Hid (∀ j,j≠go→(w5.setCell ⟨go,c,none⟩ (.slice fa fn fc)).heap[j]?=w5.heap[j]?):=fun j hj=>heap_setCell_other _ _ _ _ hj
      have HG6:Hid ((w5.setCell ⟨go,c,none⟩ (.slice fa fn fc)).heap[go]?=some (.cells (co.setIfInBounds c (.slice fa fn fc)) 55 (0,0))):=by
       show _=_
       rw [heap_setCell_same _ _ _ _ _ _ x1]
      have hgoB:B≤go:=HGOB.out
      have HB6:Hid (Below B w5 (w5.setCell ⟨go,c,none⟩ (.slice fa fn fc))):=(Below.refl B w5).setCell (p:=⟨go,c,none⟩) hgoB _
      have r2:(w5.setCell ⟨go,c,none⟩ (.slice fa fn fc)).cell? ⟨gs,c,none⟩=some z2:=(aAa ((HO6.out gs hgos').trans x3)).trans hz2
      have f2:(w5.setCell ⟨go,c,none⟩ (.slice fa fn fc)).frozen? ⟨gs,c,none⟩=false:=aAc ((HO6.out gs hgos').trans x3)
      clear hnf5 hS5 x1 x2 x3 x4 x5 HSN hz1 hz2
      go_wp2_with fail
      go_roundw
      case rel =>
       refine ⟨c+1,by omega,by go_num,rec++[(nb,now,l,.slice fa fn fc)],l,s3,t3,now,left3,sv5,HS5.out.keep (HB6.out.trans ((Below.refl B _).setCell (p:=⟨gs,c,none⟩) (by show B≤gs;omega) _)) (fun j c9 t9 fz e n1 n2=>?_),by rw [lA,HRC.out];rfl,by rw [hfn];exact HL1.out,⟨co.setIfInBounds c (.slice fa fn fc),cp.setIfInBounds c (.pointer (some ⟨nb,0,none⟩)),?_,?_,?_,?_,fun j r hr=>?_⟩⟩
       ·rw [heap_setCell_other _ _ _ _ (by show j≠gs;intro q9;rw [q9,HX3.out] at e;simp only [oI,cI] at e;exact n2 e.2.1.symm),HO6.out j (by intro q9;rw [q9,HX1.out] at e;simp only [oI,cI] at e;exact n1 e.2.1.symm),e]
       ·rw [heap_setCell_other _ _ _ _ (by exact hgos)]
        exact HG6.out
       ·rw [Array.size_setIfInBounds];exact HX2.out
       ·rw [heap_setCell_same _ _ _ _ _ _ ((HO6.out gs hgos').trans HX3.out)]
       ·rw [Array.size_setIfInBounds];exact HX4.out
       ·have h2:=HX2.out
        have h4:=HX4.out
        have h9:=HRC.out
        by_cases q9:j<c
        ·rw [List.getElem?_append_left (by omega)] at hr
         rw [Array.getElem?_setIfInBounds_ne (by omega),Array.getElem?_setIfInBounds_ne (by omega)]
         exact HX5.out j r hr
        ·rw [List.getElem?_append_right (by omega)] at hr
         have hlt:=(lL hr)
         simp only [List.length_cons,List.length_nil] at hlt
         have hj:j=c:=by omega
         subst hj
         rw [h9,Nat.sub_self,List.getElem?_cons_zero,oI] at hr
         subst hr
         exact ⟨Array.getElem?_setIfInBounds_self_of_lt (by omega),Array.getElem?_setIfInBounds_self_of_lt (by omega)⟩
      case measure=>simp [intOf];omega
  ·have i4:¬ (c:Int)<4:=by omega
   have hc':c=4:=by omega
   subst hc'
   have hrl:rec.length=4:=HRC.out
   have HSM:=hide (Snap_many hSI0.tm hSI0.sn (by unfold rcS;rw [List.length_map];exact hrl))
   have HSI0:=hide hSI0
   have HAR0:=hide hAR0
   clear hSI0 hAR0 hl0 hrc
   go_wp2_with fail
   refine HSM.out.mono ?_
   rintro e w3 ⟨rfl,hb3⟩
   have HC0:Hid (INc B p g go gs rec l0 now0 0 W w3):=⟨q,s0',t0',left0',sv0,((HSI0.out.later hb3).more (by omega)),HAR0.out.nf (NF.of (B:=B) hb3 HSI0.out.tm.bw)⟩
   clear hb3 HSM
   go_wp2_with fail
   go_loopw [18] (fun i wx=>∃ j:Nat,j≤4∧i=.int .i64 j∧INc B p g go gs rec l0 now0 j W wx) (fun i _=>4-(intOf i).toNat)
   case atStart=>exact ⟨0,by omega,rfl,HC0.out⟩
   case round =>
    obtain ⟨j,hj,rfl,hP⟩:=hrel
    have HP:=hide hP
    clear hP HC0
    obtain ⟨q',s',t',left',sv',hSI,hAR⟩:=HP.out
    by_cases hj4:j<4
    ·have i4:(j:Int)<4:=by omega
     obtain ⟨r,hr⟩:∃ r,rec[j]?=some r:=⟨_,gE (by omega)⟩
     have hdr:rec.drop j=r::rec.drop (j+1):=by rw [←(List.getElem?_eq_some_iff.1 hr).2,List.getElem_cons_drop]
     rw [hdr] at hSI
     obtain ⟨ov1,ov2,hov⟩:=(hSI.rs r List.mem_cons_self).2.2.form
     obtain ⟨co,cp,x1,x2,x3,x4,x5⟩:=id hAR
     have HSR:=hide (hSI.SnapR (r:=r) List.mem_cons_self)
     have r1:wr.cell? ⟨gs,j,none⟩=some (.pointer (some ⟨r.1,0,none⟩)):=(aAa x3).trans (x5 j r hr).2
     have HX1:=hide x1
     have HX3:=hide x3
     have HXO:=hide (x5 j r hr)
     have HSI:=hide hSI
     have HAR:=hide hAR
     clear hSI hAR x1 x2 x3 x4 x5 hr hdr HP
     go_wp2_with fail
     refine HSR.out.mono ?_
     rintro e w4 ⟨fv,rfl,hpr,hb4⟩
     obtain ⟨fa,fc,rfl⟩:=hpr.form
     have HS4:=hide (HSI.out.later hb4)
     have HSA:=hide (same_ok hpr (HS4.out.rs r List.mem_cons_self).2.2 (by have:=(HS4.out.rs r List.mem_cons_self).2.1;omega))
     have r2:w4.cell? ⟨go,j,none⟩=some (.slice ov1 r.2.2.1.length ov2):=by
      rw [←hov]
      exact (aAa ((hb4.block go (lO HX1.out)).trans HX1.out)).trans HXO.out.1
     rw [hov] at HSA
     have HB4:=hide hb4
     clear hb4 hpr HSR r1 hov
     generalize hrn:r.2.2.1.length=rn at *
     go_wp2_with fail
     refine HSA.out.mono ?_
     rintro e w5 ⟨rfl,hb5⟩
     have HS5:=hide (HS4.out.later hb5)
     have HA5:=hide ((HAR.out.nf (NF.of (B:=B) HB4.out HSI.out.tm.bw)).nf (NF.of (B:=B) hb5 HS4.out.tm.bw))
     have r3:w5.cell? ⟨gs,j,none⟩=some (.pointer (some ⟨r.1,0,none⟩)):=(aAa ((hb5.block gs (Nat.lt_of_lt_of_le (lO HX3.out) HB4.out.size)).trans ((HB4.out.block gs (lO HX3.out)).trans HX3.out))).trans HXO.out.2
     have HCL:=hide (HS5.out.Close hg0.out (by decide) (by decide) (by decide))
     clear hb5 HSA r2
     go_wp2_with fail
     refine HCL.out.mono ?_
     rintro e w6 ⟨rfl,hnf6,q6,t6,left6,sv6,hS6⟩
     have HP6:Hid (INc B p g go gs rec l0 now0 (j+1) W w6):=⟨q6,s',t6,left6,sv6,hS6,HA5.out.nf hnf6⟩
     clear hnf6 hS6 HCL r3
     go_wp2_with fail
     go_roundw
     case rel=>exact ⟨j+1,by omega,by go_num,HP6.out⟩
     case measure=>simp [intOf];omega
    ·have i4:¬ (j:Int)<4:=by omega
     have hj':j=4:=by omega
     subst hj'
     have hnil:rec.drop 4=[]:=List.drop_of_length_le (by omega)
     rw [hnil] at hSI
     have HSN:=hide (Snap_ok hSI.tm hSI.sn (by show 0<4;decide))
     have HBE:=hide hSI.be
     have HBW:=hide hSI.tm.bw
     clear hSI hAR HP
     go_wp2_with fail
     refine HSN.out.mono ?_
     rintro e w4 ⟨nb,sv4,rfl,k1,k2,k3,k4⟩
     have HTD:=hide (told_any w4)
     have HB4:=hide (HBE.out.trans k4.1)
     have HBW4:Hid (B≤w4.heap.size):=nT HBW.out k4.1.size
     clear k1 k2 k3 k4 HSN
     go_wp2_with fail
     refine HTD.out.mono ?_
     rintro e w5 ⟨rfl,hb5⟩
     have HB5:=hide (HB4.out.trans (hb5.mono HBW4.out))
     clear hb5 HTD
     go_wp2
     go_ret
     exact ⟨rfl,HB5.out⟩
end Go.Proofs.YtimdcaofgapnlabGreat
namespace Go.Proofs.YtimdcaofgapnlabGreat
open Go.ChangeShapes Go.WideShapes Go.ChangeAt Go.RowKit
set_option linter.unusedVariables false
theorem aE5 (os:Os) (started:os.Started) (H:Type) (enc:TypeId×Value→H) :
  ReturnsInHanded {} Tryz.checked os 6 .any (Rows.treeSnapsSpec.pre6 enc Tryz.prog Tryz.f6 Rows.treeSnapsRow.domain false) (Rows.treeSnapsSpec.post enc Tryz.prog Tryz.f6 false true false false):=by
 refine returnsInHanded_of_change_sized (C:=Tryz.checked) own started (by kernel_rfl) Tryz.func6
  (ChangeSpec.witness6 (enc:=enc) (C:=Tryz.checked) false ⟨#[],#[.slice none 0 0,.slice none 0 0],[]⟩ 8 (by kernel_rfl) (by kernel_rfl) (by kernel_rfl) (by kernel_rfl)) ?_
 intro W base args ds gs before hval0 hW hcnd hsz0 _
 have hval:∀ (j:Nat) t v,Tryz.f6.params[j]?=some t→args[j]?=some v→Value.okWide Tryz.prog W .any base t v:=hval0
 have hsz:(DataW.weightsEach Tryz.prog (Tryz.f6.params.toList++Rows.treeSnapsSpec.plain.varTypes Tryz.prog) (ds++gs)).all (·≤reachBytes)=true:=hsz0
 have hW':=hW
 obtain ⟨p,q,hA0,hV,rfl,hfz,hnd⟩:=hW
 have hA:DataW.TrodAll enc Tryz.prog W 0 (fun _=>true) true Tryz.f6.params.toList args.toList ds p:=hA0
 rw [Tryz.params6] at hA hval hsz
 obtain ⟨v0,vs0,d0,ds0,p0,q0,hargs,rfl,rfl,h0,r0⟩:=trodAll_cons hA
 obtain ⟨v1,vs1,d1,ds1,p1,q1,rfl,rfl,rfl,h1,r1⟩:=trodAll_cons r0
 obtain ⟨rfl,rfl,rfl⟩:=trodAll_nil r1
 obtain rfl:args=#[v0,v1]:=by cases args;simp_all
 obtain ⟨rfl,rfl⟩:=trodVars_none hV
 obtain ⟨a0,len0,cap0,rfl⟩:=okWide_slice Tryz.underlying22 (hval 0 22 v0 rfl rfl)
 have k0:=h0
 have lt0:∀ x∈p0,x.block<W.heap.size:=by obtain ⟨m,hm⟩:=k0;exact DataW.trod_lt m _ _ _ hm
 obtain ⟨b0,o0,A0,L0,C0,tf0,w0⟩:=open_texts 64 (by omega) h0
 obtain ⟨a1,len1,cap1,rfl⟩:=okWide_slice Tryz.underlying54 (hval 1 54 v1 rfl rfl)
 have k1:=h1
 have lt1:∀ x∈p1,x.block<W.heap.size:=by obtain ⟨m,hm⟩:=k1;exact DataW.trod_lt m _ _ _ hm
 obtain ⟨xs1,w1,s1⟩:=open_bl h1
 clear hA0 hval0 hsz0
 refine (aGi a0 len0 cap0 b0 o0 A0 L0 C0 tf0 a1 len1 cap1 xs1 W w0 w1 s1).mono fun e W' ⟨he,bel⟩=>?_
 subst he
 exact ⟨_,rfl,_,_,_,[],_,[],hW',trodAll_mk1 (shut_bool Tryz.underlying4 _),(trodAll_cons_mk (Below.trod laidOut (by kernel_rfl) (of_decide_eq_true (by kernel_rfl)) k0 bel lt0) (trodAll_cons_mk (Below.trod laidOut (by kernel_rfl) (of_decide_eq_true (by kernel_rfl)) k1 bel lt1) trodAll_mk0)),rfl,bel.frame _,fun h=>by cases h⟩
theorem treeSnaps_holds:Rows.TreeSnapsSaid :=
 OpenClaim.holds_of_wide 6 Tryz.f6 rfl rfl rfl rfl rfl rfl rfl ⟨rfl,rfl,rfl,rfl,rfl⟩ rfl rfl rfl rfl rfl (by kernel_rfl) Tryz.func6 (by kernel_rfl)
  (of_decide_eq_true (by kernel_rfl)) (by unfold Func.isWrapper;first | (rw [if_pos (by decide +kernel)];kernel_rfl) | (rw [if_neg (by decide +kernel)];exact ⟨rfl,rfl⟩))
  (fun os started H enc _=>aE5 os started H enc)
#print axioms treeSnaps_holds
end Go.Proofs.YtimdcaofgapnlabGreat
