import Derived.Laws.Bits64b
import Derived.Test.YtdpdjpkmndnaaaaGreatY37
import Derived.Deep.RegionLaw
import Derived.Lib.AppendZeros
import Derived.Lib.Overlaps
import Derived.Test.YtdpdjpkmndnaaaaGreatY46
import Derived.Test.YtdpdjpkmndnaaaaGreatY50
set_option maxRecDepth 100000
set_option maxHeartbeats 16000000
set_option linter.unusedVariables false
namespace Go.Proofs.YtdpdjpkmndnaaaaGreat
open Go.RowKit
theorem Tr.nil {s:DS} {t:PS} {st:StT} (h:Tr s t st []):st.depth=0/\st.keys=0/\PgS st.pgs []:=by
 rcases h with ⟨_,h2,h3,_,h5⟩ | ⟨h,b,e1,e2,e3,e4,e5,e6,e7,e8,e9⟩
 ·exact ⟨h2,h3,h5⟩
 ·exfalso;have:1<=(flB h b).length:=by
   cases h with
   | zero=>exact e8
   | succ h =>
    have hw:(flB (h+1) b).length=b.2.1.length+((b.2.2.map (flB h)).map List.length).sum:=aDv _ _ (by rw [List.length_map];exact e7.2.1);have e8:1<=b.2.1.length:=e8;omega
  rw [e4] at this;simp at this
def Full3 (t:PS):Prop:=∀ i,2<=i->i<t.st.length->t.st.getD i 0=1\/t.st.getD i 0=2\/t.st.getD i 0=3
theorem count_all {l:List Nat} (h0:l.getD 0 0=0) (h1:l.getD 1 0=0) (hl:2<=l.length):(cntF l=l.length-2↔∀ i,2<=i->i<l.length->l.getD i 0=1):=by
 match l,hl with
 | a::b::r,_ =>
  have ha:a=0:=by simpa using h0
  have hb:b=0:=by simpa using h1
  subst ha hb;have hc:cntF (0::0::r)=r.count 1:=by
   unfold cntF;rw [List.count_cons_of_ne (by decide),List.count_cons_of_ne (by decide)]
  rw [hc];have hL:(0::0::r).length-2=r.length:=by simp
  rw [hL];constructor
  ·intro h i h2 hi;have hm:=List.count_eq_length.1 h;obtain ⟨j,rfl⟩:∃ j,i=j+2:=⟨i-2,by omega⟩;have hj:j<r.length:=by simpa using hi
   have:(0::0::r).getD (j+2) 0=r.getD j 0:=rfl;rw [this,List.getD_eq_getElem?_getD,gE hj];exact (hm _ (List.getElem_mem hj)).symm
  ·intro h;refine List.count_eq_length.2 fun x hx=>?_
   obtain ⟨j,hj,rfl⟩:=List.getElem_of_mem hx;have:=h (j+2) (by omega) (by simpa using hj);have e:(0::0::r).getD (j+2) 0=r.getD j 0:=rfl;rw [e,List.getD_eq_getElem?_getD,gE hj] at this;exact this.symm
structure TI [Gd] (B p q g N c:Nat) (u:Nat) (last:StT) (l:List It) (s:DS) (t:PS) (now:StT) (left:Int) (W wx:World):Prop where
 tm:TM B p q g s t now last (.slice none 0 0) left wx
 tr:Tr s t now l
 ln:l.length<=90
 sn:s.n=N
 mu:s.m<=u
 cu:N-2<=cntF t.st+u
 nm:t.num=c
 f3:Full3 t
 be:Below B W wx
section
variable [Gd] {B p q g N c u:Nat} {last:StT} {l:List It} {s:DS} {t:PS} {now:StT} {left:Int} {W wx wy:World}
theorem TI.later (h:TI B p q g N c u last l s t now left W wx) (hb:Below wx.heap.size wx wy):TI B p q g N c u last l s t now left W wy:=⟨h.tm.later hb,h.tr,h.ln,h.sn,h.mu,h.cu,h.nm,h.f3,h.be.trans (hb.mono h.tm.bw)⟩
theorem TI.dep (h:TI B p q g N c u last l s t now left W wx):0<=now.depth/\now.depth<=4:=h.tr.depth80 (nT h.ln (by decide))
end
theorem OpT.ti [Gd] {B p g n:Nat} {W w':World} (h:OpT B p g n w') (hn:2<=n) (hb:Below B W w'):∃ q s t st0 left,TI B p q g n 0 0 st0 [] s t st0 left W w'/\left=((n-2:Nat):Int):=by
 obtain ⟨q,s,t,st0,hM,hTr,hdp,hsn,hm,hc,hnum,hs0,hs1⟩:=h;have hln:t.st.length=n:=by rw [hM.sn];exact hsn
 refine ⟨q,s,t,st0,_,⟨hM,hTr,by simp,hsn,by omega,by omega,hnum,fun i h2 hi=>?_,hb⟩,by rw [hc]⟩;exact Or.inl ((count_all hM.hd.1 hM.hd.2 (by omega)).1 (by rw [hc,hln]) i h2 hi)
end Go.Proofs.YtdpdjpkmndnaaaaGreat
set_option maxRecDepth 100000
set_option maxHeartbeats 16000000
set_option linter.unusedVariables false
namespace Go.Proofs.YtdpdjpkmndnaaaaGreat
open Go.RowKit Tryz
variable {B K N b c cap g hc hn kc kn lc ln ls most n o p q u vc vn:Nat} {Q:Exit->Act->World->Prop} {W w wr:World} {a ka va:Option Addr} {b0 b1 b2 b3:Value} {fn:Func} {fz:Nat×Nat} {gone:Bool} {key val xs:List Nat} {l:List It} {ops:Array Oper} {rest:List Oper} {sp:Int} {st:StT} {t:TypeId}
def KX [Gd] (B p q g N c u:Nat) (l:List It) (W w:World):Prop:=∃ last s t now left,TI B p q g N c u last l s t now left W w
section
variable [Gd] {B p q g N c u:Nat} {l:List It} {W w w':World}
theorem KX.later (h:KX B p q g N c u l W w) (hb:Below w.heap.size w w'):KX B p q g N c u l W w':=by
 obtain ⟨last,s,t,now,left,h⟩:=h;exact ⟨last,s,t,now,left,h.later hb⟩
theorem KX.bw (h:KX B p q g N c u l W w):B<=w.heap.size:=by
 obtain ⟨last,s,t,now,left,h⟩:=h;exact h.tm.bw
theorem KX.be (h:KX B p q g N c u l W w):Below B W w:=by
 obtain ⟨last,s,t,now,left,h⟩:=h;exact h.be
theorem KX.Get (h:KX B p q g N c u l W w) {ka:Option Addr} {kn kc:Nat} {key:List Nat} (hk:BK B w ka kn kc key) (hk0:0<kn) (hk6:kn<=64) :
  Calls prog 166 #[.pointer (some ⟨g,0,none⟩),.slice ka kn kc] w fun e w'=>∃ v isb,e=.returned (.tuple #[v,.bool isb,.int .i64 0])/\VlV B w' (valL l key) v isb/\Below w.heap.size w w':=by
 obtain ⟨last,s,t,now,left,h⟩:=h;have hd:=h.dep;exact Get_ok h.tm h.tr (by omega) hk hk0 hk6
theorem KX.Len (h:KX B p q g N c u l W w):Calls prog 111 #[.pointer (some ⟨g,0,none⟩)] w fun e w'=>e=.returned (.int .i64 (l.length:Int))/\w'=w:=by
 obtain ⟨last,s,t,now,left,h⟩:=h;have:=Len_any h.tm;rwa [h.tr.keys] at this
theorem KX.dead (h:KX B p q g N c u l W w):Calls prog 114 #[.pointer (some ⟨g,0,none⟩)] w fun e w'=>e=.returned (.bool false)/\Below w.heap.size w w':=by
 obtain ⟨last,s,t,now,left,h⟩:=h;obtain ⟨cs,h1,h2⟩:=h.tm.tv;exact tdead_no h.tm.st h.tm.lf h1 h2
end
theorem wp_cat {o:Oper} {a:Act} {K:Act->World->Prop} (s x:Operand)
  (ho:o.op=.call { callee:=.builtin .append,args:=#[s,x],argTypes:=#[97,97] })
  {B B1 n m cap:Nat} {v:Value} {ys xs:List Nat} {ax:Option Addr} (hs:a.eval s=v) (hx:a.eval x=.slice ax m cap) (hown:wr.ownsRow B1 5 1 v n (cellsOf ys)) (hn:ys.length=n) (hX:BS wr ax m cap xs) (hb:∀ z∈ys,z<256) (hl:n+m<=100000) (hB1:B1<=wr.heap.size)
  (h:∀ b c w',BK B w' b (n+m) c (ys++xs)->Below B1 wr w'->K (a.put o.dst (.slice b (n+m) c)) w'):Oper.wp prog o a wr K Q:=by
 obtain ⟨i0,hi,hz0,hz1,hz2⟩:=info_parts aFw;have hxl:=hX.hlen;have hbb:∀ z∈ys++xs,z<256:=fun z hz=>by
  rcases List.mem_append.1 hz with q | q
  ·exact hb z q
  ·exact hX.hbyte z q
 have e2:n+m=(ys++xs).length:=by rw [lA];omega
 cases ax with
 | none =>
  have hc0:=hX.hnil rfl;have hcc:=hX.hcap;have e0:m=0:=by omega
  subst e0 hc0;have ex:xs=[]:=List.eq_nil_of_length_eq_zero hxl;subst ex;have hrun:=run_append_owned_none (P:=prog) (w:=wr) B1 97 o.type 5 i0 1 underlying97 hi v n (cellsOf ys) hown;obtain ⟨b,c,rfl,hk⟩:=BK.owned (B:=B) (xs:=ys) (by rw [hn];exact hown) (by omega) hb;have hK:=h b c wr (by rw [List.append_nil,Nat.add_zero,<-hn];exact hk) (Below.refl _ _);rw [Nat.add_zero,<-hn] at hK;unfold Oper.wp;simp [execOp,ho,resolve,invoke,builtin,hs,hx,hrun,Result.andThen];exact hK
 | some ad =>
  refine wp_append_own wr s x _ ho B1 5 i0 (.int .u8 0) 1 1 underlying97 hi hz0 hz1 hz2 rfl (by omega) v n (cellsOf ys) hs hown ad m cap (cellsOf xs) hx (by rw [aAl,hxl,Nat.mul_one]) hX.news (aA4 xs) (by unfold maxLen;omega) (by omega) hB1 ?_;intro v' w' h1 h2 _;rw [<-aAy,e2] at h1;obtain ⟨b,c,rfl,hk⟩:=BK.owned (B:=B) h1 (by omega) hbb;rw [<-e2] at hk;have h9:=h b c w' hk ((Below.refl B1 _).grown h2 hB1 (fun k hk=>(hown.lt k hk).1));rw [<-e2];exact h9
theorem wpList_cat {o:Oper} {a:Act} (hw:Region.wanted o (yielded ops a.tmps)=true) (s x:Operand)
  (ho:o.op=.call { callee:=.builtin .append,args:=#[s,x],argTypes:=#[97,97] })
  {B B1 n m cap:Nat} {v:Value} {ys xs:List Nat} {ax:Option Addr} (hs:a.eval s=v) (hx:a.eval x=.slice ax m cap) (hown:wr.ownsRow B1 5 1 v n (cellsOf ys)) (hn:ys.length=n) (hX:BS wr ax m cap xs) (hb:∀ z∈ys,z<256) (hl:n+m<=100000) (hB1:B1<=wr.heap.size)
  (h:∀ b c w',BK B w' b (n+m) c (ys++xs)->Below B1 wr w'->wpList prog ops Q rest (a.put o.dst (.slice b (n+m) c)) w'):wpList prog ops Q (o::rest) a wr :=
 wpList_step fun K hK=>by
  rw [if_pos hw];exact wp_cat (B:=B) s x ho hs hx hown hn hX hb hl hB1 fun b c w' p1 p2=>hK _ _ (h b c w' p1 p2)
theorem own_one (w:World) (x:Nat):(w.alloc (.cells #[.int .u8 (x:Int)] 5)).ownsRow w.heap.size 5 1 (.slice (some ⟨w.heap.size,0,none⟩) 1 1) 1 (cellsOf [x]) :=
 ⟨rfl,Or.inr ⟨w.heap.size,1,#[.int .u8 (x:Int)],rfl,nR _,heap_alloc_new w _,nR _,by unfold maxLen;omega,rfl,rfl⟩⟩
theorem aDe {sp:Nat} (hsp:sp<256) (h:BS w a n c xs) (hn:n<=10000) :
  Calls prog 121 #[.int .i64 (sp:Int),.slice a n c] w fun e w'=>∃ b d,e=.returned (.slice b (n+1) d)/\BK B w' b (n+1) d (sp::xs)/\Below w.heap.size w w':=by
 have ew:IntKind.u8.wrap (sp:Int)=(sp:Int):=by rw [IntKind.wrap_u8];omega
 have HO:=zH (own_one w sp);have HBX:=zH (aAk w (.cells #[.int .u8 (sp:Int)] 5));have HX:=zH (h.later HBX.o (nR _));clear h;go_enter func121,ntmps121;go_wp2_with (at_builtin;refine wpList_cat (B:=B) (by rfl) (.tmp 7) (.tmp 8) rfl rfl rfl HO.o rfl HX.o (by intro z hz;simp at hz;omega) (by omega) HBX.o.size ?_;intro b d w2 hk2 hb2;have HK2:=zH hk2;have HB2:=zH hb2;clear hk2 hb2);go_ret;refine ⟨b,d,?_,?_,HBX.o.trans HB2.o⟩
 ·rw [Nat.add_comm n 1];rfl
 ·have h9:=HK2.o;rw [Nat.add_comm 1 n] at h9;exact h9
structure LV (cs:Array Value) (g p:Nat):Prop where
 sz:cs.size=19
 c0:cs[0]?=some (.pointer (some ⟨g,0,none⟩))
 c1:cs[1]?=some (.pointer (some ⟨p,0,none⟩))
 c2:cs[2]?=some (.int .i64 0)
 cp:∀ i,3<=i->i<19->∃ n:Int,cs[i]?=some (.int .i64 n)
structure LS [Gd] (B p q g ls N c u:Nat) (l:List It) (W w:World):Prop where
 kx:KX B p q g N c u l W w
 bl:B<=ls
 lv:∃ cs,w.heap[ls]?=some (.cells cs 151 (0,0))/\LV cs g p
section
variable [Gd] {B p q g ls N c u:Nat} {l:List It} {W w w':World}
theorem LS.later (h:LS B p q g ls N c u l W w) (hb:Below w.heap.size w w'):LS B p q g ls N c u l W w':=by
 obtain ⟨cs,h1,h2⟩:=h.lv;exact ⟨h.kx.later hb,h.bl,cs,(hb.block ls (lO h1)).trans h1,h2⟩
theorem LS.bw (h:LS B p q g ls N c u l W w):B<=w.heap.size:=h.kx.bw
theorem LS.dead (h:LS B p q g ls N c u l W w):Calls prog 65 #[.pointer (some ⟨ls,0,none⟩)] w fun e w'=>e=.returned (.bool false)/\Below w.heap.size w w':=by
 obtain ⟨cs,h1,h2⟩:=h.lv;have r0:w.cell? ⟨ls,0,none⟩=some (.pointer (some ⟨g,0,none⟩)):=(aAd h1).trans h2.c0;have HD:=zH h.kx.dead;clear h h1 h2;go_enter func65,ntmps65;go_wp2_with fail;refine HD.o.mono ?_;rintro e w1 ⟨rfl,hb1⟩;have HB1:=zH hb1;clear hb1;go_wp2;go_ret;exact ⟨rfl,HB1.o⟩
end
def GtT (B:Nat) (o:Option (List Nat)) (w:World) (e:Ending) (w':World):Prop:=∃ v isb,e=.returned (.tuple #[v,.bool isb,.int .i64 0])/\VlV B w' o v isb/\Below w.heap.size w w'
theorem LS.cell0 [Gd] (h:LS B p q g ls N c u l W w):w.cell? ⟨ls,0,none⟩=some (.pointer (some ⟨g,0,none⟩)):=by
 obtain ⟨cs,h1,h2⟩:=h.lv;exact (aAd h1).trans h2.c0
structure FGV (cs:Array Value):Prop where
 sz:cs.size=17
 c0:cs[0]?=some (.int .i64 0)
 cp:∀ i,1<=i->i<17->∃ n:Int,cs[i]?=some (.int .i64 n)
theorem ne_blk {a:Nat} {ww:World} {ca cb:Array Value} {ta tb:TypeId} {fa:Nat×Nat} (ha:ww.heap[a]?=some (.cells ca ta fa)) (hb:ww.heap[b]?=some (.cells cb tb fz)) (ht:ta≠tb):a≠b:=fun e=>by
 rw [e,hb] at ha
 simp only [oI,cI] at ha
 exact ht ha.2.1.symm
section
variable [Gd] {B p q g ls N c u fb:Nat} {l:List It} {W w w':World}
end
def z17:Array Value:=(List.replicate 17 (.int .i64 0)).toArray
theorem aKd:(prog.info? 147).map (·.size)=some 17:=by kernel_rfl
theorem FGV.one {cs:Array Value} (h:FGV cs):∀ v∈cs.toList,v.oneCell'=true:=by
 intro v hv;obtain ⟨i,hi⟩:=List.getElem?_of_mem hv;rw [Array.getElem?_toList] at hi;have hlt:=(lO hi);rw [h.sz] at hlt;by_cases h0:i=0
 ·subst h0;rw [h.c0] at hi;cases hi;rfl
 ·obtain ⟨n,hn⟩:=h.cp i (by omega) hlt;rw [hn] at hi;cases hi;rfl
theorem set4 {a0 a1 a2 a3:Value} (h:w.heap[g]?=some (.cells #[a0,a1,a2,a3] t (0,0))):((((w.setCell ⟨g,0,none⟩ b0).setCell ⟨g,1,none⟩ b1).setCell ⟨g,2,none⟩ b2).setCell ⟨g,3,none⟩ b3).heap[g]?=some (.cells #[b0,b1,b2,b3] t (0,0)):=(heap_setCell_same _ _ _ _ _ _ (heap_setCell_same _ _ _ _ _ _ (heap_setCell_same _ _ _ _ _ _ (heap_setCell_same _ _ _ _ _ _ h))))
theorem ft1 {cs:Array Value} (h:w.heap[g]?=some (.cells cs t fz)) (ht:t≠5) (hB:B<=g):FT B w (w.setCell ⟨g,o,none⟩ b0):=by
 refine ⟨(Below.refl B w).setCell (p:=⟨g,o,none⟩) hB _,fun k cs fz e=>?_⟩;rw [heap_setCell_other _ _ _ _ (ne_blk e h (Ne.symm ht)),e]
theorem aKe:(prog.info? 164).map (·.size)=some 4:=by kernel_rfl
theorem aIq (hk:BK B w ka kn kc key) (hv:BK B w va vn vc val) (hB:B<=w.heap.size) :
  Calls prog 123 #[.agg #[.int .i64 sp,.slice ka kn kc,.slice va vn vc,.bool gone]] w fun e w'=>∃ a d b g,e=.returned (.agg #[.int .i64 sp,.slice a kn d,.slice b vn g,.bool gone])/\BK B w' a kn d key/\BK B w' b vn g val/\Below w.heap.size w w':=by
 have HBX:Hid (Below w.heap.size w ((w.alloc (.cells #[.int .i64 sp,.slice ka kn kc,.slice va vn vc,.bool gone] 164)).alloc (.cells #[.int .i64 0,.slice none 0 0,.slice none 0 0,.bool false] 164))):=(aA3 [Obj.cells #[.int .i64 sp,.slice ka kn kc,.slice va vn vc,.bool gone] 164,Obj.cells #[.int .i64 0,.slice none 0 0,.slice none 0 0,.bool false] 164] w).1;have HR1:Hid (((w.alloc (.cells #[.int .i64 sp,.slice ka kn kc,.slice va vn vc,.bool gone] 164)).alloc (.cells #[.int .i64 0,.slice none 0 0,.slice none 0 0,.bool false] 164)).heap[w.heap.size]?=some (.cells #[.int .i64 sp,.slice ka kn kc,.slice va vn vc,.bool gone] 164 (0,0))):=aAp [Obj.cells #[.int .i64 sp,.slice ka kn kc,.slice va vn vc,.bool gone] 164,Obj.cells #[.int .i64 0,.slice none 0 0,.slice none 0 0,.bool false] 164] w 0 _ rfl;have HA1:Hid (((w.alloc (.cells #[.int .i64 sp,.slice ka kn kc,.slice va vn vc,.bool gone] 164)).alloc (.cells #[.int .i64 0,.slice none 0 0,.slice none 0 0,.bool false] 164)).heap[w.heap.size+1]?=some (.cells #[.int .i64 0,.slice none 0 0,.slice none 0 0,.bool false] 164 (0,0))):=aAp [Obj.cells #[.int .i64 sp,.slice ka kn kc,.slice va vn vc,.bool gone] 164,Obj.cells #[.int .i64 0,.slice none 0 0,.slice none 0 0,.bool false] 164] w 1 _ rfl;have HBn:=zH hB;have H1a:=zH (hk.later HBX.o hB);have H2a:=zH (hv.later HBX.o hB);have HL1:=zH hk.1.hlen;have HL2:=zH hv.1.hlen;have HM1:=zH hk.1.hroom;have HM2:=zH hv.1.hroom;have HY1:=zH hk.1.hbyte;have HY2:=zH hv.1.hbyte;clear hk hv hB;go_enter func123,ntmps123;go_upto_region 1 with fail;generalize ((w.alloc (.cells #[.int .i64 sp,.slice ka kn kc,.slice va vn vc,.bool gone] 164)).alloc (.cells #[.int .i64 0,.slice none 0 0,.slice none 0 0,.bool false] 164))=w1 at *
 generalize hn0:w.heap.size=n0 at *
 generalize hn1:n0+1=n1 at *
 have HN1:Hid (n0<n1):=by show n0<n1;omega
 have HBw:Hid (B<=w1.heap.size):=by show B<=_;have:=HBX.o.size;have:=HBn.o;omega
 have c1:w1.cell? ⟨n0,1,none⟩=some (.slice ka kn kc):=aAd HR1.o;have c2:w1.cell? ⟨n0,2,none⟩=some (.slice va vn vc):=aAd HR1.o;have d1:w1.drew.cell? ⟨n0,1,none⟩=some (.slice ka kn kc):=c1;have d2:w1.drew.cell? ⟨n0,2,none⟩=some (.slice va vn vc):=c2;have HX1:Hid ((fun wx=>True) w1.drew):=trivial;refine wp_region_noPanic ?_;refine wp_region_held_drew (S:=fun wx=>True) (by kernel_rfl) HX1.o (fun hHeld=>?_);refine aAb 0 3 ?_;refine aAb 1 4 ?_;refine aAb 4 7 ?_;refine aAb 5 8 ?_;refine aAo (i:=2) (j:=6) (by kernel_rfl) (by kernel_rfl) (by kernel_rfl) ?ba ?bb
 case ba =>
  intro o ho K hK;simp only [tG,sG,zG,oI] at ho;subst ho;go_simp;clear hHeld;refine hK.out _ _ trivial (fun hHeld=>?_);clear hK K
  try simp only [Act.put,siT,scZ,scS]
  refine aAo (i:=3) (j:=6) (by kernel_rfl) (by kernel_rfl) (by kernel_rfl) ?baa ?bab
  case baa =>
   intro o ho K hK;simp only [tG,sG,zG,oI] at ho;subst ho;go_simp;have hBd:=(H1a.o.later (show Below w1.heap.size w1 w1.drew from (Below.refl _ _).drew) HBw.o).1;refine (aB6 ka kn kc key w1.drew hBd).mono ?_;rintro e w2 ⟨u1,rfl,ho1,hb1⟩;have hb1:Below w1.heap.size w1 w2:=⟨hb1.os,hb1.tape,hb1.output,hb1.size,hb1.block⟩;rw [HL1.o] at ho1;obtain ⟨a,d,hu1,hk2⟩:=BK.owned (B:=B) (xs:=key) (by rw [HL1.o];exact ho1) (by rw [HL1.o];exact HM1.o) HY1.o;rw [HL1.o] at hu1 hk2;subst hu1;have HK2:=zH hk2;have HR2:=zH ((hb1.block n0 (lO HR1.o)).trans HR1.o);have HA2:=zH ((hb1.block n1 (lO HA1.o)).trans HA1.o);have HB2:Hid (Below n0 w w2):=HBX.o.trans (hb1.mono (by have:=HBX.o.size;omega));have HU2:=zH (H2a.o.later hb1 HBw.o);have HBw2:Hid (B<=w2.heap.size):=by show B<=_;have:=hb1.size;have:=HBw.o;omega
   have e2:w2.cell? ⟨n0,2,none⟩=some (.slice va vn vc):=aAd HR2.o;clear ho1 hb1 hk2 hBd;clear hHeld;refine hK.out _ _ trivial (fun hHeld=>?_);clear hK K
   try simp only [Act.put,siT,scZ,scS]
   refine aAf 6 ?_;intro K hK;go_simp;clear hHeld;refine hK.out _ _ trivial (fun hHeld=>?_);clear hK K
   try simp only [Act.put,siT,scZ,scS]
   clear e2;refine aAb 8 11 ?_;refine aAb 9 12 ?_;refine aAf 7 ?_;intro K hK;go_simp;refine (aB6 va vn vc val w2 HU2.o.1).mono ?_;rintro e w3 ⟨u2,rfl,ho2,hb2⟩;rw [HL2.o] at ho2;obtain ⟨b,g,hu2,hk3⟩:=BK.owned (B:=B) (xs:=val) (by rw [HL2.o];exact ho2) (by rw [HL2.o];exact HM2.o) HY2.o;rw [HL2.o] at hu2 hk3;subst hu2;have HK3:=zH (HK2.o.later hb2 HBw2.o);have HV3:=zH hk3;have HR3:=zH ((hb2.block n0 (lO HR2.o)).trans HR2.o);have HA3:=zH ((hb2.block n1 (lO HA2.o)).trans HA2.o);have HB3:Hid (Below n0 w w3):=HB2.o.trans (hb2.mono (by have:=HB2.o.size;omega));clear ho2 hb2 hk3 c1 c2 d1 d2;clear hHeld;refine hK.out _ _ trivial (fun hHeld=>?_);clear hK K
   try simp only [Act.put,siT,scZ,scS]
   have x1:w3.cell? ⟨n0,1,none⟩=some (.slice ka kn kc):=aAd HR3.o;have xf1:w3.frozen? ⟨n0,1,none⟩=false:=aAm HR3.o;refine aAf 10 ?_;intro K hK;go_simp;have HR4:Hid ((w3.setCell ⟨n0,1,none⟩ (.slice a kn d)).heap[n0]?=some (.cells #[.int .i64 sp,.slice a kn d,.slice va vn vc,.bool gone] 164 (0,0))):=heap_setCell_same _ _ _ _ _ _ HR3.o;have HA4:Hid ((w3.setCell ⟨n0,1,none⟩ (.slice a kn d)).heap[n1]?=some (.cells #[.int .i64 0,.slice none 0 0,.slice none 0 0,.bool false] 164 (0,0))):=(heap_setCell_other _ _ _ _ (by show n1≠n0;have:=HN1.o;omega)).trans HA3.o;have HK4:=zH (HK3.o.ft (ft1 (B:=B) (o:=1) (b0:=.slice a kn d) HR3.o (by decide) HBn.o));have HV4:=zH (HV3.o.ft (ft1 (B:=B) (o:=1) (b0:=.slice a kn d) HR3.o (by decide) HBn.o));have HB4:Hid (Below n0 w (w3.setCell ⟨n0,1,none⟩ (.slice a kn d))):=HB3.o.setCell (p:=⟨n0,1,none⟩) (nR _) _;have HBw4:Hid (B<=(w3.setCell ⟨n0,1,none⟩ (.slice a kn d)).heap.size):=by show B<=_;have:=HB4.o.size;have:=HBn.o;omega
   clear hHeld;refine hK.out _ _ trivial (fun hHeld=>?_);clear x1 xf1;generalize w3.setCell ⟨n0,1,none⟩ (.slice a kn d)=w4 at *
   clear hK K
   try simp only [Act.put,siT,scZ,scS]
   refine aAb 11 13 ?_;refine aAb 12 14 ?_;have x2:w4.cell? ⟨n0,2,none⟩=some (.slice va vn vc):=aAd HR4.o;have xf2:w4.frozen? ⟨n0,2,none⟩=false:=aAm HR4.o;refine aAf 13 ?_;intro K hK;go_simp;have HR5:Hid ((w4.setCell ⟨n0,2,none⟩ (.slice b vn g)).heap[n0]?=some (.cells #[.int .i64 sp,.slice a kn d,.slice b vn g,.bool gone] 164 (0,0))):=heap_setCell_same _ _ _ _ _ _ HR4.o;have HA5:Hid ((w4.setCell ⟨n0,2,none⟩ (.slice b vn g)).heap[n1]?=some (.cells #[.int .i64 0,.slice none 0 0,.slice none 0 0,.bool false] 164 (0,0))):=(heap_setCell_other _ _ _ _ (by show n1≠n0;have:=HN1.o;omega)).trans HA4.o;have HK5:=zH (HK4.o.ft (ft1 (B:=B) (o:=2) (b0:=.slice b vn g) HR4.o (by decide) HBn.o));have HV5:=zH (HV4.o.ft (ft1 (B:=B) (o:=2) (b0:=.slice b vn g) HR4.o (by decide) HBn.o));have HB5:Hid (Below n0 w (w4.setCell ⟨n0,2,none⟩ (.slice b vn g))):=HB4.o.setCell (p:=⟨n0,2,none⟩) (nR _) _;clear hHeld;refine hK.out _ _ trivial (fun hHeld=>?_);clear x2 xf2;generalize w4.setCell ⟨n0,2,none⟩ (.slice b vn g)=w5 at *
   clear hK K
   try simp only [Act.put,siT,scZ,scS]
   refine wpAnyH_done (by kernel_rfl) ?_ _;refine NoPanic.normal ?_;have y0:w5.cell? ⟨n0,0,none⟩=some (.int .i64 sp):=aAd HR5.o;have y1:w5.cell? ⟨n0,1,none⟩=some (.slice a kn d):=aAd HR5.o;have y2:w5.cell? ⟨n0,2,none⟩=some (.slice b vn g):=aAd HR5.o;have y3:w5.cell? ⟨n0,3,none⟩=some (.bool gone):=aAd HR5.o;have z0:w5.cell? ⟨n1,0,none⟩=some (.int .i64 0):=aAd HA5.o;have zf0:w5.frozen? ⟨n1,0,none⟩=false:=aAm HA5.o;have z1:w5.cell? ⟨n1,1,none⟩=some (.slice none 0 0):=aAd HA5.o;have zf1:w5.frozen? ⟨n1,1,none⟩=false:=aAm HA5.o;have z2:w5.cell? ⟨n1,2,none⟩=some (.slice none 0 0):=aAd HA5.o;have zf2:w5.frozen? ⟨n1,2,none⟩=false:=aAm HA5.o;have z3:w5.cell? ⟨n1,3,none⟩=some (.bool false):=aAd HA5.o;have zf3:w5.frozen? ⟨n1,3,none⟩=false:=aAm HA5.o;go_wp2;(try simp only [Exit.inBlock,Exit.then]);refine bodyPost_ret (results_cell_row results123 _ _ n1 _ _ _ _ rfl (set4 HA5.o) underlying164 rfl aKe) rfl ?_;have hBn1:B<=n1:=by have:=HBn.o;have:=HN1.o;omega
   have hn:n0<=n1:=by have:=HN1.o;omega
   have hft:∀ {p q r s:Value},FT B w5 ((((w5.setCell ⟨n1,0,none⟩ p).setCell ⟨n1,1,none⟩ q).setCell ⟨n1,2,none⟩ r).setCell ⟨n1,3,none⟩ s):=fun {p q r s}=>(((ft1 (o:=0) HA5.o (by decide) hBn1).trans (ft1 (o:=1) (heap_setCell_same _ _ _ _ _ _ HA5.o) (by decide) hBn1)).trans (ft1 (o:=2) (heap_setCell_same _ _ _ _ _ _ (heap_setCell_same _ _ _ _ _ _ HA5.o)) (by decide) hBn1)).trans (ft1 (o:=3) (heap_setCell_same _ _ _ _ _ _ (heap_setCell_same _ _ _ _ _ _ (heap_setCell_same _ _ _ _ _ _ HA5.o))) (by decide) hBn1)
   refine ⟨a,d,b,g,rfl,HK5.o.ft hft,HV5.o.ft hft,?_⟩
   try rw [hn0]
   exact (((HB5.o.setCell (p:=⟨n1,0,none⟩) hn _).setCell (p:=⟨n1,1,none⟩) hn _).setCell (p:=⟨n1,2,none⟩) hn _).setCell (p:=⟨n1,3,none⟩) hn _
  case bab =>
   intro o ho K hK;simp only [tG,sG,zG,oI] at ho;subst ho;go_simp;clear hHeld;refine hK.out _ _ trivial (fun hHeld=>?_);clear hK K
   try simp only [Act.put,siT,scZ,scS]
   refine aAf 3 ?_;intro K hK;go_simp;have hBd:=(H1a.o.later (show Below w1.heap.size w1 w1.drew from (Below.refl _ _).drew) HBw.o).1;refine (aB6 ka kn kc key w1.drew hBd).mono ?_;rintro e w2 ⟨u1,rfl,ho1,hb1⟩;have hb1:Below w1.heap.size w1 w2:=⟨hb1.os,hb1.tape,hb1.output,hb1.size,hb1.block⟩;rw [HL1.o] at ho1;obtain ⟨a,d,hu1,hk2⟩:=BK.owned (B:=B) (xs:=key) (by rw [HL1.o];exact ho1) (by rw [HL1.o];exact HM1.o) HY1.o;rw [HL1.o] at hu1 hk2;subst hu1;have HK2:=zH hk2;have HR2:=zH ((hb1.block n0 (lO HR1.o)).trans HR1.o);have HA2:=zH ((hb1.block n1 (lO HA1.o)).trans HA1.o);have HB2:Hid (Below n0 w w2):=HBX.o.trans (hb1.mono (by have:=HBX.o.size;omega));have HU2:=zH (H2a.o.later hb1 HBw.o);have HBw2:Hid (B<=w2.heap.size):=by show B<=_;have:=hb1.size;have:=HBw.o;omega
   have e2:w2.cell? ⟨n0,2,none⟩=some (.slice va vn vc):=aAd HR2.o;clear ho1 hb1 hk2 hBd;clear hHeld;refine hK.out _ _ trivial (fun hHeld=>?_);clear hK K
   try simp only [Act.put,siT,scZ,scS]
   clear e2;refine aAb 8 11 ?_;refine aAb 9 12 ?_;refine aAf 7 ?_;intro K hK;go_simp;refine (aB6 va vn vc val w2 HU2.o.1).mono ?_;rintro e w3 ⟨u2,rfl,ho2,hb2⟩;rw [HL2.o] at ho2;obtain ⟨b,g,hu2,hk3⟩:=BK.owned (B:=B) (xs:=val) (by rw [HL2.o];exact ho2) (by rw [HL2.o];exact HM2.o) HY2.o;rw [HL2.o] at hu2 hk3;subst hu2;have HK3:=zH (HK2.o.later hb2 HBw2.o);have HV3:=zH hk3;have HR3:=zH ((hb2.block n0 (lO HR2.o)).trans HR2.o);have HA3:=zH ((hb2.block n1 (lO HA2.o)).trans HA2.o);have HB3:Hid (Below n0 w w3):=HB2.o.trans (hb2.mono (by have:=HB2.o.size;omega));clear ho2 hb2 hk3 c1 c2 d1 d2;clear hHeld;refine hK.out _ _ trivial (fun hHeld=>?_);clear hK K
   try simp only [Act.put,siT,scZ,scS]
   have x1:w3.cell? ⟨n0,1,none⟩=some (.slice ka kn kc):=aAd HR3.o;have xf1:w3.frozen? ⟨n0,1,none⟩=false:=aAm HR3.o;refine aAf 10 ?_;intro K hK;go_simp;have HR4:Hid ((w3.setCell ⟨n0,1,none⟩ (.slice a kn d)).heap[n0]?=some (.cells #[.int .i64 sp,.slice a kn d,.slice va vn vc,.bool gone] 164 (0,0))):=heap_setCell_same _ _ _ _ _ _ HR3.o;have HA4:Hid ((w3.setCell ⟨n0,1,none⟩ (.slice a kn d)).heap[n1]?=some (.cells #[.int .i64 0,.slice none 0 0,.slice none 0 0,.bool false] 164 (0,0))):=(heap_setCell_other _ _ _ _ (by show n1≠n0;have:=HN1.o;omega)).trans HA3.o;have HK4:=zH (HK3.o.ft (ft1 (B:=B) (o:=1) (b0:=.slice a kn d) HR3.o (by decide) HBn.o));have HV4:=zH (HV3.o.ft (ft1 (B:=B) (o:=1) (b0:=.slice a kn d) HR3.o (by decide) HBn.o));have HB4:Hid (Below n0 w (w3.setCell ⟨n0,1,none⟩ (.slice a kn d))):=HB3.o.setCell (p:=⟨n0,1,none⟩) (nR _) _;have HBw4:Hid (B<=(w3.setCell ⟨n0,1,none⟩ (.slice a kn d)).heap.size):=by show B<=_;have:=HB4.o.size;have:=HBn.o;omega
   clear hHeld;refine hK.out _ _ trivial (fun hHeld=>?_);clear x1 xf1;generalize w3.setCell ⟨n0,1,none⟩ (.slice a kn d)=w4 at *
   clear hK K
   try simp only [Act.put,siT,scZ,scS]
   refine aAb 11 13 ?_;refine aAb 12 14 ?_;have x2:w4.cell? ⟨n0,2,none⟩=some (.slice va vn vc):=aAd HR4.o;have xf2:w4.frozen? ⟨n0,2,none⟩=false:=aAm HR4.o;refine aAf 13 ?_;intro K hK;go_simp;have HR5:Hid ((w4.setCell ⟨n0,2,none⟩ (.slice b vn g)).heap[n0]?=some (.cells #[.int .i64 sp,.slice a kn d,.slice b vn g,.bool gone] 164 (0,0))):=heap_setCell_same _ _ _ _ _ _ HR4.o;have HA5:Hid ((w4.setCell ⟨n0,2,none⟩ (.slice b vn g)).heap[n1]?=some (.cells #[.int .i64 0,.slice none 0 0,.slice none 0 0,.bool false] 164 (0,0))):=(heap_setCell_other _ _ _ _ (by show n1≠n0;have:=HN1.o;omega)).trans HA4.o;have HK5:=zH (HK4.o.ft (ft1 (B:=B) (o:=2) (b0:=.slice b vn g) HR4.o (by decide) HBn.o));have HV5:=zH (HV4.o.ft (ft1 (B:=B) (o:=2) (b0:=.slice b vn g) HR4.o (by decide) HBn.o));have HB5:Hid (Below n0 w (w4.setCell ⟨n0,2,none⟩ (.slice b vn g))):=HB4.o.setCell (p:=⟨n0,2,none⟩) (nR _) _;clear hHeld;refine hK.out _ _ trivial (fun hHeld=>?_);clear x2 xf2;generalize w4.setCell ⟨n0,2,none⟩ (.slice b vn g)=w5 at *
   clear hK K
   try simp only [Act.put,siT,scZ,scS]
   refine wpAnyH_done (by kernel_rfl) ?_ _;refine NoPanic.normal ?_;have y0:w5.cell? ⟨n0,0,none⟩=some (.int .i64 sp):=aAd HR5.o;have y1:w5.cell? ⟨n0,1,none⟩=some (.slice a kn d):=aAd HR5.o;have y2:w5.cell? ⟨n0,2,none⟩=some (.slice b vn g):=aAd HR5.o;have y3:w5.cell? ⟨n0,3,none⟩=some (.bool gone):=aAd HR5.o;have z0:w5.cell? ⟨n1,0,none⟩=some (.int .i64 0):=aAd HA5.o;have zf0:w5.frozen? ⟨n1,0,none⟩=false:=aAm HA5.o;have z1:w5.cell? ⟨n1,1,none⟩=some (.slice none 0 0):=aAd HA5.o;have zf1:w5.frozen? ⟨n1,1,none⟩=false:=aAm HA5.o;have z2:w5.cell? ⟨n1,2,none⟩=some (.slice none 0 0):=aAd HA5.o;have zf2:w5.frozen? ⟨n1,2,none⟩=false:=aAm HA5.o;have z3:w5.cell? ⟨n1,3,none⟩=some (.bool false):=aAd HA5.o;have zf3:w5.frozen? ⟨n1,3,none⟩=false:=aAm HA5.o;go_wp2;(try simp only [Exit.inBlock,Exit.then]);refine bodyPost_ret (results_cell_row results123 _ _ n1 _ _ _ _ rfl (set4 HA5.o) underlying164 rfl aKe) rfl ?_;have hBn1:B<=n1:=by have:=HBn.o;have:=HN1.o;omega
   have hn:n0<=n1:=by have:=HN1.o;omega
   have hft:∀ {p q r s:Value},FT B w5 ((((w5.setCell ⟨n1,0,none⟩ p).setCell ⟨n1,1,none⟩ q).setCell ⟨n1,2,none⟩ r).setCell ⟨n1,3,none⟩ s):=fun {p q r s}=>(((ft1 (o:=0) HA5.o (by decide) hBn1).trans (ft1 (o:=1) (heap_setCell_same _ _ _ _ _ _ HA5.o) (by decide) hBn1)).trans (ft1 (o:=2) (heap_setCell_same _ _ _ _ _ _ (heap_setCell_same _ _ _ _ _ _ HA5.o)) (by decide) hBn1)).trans (ft1 (o:=3) (heap_setCell_same _ _ _ _ _ _ (heap_setCell_same _ _ _ _ _ _ (heap_setCell_same _ _ _ _ _ _ HA5.o))) (by decide) hBn1)
   refine ⟨a,d,b,g,rfl,HK5.o.ft hft,HV5.o.ft hft,?_⟩
   try rw [hn0]
   exact (((HB5.o.setCell (p:=⟨n1,0,none⟩) hn _).setCell (p:=⟨n1,1,none⟩) hn _).setCell (p:=⟨n1,2,none⟩) hn _).setCell (p:=⟨n1,3,none⟩) hn _
 case bb =>
  intro o ho K hK;simp only [tG,sG,zG,oI] at ho;subst ho;go_simp;clear hHeld;refine hK.out _ _ trivial (fun hHeld=>?_);clear hK K
  try simp only [Act.put,siT,scZ,scS]
  refine aAf 2 ?_;intro K hK;go_simp;clear hHeld;refine hK.out _ _ trivial (fun hHeld=>?_);clear hK K
  try simp only [Act.put,siT,scZ,scS]
  refine aAf 3 ?_;intro K hK;go_simp;have hBd:=(H1a.o.later (show Below w1.heap.size w1 w1.drew from (Below.refl _ _).drew) HBw.o).1;refine (aB6 ka kn kc key w1.drew hBd).mono ?_;rintro e w2 ⟨u1,rfl,ho1,hb1⟩;have hb1:Below w1.heap.size w1 w2:=⟨hb1.os,hb1.tape,hb1.output,hb1.size,hb1.block⟩;rw [HL1.o] at ho1;obtain ⟨a,d,hu1,hk2⟩:=BK.owned (B:=B) (xs:=key) (by rw [HL1.o];exact ho1) (by rw [HL1.o];exact HM1.o) HY1.o;rw [HL1.o] at hu1 hk2;subst hu1;have HK2:=zH hk2;have HR2:=zH ((hb1.block n0 (lO HR1.o)).trans HR1.o);have HA2:=zH ((hb1.block n1 (lO HA1.o)).trans HA1.o);have HB2:Hid (Below n0 w w2):=HBX.o.trans (hb1.mono (by have:=HBX.o.size;omega));have HU2:=zH (H2a.o.later hb1 HBw.o);have HBw2:Hid (B<=w2.heap.size):=by show B<=_;have:=hb1.size;have:=HBw.o;omega
  have e2:w2.cell? ⟨n0,2,none⟩=some (.slice va vn vc):=aAd HR2.o;clear ho1 hb1 hk2 hBd;clear hHeld;refine hK.out _ _ trivial (fun hHeld=>?_);clear hK K
  try simp only [Act.put,siT,scZ,scS]
  clear e2;refine aAb 8 11 ?_;refine aAb 9 12 ?_;refine aAf 7 ?_;intro K hK;go_simp;refine (aB6 va vn vc val w2 HU2.o.1).mono ?_;rintro e w3 ⟨u2,rfl,ho2,hb2⟩;rw [HL2.o] at ho2;obtain ⟨b,g,hu2,hk3⟩:=BK.owned (B:=B) (xs:=val) (by rw [HL2.o];exact ho2) (by rw [HL2.o];exact HM2.o) HY2.o;rw [HL2.o] at hu2 hk3;subst hu2;have HK3:=zH (HK2.o.later hb2 HBw2.o);have HV3:=zH hk3;have HR3:=zH ((hb2.block n0 (lO HR2.o)).trans HR2.o);have HA3:=zH ((hb2.block n1 (lO HA2.o)).trans HA2.o);have HB3:Hid (Below n0 w w3):=HB2.o.trans (hb2.mono (by have:=HB2.o.size;omega));clear ho2 hb2 hk3 c1 c2 d1 d2;clear hHeld;refine hK.out _ _ trivial (fun hHeld=>?_);clear hK K
  try simp only [Act.put,siT,scZ,scS]
  have x1:w3.cell? ⟨n0,1,none⟩=some (.slice ka kn kc):=aAd HR3.o;have xf1:w3.frozen? ⟨n0,1,none⟩=false:=aAm HR3.o;refine aAf 10 ?_;intro K hK;go_simp;have HR4:Hid ((w3.setCell ⟨n0,1,none⟩ (.slice a kn d)).heap[n0]?=some (.cells #[.int .i64 sp,.slice a kn d,.slice va vn vc,.bool gone] 164 (0,0))):=heap_setCell_same _ _ _ _ _ _ HR3.o;have HA4:Hid ((w3.setCell ⟨n0,1,none⟩ (.slice a kn d)).heap[n1]?=some (.cells #[.int .i64 0,.slice none 0 0,.slice none 0 0,.bool false] 164 (0,0))):=(heap_setCell_other _ _ _ _ (by show n1≠n0;have:=HN1.o;omega)).trans HA3.o;have HK4:=zH (HK3.o.ft (ft1 (B:=B) (o:=1) (b0:=.slice a kn d) HR3.o (by decide) HBn.o));have HV4:=zH (HV3.o.ft (ft1 (B:=B) (o:=1) (b0:=.slice a kn d) HR3.o (by decide) HBn.o));have HB4:Hid (Below n0 w (w3.setCell ⟨n0,1,none⟩ (.slice a kn d))):=HB3.o.setCell (p:=⟨n0,1,none⟩) (nR _) _;have HBw4:Hid (B<=(w3.setCell ⟨n0,1,none⟩ (.slice a kn d)).heap.size):=by show B<=_;have:=HB4.o.size;have:=HBn.o;omega
  clear hHeld;refine hK.out _ _ trivial (fun hHeld=>?_);clear x1 xf1;generalize w3.setCell ⟨n0,1,none⟩ (.slice a kn d)=w4 at *
  clear hK K
  try simp only [Act.put,siT,scZ,scS]
  refine aAb 11 13 ?_;refine aAb 12 14 ?_;have x2:w4.cell? ⟨n0,2,none⟩=some (.slice va vn vc):=aAd HR4.o;have xf2:w4.frozen? ⟨n0,2,none⟩=false:=aAm HR4.o;refine aAf 13 ?_;intro K hK;go_simp;have HR5:Hid ((w4.setCell ⟨n0,2,none⟩ (.slice b vn g)).heap[n0]?=some (.cells #[.int .i64 sp,.slice a kn d,.slice b vn g,.bool gone] 164 (0,0))):=heap_setCell_same _ _ _ _ _ _ HR4.o;have HA5:Hid ((w4.setCell ⟨n0,2,none⟩ (.slice b vn g)).heap[n1]?=some (.cells #[.int .i64 0,.slice none 0 0,.slice none 0 0,.bool false] 164 (0,0))):=(heap_setCell_other _ _ _ _ (by show n1≠n0;have:=HN1.o;omega)).trans HA4.o;have HK5:=zH (HK4.o.ft (ft1 (B:=B) (o:=2) (b0:=.slice b vn g) HR4.o (by decide) HBn.o));have HV5:=zH (HV4.o.ft (ft1 (B:=B) (o:=2) (b0:=.slice b vn g) HR4.o (by decide) HBn.o));have HB5:Hid (Below n0 w (w4.setCell ⟨n0,2,none⟩ (.slice b vn g))):=HB4.o.setCell (p:=⟨n0,2,none⟩) (nR _) _;clear hHeld;refine hK.out _ _ trivial (fun hHeld=>?_);clear x2 xf2;generalize w4.setCell ⟨n0,2,none⟩ (.slice b vn g)=w5 at *
  clear hK K
  try simp only [Act.put,siT,scZ,scS]
  refine wpAnyH_done (by kernel_rfl) ?_ _;refine NoPanic.normal ?_;have y0:w5.cell? ⟨n0,0,none⟩=some (.int .i64 sp):=aAd HR5.o;have y1:w5.cell? ⟨n0,1,none⟩=some (.slice a kn d):=aAd HR5.o;have y2:w5.cell? ⟨n0,2,none⟩=some (.slice b vn g):=aAd HR5.o;have y3:w5.cell? ⟨n0,3,none⟩=some (.bool gone):=aAd HR5.o;have z0:w5.cell? ⟨n1,0,none⟩=some (.int .i64 0):=aAd HA5.o;have zf0:w5.frozen? ⟨n1,0,none⟩=false:=aAm HA5.o;have z1:w5.cell? ⟨n1,1,none⟩=some (.slice none 0 0):=aAd HA5.o;have zf1:w5.frozen? ⟨n1,1,none⟩=false:=aAm HA5.o;have z2:w5.cell? ⟨n1,2,none⟩=some (.slice none 0 0):=aAd HA5.o;have zf2:w5.frozen? ⟨n1,2,none⟩=false:=aAm HA5.o;have z3:w5.cell? ⟨n1,3,none⟩=some (.bool false):=aAd HA5.o;have zf3:w5.frozen? ⟨n1,3,none⟩=false:=aAm HA5.o;go_wp2;(try simp only [Exit.inBlock,Exit.then]);refine bodyPost_ret (results_cell_row results123 _ _ n1 _ _ _ _ rfl (set4 HA5.o) underlying164 rfl aKe) rfl ?_;have hBn1:B<=n1:=by have:=HBn.o;have:=HN1.o;omega
  have hn:n0<=n1:=by have:=HN1.o;omega
  have hft:∀ {p q r s:Value},FT B w5 ((((w5.setCell ⟨n1,0,none⟩ p).setCell ⟨n1,1,none⟩ q).setCell ⟨n1,2,none⟩ r).setCell ⟨n1,3,none⟩ s):=fun {p q r s}=>(((ft1 (o:=0) HA5.o (by decide) hBn1).trans (ft1 (o:=1) (heap_setCell_same _ _ _ _ _ _ HA5.o) (by decide) hBn1)).trans (ft1 (o:=2) (heap_setCell_same _ _ _ _ _ _ (heap_setCell_same _ _ _ _ _ _ HA5.o)) (by decide) hBn1)).trans (ft1 (o:=3) (heap_setCell_same _ _ _ _ _ _ (heap_setCell_same _ _ _ _ _ _ (heap_setCell_same _ _ _ _ _ _ HA5.o))) (by decide) hBn1)
  refine ⟨a,d,b,g,rfl,HK5.o.ft hft,HV5.o.ft hft,?_⟩
  try rw [hn0]
  exact (((HB5.o.setCell (p:=⟨n1,0,none⟩) hn _).setCell (p:=⟨n1,1,none⟩) hn _).setCell (p:=⟨n1,2,none⟩) hn _).setCell (p:=⟨n1,3,none⟩) hn _
theorem copiedC_ok {x:CE} {c:Ch} (h:EvC B w x c) (hB:B<=w.heap.size) :
  Calls prog 123 #[.agg (f4 x).toArray] w fun e w'=>∃ y,e=.returned (.agg (f4 y).toArray)/\EvC B w' y c/\Below w.heap.size w w':=by
 obtain ⟨x1,x2,x3⟩:=x;obtain ⟨rfl,⟨ka,kc,e1,hk⟩,⟨va,vc,e2,hv⟩⟩:=h;dsimp only at e1 e2 hk hv;subst e1 e2;refine (aIq (sp:=x1.sp) (gone:=x1.gone) hk hv hB).mono ?_;rintro e w' ⟨a,d,b,g,rfl,h1,h2,h3⟩;exact ⟨(x1,.slice a x1.key.length d,.slice b x1.val.length g),rfl,⟨rfl,⟨a,d,rfl,h1⟩,⟨b,g,rfl,h2⟩⟩,h3⟩
def refE (sp:Int) (kn vn:Nat):Int:=if sp<0\/16<=sp\/kn=0 then 1 else if 60<kn\/1800<vn then 3 else 0
theorem aGl :
  Calls prog 182 #[.agg #[.int .i64 sp,.slice ka kn kc,.slice va vn vc]] w fun e w'=>e=.returned (.int .i64 (refE sp kn vn))/\Below w.heap.size w w':=by
 have HB:Hid (Below w.heap.size w (w.alloc (.cells #[.int .i64 sp,.slice ka kn kc,.slice va vn vc] 99))):=aAk w _;by_cases c1:sp<0
 ·have HE:Hid (refE sp kn vn=1):=by show _=_;unfold refE;rw [if_pos (Or.inl c1)]
  generalize refE sp kn vn=r at *
  have hr:=HE.o;subst hr;clear HE;go_enter func182,ntmps182;go_wp2;go_ret;exact ⟨rfl,HB.o⟩
 by_cases c2:16<=sp
 ·have HE:Hid (refE sp kn vn=1):=by show _=_;unfold refE;rw [if_pos (Or.inr (Or.inl c2))]
  generalize refE sp kn vn=r at *
  have hr:=HE.o;subst hr;clear HE;go_enter func182,ntmps182;go_wp2;go_ret;exact ⟨rfl,HB.o⟩
 by_cases c3:kn=0
 ·have HE:Hid (refE sp kn vn=1):=by show _=_;unfold refE;rw [if_pos (Or.inr (Or.inr c3))]
  generalize refE sp kn vn=r at *
  subst c3;have hr:=HE.o;subst hr;clear HE;go_enter func182,ntmps182;go_wp2;go_ret;exact ⟨rfl,HB.o⟩
 have c3':¬ (kn:Int)=0:=by omega
 by_cases c4:60<kn
 ·have HE:Hid (refE sp kn vn=3):=by show _=_;unfold refE;rw [if_neg (by omega),if_pos (Or.inl c4)]
  have c4':(60:Int)<(kn:Int):=by omega
  generalize refE sp kn vn=r at *
  clear c4 c3;have hr:=HE.o;subst hr;clear HE;go_enter func182,ntmps182;go_wp2;go_ret;exact ⟨rfl,HB.o⟩
 have c4':¬ (60:Int)<(kn:Int):=by omega
 by_cases c5:1800<vn
 ·have HE:Hid (refE sp kn vn=3):=by show _=_;unfold refE;rw [if_neg (by omega),if_pos (Or.inr c5)]
  have c5':(1800:Int)<(vn:Int):=by omega
  generalize refE sp kn vn=r at *
  clear c5 c4 c3;have hr:=HE.o;subst hr;clear HE;go_enter func182,ntmps182;go_wp2;go_ret;exact ⟨rfl,HB.o⟩
 ·have HE:Hid (refE sp kn vn=0):=by show _=_;unfold refE;rw [if_neg (by omega),if_neg (by omega)]
  have c5':¬ (1800:Int)<(vn:Int):=by omega
  generalize refE sp kn vn=r at *
  clear c5 c4 c3;have hr:=HE.o;subst hr;clear HE;go_enter func182,ntmps182;go_wp2;go_ret;exact ⟨rfl,HB.o⟩
structure DD (B db ls:Nat) (v:Value) (cs:List Ch) (w:World):Prop where
 blk:w.heap[db]?=some (.cells #[.pointer (some ⟨ls,0,none⟩),v] 124 (0,0))
 row:CRW B (db+1) w v cs
 hB:B<=db
structure DFr (B db:Nat) (v:Value) (w:World) (v':Value) (w':World):Prop where
 ft:FT B w w'
 blk:∀ i,i<w.heap.size->i≠db->v.ownBlock≠some i->w'.heap[i]?=w.heap[i]?
 own:∀ i,v'.ownBlock=some i->v.ownBlock=some i\/w.heap.size<=i
section
variable {B db ls:Nat} {v v' v2:Value} {cs:List Ch} {w w' w2:World}
theorem DFr.siz (h:DFr B db v w v' w'):w.heap.size<=w'.heap.size:=h.ft.1.size
theorem DFr.of (h:Below w.heap.size w w') (hB:B<=w.heap.size):DFr B db v w v w':=⟨FT.of h hB,fun i hi _ _=>h.block i hi,fun i hi=>Or.inl hi⟩
theorem DFr.trans (h:DFr B db v w v' w') (k:DFr B db v' w' v2 w2):DFr B db v w v2 w2:=by
 refine ⟨h.ft.trans k.ft,fun i hi h1 h2=>?_,fun i hi=>?_⟩
 ·rw [k.blk i (Nat.lt_of_lt_of_le hi h.siz) h1 ?_,h.blk i hi h1 h2];intro q;rcases h.own i q with q | q
  ·exact h2 q
  ·omega
 ·rcases k.own i hi with q | q
  ·exact h.own i q
  ·have:=h.siz;exact Or.inr (by omega)
theorem DD.bw (h:DD B db ls v cs w):db<w.heap.size:=(lO h.blk)
theorem DD.later (h:DD B db ls v cs w) (hb:Below w.heap.size w w'):DD B db ls v cs w' :=
 ⟨(hb.block db h.bw).trans h.blk,h.row.later hb (by have:=h.hB;have:=h.bw;omega),h.hB⟩
theorem DD.slice (h:DD B db ls v cs w):∃ a c,v=.slice a cs.length c:=h.row.form
theorem mark_ok (h:DD B db ls v cs w):Calls prog 25 #[.pointer (some ⟨db,0,none⟩)] w fun e w'=>e=.returned (.int .i64 cs.length)/\w'=w:=by
 obtain ⟨a,c,e⟩:=h.slice;subst e;have x1:w.cell? ⟨db,1,none⟩=some (.slice a cs.length c):=aAd h.blk;clear h;generalize cs.length=n at *
 go_enter func25,ntmps25;go_wp2;go_ret;exact ⟨rfl,rfl⟩
end
theorem pairs_zero [Gd] {r:Nat} (h:KX B p q g N c u l W w) (hr:w.heap[r]?=some (.cells #[.slice none 0 0,.slice none 0 0,.int .i64 0,.slice none 0 0] 267 (0,0))) :
  Calls prog 157 #[.pointer (some ⟨g,0,none⟩),.pointer (some ⟨g,2,none⟩),.pointer (some ⟨r,0,none⟩)] w fun e w'=>e=.returned (.tuple #[.slice none 0 0,.int .i64 0])/\Below w.heap.size w w':=by
 have q0:=aAp [Obj.cells #[.pointer (some ⟨g,0,none⟩)] 142,Obj.cells #[.pointer (some ⟨g,2,none⟩)] 264,Obj.cells #[.pointer (some ⟨r,0,none⟩)] 265] w 0 _ rfl;have q2:=aAp [Obj.cells #[.pointer (some ⟨g,0,none⟩)] 142,Obj.cells #[.pointer (some ⟨g,2,none⟩)] 264,Obj.cells #[.pointer (some ⟨r,0,none⟩)] 265] w 2 _ rfl;have qb:=(aA3 [Obj.cells #[.pointer (some ⟨g,0,none⟩)] 142,Obj.cells #[.pointer (some ⟨g,2,none⟩)] 264,Obj.cells #[.pointer (some ⟨r,0,none⟩)] 265] w).1;have HQ0:Hid ((((w.alloc (.cells #[.pointer (some ⟨g,0,none⟩)] 142)).alloc (.cells #[.pointer (some ⟨g,2,none⟩)] 264)).alloc (.cells #[.pointer (some ⟨r,0,none⟩)] 265)).heap[w.heap.size]?=some (.cells #[.pointer (some ⟨g,0,none⟩)] 142 (0,0))):=q0;have HQ2:Hid ((((w.alloc (.cells #[.pointer (some ⟨g,0,none⟩)] 142)).alloc (.cells #[.pointer (some ⟨g,2,none⟩)] 264)).alloc (.cells #[.pointer (some ⟨r,0,none⟩)] 265)).heap[w.heap.size+1+1]?=some (.cells #[.pointer (some ⟨r,0,none⟩)] 265 (0,0))):=q2;have HB1:Hid (Below w.heap.size w (((w.alloc (.cells #[.pointer (some ⟨g,0,none⟩)] 142)).alloc (.cells #[.pointer (some ⟨g,2,none⟩)] 264)).alloc (.cells #[.pointer (some ⟨r,0,none⟩)] 265))):=qb;have H1:=zH (h.later HB1.o);have HR1:=zH ((HB1.o.block r (lO hr)).trans hr);have HD:=zH H1.o.dead;have y0:(((w.alloc (.cells #[.pointer (some ⟨g,0,none⟩)] 142)).alloc (.cells #[.pointer (some ⟨g,2,none⟩)] 264)).alloc (.cells #[.pointer (some ⟨r,0,none⟩)] 265)).cell? ⟨w.heap.size,0,none⟩=some (.pointer (some ⟨g,0,none⟩)):=aAd HQ0.o;clear h hr q0 q2 qb;go_enter func157,ntmps157;go_wp2_with fail;refine HD.o.mono ?_;rintro e w2 ⟨rfl,hb2⟩;have HN2:=zH ((hb2.block _ (lO HQ2.o)).trans HQ2.o);have HR2:=zH ((hb2.block r (lO HR1.o)).trans HR1.o);have HB2:Hid (Below w.heap.size w w2):=HB1.o.trans (hb2.mono HB1.o.size);clear hb2 HD y0;generalize hn2:w.heap.size+1+1=n2 at *
 have x0:w2.cell? ⟨n2,0,none⟩=some (.pointer (some ⟨r,0,none⟩)):=aAd HN2.o;have x1:w2.cell? ⟨r,0,none⟩=some (.slice none 0 0):=aAd HR2.o;have x2:w2.cell? ⟨r,1,none⟩=some (.slice none 0 0):=aAd HR2.o;have x3:w2.cell? ⟨r,2,none⟩=some (.int .i64 0):=aAd HR2.o;have HX0:Hid ((fun wx=>wx.cell? ⟨n2,0,none⟩=some (.pointer (some ⟨r,0,none⟩))/\wx.cell? ⟨r,2,none⟩=some (.int .i64 0)) w2.drew):=⟨x0,x3⟩;have d1:decide ((0:Int)=0)=true:=rfl;go_upto_region 7 with fail;refine wp_region_noPanic ?_;refine wp_region_held_drew (S:=fun wx=>wx.cell? ⟨n2,0,none⟩=some (.pointer (some ⟨r,0,none⟩))/\wx.cell? ⟨r,2,none⟩=some (.int .i64 0)) (by kernel_rfl) HX0.o (fun hHeld=>?_);refine aAb 0 34 ?_;refine aAb 1 35 ?_;refine aAb 2 36 ?_;refine aAb 3 37 ?_;refine aAb 4 38 ?_;refine aAb 5 39 ?_;refine aAj 6 40 ?_;refine aAj 7 41 ?_;refine aAj 8 42 ?_;refine aAj 9 43 ?_;refine aAj 10 44 ?_;refine aAb 11 45 ?_;refine aAb 12 46 ?_;refine aAj 13 47 ?_;refine aAj 14 48 ?_;refine aAj 15 49 ?_;refine aAj 16 50 ?_;refine aAj 17 51 ?_;refine aAj 18 52 ?_;refine aAb 19 53 ?_;refine aAb 20 33 ?_;refine wpAnyH_done (by kernel_rfl) ?_ _;refine NoPanic.normal ?_;clear hHeld;go_wp2;go_ret2;exact ⟨rfl,HB2.o.drew⟩
theorem Range_zero [Gd] (h:KX B p q g N c u l W w) :
  Calls prog 110 #[.pointer (some ⟨g,0,none⟩),.slice none 0 0,.slice none 0 0,.int .i64 0] w fun e w'=>e=.returned (.tuple #[.slice none 0 0,.int .i64 0])/\Below w.heap.size w w':=by
 have HB1:=zH (aAk w (.cells #[.slice none 0 0,.slice none 0 0,.int .i64 0,.slice none 0 0] 267));have HP:=zH (pairs_zero (h.later HB1.o) (heap_alloc_new w _));clear h;go_enter func110,ntmps110;go_wp2_with fail;refine HP.o.mono ?_;rintro e w2 ⟨rfl,hb2⟩;have HB2:=zH (HB1.o.trans (hb2.mono HB1.o.size));clear hb2;go_wp2;go_ret2;exact ⟨rfl,HB2.o⟩
theorem results_fig {p u:Tmp} (h:fn.results=#[.cell p 147,.tmp u]) (tmps:Array Value) (w:World) (g:Nat) (cs:Array Value)
  (hp:tmps.getD p undef=.pointer (some ⟨g,0,none⟩)) (hg:w.heap[g]?=some (.cells cs 147 (0,0))) (hz:cs.size=17) :
  (results fn tmps).run prog w=.ok (.tuple #[.agg cs,tmps.getD u undef]) w:=by
 have hi:(prog.info? 147).map (·.size)=some cs.size:=by rw [hz];exact aKd
 rw [results_cell_tmp h,hp];simp only [asAddr,Sem.run_pure,Result.andThen_ok,run_loadVar_row w g 147 147 cs (0,0) _ hg underlying147 rfl hi]
theorem z17_ok:FGV z17:=by
 refine ⟨rfl,rfl,fun i h1 h2=>⟨0,?_⟩⟩;unfold z17;rw [List.getElem?_toArray,List.getElem?_replicate,if_pos h2]
theorem counted_zero [Gd] (h:KX B p q g N c u [] W w) :
  Calls prog 64 #[.pointer (some ⟨g,0,none⟩)] w fun e w'=>e=.returned (.tuple #[.agg z17,.int .i64 0])/\Below w.heap.size w w':=by
 have hz:∀ ww,(zeroValue 147).run prog ww=.ok (.agg z17) ww:=fun ww=>by kernel_rfl
 have hzz:z17.size=17:=rfl;have HB1:=zH (aAk w (.cells z17 147));have HN1:Hid ((w.alloc (.cells z17 147)).heap[w.heap.size]?=some (.cells z17 147 (0,0))):=heap_alloc_new w _;have H1:=zH (h.later HB1.o);have HLE:Hid (Calls prog 111 #[.pointer (some ⟨g,0,none⟩)] (w.alloc (.cells z17 147)) fun e w'=>e=.returned (.int .i64 0)/\w'=w.alloc (.cells z17 147)):=H1.o.Len;have HRA:=zH (Range_zero H1.o);clear h;go_enter func64,ntmps64;go_wp2_with fail;refine HLE.o.mono ?_;rintro e w9 ⟨rfl,rfl⟩;go_wp2_with fail;refine HRA.o.mono ?_;rintro e w2 ⟨rfl,hb2⟩;have HN2:=zH ((hb2.block _ (lO HN1.o)).trans HN1.o);have HB2:=zH (HB1.o.trans (hb2.mono HB1.o.size));have HB3:=zH (aAk w2 (.cells z17 147));have HM3:Hid ((w2.alloc (.cells z17 147)).heap[w2.heap.size]?=some (.cells z17 147 (0,0))):=heap_alloc_new w2 _;have HN3:=zH ((HB3.o.block _ (lO HN2.o)).trans HN2.o);have HB03:=zH (HB2.o.trans (HB3.o.mono HB2.o.size));clear hb2 HLE HRA;go_upto_region 5 with fail;generalize w2.alloc (.cells z17 147)=w3 at *
 generalize w2.heap.size=n1 at *
 generalize hn0:w.heap.size=n0 at *
 go_wp2_with fail;go_loopw [24] (fun i wx=>i=.int .i64 0/\wx=w3) (fun _ _=>0)
 case atStart=>exact ⟨rfl,rfl⟩
 case round =>
  obtain ⟨rfl,rfl⟩:=hrel;have HLD:=zH (run_loadVar_row (P:=prog) wr n1 147 147 z17 (0,0) _ HM3.o underlying147 rfl (by rw [hzz];exact aKd));have hst:=aDx (o:=0) HN3.o (show 0+z17.size<=17 by rw [hzz];decide) z17_ok.one;rw [aHr (show z17.size=z17.size from rfl)] at hst;have HY:=zH (setRow_heap _ _ _ z17 _ _ HN3.o);have HBF:Hid (Below n0 w (wr.setRow n0 z17)):=below_setRow HB03.o (nR n0) z17;go_wp2_with (refine wpList_load_row rfl (.tmp 6) 147 rfl rfl HLD.o ?_);(try simp only [Exit.inBlock,Exit.then]);exact bodyPost_ret (results_fig rfl _ _ n0 z17 rfl HY.o hzz) rfl ⟨rfl,by rw [hn0];exact HBF.o⟩
theorem lv_build {base cf:Array Value} (hf:FGV cf) (b1:base.size=19) (b2:base[0]?=some (.pointer (some ⟨g,0,none⟩))) (b3:base[1]?=some (.pointer (some ⟨p,0,none⟩))):LV (Array.foldl (fun (cs:Array Value) (x:Value×Nat)=>cs.setIfInBounds (2+x.2) x.1) base cf.zipIdx 0 17) g p:=by
 obtain ⟨i1,i2⟩:=aH8 (base:=base) (vs:=cf) (o:=2) (n:=17) hf.sz (by rw [b1];decide);refine ⟨i1.trans b1,?_,?_,?_,fun i h1 h2=>?_⟩
 ·rw [i2,if_neg (by omega)];exact b2
 ·rw [i2,if_neg (by omega)];exact b3
 ·rw [i2,if_pos (by omega)];exact hf.c0
 ·rw [i2,if_pos (by omega)];exact hf.cp (i-2) (by omega) (by omega)
theorem lopen_new [Gd] {s:DS} (hs:s=DS.new n) (hD:DI B p s w) (hB:B<=w.heap.size) (hW:Below B W w) (h3:3<=n) (h4:n<=4096) :
  Calls prog 32 #[.pointer (some ⟨p,0,none⟩)] w fun e w'=>∃ q g ls,e=.returned (.tuple #[.pointer (some ⟨ls,0,none⟩),.int .i64 0])/\LS B p q g ls n 0 0 [] W w':=by
 obtain ⟨zf,hzf⟩:∃ x,x=z17:=⟨_,rfl⟩;have hz:∀ ww,(zeroValue 147).run prog ww=.ok (.agg zf) ww:=fun ww=>by rw [hzf];kernel_rfl
 have HFG:Hid (FGV zf):=by show FGV zf;rw [hzf];exact z17_ok
 have hzz:zf.size=17:=HFG.o.sz;have HZF:=zH hzf;clear hzf;have hf:=new_facts n s hs;have HL0:Hid (lastH (rdH (pad (s.show 0)) s.n) (rdH (pad (s.show 1)) s.n)=some (0,0)):=by
  show _=_;rw [hf.2.2.2.2.2.1,hf.2.2.2.2.2.2,rdH_zero];exact lastH_zero
 have HF:=zH hf;have HBW:=zH hB;have HWW:=zH hW;have HOP:=zH (Open_none (num:=0) hD hB HF.o.1 HF.o.2.1 (by rw [HF.o.2.2.1];decide) (by rw [HF.o.2.2.2.1];exact h3) (by rw [HF.o.2.2.2.1];exact h4) HL0.o (by decide));clear hs hf hD hB hW;go_enter func32,ntmps32;go_wp2_with fail;refine HOP.o.mono ?_;rintro e w2 ⟨q,g,st0,rfl,hgB,hM,r0,r1,r2,r3,hF⟩;have hO:OpT B p g n w2:=⟨q,s,_,st0,hM,Or.inl ⟨r0,r1,r2,rfl,r3⟩,r1,HF.o.2.2.2.1,HF.o.2.2.2.2.1,by show cntF (newSt s.n)=_;rw [newSt_cnt s.n (by rw [HF.o.2.2.2.1];omega),HF.o.2.2.2.1],rfl,HF.o.2.2.2.2.2.1,HF.o.2.2.2.2.2.2⟩;obtain ⟨q',s',t',st',left',hTI,_⟩:=hO.ti (by omega) (HWW.o.trans hF.bel);have hkx:KX B p q' g n 0 0 [] W w2:=⟨st',s',t',st',left',hTI⟩;have HK2:=zH hkx;have HCO:=zH (counted_zero hkx);rw [<-HZF.o] at HCO;clear hgB hM r0 r1 r2 r3 hF hO hTI hkx HOP;go_wp2_with fail;refine HCO.o.mono ?_;rintro e w3 ⟨rfl,hb3⟩;have HK3:=zH (HK2.o.later hb3);have x1:(w3.alloc (.cells zf 147)).heap[w3.heap.size]?=some (.cells zf 147 (0,0)):=heap_alloc_new w3 _;have hst:=aDx (o:=0) x1 (show 0+zf.size<=zf.size by omega) HFG.o.one;rw [aHr (show zf.size=zf.size from rfl)] at hst;have HY:=zH (setRow_heap _ _ _ zf _ _ x1);have HB4:Hid (Below w3.heap.size w3 ((w3.alloc (.cells zf 147)).setRow w3.heap.size zf)):=below_setRow (aAk w3 _) (nR _) zf;clear hb3 HCO x1;go_upto_region 5 with fail;generalize ((w3.alloc (.cells zf 147)).setRow w3.heap.size zf)=w4 at *
 have HK4:=zH (HK3.o.later HB4.o);generalize w3.heap.size=n3 at *
 clear hst;have HLD:=zH (run_loadVar_row (P:=prog) w4 n3 147 147 zf (0,0) _ HY.o underlying147 rfl (by rw [hzz];exact aKd));go_wp2_with (refine wpList_load_row rfl (.tmp 6) 147 rfl rfl HLD.o ?_);go_ret2;exact ⟨q',g,w4.heap.size,rfl,HK4.o.later (aAk w4 _),HK4.o.bw,_,heap_alloc_new w4 _,lv_build HFG.o rfl rfl rfl⟩
theorem pairs_most0 [Gd] {r:Nat} {la ha:Option Addr} (hl1:ln<=64) (hl2:hn<=64) {l:List It} {W w:World} (h:KX B p q g N c u l W w) (hr:w.heap[r]?=some (.cells #[.slice la ln lc,.slice ha hn hc,.int .i64 0,.slice none 0 0] 267 (0,0))) :
  Calls prog 157 #[.pointer (some ⟨g,0,none⟩),.pointer (some ⟨g,2,none⟩),.pointer (some ⟨r,0,none⟩)] w fun e w'=>e=.returned (.tuple #[.slice none 0 0,.int .i64 0])/\Below w.heap.size w w':=by
 have q0:=aAp [Obj.cells #[.pointer (some ⟨g,0,none⟩)] 142,Obj.cells #[.pointer (some ⟨g,2,none⟩)] 264,Obj.cells #[.pointer (some ⟨r,0,none⟩)] 265] w 0 _ rfl;have q2:=aAp [Obj.cells #[.pointer (some ⟨g,0,none⟩)] 142,Obj.cells #[.pointer (some ⟨g,2,none⟩)] 264,Obj.cells #[.pointer (some ⟨r,0,none⟩)] 265] w 2 _ rfl;have qb:=(aA3 [Obj.cells #[.pointer (some ⟨g,0,none⟩)] 142,Obj.cells #[.pointer (some ⟨g,2,none⟩)] 264,Obj.cells #[.pointer (some ⟨r,0,none⟩)] 265] w).1;have HQ0:Hid ((((w.alloc (.cells #[.pointer (some ⟨g,0,none⟩)] 142)).alloc (.cells #[.pointer (some ⟨g,2,none⟩)] 264)).alloc (.cells #[.pointer (some ⟨r,0,none⟩)] 265)).heap[w.heap.size]?=some (.cells #[.pointer (some ⟨g,0,none⟩)] 142 (0,0))):=q0;have HQ2:Hid ((((w.alloc (.cells #[.pointer (some ⟨g,0,none⟩)] 142)).alloc (.cells #[.pointer (some ⟨g,2,none⟩)] 264)).alloc (.cells #[.pointer (some ⟨r,0,none⟩)] 265)).heap[w.heap.size+1+1]?=some (.cells #[.pointer (some ⟨r,0,none⟩)] 265 (0,0))):=q2;have HB1:Hid (Below w.heap.size w (((w.alloc (.cells #[.pointer (some ⟨g,0,none⟩)] 142)).alloc (.cells #[.pointer (some ⟨g,2,none⟩)] 264)).alloc (.cells #[.pointer (some ⟨r,0,none⟩)] 265))):=qb;have H1:=zH (h.later HB1.o);have HR1:=zH ((HB1.o.block r (lO hr)).trans hr);have HD:=zH H1.o.dead;have y0:(((w.alloc (.cells #[.pointer (some ⟨g,0,none⟩)] 142)).alloc (.cells #[.pointer (some ⟨g,2,none⟩)] 264)).alloc (.cells #[.pointer (some ⟨r,0,none⟩)] 265)).cell? ⟨w.heap.size,0,none⟩=some (.pointer (some ⟨g,0,none⟩)):=aAd HQ0.o;clear h hr q0 q2 qb;go_enter func157,ntmps157;go_wp2_with fail;refine HD.o.mono ?_;rintro e w2 ⟨rfl,hb2⟩;have HN2:=zH ((hb2.block _ (lO HQ2.o)).trans HQ2.o);have HR2:=zH ((hb2.block r (lO HR1.o)).trans HR1.o);have HB2:Hid (Below w.heap.size w w2):=HB1.o.trans (hb2.mono HB1.o.size);clear hb2 HD y0;generalize hn2:w.heap.size+1+1=n2 at *
 have x0:w2.cell? ⟨n2,0,none⟩=some (.pointer (some ⟨r,0,none⟩)):=aAd HN2.o;have x1:w2.cell? ⟨r,0,none⟩=some (.slice la ln lc):=aAd HR2.o;have x2:w2.cell? ⟨r,1,none⟩=some (.slice ha hn hc):=aAd HR2.o;have x3:w2.cell? ⟨r,2,none⟩=some (.int .i64 0):=aAd HR2.o;have HX0:Hid ((fun wx=>wx.cell? ⟨n2,0,none⟩=some (.pointer (some ⟨r,0,none⟩))/\wx.cell? ⟨r,2,none⟩=some (.int .i64 0)) w2.drew):=⟨x0,x3⟩;have d1:decide ((0:Int)=0)=true:=rfl;have g1:¬ (64:Int)<(ln:Int):=by omega
 have g2:¬ (64:Int)<(hn:Int):=by omega
 go_upto_region 7 with fail;refine wp_region_noPanic ?_;refine wp_region_held_drew (S:=fun wx=>wx.cell? ⟨n2,0,none⟩=some (.pointer (some ⟨r,0,none⟩))/\wx.cell? ⟨r,2,none⟩=some (.int .i64 0)) (by kernel_rfl) HX0.o (fun hHeld=>?_);refine aAb 0 34 ?_;refine aAb 1 35 ?_;refine aAb 2 36 ?_;refine aAb 3 37 ?_;refine aAb 4 38 ?_;refine aAb 5 39 ?_;refine aAj 6 40 ?_;refine aAj 7 41 ?_;refine aAj 8 42 ?_;refine aAj 9 43 ?_;refine aAj 10 44 ?_;refine aAb 11 45 ?_;refine aAb 12 46 ?_;refine aAj 13 47 ?_;refine aAj 14 48 ?_;refine aAj 15 49 ?_;refine aAj 16 50 ?_;refine aAj 17 51 ?_;refine aAj 18 52 ?_;refine aAb 19 53 ?_;refine aAb 20 33 ?_;refine wpAnyH_done (by kernel_rfl) ?_ _;refine NoPanic.normal ?_;clear hHeld;go_wp2;go_ret2;exact ⟨rfl,HB2.o.drew⟩
theorem Range_most0 [Gd] {la ha:Option Addr} (hl1:ln<=64) (hl2:hn<=64) {l:List It} {W w:World} (h:KX B p q g N c u l W w) :
  Calls prog 110 #[.pointer (some ⟨g,0,none⟩),.slice la ln lc,.slice ha hn hc,.int .i64 0] w fun e w'=>e=.returned (.tuple #[.slice none 0 0,.int .i64 0])/\Below w.heap.size w w':=by
 have HB1:=zH (aAk w (.cells #[.slice la ln lc,.slice ha hn hc,.int .i64 0,.slice none 0 0] 267));have HP:=zH (pairs_most0 hl1 hl2 (h.later HB1.o) (heap_alloc_new w _));clear h;go_enter func110,ntmps110;go_wp2_with fail;refine HP.o.mono ?_;rintro e w2 ⟨rfl,hb2⟩;have HB2:=zH (HB1.o.trans (hb2.mono HB1.o.size));clear hb2;go_wp2;go_ret2;exact ⟨rfl,HB2.o⟩
theorem aKg (w:World) :
  Calls prog 194 #[.slice none 0 0,.func (Fn.func K) #[] #[]] w fun e w'=>e=.returned (.int .i64 (-1))/\Below w.heap.size w w':=by
 go_enter func194,ntmps194;go_wp2_with fail;go_loopw [8] (fun i wx=>i=.int .i64 0/\Below w.heap.size w wx) (fun _ _=>0)
 case atStart=>exact ⟨rfl,Below.refl _ _⟩
 case round =>
  obtain ⟨rfl,hb⟩:=hrel;have HB:=zH hb;clear hb;go_wp2;go_ret;exact ⟨rfl,HB.o⟩
theorem aDr (w:World) :
  Calls prog 161 #[.slice none 0 0,.func (Fn.func K) #[] #[]] w fun e w'=>e=.returned (.bool false)/\Below w.heap.size w w':=by
 have HI:=zH (aKg (K:=K) w);go_enter func161,ntmps161;go_wp2_with fail;refine HI.o.mono ?_;rintro e w1 ⟨rfl,hb1⟩;have HB1:=zH hb1;clear hb1;go_wp2;go_ret;exact ⟨rfl,HB1.o⟩
theorem LS.refusal_nil [Gd] (h:LS B p q g ls N c u l W w) :
  Calls prog 118 #[.pointer (some ⟨ls,0,none⟩),.bool true,.slice none 0 0] w fun e w'=>e=.returned (.int .i64 0)/\Below w.heap.size w w':=by
 have HD:=zH h.dead;clear h;go_enter func118,ntmps118;go_wp2_with fail;refine HD.o.mono ?_;rintro e w1 ⟨rfl,hb1⟩;have HB1:=zH hb1;have HC1:=zH (aDr (K:=162) w1);clear hb1 HD;go_wp2_with fail;refine HC1.o.mono ?_;rintro e w2 ⟨rfl,hb2⟩;have HB2:=zH (HB1.o.trans (hb2.mono HB1.o.size));have HC2:=zH (aDr (K:=163) w2);clear hb2 HC1;go_wp2_with fail;refine HC2.o.mono ?_;rintro e w3 ⟨rfl,hb3⟩;have HB3:=zH (HB2.o.trans (hb3.mono HB2.o.size));clear hb3 HC2;go_wp2;go_ret;exact ⟨rfl,HB3.o⟩
theorem Tr.root0 {s:DS} {t:PS} (h:Tr s t st []):st.root=0:=by
 have hn:=h.nil;rcases h with ⟨h1,_⟩ | ⟨h,b,e1,e2,_⟩
 ·exact h1
 ·rw [hn.1] at e2;have e2:(0:Int)=((h+1:Nat):Int):=e2;omega
theorem pairs_emp [Gd] {r:Nat} {la ha:Option Addr} (hl1:ln<=64) (hl2:hn<=64) (hmo:0<most) {W w:World} (h:KX B p q g N c u [] W w) (hr:w.heap[r]?=some (.cells #[.slice la ln lc,.slice ha hn hc,.int .i64 (most:Int),.slice none 0 0] 267 (0,0))) :
  Calls prog 157 #[.pointer (some ⟨g,0,none⟩),.pointer (some ⟨g,2,none⟩),.pointer (some ⟨r,0,none⟩)] w fun e w'=>e=.returned (.tuple #[.slice none 0 0,.int .i64 0])/\Below w.heap.size w w':=by
 have q0:=aAp [Obj.cells #[.pointer (some ⟨g,0,none⟩)] 142,Obj.cells #[.pointer (some ⟨g,2,none⟩)] 264,Obj.cells #[.pointer (some ⟨r,0,none⟩)] 265] w 0 _ rfl;have q1:=aAp [Obj.cells #[.pointer (some ⟨g,0,none⟩)] 142,Obj.cells #[.pointer (some ⟨g,2,none⟩)] 264,Obj.cells #[.pointer (some ⟨r,0,none⟩)] 265] w 1 _ rfl;have q2:=aAp [Obj.cells #[.pointer (some ⟨g,0,none⟩)] 142,Obj.cells #[.pointer (some ⟨g,2,none⟩)] 264,Obj.cells #[.pointer (some ⟨r,0,none⟩)] 265] w 2 _ rfl;have qb:=(aA3 [Obj.cells #[.pointer (some ⟨g,0,none⟩)] 142,Obj.cells #[.pointer (some ⟨g,2,none⟩)] 264,Obj.cells #[.pointer (some ⟨r,0,none⟩)] 265] w).1;have HQ0:Hid ((((w.alloc (.cells #[.pointer (some ⟨g,0,none⟩)] 142)).alloc (.cells #[.pointer (some ⟨g,2,none⟩)] 264)).alloc (.cells #[.pointer (some ⟨r,0,none⟩)] 265)).heap[w.heap.size]?=some (.cells #[.pointer (some ⟨g,0,none⟩)] 142 (0,0))):=q0;have HQ1:Hid ((((w.alloc (.cells #[.pointer (some ⟨g,0,none⟩)] 142)).alloc (.cells #[.pointer (some ⟨g,2,none⟩)] 264)).alloc (.cells #[.pointer (some ⟨r,0,none⟩)] 265)).heap[w.heap.size+1]?=some (.cells #[.pointer (some ⟨g,2,none⟩)] 264 (0,0))):=q1;have HQ2:Hid ((((w.alloc (.cells #[.pointer (some ⟨g,0,none⟩)] 142)).alloc (.cells #[.pointer (some ⟨g,2,none⟩)] 264)).alloc (.cells #[.pointer (some ⟨r,0,none⟩)] 265)).heap[w.heap.size+1+1]?=some (.cells #[.pointer (some ⟨r,0,none⟩)] 265 (0,0))):=q2;have HB1:Hid (Below w.heap.size w (((w.alloc (.cells #[.pointer (some ⟨g,0,none⟩)] 142)).alloc (.cells #[.pointer (some ⟨g,2,none⟩)] 264)).alloc (.cells #[.pointer (some ⟨r,0,none⟩)] 265))):=qb;have H1:=zH (h.later HB1.o);have HR1:=zH ((HB1.o.block r (lO hr)).trans hr);have HD:=zH H1.o.dead;have HG:Hid (∃ cs,w.heap[g]?=some (.cells cs 214 (0,0))/\cs[2]?=some (.int .i64 0)):=by
  obtain ⟨last,s,t,now,left,h⟩:=h;obtain ⟨cs,h1,h2⟩:=h.tm.tv;exact ⟨cs,h1,by rw [h2.n0,h.tr.root0]⟩
 have y0:(((w.alloc (.cells #[.pointer (some ⟨g,0,none⟩)] 142)).alloc (.cells #[.pointer (some ⟨g,2,none⟩)] 264)).alloc (.cells #[.pointer (some ⟨r,0,none⟩)] 265)).cell? ⟨w.heap.size,0,none⟩=some (.pointer (some ⟨g,0,none⟩)):=aAd HQ0.o;clear h hr q0 q1 q2 qb;go_enter func157,ntmps157;go_wp2_with fail;refine HD.o.mono ?_;rintro e w2 ⟨rfl,hb2⟩;have HN1:=zH ((hb2.block _ (lO HQ1.o)).trans HQ1.o);have HN2:=zH ((hb2.block _ (lO HQ2.o)).trans HQ2.o);have HR2:=zH ((hb2.block r (lO HR1.o)).trans HR1.o);have HB2:Hid (Below w.heap.size w w2):=HB1.o.trans (hb2.mono HB1.o.size);have x4:w2.cell? ⟨g,2,none⟩=some (.int .i64 0):=by
  obtain ⟨cs,h1,h2⟩:=HG.o;exact (aAd ((HB2.o.block g (lO h1)).trans h1)).trans h2
 clear hb2 HD y0;generalize hn1:w.heap.size+1=n1 at *
 generalize hn2:n1+1=n2 at *
 have x0:w2.cell? ⟨n2,0,none⟩=some (.pointer (some ⟨r,0,none⟩)):=aAd HN2.o;have x5:w2.cell? ⟨n1,0,none⟩=some (.pointer (some ⟨g,2,none⟩)):=aAd HN1.o;have x1:w2.cell? ⟨r,0,none⟩=some (.slice la ln lc):=aAd HR2.o;have x2:w2.cell? ⟨r,1,none⟩=some (.slice ha hn hc):=aAd HR2.o;have x3:w2.cell? ⟨r,2,none⟩=some (.int .i64 (most:Int)):=aAd HR2.o;have HX0:Hid ((fun wx=>wx.cell? ⟨n2,0,none⟩=some (.pointer (some ⟨r,0,none⟩))/\wx.cell? ⟨r,2,none⟩=some (.int .i64 (most:Int))/\wx.cell? ⟨n1,0,none⟩=some (.pointer (some ⟨g,2,none⟩))/\wx.cell? ⟨g,2,none⟩=some (.int .i64 0)) w2.drew):=⟨x0,x3,x5,x4⟩;have d1:((most:Int) == 0)=false:=by simp;omega
 have d2:¬ (most:Int)=0:=by omega
 have d3:¬ (most:Int)<0:=by omega
 have g1:¬ (64:Int)<(ln:Int):=by omega
 have g2:¬ (64:Int)<(hn:Int):=by omega
 go_upto_region 7 with fail;refine wp_region_noPanic ?_;refine wp_region_held_drew (S:=fun wx=>wx.cell? ⟨n2,0,none⟩=some (.pointer (some ⟨r,0,none⟩))/\wx.cell? ⟨r,2,none⟩=some (.int .i64 (most:Int))/\wx.cell? ⟨n1,0,none⟩=some (.pointer (some ⟨g,2,none⟩))/\wx.cell? ⟨g,2,none⟩=some (.int .i64 0)) (by kernel_rfl) HX0.o (fun hHeld=>?_);refine aAb 0 34 ?_;refine aAb 1 35 ?_;refine aAb 2 36 ?_;refine aAb 3 37 ?_;refine aAb 4 38 ?_;refine aAb 5 39 ?_;refine aAb 6 40 ?_;refine aAb 7 41 ?_;refine aAb 8 42 ?_;refine aAb 9 43 ?_;refine aAb 10 44 ?_;refine aAb 11 45 ?_;refine aAb 12 46 ?_;refine aAj 13 47 ?_;refine aAj 14 48 ?_;refine aAj 15 49 ?_;refine aAj 16 50 ?_;refine aAj 17 51 ?_;refine aAj 18 52 ?_;refine aAb 19 53 ?_;refine aAb 20 33 ?_;refine wpAnyH_done (by kernel_rfl) ?_ _;refine NoPanic.normal ?_;clear hHeld;go_wp2;go_ret2;exact ⟨rfl,HB2.o.drew⟩
theorem Range_emp [Gd] (most:Nat) {la ha:Option Addr} (hl1:ln<=64) (hl2:hn<=64) {W w:World} (h:KX B p q g N c u [] W w) :
  Calls prog 110 #[.pointer (some ⟨g,0,none⟩),.slice la ln lc,.slice ha hn hc,.int .i64 (most:Int)] w fun e w'=>e=.returned (.tuple #[.slice none 0 0,.int .i64 0])/\Below w.heap.size w w':=by
 by_cases hm:most=0
 ·subst hm;exact Range_most0 hl1 hl2 h
 ·have HB1:=zH (aAk w (.cells #[.slice la ln lc,.slice ha hn hc,.int .i64 (most:Int),.slice none 0 0] 267));have HP:=zH (pairs_emp hl1 hl2 (Nat.pos_of_ne_zero hm) (h.later HB1.o) (heap_alloc_new w _));clear h;go_enter func110,ntmps110;go_wp2_with fail;refine HP.o.mono ?_;rintro e w2 ⟨rfl,hb2⟩;have HB2:=zH (HB1.o.trans (hb2.mono HB1.o.size));clear hb2;go_wp2;go_ret2;exact ⟨rfl,HB2.o⟩
def isSp (sp:Int):Bool:=decide (0<=sp/\sp<16)
theorem aH7 (sp:Int) (w:World):Calls prog 119 #[.int .i64 sp] w fun e w'=>e=.returned (.bool (isSp sp))/\w'=w:=by
 by_cases h1:0<=sp
 ·by_cases h2:sp<16
  ·have e:isSp sp=true:=decide_eq_true ⟨h1,h2⟩;rw [e];clear e;go_enter func119,ntmps119;go_wp2;go_ret;exact ⟨by simp,rfl⟩
  ·have e:isSp sp=false:=decide_eq_false (fun q=>h2 q.2);rw [e];clear e;go_enter func119,ntmps119;go_wp2;go_ret;exact ⟨by simp,rfl⟩
 ·have e:isSp sp=false:=decide_eq_false (fun q=>h1 q.1);rw [e];clear e;go_enter func119,ntmps119;go_wp2;go_ret;exact ⟨by simp,rfl⟩
theorem isWrong_any (sp:Int) (gn:Bool) (w:World) :
  Calls prog 162 #[.agg #[.int .i64 sp,.slice ka kn kc,.slice va vn vc,.bool gn]] w fun e w'=>e=.returned (.bool (!isSp sp || decide (kn=0)))/\Below w.heap.size w w':=by
 have HBX:=zH (aAk w (.cells #[.int .i64 sp,.slice ka kn kc,.slice va vn vc,.bool gn] 164));have HIS:=zH (fun w=>aH7 sp w)
 cases hs:isSp sp with
 | false =>
  rw [hs] at HIS;clear hs;go_enter func162,ntmps162;go_wp2_with fail;refine (HIS.o _).mono ?_;rintro e w1 ⟨rfl,hw⟩;have hw:=hw.symm;subst hw;go_wp2;go_ret;exact ⟨rfl,HBX.o⟩
 | true =>
  rw [hs] at HIS;clear hs;by_cases h0:kn=0
  ·have zb:((kn:Int) == 0)=true:=by simp;omega
   have zc:(kn:Int)=0:=by omega
   have zd:decide (kn=0)=true:=decide_eq_true h0;rw [zd];clear h0 zd;go_enter func162,ntmps162;go_wp2_with fail;refine (HIS.o _).mono ?_;rintro e w1 ⟨rfl,hw⟩;have hw:=hw.symm;subst hw;go_wp2;go_ret;exact ⟨by simp,HBX.o⟩
  ·have zb:((kn:Int) == 0)=false:=by simp;omega
   have zc:¬ (kn:Int)=0:=by omega
   have zd:decide (kn=0)=false:=decide_eq_false h0;rw [zd];clear h0 zd;go_enter func162,ntmps162;go_wp2_with fail;refine (HIS.o _).mono ?_;rintro e w1 ⟨rfl,hw⟩;have hw:=hw.symm;subst hw;go_wp2;go_ret;exact ⟨by simp,HBX.o⟩
theorem isLong_any (sp:Int) (gn:Bool) (w:World) :
  Calls prog 163 #[.agg #[.int .i64 sp,.slice ka kn kc,.slice va vn vc,.bool gn]] w fun e w'=>e=.returned (.bool (decide (60<kn) || decide (1800<vn)))/\Below w.heap.size w w':=by
 have HBX:=zH (aAk w (.cells #[.int .i64 sp,.slice ka kn kc,.slice va vn vc,.bool gn] 164));by_cases h0:60<kn
 ·have z0:(60:Int)<(kn:Int):=by omega
  have zd:decide (60<kn)=true:=decide_eq_true h0;rw [zd];clear h0 zd;go_enter func163,ntmps163;go_wp2;go_ret;exact ⟨by simp,HBX.o⟩
 ·have z0:¬ (60:Int)<(kn:Int):=by omega
  have zd:decide (60<kn)=false:=decide_eq_false h0;rw [zd];clear h0 zd;by_cases h1:1800<vn
  ·have z1:(1800:Int)<(vn:Int):=by omega
   have ze:decide (1800<vn)=true:=decide_eq_true h1;rw [ze];clear h1 ze;go_enter func163,ntmps163;go_wp2;go_ret;exact ⟨by simp,HBX.o⟩
  ·have z1:¬ (1800:Int)<(vn:Int):=by omega
   have ze:decide (1800<vn)=false:=decide_eq_false h1;rw [ze];clear h1 ze;go_enter func163,ntmps163;go_wp2;go_ret;exact ⟨by simp,HBX.o⟩
theorem contains_one {gv:Nat} {gn bb:Bool} (hv:w.heap[gv]?=some (.cells #[.int .i64 sp,.slice ka kn kc,.slice va vn vc,.bool gn] 164 (0,0))) (hcf:∀ (a:Value) (ww:World),(callFunc K #[a]).run prog ww=.ok (.enter K #[a]) ww)
  (hK:∀ (ww:World),Calls prog K #[.agg #[.int .i64 sp,.slice ka kn kc,.slice va vn vc,.bool gn]] ww fun e w'=>e=.returned (.bool bb)/\Below ww.heap.size ww w') :
  Calls prog 161 #[.slice (some ⟨gv,0,none⟩) 1 cap,.func (Fn.func K) #[] #[]] w fun e w'=>e=.returned (.bool bb)/\Below w.heap.size w w':=by
 have HI:Hid (Calls prog 194 #[.slice (some ⟨gv,0,none⟩) 1 cap,.func (Fn.func K) #[] #[]] w fun e w'=>e=.returned (.int .i64 (if bb then 0 else -1))/\Below w.heap.size w w'):=by
  have HC:=zH (hK w);have hcf1:=hcf (.agg #[.int .i64 sp,.slice ka kn kc,.slice va vn vc,.bool gn]) w;have y0:w.cell? ⟨gv,0,none⟩=some (.int .i64 sp):=aAd hv;have y1:w.cell? ⟨gv,1,none⟩=some (.slice ka kn kc):=aAd hv;have y2:w.cell? ⟨gv,2,none⟩=some (.slice va vn vc):=aAd hv;have y3:w.cell? ⟨gv,3,none⟩=some (.bool gn):=aAd hv;clear hv hcf hK;go_enter func194,ntmps194;go_wp2_with fail;go_loopw [8] (fun i wx=>(i=.int .i64 0/\wx=w)\/(i=.int .i64 1/\bb=false/\Below w.heap.size w wx)) (fun i _=>1-(intOf i).toNat)
  case atStart=>exact Or.inl ⟨rfl,rfl⟩
  case round =>
   rcases hrel with ⟨rfl,rfl⟩ | ⟨rfl,rfl,hb⟩
   ·go_wp2_with fail;refine HC.o.mono ?_;rintro e w1 ⟨rfl,hb1⟩;have HB1:=zH hb1;clear hb1 HC
    cases bb with
    | true =>
     go_wp2_with fail;go_ret;exact ⟨rfl,HB1.o⟩
    | false =>
     go_wp2_with fail;go_roundw
     case rel=>exact Or.inr ⟨by go_num,by trivial,HB1.o⟩
     case measure=>simp [intOf]
   ·have HB1:=zH hb;clear hb;go_wp2_with fail;go_ret;exact ⟨rfl,HB1.o⟩
 clear hv hcf hK
 cases bb<;>(
  go_enter func161,ntmps161;go_wp2_with fail;refine HI.o.mono ?_;rintro e w1 ⟨rfl,hb1⟩;have HB1:=zH hb1;clear hb1;go_wp2;go_ret
  exact ⟨rfl,HB1.o⟩)
def wrg (sp:Int) (kn vn:Nat):Int:=if !isSp sp || decide (kn=0) then 1 else if decide (60<kn) || decide (1800<vn) then 3 else 0
theorem LS.refusal_one [Gd] (h:LS B p q g ls N c u l W w) {gv cap:Nat} {ka va:Option Addr} {kn kc vn vc:Nat} {sp:Int} {gn:Bool} (hv:w.heap[gv]?=some (.cells #[.int .i64 sp,.slice ka kn kc,.slice va vn vc,.bool gn] 164 (0,0))) :
  Calls prog 118 #[.pointer (some ⟨ls,0,none⟩),.bool true,.slice (some ⟨gv,0,none⟩) 1 cap] w fun e w'=>e=.returned (.int .i64 (wrg sp kn vn))/\Below w.heap.size w w':=by
 have HD:=zH h.dead;have HV:=zH hv;unfold wrg;generalize hw1:(!isSp sp || decide (kn=0))=b1;generalize hw2:(decide (60<kn) || decide (1800<vn))=b2;have HK1:=zH (fun (ww:World)=>isWrong_any (ka:=ka) (kc:=kc) (va:=va) (vn:=vn) (vc:=vc) (kn:=kn) sp gn ww);have HK2:=zH (fun (ww:World)=>isLong_any (ka:=ka) (kc:=kc) (va:=va) (vn:=vn) (vc:=vc) (kn:=kn) sp gn ww);rw [hw1] at HK1;rw [hw2] at HK2;clear h hv hw1 hw2;go_enter func118,ntmps118;go_wp2_with fail;refine HD.o.mono ?_;rintro e w1 ⟨rfl,hb1⟩;have HB1:=zH hb1;have HV1:=zH ((hb1.block _ (lO HV.o)).trans HV.o);have HC1:=zH (contains_one (K:=162) (cap:=cap) HV1.o (fun a ww=>by rfl) HK1.o);clear hb1 HD;go_wp2_with fail;refine HC1.o.mono ?_;rintro e w2 ⟨rfl,hb2⟩;have HB2:=zH (HB1.o.trans (hb2.mono HB1.o.size));have HV2:=zH ((hb2.block _ (lO HV1.o)).trans HV1.o);have HC2:=zH (contains_one (K:=163) (cap:=cap) HV2.o (fun a ww=>by rfl) HK2.o);clear hb2 HC1
 cases b1 with
 | true =>
  go_wp2;go_ret;exact ⟨rfl,HB2.o⟩
 | false =>
  go_wp2_with fail;refine HC2.o.mono ?_;rintro e w3 ⟨rfl,hb3⟩;have HB3:=zH (HB2.o.trans (hb3.mono HB2.o.size));clear hb3 HC2
  cases b2<;>(
   go_wp2;go_ret
   exact ⟨rfl,HB3.o⟩)
theorem LS.GetS [Gd] (h:LS B p q g ls N c u l W w) {ka:Option Addr} {kn kc:Nat} {key:List Nat} (hk:BK B w ka kn kc key) (h0:0<kn) (h6:kn<=60) {sp:Nat} (hsp:sp<16) :
  Calls prog 126 #[.pointer (some ⟨ls,0,none⟩),.int .i64 (sp:Int),.slice ka kn kc] w fun e w'=>GtT B (valL l (sp::key)) w e w':=by
 have hkl:=hk.len;obtain ⟨x1,hx1⟩:∃ x,x=w.alloc (.cells #[.int .i64 (sp:Int),.slice ka kn kc,.slice none 0 0,.bool false] 164):=⟨_,rfl⟩;obtain ⟨x2,hx2⟩:∃ x,x=x1.alloc (.cells #[.int .i64 (sp:Int),.slice ka kn kc,.slice none 0 0,.bool false] 164):=⟨_,rfl⟩;have b1:Below w.heap.size w x1:=by rw [hx1];exact aAk w _
 have b2:Below x1.heap.size x1 x2:=by rw [hx2];exact aAk x1 _
 have HB2:Hid (Below w.heap.size w x2):=b1.trans (b2.mono b1.size);have hs1:x1.heap.size=w.heap.size+1:=by rw [hx1];exact Array.size_push _
 have hnew:x2.heap[w.heap.size+1]?=some (.cells #[.int .i64 (sp:Int),.slice ka kn kc,.slice none 0 0,.bool false] 164 (0,0)):=by rw [<-hs1,hx2];exact heap_alloc_new x1 _
 have hL2:=h.later HB2.o;have hwr:wrg (sp:Int) kn 0=0:=by
  have e1:isSp (sp:Int)=true:=decide_eq_true ⟨by omega,by omega⟩;have e2:decide (kn=0)=false:=decide_eq_false (by omega);have e3:decide (60<kn)=false:=decide_eq_false (by omega);unfold wrg;rw [e1,e2,e3];rfl
 have HRF:=zH (hL2.refusal_one (cap:=1) hnew);rw [hwr] at HRF;clear hwr;have HL:=zH hL2;have HK:=zH (hk.later HB2.o h.bw);rw [hx2,hx1] at HRF;clear h hk b1 b2 hs1 hnew hL2;go_enter func126,ntmps126;go_wp2_with fail;refine HRF.o.mono ?_;rintro e w3 ⟨rfl,hb3⟩;rw [<-hx1,<-hx2] at hb3;have HL3:=zH (HL.o.later hb3);have HK3:=zH (HK.o.later hb3 HL.o.bw);have HB3:=zH (HB2.o.trans (hb3.mono HB2.o.size));clear hb3 HRF hx1 hx2 HB2;have HX0:Hid ((fun wx=>wx.cell? ⟨ls,0,none⟩=some (.pointer (some ⟨g,0,none⟩))) w3.drew):=HL3.o.cell0;have HLD:=zH (HL3.o.later (Below.refl _ _).drew);have HKD:=zH (HK3.o.later (Below.refl _ _).drew HL3.o.bw);have HBD:Hid (Below w.heap.size w w3.drew):=HB3.o.drew;go_upto_region 5 with fail;have HTK:=zH (aDe (B:=B) (sp:=sp) (by omega) HKD.o.1 (by omega));refine wp_region_noPanic ?_;refine wp_region_held_drew (S:=fun wx=>wx.cell? ⟨ls,0,none⟩=some (.pointer (some ⟨g,0,none⟩))) (by kernel_rfl) HX0.o (fun hHeld=>?_);refine aAb 0 22 ?_;refine aAb 1 23 ?_;refine aAb 2 24 ?_;refine aAb 3 25 ?_;refine aAb 4 26 ?_;refine aAb 5 27 ?_;refine aAf 6 ?_;intro K hK;go_simp;refine HTK.o.mono ?_;rintro e w5 ⟨tb,td,rfl,hk5,hb5⟩;have HL5:=zH (HLD.o.later hb5);have HB5:=zH (HBD.o.trans (hb5.mono HBD.o.size));have HGT:=zH (HL5.o.kx.Get hk5 (by omega) (by omega));have HX5:Hid ((fun wx=>wx.cell? ⟨ls,0,none⟩=some (.pointer (some ⟨g,0,none⟩))) w5):=HL5.o.cell0;clear hk5 hb5 hHeld;refine hK.out _ _ HX5.o (fun hHeld=>?_);clear hK K
 try simp only [Act.put,siT,scZ,scS]
 refine aAf 7 ?_;intro K hK;go_simp;refine HGT.o.mono ?_;rintro e w6 ⟨v,isb,rfl,hv6,hb6⟩;obtain ⟨va,vn,vc,hva⟩:=hv6.form;subst hva;have HL6:=zH (HL5.o.later hb6);have HB6:=zH (HB5.o.trans (hb6.mono HB5.o.size));have HV6:=zH hv6;have HX6:Hid ((fun wx=>wx.cell? ⟨ls,0,none⟩=some (.pointer (some ⟨g,0,none⟩))) w6):=HL6.o.cell0;clear hv6 hb6 hHeld;refine hK.out _ _ HX6.o (fun hHeld=>?_);clear hK K
 try simp only [Act.put,siT,scZ,scS]
 refine aAb 8 30 ?_;refine aAb 9 31 ?_;refine aAb 10 32 ?_;refine aAb 11 6 ?_;refine aAb 12 7 ?_;refine aAb 13 8 ?_;refine wpAnyH_done (by kernel_rfl) ?_ _;refine NoPanic.normal ?_;clear hHeld;go_wp2;go_ret3;exact ⟨_,isb,rfl,HV6.o,HB6.o⟩
theorem LS.GetE [Gd] (h:LS B p q g ls N c u [] W w) {ka:Option Addr} {kn kc:Nat} {key:List Nat} (hk:BK B w ka kn kc key) (sp:Int) :
  Calls prog 126 #[.pointer (some ⟨ls,0,none⟩),.int .i64 sp,.slice ka kn kc] w fun e w'=>e=.returned (.tuple #[.slice none 0 0,.bool false,.int .i64 (wrg sp kn 0)])/\Below w.heap.size w w':=by
 by_cases hw:wrg sp kn 0=0
 ·rw [hw];have e1:isSp sp=true/\kn≠0/\kn<=60:=by
   unfold wrg at hw
   cases q1:(!isSp sp || decide (kn=0)) with
   | true=>rw [q1] at hw;simp at hw
   | false =>
    rw [q1] at hw;simp only [Bool.or_eq_false_iff,Bool.not_eq_false',decide_eq_false_iff_not] at q1;refine ⟨q1.1,q1.2,?_⟩;apply Classical.byContradiction;intro q;have q3:decide (60<kn)=true:=decide_eq_true (by omega);rw [q3] at hw;simp at hw
  obtain ⟨e1,e2,e3⟩:=e1;have e4:0<=sp/\sp<16:=of_decide_eq_true e1;obtain ⟨sn,rfl⟩:∃ sn:Nat,sp=(sn:Int):=⟨sp.toNat,by omega⟩;refine (h.GetS hk (by omega) e3 (sp:=sn) (by omega)).mono ?_;rintro e w' ⟨v,isb,rfl,⟨hv1,hv2⟩,hb⟩;subst hv1 hv2;exact ⟨rfl,hb⟩
 ·obtain ⟨x1,hx1⟩:∃ x,x=w.alloc (.cells #[.int .i64 sp,.slice ka kn kc,.slice none 0 0,.bool false] 164):=⟨_,rfl⟩;obtain ⟨x2,hx2⟩:∃ x,x=x1.alloc (.cells #[.int .i64 sp,.slice ka kn kc,.slice none 0 0,.bool false] 164):=⟨_,rfl⟩;have b1:Below w.heap.size w x1:=by rw [hx1];exact aAk w _
  have b2:Below x1.heap.size x1 x2:=by rw [hx2];exact aAk x1 _
  have HB2:Hid (Below w.heap.size w x2):=b1.trans (b2.mono b1.size);have hs1:x1.heap.size=w.heap.size+1:=by rw [hx1];exact Array.size_push _
  have hnew:x2.heap[w.heap.size+1]?=some (.cells #[.int .i64 sp,.slice ka kn kc,.slice none 0 0,.bool false] 164 (0,0)):=by rw [<-hs1,hx2];exact heap_alloc_new x1 _
  have HRF:=zH ((h.later HB2.o).refusal_one (cap:=1) hnew);rw [hx2,hx1] at HRF;generalize hwe:wrg sp kn 0=we at *
  clear h hk b1 b2 hs1 hnew;go_enter func126,ntmps126;go_wp2_with fail;refine HRF.o.mono ?_;rintro e w3 ⟨rfl,hb3⟩;rw [<-hx1,<-hx2] at hb3;have HB3:=zH (HB2.o.trans (hb3.mono HB2.o.size));clear hb3 HRF hx1 hx2 HB2 hwe;go_wp2;go_ret3;exact ⟨rfl,HB3.o⟩
theorem LS.refusal_b [Gd] (h:LS B p q g ls N c u l W w) (b:Bool) :
  Calls prog 118 #[.pointer (some ⟨ls,0,none⟩),.bool b,.slice none 0 0] w fun e w'=>e=.returned (.int .i64 (if b then 0 else 1))/\Below w.heap.size w w':=by
 cases b with
 | true=>exact h.refusal_nil
 | false =>
  have HD:=zH h.dead;clear h;go_enter func118,ntmps118;go_wp2_with fail;refine HD.o.mono ?_;rintro e w1 ⟨rfl,hb1⟩;have HB1:=zH hb1;clear hb1 HD;go_wp2;go_ret;exact ⟨rfl,HB1.o⟩
theorem LS.pairsE [Gd] (most:Nat) {la ha:Option Addr} {W w:World} (hl1:ln<=64) (hl2:hn<=64) (h:LS B p q g ls N c u [] W w) :
  Calls prog 120 #[.pointer (some ⟨ls,0,none⟩),.slice la ln lc,.slice ha hn hc,.int .i64 (most:Int)] w fun e w'=>e=.returned (.tuple #[.slice none 0 0,.int .i64 0])/\Below w.heap.size w w':=by
 have x0:=h.cell0;have HR:=zH (Range_emp most (la:=la) (lc:=lc) (ha:=ha) (hc:=hc) hl1 hl2 h.kx);clear h;go_enter func120,ntmps120;go_wp2_with fail;refine HR.o.mono ?_;rintro e w1 ⟨rfl,hb1⟩;have HB1:=zH hb1;clear hb1 HR x0;go_wp2_with fail;go_loopw [32] (fun i wx=>i=.int .i64 0/\wx=w1) (fun _ _=>0)
 case atStart=>exact ⟨rfl,rfl⟩
 case round =>
  obtain ⟨rfl,rfl⟩:=hrel;go_wp2;go_ret2;exact ⟨rfl,HB1.o⟩
theorem treeEnd_any {B sp:Nat} (hsp:sp<16) (h:BS w a n c xs) (hn:n<=60) :
  Calls prog 122 #[.int .i64 (sp:Int),.slice a n c] w fun e w'=>∃ b d m,e=.returned (.slice b m d)/\m<=61/\Below w.heap.size w w':=by
 by_cases h0:n=0
 ·subst h0;have z0:((0:Nat):Int)=0:=rfl;have s1:IntKind.i64.wrap ((sp:Int)+1)=(sp:Int)+1:=wrap_small _ (by omega) (by omega);have HT:=zH (aDe (B:=B) (sp:=sp+1) (w:=w) (by omega) (BK.nil B w).1 (by omega));rw [show ((sp+1:Nat):Int)=(sp:Int)+1 by omega] at HT;clear h;go_enter func122,ntmps122;go_wp2_with fail;refine HT.o.mono ?_;rintro e w1 ⟨b,d,rfl,hk,hb⟩;have HB:=zH hb;clear hk hb HT;go_wp2;go_ret;exact ⟨b,d,0+1,rfl,by omega,HB.o⟩
 ·have z0:¬ (n:Int)=0:=by omega
  have HT:=zH (aDe (B:=B) (sp:=sp) (by omega) h (by omega));have HN:=zH hn;clear h h0;go_enter func122,ntmps122;go_wp2_with fail;refine HT.o.mono ?_;rintro e w1 ⟨b,d,rfl,hk,hb⟩;have HB:=zH hb;clear hk hb HT;go_wp2;go_ret;exact ⟨b,d,n+1,rfl,by have:=HN.o;omega,HB.o⟩
def rge (sp:Int) (ln hn:Nat) (most:Int):Int:=if !(isSp sp && decide (0<=most)) then 1 else if decide (60<ln) || decide (60<hn) then 3 else 0
theorem LS.RangeE [Gd] (h:LS B p q g ls N c u [] W w) {la ha:Option Addr} {ln lc hn hc:Nat} {lo hi:List Nat} (hlo:BK B w la ln lc lo) (hhi:BK B w ha hn hc hi) (sp most:Int) :
  Calls prog 76 #[.pointer (some ⟨ls,0,none⟩),.int .i64 sp,.slice la ln lc,.slice ha hn hc,.int .i64 most] w fun e w'=>e=.returned (.tuple #[.slice none 0 0,.int .i64 (rge sp ln hn most)])/\Below w.heap.size w w':=by
 have HIS:=zH (aH7 sp w);have HL:=zH h;have HLO:=zH hlo;have HHI:=zH hhi;have HBW:=zH h.bw;have HRF:=zH (fun b=>h.refusal_b b);clear h hlo hhi;unfold rge
 cases hs:isSp sp with
 | false =>
  rw [hs] at HIS;have HR1:=zH (HRF.o false);clear hs HRF;go_enter func76,ntmps76;go_wp2_with fail;refine HIS.o.mono ?_;rintro e w1 ⟨rfl,hw⟩;have hw:=hw.symm;subst hw;clear HIS;go_wp2_with fail;refine HR1.o.mono ?_;rintro e w2 ⟨rfl,hb2⟩;have HB2:=zH hb2;clear hb2 HR1;go_wp2;go_ret2;exact ⟨rfl,HB2.o⟩
 | true =>
  rw [hs] at HIS;have hs2:0<=sp/\sp<16:=of_decide_eq_true hs;by_cases hm:0<=most
  ·have e1:decide (0<=most)=true:=decide_eq_true hm;rw [e1];have HR1:=zH (HRF.o true);obtain ⟨sn,rfl⟩:∃ sn:Nat,sp=(sn:Int):=⟨sp.toNat,by omega⟩;obtain ⟨mn,rfl⟩:∃ mn:Nat,most=(mn:Int):=⟨most.toNat,by omega⟩;have hsn:sn<16:=by omega
   clear hs HRF e1 hs2;by_cases h6:60<ln
   ·have z0:(60:Int)<(ln:Int):=by omega
    have e2:decide (60<ln)=true:=decide_eq_true h6;rw [e2];clear h6 e2;go_enter func76,ntmps76;go_wp2_with fail;refine HIS.o.mono ?_;rintro e w1 ⟨rfl,hw⟩;have hw:=hw.symm;subst hw;clear HIS;go_wp2_with fail;refine HR1.o.mono ?_;rintro e w2 ⟨rfl,hb2⟩;have HB2:=zH hb2;clear hb2 HR1;go_wp2;go_ret2;exact ⟨rfl,HB2.o⟩
   ·have z0:¬ (60:Int)<(ln:Int):=by omega
    have e2:decide (60<ln)=false:=decide_eq_false h6;rw [e2];clear e2;by_cases h7:60<hn
    ·have z1:(60:Int)<(hn:Int):=by omega
     have e3:decide (60<hn)=true:=decide_eq_true h7;rw [e3];clear h6 h7 e3;go_enter func76,ntmps76;go_wp2_with fail;refine HIS.o.mono ?_;rintro e w1 ⟨rfl,hw⟩;have hw:=hw.symm;subst hw;clear HIS;go_wp2_with fail;refine HR1.o.mono ?_;rintro e w2 ⟨rfl,hb2⟩;have HB2:=zH hb2;clear hb2 HR1;go_wp2;go_ret2;exact ⟨rfl,HB2.o⟩
    ·have z1:¬ (60:Int)<(hn:Int):=by omega
     have e3:decide (60<hn)=false:=decide_eq_false h7;rw [e3];clear e3;go_enter func76,ntmps76;go_wp2_with fail;refine HIS.o.mono ?_;rintro e w1 ⟨rfl,hw⟩;have hw:=hw.symm;subst hw;clear HIS;go_wp2_with fail;refine HR1.o.mono ?_;rintro e w2 ⟨rfl,hb2⟩;have HB2:=zH hb2;have HL2:=zH (HL.o.later hb2);have HTK:=zH (aDe (B:=B) (sp:=sn) (w:=w2) (by omega) (HLO.o.later hb2 HBW.o).1 (by omega));have HH2:=zH (HHI.o.later hb2 HBW.o);clear hb2 HR1;go_wp2_with fail;refine HTK.o.mono ?_;rintro e w3 ⟨kb,kd,rfl,hk3,hb3⟩;have HB3:=zH (HB2.o.trans (hb3.mono HB2.o.size));have HL3:=zH (HL2.o.later hb3);have HTE:=zH (treeEnd_any (B:=B) (w:=w3) hsn (HH2.o.later hb3 HL2.o.bw).1 (by omega));clear hk3 hb3 HTK;go_wp2_with fail;refine HTE.o.mono ?_;rintro e w4 ⟨eb,ed,em,rfl,hm4,hb4⟩;have HB4:=zH (HB3.o.trans (hb4.mono HB3.o.size));have HPS:=zH ((HL3.o.later hb4).pairsE mn (la:=kb) (lc:=kd) (ha:=eb) (hc:=ed) (ln:=ln+1) (hn:=em) (by omega) (by omega));clear hb4 HTE;go_wp2_with fail;refine HPS.o.mono ?_;rintro e w5 ⟨rfl,hb5⟩;have HB5:=zH (HB4.o.trans (hb5.mono HB4.o.size));clear hb5 HPS;go_wp2;go_ret2;exact ⟨rfl,HB5.o⟩
  ·have e1:decide (0<=most)=false:=decide_eq_false hm;rw [e1];have z2:¬ (0:Int)<=most:=hm;have z3:decide ((0:Int)<=most)=false:=decide_eq_false hm;have z4:most<0:=by omega
   have z5:decide (most≥0)=false:=decide_eq_false (by omega);have HR1:=zH (HRF.o false);clear hs HRF e1 hm;go_enter func76,ntmps76;go_wp2_with fail;refine HIS.o.mono ?_;rintro e w1 ⟨rfl,hw⟩;have hw:=hw.symm;subst hw;clear HIS;go_wp2_with fail;refine HR1.o.mono ?_;rintro e w2 ⟨rfl,hb2⟩;have HB2:=zH hb2;clear hb2 HR1;go_wp2;go_ret2;exact ⟨rfl,HB2.o⟩
end Go.Proofs.YtdpdjpkmndnaaaaGreat
