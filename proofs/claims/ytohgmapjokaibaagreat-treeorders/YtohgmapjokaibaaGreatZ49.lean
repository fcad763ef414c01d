import Derived.Test.YtohgmapjokaibaaGreatZ47
import Derived.Test.YtohgmapjokaibaaGreatZ45
set_option maxRecDepth 100000
set_option maxHeartbeats 16000000
set_option linter.unusedVariables false
namespace Go.Proofs.YtohgmapjokaibaaGreat
open Go.RowKit
theorem aIa {px kb:Nat} {w:World} {ka:Option Addr} {kn kc:Nat} {r:Bool} {P:World→Prop} (hk:w.cell? ⟨kb,0,none⟩=some (.slice ka kn kc))
  (hP:Calls Tryz.prog 24 #[.pointer (some ⟨px,0,none⟩),.slice ka kn kc] w fun e w'=>e=.returned (.bool r)∧P w') :
  Calls Tryz.prog 23 #[.pointer (some ⟨px,0,none⟩),.pointer (some ⟨kb,0,none⟩)] w fun e w'=>e=.returned (.bool r)∧P w':=by
 have HP:=hide hP
 clear hP
 go_enter Tryz.func23,Tryz.ntmps23
 go_wp2_with fail
 refine HP.out.mono ?_
 rintro e w1 ⟨rfl,hp⟩
 have HQ:=hide hp
 clear hp
 go_wp2
 go_ret
 exact ⟨rfl,HQ.out⟩
theorem TM.fe [Gd] {B p q g:Nat} {s:DS} {t:PS} {now last:StT} {sv:Value} {left:Int} {w w':World} (h:TM B p q g s t now last sv left w) (f:FE B w w') (hg0:True):TM B p q g s t now last sv left w':=by
 obtain ⟨cs,h1,h2⟩:=h.tv
 exact ⟨f.st h.st hg0,nT h.bw f.1.size,h.bg,⟨cs,f.nt h1 (by decide),h2⟩,h.lf,h.dn,h.af,h.l1,h.sn,h.hd⟩
theorem FE.ch [Gd] {B g:Nat} {w w':World} (f:FE B w w'):ChF B g w w':=⟨f.1,fun k cs t fz e nt _=>f.nt e nt,f.gdk⟩
def DelT [Gd] (B p q g:Nat) (s:DS) (t:PS) (now last:StT) (sv:Value) (l:List It) (k:List Nat) (w w':World):Prop :=
 ∃ (s':DS) (t':PS) (now':StT) (left':Int) (L:List Nat),Gw s t s' t' L∧TM B p q g s' t' now' last sv left' w'∧Tr s' t' now' (delL l k)∧(L.length:Int)≤2*now.depth+1∧ChF B g w w'
theorem del_change [Gd] {B p q g kb:Nat} {s:DS} {t:PS} {w:World} {now last:StT} {sv:Value} {left:Int} {l:List It} (hg0:True) (hM:TM B p q g s t now last sv left w) (hTr:Tr s t now l) (hl:l.length<100000) (k:List Nat) {ka:Option Addr} {kn kc:Nat} (hkn:k.length=kn) (hk:BK B w ka kn kc k) (hroom:2*now.depth+1≤((cntF t.st:Nat):Int)) (hdep:now.depth≤200) (hm:s.m+1000≤100000)
  (hkb:w.heap[kb]?=some (.cells #[.slice ka kn kc] 28 (0,0))) :
  Calls Tryz.prog 16 #[.pointer (some ⟨g,0,none⟩),.func (Fn.func 23) #[] #[.pointer (some ⟨kb,0,none⟩)]] w fun e w'=>e=.returned (.int .i64 0)∧DelT B p q g s t now last sv l k w w':=by
 obtain ⟨cs,hg,hT⟩:=hM.tv
 have hcf:∀ (v:Value) (ww:World),(callFunc 23 (#[v]++#[.pointer (some ⟨kb,0,none⟩)])).run Tryz.prog ww=.ok (.enter 23 (#[v]++#[.pointer (some ⟨kb,0,none⟩)])) ww:=fun v ww=>by rfl
 have hcell:∀ w1,Below w.heap.size w w1→w1.cell? ⟨kb,0,none⟩=some (.slice ka kn kc):=fun w1 hb=>(hb.cell (p:=⟨kb,0,none⟩) (lO hkb)).trans (aAa hkb)
 have hno:hasI l k=false→(∀ (w1:World) (px:Nat),B≤px→Below w.heap.size w w1→EV B w1 px q (.iface 89 (.int .i64 now.root)) now.depth now.keys []→ST B p q s t w1→B≤w1.heap.size→Calls Tryz.prog 24 #[.pointer (some ⟨px,0,none⟩),.slice ka kn kc] w1 fun e' w'=>e'=.returned (.bool false)∧FE B w1 w') →
   Calls Tryz.prog 16 #[.pointer (some ⟨g,0,none⟩),.func (Fn.func 23) #[] #[.pointer (some ⟨kb,0,none⟩)]] w fun e w'=>e=.returned (.int .i64 0)∧DelT B p q g s t now last sv l k w w':=by
  intro hh hD
  refine (change_no (cap:=#[.pointer (some ⟨kb,0,none⟩)]) hg0 hM.st hM.bw hM.bg hg hT hcf (fun w1 px k1 k2 k3 k4 k5=>aIa (hcell w1 k2) (hD w1 px k1 k2 k3 k4 k5))).mono ?_
  rintro e w' ⟨rfl,hf⟩
  refine ⟨rfl,s,t,now,left,[],Gw.refl s t,hM.fe hf hg0,by rw [aH7 hh];exact hTr,?_,hf.ch⟩
  have:0≤now.depth:=by
   rcases hTr with ⟨_,r2,_⟩ | ⟨h,b,_,e2,_⟩
   ·omega
   ·omega
  simp only [List.length_nil]
  omega
 rcases id hTr with ⟨r1,r2,r3,r4,r5⟩ | ⟨h,b,e1,e2,e3,e4,e5,e6,e7,e8,e9⟩
 ·refine hno (by rw [r4];rfl) fun w1 px k1 k2 k3 k4 k5=>?_
  rw [r2] at k3
  refine (delete_none k3).mono ?_
  rintro e w' ⟨rfl,rfl⟩
  exact ⟨rfl,FE.refl _ _⟩
 ·have hh:h≤199:=by omega
  have hwas:=aF7 k e4 e5 e6 e7
  by_cases hw:hasI l k=true
  ·by_cases hne:delL l k=[]
   ·obtain ⟨h0,hl1,hit0,hTr0⟩:=Tr.del0 e4 e5 e6 e7 e9 hw hne
    subst h0
    have hgl:=aHy (old b) k
    have hC:=change_zero (gone:=gnD 0 (old b) k) (hf:=23) (cap:=#[.pointer (some ⟨kb,0,none⟩)]) hg0 hM.st hM.bw hM.bg hg hT hcf (fun w1 px k1 k2 k3 k4 k5=>by
     rw [e1,e2,e3] at k3
     refine aIa (hcell w1 k2) ?_
     refine aG3 (gone:=[]) hg0 hM.lf hM.dn b k3 rfl k4 k5 (by simp) (by omega) (by omega) e6 e7 (by rw [e4];exact e5) k hkn (hk.later k2 hM.bw) (by rw [hwas];exact hw) (fun v S w7 q1 q2 q3 q4 q5=>?_)
     have q1':EV B w7 px q v ((0+1:Nat):Int) 0 (gnD 0 (old b) k):=by
      have:((l.length:Nat):Int)-1=0:=by omega
      rw [this] at q1
      simpa using q1
     refine (aFn q1' q2 (aCe (old b) k) hit0).mono ?_
     rintro e w' ⟨rfl,z1,z2⟩
     exact ⟨rfl,z1,q4.trans z2⟩) (fun x hx=>Nat.lt_of_lt_of_le (OldOn.gnD k (OldOn.old e6) x hx) (by rw [←hM.sn];exact hM.sl)) (by omega)
    refine hC.mono ?_
    rintro e w' ⟨rfl,cs',z1,z2,z3,z4⟩
    refine ⟨rfl,s,t,_,_,[],Gw.refl s t,⟨z3,nT hM.bw z4.1.size,hM.bg,⟨cs',z1,z2⟩,hM.lf,hM.dn,hM.af,hM.l1,hM.sn,hM.hd⟩,by rw [hne];exact hTr0,by simp only [List.length_nil];omega,z4⟩
   ·have ho:=on_del k e4 e5 e6 e7 hw hne
    have hgl:=aHy (old b) k
    have hC:=aGb (B:=B) (h:=(rootD h (delE h (old b) k).1).1) (e:=(rootD h (delE h (old b) k).1).2) (d:=((dpD h (delE h (old b) k).1+1:Nat):Int)) (n:=((l.length:Nat):Int)-1) (gone:=gnD h (old b) k) (hf:=23) (cap:=#[.pointer (some ⟨kb,0,none⟩)]) hg0 hM.st hM.bw hM.bg hg hT hcf (fun w1 px k1 k2 k3 k4 k5=>by
     rw [e1,e2,e3] at k3
     have hpx:px<w1.heap.size:=by obtain ⟨gv,h1,_⟩:=k3.hx;exact (lO h1)
     refine (aIa (P:=fun w'=>∃ rv S,EV B w' px q rv ((dpD h (delE h (old b) k).1+1:Nat):Int) (((l.length:Nat):Int)-1) (gnD h (old b) k)∧NV B w1.heap.size w' (rootD h (delE h (old b) k).1).1 (rootD h (delE h (old b) k).1).2 S rv∧S.Nodup∧FE B w1 w') (hcell w1 k2) ?_).mono (fun _ _ h9=>h9)
     refine aG3 (gone:=[]) hg0 hM.lf hM.dn b k3 rfl k4 k5 (by simp;omega) (by omega) (by omega) e6 e7 (by rw [e4];exact e5) k hkn (hk.later k2 hM.bw) (by rw [hwas];exact hw) (fun v S w7 q1 q2 q3 q4 q5=>?_)
     rw [List.nil_append] at q1
     refine (aGf q1 q2 (aCe (old b) k) (del_sh k e4 e5 e6 e7 hw) q3 k5 q5 hpx rfl (by omega) (aH5 k e4 e5 e6 e7 hw hne)).mono ?_
     rintro e w' ⟨rfl,rv',S',z1,z2,z3,z4⟩
     exact ⟨rfl,rv',S',z1,z2,z3,q4.trans z4⟩) hM.lf hM.dn hM.af hM.l1 (by omega) hM.sn (by omega) (by omega) ho.2.2.2.1 (fun x hx=>Nat.lt_of_lt_of_le (OldOn.gnD k (OldOn.old e6) x hx) (by rw [←hM.sn];exact hM.sl)) (by omega)
    refine hC.mono ?_
    rintro e9' w9 ⟨rfl,hc⟩
    obtain ⟨b',s',t',L,k1,k2,k3,k4,k5⟩:=hc.tm hM
    have hlen:=k1.len
    exact ⟨rfl,s',t',_,_,L,k2,k4,Tr.del e4 e5 e6 e7 e9 hM.sl hw hne k1 k2 k3,by omega,k5⟩
  ·have hw:hasI l k=false:=by simpa using hw
   refine hno hw fun w1 px k1 k2 k3 k4 k5=>?_
   rw [e1,e2,e3] at k3
   exact delete_no (gone:=[]) hg0 hM.lf hM.dn b k3 rfl k4 k5 (by simp;omega) (by omega) (by omega) e6 e7 (by rw [e4];exact e5) k hkn (hk.later k2 hM.bw) (by rw [hwas];exact hw)
theorem Delete_ok [Gd] {B p q g:Nat} {s:DS} {t:PS} {w:World} {now last:StT} {sv:Value} {left:Int} {l:List It} (hg0:True) (hM:TM B p q g s t now last sv left w) (hTr:Tr s t now l) (hl:l.length<100000) (k:List Nat) {ka:Option Addr} {kn kc:Nat} (hkn:k.length=kn) (hk0:0<kn) (hk6:kn≤64) (hk:BK B w ka kn kc k) (hroom:2*now.depth+1≤((cntF t.st:Nat):Int)) (hdep:now.depth≤200) (hm:s.m+1000≤100000) :
  Calls Tryz.prog 7 #[.pointer (some ⟨g,0,none⟩),.slice ka kn kc] w fun e w'=>e=.returned (.tuple #[.bool (hasI l k),.int .i64 0])∧DelT B p q g s t now last sv l k w w':=by
 have hmf:∀ (fn:Fn) (first cap:Array Value) (w:World),(Instr.makeFunc fn first cap).run Tryz.prog w=.ok (.func fn first cap) w:=fun _ _ _ _=>rfl
 have b1:=aAb w (.cells #[.slice ka kn kc] 28)
 have x1:(w.alloc (.cells #[.slice ka kn kc] 28)).heap[w.heap.size]?=some (.cells #[.slice ka kn kc] 28 (0,0)):=heap_alloc_new w _
 have HM:=hide hM
 have HTR:=hide hTr
 have HBB:=hide b1
 have HX1:=hide x1
 have HRF:=hide (fun (ww:World) (hb:Below w.heap.size w ww)=>by
  obtain ⟨cs,hg,hT⟩:=(hM.later hb).tv
  have hr:=aCs (hM.later hb).st hM.lf hg hT ka kn kc
  rw [if_neg (by omega),if_neg (by omega)] at hr
  exact hr)
 have HPC:=hide (fun (ww:World) (hb:Below w.heap.size w ww) (y1:ww.heap[w.heap.size]?=some (.cells #[.slice ka kn kc] 28 (0,0)))=>del_change hg0 (hM.later hb) hTr hl k hkn (hk.later hb hM.bw) hroom hdep hm y1)
 have c1:(w.alloc (.cells #[.slice ka kn kc] 28)).cell? ⟨w.heap.size,0,none⟩=some (.slice ka kn kc):=aAa x1
 have HKY:Hid (now.keys=((l.length:Nat):Int)):=hTr.keys
 have HLT:=hide (aFe (k:=k) hTr.srt)
 have HLB:=hide hl
 clear hM hTr hk hl hroom hdep hm b1 x1 hkn
 go_enter Tryz.func7,Tryz.ntmps7
 go_wp2_with fail
 refine (HRF.out _ HBB.out).mono ?_
 rintro e9 w1 ⟨rfl,hb1⟩
 have HB1:=hide (HBB.out.trans (hb1.mono HBB.out.size))
 have y1:=(hb1.block _ (lO HX1.out)).trans HX1.out
 have HCH:=hide (HPC.out w1 HB1.out y1)
 obtain ⟨cs,hg,hT⟩:=(HM.out.later HB1.out).tv
 have r4:w1.cell? ⟨g,4,none⟩=some (.int .i64 now.keys):=(aAa hg).trans hT.n2
 clear hb1 y1 c1 hg hT
 go_wp2_with fail
 refine HCH.out.mono ?_
 rintro e9 w2 ⟨rfl,hp⟩
 obtain ⟨s',t',now',left',L,k1,k2,k3,k4,k5⟩:=hp
 obtain ⟨cs2,hg2,hT2⟩:=k2.tv
 have r5:w2.cell? ⟨g,4,none⟩=some (.int .i64 now'.keys):=(aAa hg2).trans hT2.n2
 have hky:now'.keys=(((delL l k).length:Nat):Int):=k3.keys
 have hlt:decide (now'.keys<now.keys)=hasI l k:=by
  rw [hky,HKY.out]
  have h9:=HLT.out
  by_cases c:hasI l k=true
  ·rw [if_pos c] at h9
   rw [c]
   exact decide_eq_true (by omega)
  ·rw [if_neg c] at h9
   have c:hasI l k=false:=by simpa using c
   rw [c]
   exact decide_eq_false (by omega)
 have HP:Hid (DelT B p q g s t now last sv l k w w2):=⟨s',t',now',left',L,k1,k2,k3,k4,(HB1.out.mono HM.out.bw).trans k5.1,fun j cs0 t0 fz m1 m2 m3=>k5.2 j cs0 t0 fz ((HB1.out.block j (lO m1)).trans m1) m2 m3,(GdK.of HB1.out).trans k5.gd⟩
 clear k1 k2 k3 k4 k5 hg2 hT2 hky r4
 go_wp2
 go_ret2
 exact ⟨by rw [←hlt];rfl,HP.out⟩
def Full3 (t:PS):Prop:=∀ i,2≤i→i<t.st.length→t.st.getD i 0=1∨t.st.getD i 0=2∨t.st.getD i 0=3
theorem Full3.gw {s s':DS} {t t':PS} {L:List Nat} (h:Full3 t) (g:Gw s t s' t' L):Full3 t':=by
 intro i h2 hi
 by_cases c:i∈L
 ·exact Or.inr (Or.inl (g.new i c).2)
 ·rw [g.old i c]
  exact h i h2 (by rw [←g.len];exact hi)
theorem Full3.cmt {s s':DS} {t t':PS} {nd:List Nat} {root:Nat} (h:Full3 t) (c:Cmt s t nd root s' t'):Full3 t':=by
 intro i h2 hi
 have hi':i<t.st.length:=by rw [←c.len];exact hi
 rw [c.st i hi']
 by_cases q:t.st.getD i 0=3∨(2≤i∧hsP nd i=false∧t.st.getD i 0=2)
 ·rw [if_pos q];exact Or.inl rfl
 ·rw [if_neg q];exact h i h2 hi'
theorem count_all {l:List Nat} (h0:l.getD 0 0=0) (h1:l.getD 1 0=0) (hl:2≤l.length):(cntF l=l.length-2↔∀ i,2≤i→i<l.length→l.getD i 0=1):=by
 match l,hl with
 | a::b::r,_ =>
  have ha:a=0:=by simpa using h0
  have hb:b=0:=by simpa using h1
  subst ha hb
  have hc:cntF (0::0::r)=r.count 1:=by
   unfold cntF
   rw [List.count_cons_of_ne (by decide),List.count_cons_of_ne (by decide)]
  rw [hc]
  have hL:(0::0::r).length-2=r.length:=by simp
  rw [hL]
  constructor
  ·intro h i h2 hi
   have hm:=List.count_eq_length.1 h
   obtain ⟨j,rfl⟩:∃ j,i=j+2:=⟨i-2,by omega⟩
   have hj:j<r.length:=by simpa using hi
   have:(0::0::r).getD (j+2) 0=r.getD j 0:=rfl
   rw [this,List.getD_eq_getElem?_getD,gE hj]
   exact (hm _ (List.getElem_mem hj)).symm
  ·intro h
   refine List.count_eq_length.2 fun x hx=>?_
   obtain ⟨j,hj,rfl⟩:=List.getElem_of_mem hx
   have:=h (j+2) (by omega) (by simpa using hj)
   have e:(0::0::r).getD (j+2) 0=r.getD j 0:=rfl
   rw [e,List.getD_eq_getElem?_getD,gE hj] at this
   exact this.symm
theorem Cmt.more {s s':DS} {t t':PS} {nd:List Nat} {root:Nat} (c:Cmt s t nd root s' t'):cntF t.st≤cntF t'.st:=by
 refine cnt_mono _ _ c.len.symm fun i hi=>?_
 have hl:=(lL hi)
 have h1:t.st.getD i 0=1:=by rw [List.getD_eq_getElem?_getD,hi];rfl
 have h2:=c.st i hl
 rw [if_neg (by rintro (q | q)<;>omega),h1] at h2
 rw [List.getD_eq_getElem?_getD,gE (by rw [c.len];exact hl)] at h2
 rw [gE (by rw [c.len];exact hl)]
 exact congrArg some h2
structure TI [Gd] (B p q g N c:Nat) (u:Nat) (last:StT) (l:List It) (s:DS) (t:PS) (now:StT) (left:Int) (W wx:World):Prop where
 tm:TM B p q g s t now last (.slice none 0 0) left wx
 tr:Tr s t now l
 ln:l.length≤90
 sn:s.n=N
 mu:s.m≤u
 cu:N-2≤cntF t.st+u
 nm:t.num=c
 f3:Full3 t
 be:Below B W wx
section
variable [Gd] {B p q g N c u:Nat} {last:StT} {l:List It} {s:DS} {t:PS} {now:StT} {left:Int} {W wx wy:World}
theorem TI.later (h:TI B p q g N c u last l s t now left W wx) (hb:Below wx.heap.size wx wy):TI B p q g N c u last l s t now left W wy:=⟨h.tm.later hb,h.tr,h.ln,h.sn,h.mu,h.cu,h.nm,h.f3,h.be.trans (hb.mono h.tm.bw)⟩
theorem TI.dep (h:TI B p q g N c u last l s t now left W wx):0≤now.depth∧now.depth≤4:=h.tr.depth80 (nT h.ln (by decide))
theorem TI.more (h:TI B p q g N c u last l s t now left W wx) {u':Nat} (hu:u≤u'):TI B p q g N c u' last l s t now left W wx:=⟨h.tm,h.tr,h.ln,h.sn,nT h.mu hu,by have:=h.cu;omega,h.nm,h.f3,h.be⟩
end
theorem OpT.ti [Gd] {B p g n:Nat} {W w':World} (h:OpT B p g n w') (hn:2≤n) (hb:Below B W w'):∃ q s t st0 left,TI B p q g n 0 0 st0 [] s t st0 left W w'∧left=((n-2:Nat):Int):=by
 obtain ⟨q,s,t,st0,hM,hTr,hdp,hsn,hm,hc,hnum,hs0,hs1⟩:=h
 have hln:t.st.length=n:=by rw [hM.sn];exact hsn
 refine ⟨q,s,t,st0,_,⟨hM,hTr,by simp,hsn,by omega,by omega,hnum,fun i h2 hi=>?_,hb⟩,by rw [hc]⟩
 exact Or.inl ((count_all hM.hd.1 hM.hd.2 (by omega)).1 (by rw [hc,hln]) i h2 hi)
end Go.Proofs.YtohgmapjokaibaaGreat
