import Derived.Test.YtfobcelkmopohaaGreatZ46
import Derived.Test.YtfobcelkmopohaaGreatZ44
set_option maxRecDepth 100000
set_option maxHeartbeats 16000000
set_option linter.unusedVariables false
namespace Go.Proofs.YtfobcelkmopohaaGreat
open Go.RowKit
theorem aIk {px kb:Nat} {w:World} {ka:Option Addr} {kn kc:Nat} {r:Bool} {P:World->Prop} (hk:w.cell? ⟨kb,0,none⟩=some (.slice ka kn kc))
  (hP:Calls Tryz.prog 20 #[.pointer (some ⟨px,0,none⟩),.slice ka kn kc] w fun e w'=>e=.returned (.bool r)/\P w') :
  Calls Tryz.prog 19 #[.pointer (some ⟨px,0,none⟩),.pointer (some ⟨kb,0,none⟩)] w fun e w'=>e=.returned (.bool r)/\P w':=by
 have HP:=zH hP
 clear hP
 go_enter Tryz.func19,Tryz.ntmps19
 go_wp2_with fail
 refine HP.o.mono ?_
 rintro e w1 ⟨rfl,hp⟩
 have HQ:=zH hp
 clear hp
 go_wp2
 go_ret
 exact ⟨rfl,HQ.o⟩
theorem TM.fe [Gd] {B p q g:Nat} {s:DS} {t:PS} {now last:StT} {sv:Value} {left:Int} {w w':World} (h:TM B p q g s t now last sv left w) (f:FE B w w') (hg0:True):TM B p q g s t now last sv left w':=by
 obtain ⟨cs,h1,h2⟩:=h.tv
 exact ⟨f.st h.st hg0,nT h.bw f.1.size,h.bg,⟨cs,f.nt h1 (by decide),h2⟩,h.lf,h.dn,h.af,h.l1,h.sn,h.hd⟩
theorem FE.ch [Gd] {B g:Nat} {w w':World} (f:FE B w w'):ChF B g w w':=⟨f.1,fun k cs t fz e nt _=>f.nt e nt,f.gdk⟩
def DelT [Gd] (B p q g:Nat) (s:DS) (t:PS) (now last:StT) (sv:Value) (l:List It) (k:List Nat) (w w':World):Prop :=
 ∃ (s':DS) (t':PS) (now':StT) (left':Int) (L:List Nat),Gw s t s' t' L/\TM B p q g s' t' now' last sv left' w'/\Tr s' t' now' (delL l k)/\(L.length:Int)<=2*now.depth+1/\ChF B g w w'
theorem del_change [Gd] {B p q g kb:Nat} {s:DS} {t:PS} {w:World} {now last:StT} {sv:Value} {left:Int} {l:List It} (hg0:True) (hM:TM B p q g s t now last sv left w) (hTr:Tr s t now l) (hl:l.length<100000) (k:List Nat) {ka:Option Addr} {kn kc:Nat} (hkn:k.length=kn) (hk:BK B w ka kn kc k) (hroom:2*now.depth+1<=((cntF t.st:Nat):Int)) (hdep:now.depth<=200) (hm:s.m+1000<=100000)
  (hkb:w.heap[kb]?=some (.cells #[.slice ka kn kc] 27 (0,0))) :
  Calls Tryz.prog 18 #[.pointer (some ⟨g,0,none⟩),.func (Fn.func 19) #[] #[.pointer (some ⟨kb,0,none⟩)]] w fun e w'=>e=.returned (.int .i64 0)/\DelT B p q g s t now last sv l k w w':=by
 obtain ⟨cs,hg,hT⟩:=hM.tv
 have hcf:∀ (v:Value) (ww:World),(callFunc 19 (#[v]++#[.pointer (some ⟨kb,0,none⟩)])).run Tryz.prog ww=.ok (.enter 19 (#[v]++#[.pointer (some ⟨kb,0,none⟩)])) ww:=fun v ww=>by rfl
 have hcell:∀ w1,Below w.heap.size w w1->w1.cell? ⟨kb,0,none⟩=some (.slice ka kn kc):=fun w1 hb=>(hb.cell (p:=⟨kb,0,none⟩) (lO hkb)).trans (aAa hkb)
 have hno:hasI l k=false->(∀ (w1:World) (px:Nat),B<=px->Below w.heap.size w w1->EV B w1 px q (.iface 92 (.int .i64 now.root)) now.depth now.keys []->ST B p q s t w1->B<=w1.heap.size->Calls Tryz.prog 20 #[.pointer (some ⟨px,0,none⟩),.slice ka kn kc] w1 fun e' w'=>e'=.returned (.bool false)/\FE B w1 w') ->
   Calls Tryz.prog 18 #[.pointer (some ⟨g,0,none⟩),.func (Fn.func 19) #[] #[.pointer (some ⟨kb,0,none⟩)]] w fun e w'=>e=.returned (.int .i64 0)/\DelT B p q g s t now last sv l k w w':=by
  intro hh hD
  refine (change_no (cap:=#[.pointer (some ⟨kb,0,none⟩)]) hg0 hM.st hM.bw hM.bg hg hT hcf (fun w1 px k1 k2 k3 k4 k5=>aIk (hcell w1 k2) (hD w1 px k1 k2 k3 k4 k5))).mono ?_
  rintro e w' ⟨rfl,hf⟩
  refine ⟨rfl,s,t,now,left,[],Gw.refl s t,hM.fe hf hg0,by rw [aIh hh];exact hTr,?_,hf.ch⟩
  have:0<=now.depth:=by
   rcases hTr with ⟨_,r2,_⟩ | ⟨h,b,_,e2,_⟩
   ·omega
   ·omega
  simp only [List.length_nil]
  omega
 rcases id hTr with ⟨r1,r2,r3,r4,r5⟩ | ⟨h,b,e1,e2,e3,e4,e5,e6,e7,e8,e9⟩
 ·refine hno (by rw [r4];rfl) fun w1 px k1 k2 k3 k4 k5=>?_
  rw [r2] at k3
  refine (delete_none k3).mono ?_
  rintro e w' ⟨rfl,rfl⟩
  exact ⟨rfl,FE.refl _ _⟩
 ·have hh:h<=199:=by omega
  have hwas:=aGg k e4 e5 e6 e7
  by_cases hw:hasI l k=true
  ·by_cases hne:delL l k=[]
   ·obtain ⟨h0,hl1,hit0,hTr0⟩:=Tr.del0 e4 e5 e6 e7 e9 hw hne
    subst h0
    have hgl:=aH8 (old b) k
    have hC:=change_zero (gone:=gnD 0 (old b) k) (hf:=19) (cap:=#[.pointer (some ⟨kb,0,none⟩)]) hg0 hM.st hM.bw hM.bg hg hT hcf (fun w1 px k1 k2 k3 k4 k5=>by
     rw [e1,e2,e3] at k3
     refine aIk (hcell w1 k2) ?_
     refine aHb (gone:=[]) hg0 hM.lf hM.dn b k3 rfl k4 k5 (by simp) (by omega) (by omega) e6 e7 (by rw [e4];exact e5) k hkn (hk.later k2 hM.bw) (by rw [hwas];exact hw) (fun v S w7 q1 q2 q3 q4 q5=>?_)
     have q1':EV B w7 px q v ((0+1:Nat):Int) 0 (gnD 0 (old b) k):=by
      have:((l.length:Nat):Int)-1=0:=by omega
      rw [this] at q1
      simpa using q1
     refine (aFt q1' q2 (aCi (old b) k) hit0).mono ?_
     rintro e w' ⟨rfl,z1,z2⟩
     exact ⟨rfl,z1,q4.trans z2⟩) (fun x hx=>Nat.lt_of_lt_of_le (OldOn.gnD k (OldOn.old e6) x hx) (by rw [<-hM.sn];exact hM.sl)) (by omega)
    refine hC.mono ?_
    rintro e w' ⟨rfl,cs',z1,z2,z3,z4⟩
    refine ⟨rfl,s,t,_,_,[],Gw.refl s t,⟨z3,nT hM.bw z4.1.size,hM.bg,⟨cs',z1,z2⟩,hM.lf,hM.dn,hM.af,hM.l1,hM.sn,hM.hd⟩,by rw [hne];exact hTr0,by simp only [List.length_nil];omega,z4⟩
   ·have ho:=on_del k e4 e5 e6 e7 hw hne
    have hgl:=aH8 (old b) k
    have hC:=aGk (B:=B) (h:=(rootD h (delE h (old b) k).1).1) (e:=(rootD h (delE h (old b) k).1).2) (d:=((dpD h (delE h (old b) k).1+1:Nat):Int)) (n:=((l.length:Nat):Int)-1) (gone:=gnD h (old b) k) (hf:=19) (cap:=#[.pointer (some ⟨kb,0,none⟩)]) hg0 hM.st hM.bw hM.bg hg hT hcf (fun w1 px k1 k2 k3 k4 k5=>by
     rw [e1,e2,e3] at k3
     have hpx:px<w1.heap.size:=by obtain ⟨gv,h1,_⟩:=k3.hx;exact (lO h1)
     refine (aIk (P:=fun w'=>∃ rv S,EV B w' px q rv ((dpD h (delE h (old b) k).1+1:Nat):Int) (((l.length:Nat):Int)-1) (gnD h (old b) k)/\NV B w1.heap.size w' (rootD h (delE h (old b) k).1).1 (rootD h (delE h (old b) k).1).2 S rv/\S.Nodup/\FE B w1 w') (hcell w1 k2) ?_).mono (fun _ _ h9=>h9)
     refine aHb (gone:=[]) hg0 hM.lf hM.dn b k3 rfl k4 k5 (by simp;omega) (by omega) (by omega) e6 e7 (by rw [e4];exact e5) k hkn (hk.later k2 hM.bw) (by rw [hwas];exact hw) (fun v S w7 q1 q2 q3 q4 q5=>?_)
     rw [List.nil_append] at q1
     refine (aGp q1 q2 (aCi (old b) k) (del_sh k e4 e5 e6 e7 hw) q3 k5 q5 hpx rfl (by omega) (aIf k e4 e5 e6 e7 hw hne)).mono ?_
     rintro e w' ⟨rfl,rv',S',z1,z2,z3,z4⟩
     exact ⟨rfl,rv',S',z1,z2,z3,q4.trans z4⟩) hM.lf hM.dn hM.af hM.l1 (by omega) hM.sn (by omega) (by omega) ho.2.2.2.1 (fun x hx=>Nat.lt_of_lt_of_le (OldOn.gnD k (OldOn.old e6) x hx) (by rw [<-hM.sn];exact hM.sl)) (by omega)
    refine hC.mono ?_
    rintro e9' w9 ⟨rfl,hc⟩
    obtain ⟨b',s',t',L,k1,k2,k3,k4,k5⟩:=hc.tm hM
    have hlen:=k1.len
    exact ⟨rfl,s',t',_,_,L,k2,k4,Tr.del e4 e5 e6 e7 e9 hM.sl hw hne k1 k2 k3,by omega,k5⟩
  ·have hw:hasI l k=false:=by simpa using hw
   refine hno hw fun w1 px k1 k2 k3 k4 k5=>?_
   rw [e1,e2,e3] at k3
   exact delete_no (gone:=[]) hg0 hM.lf hM.dn b k3 rfl k4 k5 (by simp;omega) (by omega) (by omega) e6 e7 (by rw [e4];exact e5) k hkn (hk.later k2 hM.bw) (by rw [hwas];exact hw)
theorem Delete_ok [Gd] {B p q g:Nat} {s:DS} {t:PS} {w:World} {now last:StT} {sv:Value} {left:Int} {l:List It} (hg0:True) (hM:TM B p q g s t now last sv left w) (hTr:Tr s t now l) (hl:l.length<100000) (k:List Nat) {ka:Option Addr} {kn kc:Nat} (hkn:k.length=kn) (hk0:0<kn) (hk6:kn<=64) (hk:BK B w ka kn kc k) (hroom:2*now.depth+1<=((cntF t.st:Nat):Int)) (hdep:now.depth<=200) (hm:s.m+1000<=100000) :
  Calls Tryz.prog 5 #[.pointer (some ⟨g,0,none⟩),.slice ka kn kc] w fun e w'=>e=.returned (.tuple #[.bool (hasI l k),.int .i64 0])/\DelT B p q g s t now last sv l k w w':=by
 have hmf:∀ (fn:Fn) (first cap:Array Value) (w:World),(Instr.makeFunc fn first cap).run Tryz.prog w=.ok (.func fn first cap) w:=fun _ _ _ _=>rfl
 have b1:=aAb w (.cells #[.slice ka kn kc] 27)
 have x1:(w.alloc (.cells #[.slice ka kn kc] 27)).heap[w.heap.size]?=some (.cells #[.slice ka kn kc] 27 (0,0)):=heap_alloc_new w _
 have HM:=zH hM
 have HTR:=zH hTr
 have HBB:=zH b1
 have HX1:=zH x1
 have HRF:=zH (fun (ww:World) (hb:Below w.heap.size w ww)=>by
  obtain ⟨cs,hg,hT⟩:=(hM.later hb).tv
  have hr:=aCd (hM.later hb).st hM.lf hg hT ka kn kc
  rw [if_neg (by omega),if_neg (by omega)] at hr
  exact hr)
 have HPC:=zH (fun (ww:World) (hb:Below w.heap.size w ww) (y1:ww.heap[w.heap.size]?=some (.cells #[.slice ka kn kc] 27 (0,0)))=>del_change hg0 (hM.later hb) hTr hl k hkn (hk.later hb hM.bw) hroom hdep hm y1)
 have c1:(w.alloc (.cells #[.slice ka kn kc] 27)).cell? ⟨w.heap.size,0,none⟩=some (.slice ka kn kc):=aAa x1
 have HKY:Hid (now.keys=((l.length:Nat):Int)):=hTr.keys
 have HLT:=zH (aFk (k:=k) hTr.srt)
 have HLB:=zH hl
 clear hM hTr hk hl hroom hdep hm b1 x1 hkn
 go_enter Tryz.func5,Tryz.ntmps5
 go_wp2_with fail
 refine (HRF.o _ HBB.o).mono ?_
 rintro e9 w1 ⟨rfl,hb1⟩
 have HB1:=zH (HBB.o.trans (hb1.mono HBB.o.size))
 have y1:=(hb1.block _ (lO HX1.o)).trans HX1.o
 have HCH:=zH (HPC.o w1 HB1.o y1)
 obtain ⟨cs,hg,hT⟩:=(HM.o.later HB1.o).tv
 have r4:w1.cell? ⟨g,4,none⟩=some (.int .i64 now.keys):=(aAa hg).trans hT.n2
 clear hb1 y1 c1 hg hT
 go_wp2_with fail
 refine HCH.o.mono ?_
 rintro e9 w2 ⟨rfl,hp⟩
 obtain ⟨s',t',now',left',L,k1,k2,k3,k4,k5⟩:=hp
 obtain ⟨cs2,hg2,hT2⟩:=k2.tv
 have r5:w2.cell? ⟨g,4,none⟩=some (.int .i64 now'.keys):=(aAa hg2).trans hT2.n2
 have hky:now'.keys=(((delL l k).length:Nat):Int):=k3.keys
 have hlt:decide (now'.keys<now.keys)=hasI l k:=by
  rw [hky,HKY.o]
  have h9:=HLT.o
  by_cases c:hasI l k=true
  ·rw [if_pos c] at h9
   rw [c]
   exact decide_eq_true (by omega)
  ·rw [if_neg c] at h9
   have c:hasI l k=false:=by simpa using c
   rw [c]
   exact decide_eq_false (by omega)
 have HP:Hid (DelT B p q g s t now last sv l k w w2):=⟨s',t',now',left',L,k1,k2,k3,k4,(HB1.o.mono HM.o.bw).trans k5.1,fun j cs0 t0 fz m1 m2 m3=>k5.2 j cs0 t0 fz ((HB1.o.block j (lO m1)).trans m1) m2 m3,(GdK.of HB1.o).trans k5.gd⟩
 clear k1 k2 k3 k4 k5 hg2 hT2 hky r4
 go_wp2
 go_ret2
 exact ⟨by rw [<-hlt];rfl,HP.o⟩
theorem Delete_arg [Gd] {B p q g:Nat} {s:DS} {t:PS} {w:World} {now last:StT} {sv:Value} {left:Int} (hM:TM B p q g s t now last sv left w) (a:Option Addr) (n c:Nat) (h0:n=0\/64<n) :
  Calls Tryz.prog 5 #[.pointer (some ⟨g,0,none⟩),.slice a n c] w fun e w'=>e=.returned (.tuple #[.bool false,.int .i64 (if n=0 then 1 else 3)])/\Below w.heap.size w w':=by
 have b1:=aAb w (.cells #[.slice a n c] 27)
 have x1:(w.alloc (.cells #[.slice a n c] 27)).heap[w.heap.size]?=some (.cells #[.slice a n c] 27 (0,0)):=heap_alloc_new w _
 have HB1:=zH b1
 have c0:(w.alloc (.cells #[.slice a n c] 27)).cell? ⟨w.heap.size,0,none⟩=some (.slice a n c):=aAa x1
 have HRF:Hid (Calls Tryz.prog 17 #[.pointer (some ⟨g,0,none⟩),.slice a n c] (w.alloc (.cells #[.slice a n c] 27)) fun e w'=>e=.returned (.int .i64 (if n=0 then 1 else 3))/\Below w.heap.size w w'):=by
  have h1:=hM.later HB1.o
  obtain ⟨cs,hg,hT⟩:=h1.tv
  refine (aCd h1.st hM.lf hg hT a n c).mono ?_
  rintro e w' ⟨rfl,hb⟩
  refine ⟨?_,HB1.o.trans (hb.mono HB1.o.size)⟩
  by_cases e:n=0
  ·rw [if_pos e,if_pos e]
  ·rw [if_neg e,if_neg e,if_pos (by omega)]
 have hne:¬ (if n=0 then (1:Int) else 3)=0:=by split<;>decide
 have dne:((if n=0 then (1:Int) else 3) != 0)=true:=by split<;>rfl
 clear hM h0 b1 x1
 generalize (if n=0 then (1:Int) else 3)=r at *
 go_enter Tryz.func5,Tryz.ntmps5
 go_wp2_with fail
 refine HRF.o.mono ?_
 rintro e w1 ⟨rfl,hb⟩
 have HB:=zH hb
 clear hb
 go_wp2
 go_ret2
 exact ⟨rfl,HB.o⟩
def Full3 (t:PS):Prop:=∀ i,2<=i->i<t.st.length->t.st.getD i 0=1\/t.st.getD i 0=2\/t.st.getD i 0=3
theorem Full3.gw {s s':DS} {t t':PS} {L:List Nat} (h:Full3 t) (g:Gw s t s' t' L):Full3 t':=by
 intro i h2 hi
 by_cases c:i∈L
 ·exact Or.inr (Or.inl (g.new i c).2)
 ·rw [g.old i c]
  exact h i h2 (by rw [<-g.len];exact hi)
theorem Full3.cmt {s s':DS} {t t':PS} {nd:List Nat} {root:Nat} (h:Full3 t) (c:Cmt s t nd root s' t'):Full3 t':=by
 intro i h2 hi
 have hi':i<t.st.length:=by rw [<-c.len];exact hi
 rw [c.st i hi']
 by_cases q:t.st.getD i 0=3\/(2<=i/\hsP nd i=false/\t.st.getD i 0=2)
 ·rw [if_pos q];exact Or.inl rfl
 ·rw [if_neg q];exact h i h2 hi'
theorem count_all {l:List Nat} (h0:l.getD 0 0=0) (h1:l.getD 1 0=0) (hl:2<=l.length):(cntF l=l.length-2↔∀ i,2<=i->i<l.length->l.getD i 0=1):=by
 match l,hl with
 | a::b::r,_ =>
  have ha:a=0:=by simpa using h0
  have hb:b=0:=by simpa using h1
  subst ha hb
  have hc:cntF (0::0::r)=r.count 1:=by
   unfold cntF
   rw [List.count_cons_of_ne (by decide),List.count_cons_of_ne (by decide)]
  rw [hc]
  have hL:(0::0::r).length-2=r.length:=by simp
  rw [hL]
  constructor
  ·intro h i h2 hi
   have hm:=List.count_eq_length.1 h
   obtain ⟨j,rfl⟩:∃ j,i=j+2:=⟨i-2,by omega⟩
   have hj:j<r.length:=by simpa using hi
   have:(0::0::r).getD (j+2) 0=r.getD j 0:=rfl
   rw [this,List.getD_eq_getElem?_getD,gE hj]
   exact (hm _ (List.getElem_mem hj)).symm
  ·intro h
   refine List.count_eq_length.2 fun x hx=>?_
   obtain ⟨j,hj,rfl⟩:=List.getElem_of_mem hx
   have:=h (j+2) (by omega) (by simpa using hj)
   have e:(0::0::r).getD (j+2) 0=r.getD j 0:=rfl
   rw [e,List.getD_eq_getElem?_getD,gE hj] at this
   exact this.symm
theorem Cmt.more {s s':DS} {t t':PS} {nd:List Nat} {root:Nat} (c:Cmt s t nd root s' t'):cntF t.st<=cntF t'.st:=by
 refine cnt_mono _ _ c.len.symm fun i hi=>?_
 have hl:=(lL hi)
 have h1:t.st.getD i 0=1:=by rw [List.getD_eq_getElem?_getD,hi];rfl
 have h2:=c.st i hl
 rw [if_neg (by rintro (q | q)<;>omega),h1] at h2
 rw [List.getD_eq_getElem?_getD,gE (by rw [c.len];exact hl)] at h2
 rw [gE (by rw [c.len];exact hl)]
 exact congrArg some h2
structure TI [Gd] (B p q g N c:Nat) (u:Nat) (last:StT) (l:List It) (s:DS) (t:PS) (now:StT) (left:Int) (W wx:World):Prop where
 tm:TM B p q g s t now last (.slice none 0 0) left wx
 tr:Tr s t now l
 ln:l.length<=90
 sn:s.n=N
 mu:s.m<=u
 cu:N-2<=cntF t.st+u
 nm:t.num=c
 f3:Full3 t
 be:Below B W wx
section
variable [Gd] {B p q g N c u:Nat} {last:StT} {l:List It} {s:DS} {t:PS} {now:StT} {left:Int} {W wx wy:World}
theorem TI.later (h:TI B p q g N c u last l s t now left W wx) (hb:Below wx.heap.size wx wy):TI B p q g N c u last l s t now left W wy:=⟨h.tm.later hb,h.tr,h.ln,h.sn,h.mu,h.cu,h.nm,h.f3,h.be.trans (hb.mono h.tm.bw)⟩
theorem TI.dep (h:TI B p q g N c u last l s t now left W wx):0<=now.depth/\now.depth<=4:=h.tr.depth80 (nT h.ln (by decide))
theorem TI.more (h:TI B p q g N c u last l s t now left W wx) {u':Nat} (hu:u<=u'):TI B p q g N c u' last l s t now left W wx:=⟨h.tm,h.tr,h.ln,h.sn,nT h.mu hu,by have:=h.cu;omega,h.nm,h.f3,h.be⟩
end
end Go.Proofs.YtfobcelkmopohaaGreat
