import Derived.Test.YtimdcaofgapnlaaGreatZ47
import Derived.Test.YtimdcaofgapnlaaGreatZ45
set_option maxRecDepth 100000
set_option maxHeartbeats 16000000
set_option linter.unusedVariables false
namespace Go.Proofs.YtimdcaofgapnlaaGreat
open Go.RowKit
theorem aIi {px kb:Nat} {w:World} {ka:Option Addr} {kn kc:Nat} {r:Bool} {P:World→Prop} (hk:w.cell? ⟨kb,0,none⟩=some (.slice ka kn kc))
  (hP:Calls Tryz.prog 44 #[.pointer (some ⟨px,0,none⟩),.slice ka kn kc] w fun e w'=>e=.returned (.bool r)∧P w') :
  Calls Tryz.prog 43 #[.pointer (some ⟨px,0,none⟩),.pointer (some ⟨kb,0,none⟩)] w fun e w'=>e=.returned (.bool r)∧P w':=by
 have HP:=hide hP
 clear hP
 go_enter Tryz.func43,Tryz.ntmps43
 go_wp2_with fail
 refine HP.out.mono ?_
 rintro e w1 ⟨rfl,hp⟩
 have HQ:=hide hp
 clear hp
 go_wp2
 go_ret
 exact ⟨rfl,HQ.out⟩
theorem TM.fe [Gd] {B p q g:Nat} {s:DS} {t:PS} {now last:StT} {sv:Value} {left:Int} {w w':World} (h:TM B p q g s t now last sv left w) (f:FE B w w') (hg0:Gd.g=none):TM B p q g s t now last sv left w':=by
 obtain ⟨cs,h1,h2⟩:=h.tv
 exact ⟨f.st h.st hg0,nT h.bw f.1.size,h.bg,⟨cs,f.nt h1 (by decide),h2⟩,h.lf,h.dn,h.af,h.l1,h.sn,h.hd⟩
theorem FE.ch {B g:Nat} {w w':World} (f:FE B w w'):ChF B g w w':=⟨f.1,fun k cs t fz e nt _=>f.nt e nt⟩
def DelT [Gd] (B p q g:Nat) (s:DS) (t:PS) (now last:StT) (sv:Value) (l:List It) (k:List Nat) (w w':World):Prop :=
 ∃ (s':DS) (t':PS) (now':StT) (left':Int) (L:List Nat),Gw s t s' t' L∧TM B p q g s' t' now' last sv left' w'∧Tr s' t' now' (delL l k)∧(L.length:Int)≤2*now.depth+1∧ChF B g w w'
theorem del_change [Gd] {B p q g kb:Nat} {s:DS} {t:PS} {w:World} {now last:StT} {sv:Value} {left:Int} {l:List It} (hg0:Gd.g=none) (hM:TM B p q g s t now last sv left w) (hTr:Tr s t now l) (hl:l.length<100000) (k:List Nat) {ka:Option Addr} {kn kc:Nat} (hkn:k.length=kn) (hk:BK B w ka kn kc k) (hroom:2*now.depth+1≤((cntF t.st:Nat):Int)) (hdep:now.depth≤200) (hm:s.m+1000≤100000)
  (hkb:w.heap[kb]?=some (.cells #[.slice ka kn kc] 30 (0,0))) :
  Calls Tryz.prog 39 #[.pointer (some ⟨g,0,none⟩),.func (Fn.func 43) #[] #[.pointer (some ⟨kb,0,none⟩)]] w fun e w'=>e=.returned (.int .i64 0)∧DelT B p q g s t now last sv l k w w':=by
 obtain ⟨cs,hg,hT⟩:=hM.tv
 have hcf:∀ (v:Value) (ww:World),(callFunc 43 (#[v]++#[.pointer (some ⟨kb,0,none⟩)])).run Tryz.prog ww=.ok (.enter 43 (#[v]++#[.pointer (some ⟨kb,0,none⟩)])) ww:=fun v ww=>by rfl
 have hcell:∀ w1,Below w.heap.size w w1→w1.cell? ⟨kb,0,none⟩=some (.slice ka kn kc):=fun w1 hb=>(hb.cell (p:=⟨kb,0,none⟩) (lO hkb)).trans (aAa hkb)
 have hno:hasI l k=false→(∀ (w1:World) (px:Nat),B≤px→Below w.heap.size w w1→EV B w1 px q (.iface 119 (.int .i64 now.root)) now.depth now.keys []→ST B p q s t w1→B≤w1.heap.size→Calls Tryz.prog 44 #[.pointer (some ⟨px,0,none⟩),.slice ka kn kc] w1 fun e' w'=>e'=.returned (.bool false)∧FE B w1 w') →
   Calls Tryz.prog 39 #[.pointer (some ⟨g,0,none⟩),.func (Fn.func 43) #[] #[.pointer (some ⟨kb,0,none⟩)]] w fun e w'=>e=.returned (.int .i64 0)∧DelT B p q g s t now last sv l k w w':=by
  intro hh hD
  refine (change_no (cap:=#[.pointer (some ⟨kb,0,none⟩)]) hg0 hM.st hM.bw hM.bg hg hT hcf (fun w1 px k1 k2 k3 k4 k5=>aIi (hcell w1 k2) (hD w1 px k1 k2 k3 k4 k5))).mono ?_
  rintro e w' ⟨rfl,hf⟩
  refine ⟨rfl,s,t,now,left,[],Gw.refl s t,hM.fe hf hg0,by rw [aIf hh];exact hTr,?_,hf.ch⟩
  have:0≤now.depth:=by
   rcases hTr with ⟨_,r2,_⟩ | ⟨h,b,_,e2,_⟩
   ·omega
   ·omega
  simp only [List.length_nil]
  omega
 rcases id hTr with ⟨r1,r2,r3,r4,r5⟩ | ⟨h,b,e1,e2,e3,e4,e5,e6,e7,e8,e9⟩
 ·refine hno (by rw [r4];rfl) fun w1 px k1 k2 k3 k4 k5=>?_
  rw [r2] at k3
  refine (delete_none k3).mono ?_
  rintro e w' ⟨rfl,rfl⟩
  exact ⟨rfl,FE.refl _ _⟩
 ·have hh:h≤199:=by omega
  have hwas:=aGa k e4 e5 e6 e7
  by_cases hw:hasI l k=true
  ·by_cases hne:delL l k=[]
   ·obtain ⟨h0,hl1,hit0,hTr0⟩:=Tr.del0 e4 e5 e6 e7 e9 hw hne
    subst h0
    have hgl:=aH6 (old b) k
    have hC:=change_zero (gone:=gnD 0 (old b) k) (hf:=43) (cap:=#[.pointer (some ⟨kb,0,none⟩)]) hg0 hM.st hM.bw hM.bg hg hT hcf (fun w1 px k1 k2 k3 k4 k5=>by
     rw [e1,e2,e3] at k3
     refine aIi (hcell w1 k2) ?_
     refine aG9 (gone:=[]) hg0 hM.lf hM.dn b k3 rfl k4 k5 (by simp) (by omega) (by omega) e6 e7 (by rw [e4];exact e5) k hkn (hk.later k2 hM.bw) (by rw [hwas];exact hw) (fun v S w7 q1 q2 q3 q4 q5=>?_)
     have q1':EV B w7 px q v ((0+1:Nat):Int) 0 (gnD 0 (old b) k):=by
      have:((l.length:Nat):Int)-1=0:=by omega
      rw [this] at q1
      simpa using q1
     refine (aFq q1' q2 (aCf (old b) k) hit0).mono ?_
     rintro e w' ⟨rfl,z1,z2⟩
     exact ⟨rfl,z1,q4.trans z2⟩) (fun x hx=>Nat.lt_of_lt_of_le (OldOn.gnD k (OldOn.old e6) x hx) (by rw [←hM.sn];exact hM.sl)) (by omega)
    refine hC.mono ?_
    rintro e w' ⟨rfl,cs',z1,z2,z3,z4⟩
    refine ⟨rfl,s,t,_,_,[],Gw.refl s t,⟨z3,nT hM.bw z4.1.size,hM.bg,⟨cs',z1,z2⟩,hM.lf,hM.dn,hM.af,hM.l1,hM.sn,hM.hd⟩,by rw [hne];exact hTr0,by simp only [List.length_nil];omega,z4⟩
   ·have ho:=on_del k e4 e5 e6 e7 hw hne
    have hgl:=aH6 (old b) k
    have hC:=aGe (B:=B) (h:=(rootD h (delE h (old b) k).1).1) (e:=(rootD h (delE h (old b) k).1).2) (d:=((dpD h (delE h (old b) k).1+1:Nat):Int)) (n:=((l.length:Nat):Int)-1) (gone:=gnD h (old b) k) (hf:=43) (cap:=#[.pointer (some ⟨kb,0,none⟩)]) hg0 hM.st hM.bw hM.bg hg hT hcf (fun w1 px k1 k2 k3 k4 k5=>by
     rw [e1,e2,e3] at k3
     have hpx:px<w1.heap.size:=by obtain ⟨gv,h1,_⟩:=k3.hx;exact (lO h1)
     refine (aIi (P:=fun w'=>∃ rv S,EV B w' px q rv ((dpD h (delE h (old b) k).1+1:Nat):Int) (((l.length:Nat):Int)-1) (gnD h (old b) k)∧NV B w1.heap.size w' (rootD h (delE h (old b) k).1).1 (rootD h (delE h (old b) k).1).2 S rv∧S.Nodup∧FE B w1 w') (hcell w1 k2) ?_).mono (fun _ _ h9=>h9)
     refine aG9 (gone:=[]) hg0 hM.lf hM.dn b k3 rfl k4 k5 (by simp;omega) (by omega) (by omega) e6 e7 (by rw [e4];exact e5) k hkn (hk.later k2 hM.bw) (by rw [hwas];exact hw) (fun v S w7 q1 q2 q3 q4 q5=>?_)
     rw [List.nil_append] at q1
     refine (aGl q1 q2 (aCf (old b) k) (del_sh k e4 e5 e6 e7 hw) q3 k5 q5 hpx rfl (by omega) (aId k e4 e5 e6 e7 hw hne)).mono ?_
     rintro e w' ⟨rfl,rv',S',z1,z2,z3,z4⟩
     exact ⟨rfl,rv',S',z1,z2,z3,q4.trans z4⟩) hM.lf hM.dn hM.af hM.l1 (by omega) hM.sn (by omega) (by omega) ho.2.2.2.1 (fun x hx=>Nat.lt_of_lt_of_le (OldOn.gnD k (OldOn.old e6) x hx) (by rw [←hM.sn];exact hM.sl)) (by omega)
    refine hC.mono ?_
    rintro e9' w9 ⟨rfl,hc⟩
    obtain ⟨b',s',t',L,k1,k2,k3,k4,k5⟩:=hc.tm hM
    have hlen:=k1.len
    exact ⟨rfl,s',t',_,_,L,k2,k4,Tr.del e4 e5 e6 e7 e9 hM.sl hw hne k1 k2 k3,by omega,k5⟩
  ·have hw:hasI l k=false:=by simpa using hw
   refine hno hw fun w1 px k1 k2 k3 k4 k5=>?_
   rw [e1,e2,e3] at k3
   exact delete_no (gone:=[]) hg0 hM.lf hM.dn b k3 rfl k4 k5 (by simp;omega) (by omega) (by omega) e6 e7 (by rw [e4];exact e5) k hkn (hk.later k2 hM.bw) (by rw [hwas];exact hw)
theorem Delete_ok [Gd] {B p q g:Nat} {s:DS} {t:PS} {w:World} {now last:StT} {sv:Value} {left:Int} {l:List It} (hg0:Gd.g=none) (hM:TM B p q g s t now last sv left w) (hTr:Tr s t now l) (hl:l.length<100000) (k:List Nat) {ka:Option Addr} {kn kc:Nat} (hkn:k.length=kn) (hk0:0<kn) (hk6:kn≤64) (hk:BK B w ka kn kc k) (hroom:2*now.depth+1≤((cntF t.st:Nat):Int)) (hdep:now.depth≤200) (hm:s.m+1000≤100000) :
  Calls Tryz.prog 13 #[.pointer (some ⟨g,0,none⟩),.slice ka kn kc] w fun e w'=>e=.returned (.tuple #[.bool (hasI l k),.int .i64 0])∧DelT B p q g s t now last sv l k w w':=by
 have hmf:∀ (fn:Fn) (first cap:Array Value) (w:World),(Instr.makeFunc fn first cap).run Tryz.prog w=.ok (.func fn first cap) w:=fun _ _ _ _=>rfl
 have b1:=aAb w (.cells #[.slice ka kn kc] 30)
 have x1:(w.alloc (.cells #[.slice ka kn kc] 30)).heap[w.heap.size]?=some (.cells #[.slice ka kn kc] 30 (0,0)):=heap_alloc_new w _
 have HM:=hide hM
 have HTR:=hide hTr
 have HBB:=hide b1
 have HX1:=hide x1
 have HRF:=hide (fun (ww:World) (hb:Below w.heap.size w ww)=>by
  obtain ⟨cs,hg,hT⟩:=(hM.later hb).tv
  have hr:=aCu (hM.later hb).st hM.lf hg hT ka kn kc
  rw [if_neg (by omega),if_neg (by omega)] at hr
  exact hr)
 have HPC:=hide (fun (ww:World) (hb:Below w.heap.size w ww) (y1:ww.heap[w.heap.size]?=some (.cells #[.slice ka kn kc] 30 (0,0)))=>del_change hg0 (hM.later hb) hTr hl k hkn (hk.later hb hM.bw) hroom hdep hm y1)
 have c1:(w.alloc (.cells #[.slice ka kn kc] 30)).cell? ⟨w.heap.size,0,none⟩=some (.slice ka kn kc):=aAa x1
 have HKY:Hid (now.keys=((l.length:Nat):Int)):=hTr.keys
 have HLT:=hide (aFi (k:=k) hTr.srt)
 have HLB:=hide hl
 clear hM hTr hk hl hroom hdep hm b1 x1 hkn
 go_enter Tryz.func13,Tryz.ntmps13
 go_wp2_with fail
 refine (HRF.out _ HBB.out).mono ?_
 rintro e9 w1 ⟨rfl,hb1⟩
 have HB1:=hide (HBB.out.trans (hb1.mono HBB.out.size))
 have y1:=(hb1.block _ (lO HX1.out)).trans HX1.out
 have HCH:=hide (HPC.out w1 HB1.out y1)
 obtain ⟨cs,hg,hT⟩:=(HM.out.later HB1.out).tv
 have r4:w1.cell? ⟨g,4,none⟩=some (.int .i64 now.keys):=(aAa hg).trans hT.n2
 clear hb1 y1 c1 hg hT
 go_wp2_with fail
 refine HCH.out.mono ?_
 rintro e9 w2 ⟨rfl,hp⟩
 obtain ⟨s',t',now',left',L,k1,k2,k3,k4,k5⟩:=hp
 obtain ⟨cs2,hg2,hT2⟩:=k2.tv
 have r5:w2.cell? ⟨g,4,none⟩=some (.int .i64 now'.keys):=(aAa hg2).trans hT2.n2
 have hky:now'.keys=(((delL l k).length:Nat):Int):=k3.keys
 have hlt:decide (now'.keys<now.keys)=hasI l k:=by
  rw [hky,HKY.out]
  have h9:=HLT.out
  by_cases c:hasI l k=true
  ·rw [if_pos c] at h9
   rw [c]
   exact decide_eq_true (by omega)
  ·rw [if_neg c] at h9
   have c:hasI l k=false:=by simpa using c
   rw [c]
   exact decide_eq_false (by omega)
 have HP:Hid (DelT B p q g s t now last sv l k w w2):=⟨s',t',now',left',L,k1,k2,k3,k4,(HB1.out.mono HM.out.bw).trans k5.1,fun j cs0 t0 fz m1 m2 m3=>k5.2 j cs0 t0 fz ((HB1.out.block j (lO m1)).trans m1) m2 m3⟩
 clear k1 k2 k3 k4 k5 hg2 hT2 hky r4
 go_wp2
 go_ret2
 exact ⟨by rw [←hlt];rfl,HP.out⟩
theorem Tr.nil {s:DS} {t:PS} {st:StT} (h:Tr s t st []):st.depth=0∧st.keys=0∧PgS st.pgs []:=by
 rcases h with ⟨_,h2,h3,_,h5⟩ | ⟨h,b,e1,e2,e3,e4,e5,e6,e7,e8,e9⟩
 ·exact ⟨h2,h3,h5⟩
 ·exfalso
  have:1≤(flB h b).length:=by
   cases h with
   | zero=>exact e8
   | succ h =>
    have hw:(flB (h+1) b).length=b.2.1.length+((b.2.2.map (flB h)).map List.length).sum:=aBg _ _ (by rw [List.length_map];exact e7.2.1)
    have e8:1≤b.2.1.length:=e8
    omega
  rw [e4] at this
  simp at this
def Full3 (t:PS):Prop:=∀ i,2≤i→i<t.st.length→t.st.getD i 0=1∨t.st.getD i 0=2∨t.st.getD i 0=3
theorem Full3.gw {s s':DS} {t t':PS} {L:List Nat} (h:Full3 t) (g:Gw s t s' t' L):Full3 t':=by
 intro i h2 hi
 by_cases c:i∈L
 ·exact Or.inr (Or.inl (g.new i c).2)
 ·rw [g.old i c]
  exact h i h2 (by rw [←g.len];exact hi)
theorem Full3.cmt {s s':DS} {t t':PS} {nd:List Nat} {root:Nat} (h:Full3 t) (c:Cmt s t nd root s' t'):Full3 t':=by
 intro i h2 hi
 have hi':i<t.st.length:=by rw [←c.len];exact hi
 rw [c.st i hi']
 by_cases q:t.st.getD i 0=3∨(2≤i∧hsP nd i=false∧t.st.getD i 0=2)
 ·rw [if_pos q];exact Or.inl rfl
 ·rw [if_neg q];exact h i h2 hi'
theorem count_all {l:List Nat} (h0:l.getD 0 0=0) (h1:l.getD 1 0=0) (hl:2≤l.length):(cntF l=l.length-2↔∀ i,2≤i→i<l.length→l.getD i 0=1):=by
 match l,hl with
 | a::b::r,_ =>
  have ha:a=0:=by simpa using h0
  have hb:b=0:=by simpa using h1
  subst ha hb
  have hc:cntF (0::0::r)=r.count 1:=by
   unfold cntF
   rw [List.count_cons_of_ne (by decide),List.count_cons_of_ne (by decide)]
  rw [hc]
  have hL:(0::0::r).length-2=r.length:=by simp
  rw [hL]
  constructor
  ·intro h i h2 hi
   have hm:=List.count_eq_length.1 h
   obtain ⟨j,rfl⟩:∃ j,i=j+2:=⟨i-2,by omega⟩
   have hj:j<r.length:=by simpa using hi
   have:(0::0::r).getD (j+2) 0=r.getD j 0:=rfl
   rw [this,List.getD_eq_getElem?_getD,gE hj]
   exact (hm _ (List.getElem_mem hj)).symm
  ·intro h
   refine List.count_eq_length.2 fun x hx=>?_
   obtain ⟨j,hj,rfl⟩:=List.getElem_of_mem hx
   have:=h (j+2) (by omega) (by simpa using hj)
   have e:(0::0::r).getD (j+2) 0=r.getD j 0:=rfl
   rw [e,List.getD_eq_getElem?_getD,gE hj] at this
   exact this.symm
theorem Cmt.more {s s':DS} {t t':PS} {nd:List Nat} {root:Nat} (c:Cmt s t nd root s' t'):cntF t.st≤cntF t'.st:=by
 refine cnt_mono _ _ c.len.symm fun i hi=>?_
 have hl:=(lL hi)
 have h1:t.st.getD i 0=1:=by rw [List.getD_eq_getElem?_getD,hi];rfl
 have h2:=c.st i hl
 rw [if_neg (by rintro (q | q)<;>omega),h1] at h2
 rw [List.getD_eq_getElem?_getD,gE (by rw [c.len];exact hl)] at h2
 rw [gE (by rw [c.len];exact hl)]
 exact congrArg some h2
theorem Cmt.free {s s':DS} {t t':PS} {nd:List Nat} {root:Nat} (c:Cmt s t nd root s' t') (h:Full3 t) (hn:PgS nd []) (hd:t'.st.getD 0 0=0∧t'.st.getD 1 0=0) (h2:2≤t.st.length) (h4:t.st.length≤4096):cntF t'.st=t.st.length-2:=by
 rw [←c.len]
 refine (count_all hd.1 hd.2 (by rw [c.len];exact h2)).2 fun i hi hl=>?_
 have hi':i<t.st.length:=by rw [←c.len];exact hl
 rw [c.st i hi']
 have hh:hsP nd i=false:=by rw [hn.2.2.2 i];simp
 rcases h i hi hi' with q | q | q
 ·rw [if_neg (by rintro (q9 | q9)<;>omega),q]
 ·rw [if_pos (Or.inr ⟨hi,hh,q⟩)]
 ·rw [if_pos (Or.inl q)]
def KeysIn (l:List It) (a b:Nat) (m:Nat→Nat) (tf:Nat→List Nat):Prop:=∀ x∈l,∃ i,a≤i∧i<b∧0<m i∧x.1=tf i
theorem KeysIn.put {l:List It} {j:Nat} {m:Nat→Nat} {tf:Nat→List Nat} {it:It} (h:KeysIn l 0 j m tf) (hk:it.1=tf j) (hm:0<m j):KeysIn (putL l it) 0 (j+1) m tf:=by
 intro x hx
 rcases mem_putL hx with q | q
 ·obtain ⟨i,h1,h2,h3,h4⟩:=h x q
  exact ⟨i,h1,by omega,h3,h4⟩
 ·subst q
  exact ⟨j,by omega,by omega,hm,hk⟩
theorem KeysIn.skip {l:List It} {j:Nat} {m:Nat→Nat} {tf:Nat→List Nat} (h:KeysIn l 0 j m tf):KeysIn l 0 (j+1) m tf:=fun x hx=>by
 obtain ⟨i,h1,h2,h3,h4⟩:=h x hx
 exact ⟨i,h1,by omega,h3,h4⟩
theorem KeysIn.del {l:List It} {j n:Nat} {m:Nat→Nat} {tf:Nat→List Nat} (h:KeysIn l j n m tf):KeysIn (delL l (tf j)) (j+1) n m tf:=fun x hx=>by
 obtain ⟨i,h1,h2,h3,h4⟩:=h x (delL_mem hx)
 refine ⟨i,?_,h2,h3,h4⟩
 have hne:x.1≠tf j:=by
  have:=(List.mem_filter.1 hx).2
  simpa using this
 by_cases q:i=j
 ·subst q;exact absurd h4 hne
 ·omega
theorem KeysIn.none {l:List It} {n:Nat} {m:Nat→Nat} {tf:Nat→List Nat} (h:KeysIn l n n m tf):l=[]:=by
 cases l with
 | nil=>rfl
 | cons x l =>
  obtain ⟨i,h1,h2,_,_⟩:=h x (List.mem_cons_self)
  omega
structure TI [Gd] (B p q g N c:Nat) (u:Nat) (last:StT) (l:List It) (s:DS) (t:PS) (now:StT) (left:Int) (W wx:World):Prop where
 tm:TM B p q g s t now last (.slice none 0 0) left wx
 tr:Tr s t now l
 ln:l.length≤90
 sn:s.n=N
 mu:s.m≤u
 cu:N-2≤cntF t.st+u
 nm:t.num=c
 f3:Full3 t
 be:Below B W wx
section
variable [Gd] {B p q g N c u:Nat} {last:StT} {l:List It} {s:DS} {t:PS} {now:StT} {left:Int} {W wx wy:World}
theorem TI.later (h:TI B p q g N c u last l s t now left W wx) (hb:Below wx.heap.size wx wy):TI B p q g N c u last l s t now left W wy:=⟨h.tm.later hb,h.tr,h.ln,h.sn,h.mu,h.cu,h.nm,h.f3,h.be.trans (hb.mono h.tm.bw)⟩
theorem TI.dep (h:TI B p q g N c u last l s t now left W wx):0≤now.depth∧now.depth≤4:=h.tr.depth80 (nT h.ln (by decide))
theorem TI.more (h:TI B p q g N c u last l s t now left W wx) {u':Nat} (hu:u≤u'):TI B p q g N c u' last l s t now left W wx:=⟨h.tm,h.tr,h.ln,h.sn,nT h.mu hu,by have:=h.cu;omega,h.nm,h.f3,h.be⟩
theorem TI.put (h:TI B p q g N c u last l s t now left W wx) {it:It} (hl:l.length<90) (hp:PutT B p q g s t now last (.slice none 0 0) l it wx wy):∃ s' t' now' left',TI B p q g N c (u+9) last (putL l it) s' t' now' left' W wy:=by
 obtain ⟨s',t',now',L,k1,k2,k3,k4,k5⟩:=hp
 have hd:=h.dep
 have h5:=k1.m
 have h6:=k1.cnt
 have h7:=aHs l it
 have h8:=h.mu
 have h9:=h.cu
 refine ⟨s',t',now',_,k2,k3,?_,by rw [k1.n];exact h.sn,by omega,by omega,by rw [k1.num];exact h.nm,h.f3.gw k1,h.be.trans k5.1⟩
 rw [h7];split<;>omega
theorem TI.del (h:TI B p q g N c u last l s t now left W wx) {k:List Nat} (hp:DelT B p q g s t now last (.slice none 0 0) l k wx wy):∃ s' t' now' left',TI B p q g N c (u+9) last (delL l k) s' t' now' left' W wy:=by
 obtain ⟨s',t',now',left',L,k1,k2,k3,k4,k5⟩:=hp
 have hd:=h.dep
 have h5:=k1.m
 have h6:=k1.cnt
 have h8:=h.mu
 have h9:=h.cu
 have h7:(delL l k).length≤l.length:=List.length_filter_le _ _
 exact ⟨s',t',now',left',k2,k3,nT h7 h.ln,by rw [k1.n];exact h.sn,by omega,by omega,by rw [k1.num];exact h.nm,h.f3.gw k1,h.be.trans k5.1⟩
theorem TI.commit (h:TI B p q g N c u last l s t now left W wx) (hN:2≤N) (hnm:c<900):Calls Tryz.prog 16 #[.pointer (some ⟨g,0,none⟩)] wx fun e w'=>e=.returned (.int .i64 0)∧∃ s' t',Cmt s t now.pgs now.root.toNat s' t'∧TI B p q g N (c+1) u now l s' t' now (cntF t'.st:Nat) W w'∧s'.m=0:=by
 refine (Commit_ok h.tm h.tr (SnV.nil wx) (by rw [h.sn];exact hN) (by rw [h.nm];omega)).mono ?_
 rintro e w' ⟨rfl,s',t',k1,k2,k3⟩
 have k1:Cmt s t now.pgs now.root.toNat s' t':=k1
 have h9:=k1.more
 have h8:=h.cu
 refine ⟨rfl,s',t',k1,⟨k2,h.tr.cmt k1 h.tm.hd (fun i _ hi=>hi),h.ln,by rw [k1.n];exact h.sn,by rw [k1.m];exact Nat.zero_le _,by omega,by rw [k1.num,h.nm],h.f3.cmt k1,h.be.trans k3.1⟩,k1.m⟩
theorem TI.Put (hg0:Gd.g=none) (h:TI B p q g N c u last l s t now left W wx) (hu:u+20≤N) (hu2:u≤3000) (hl:l.length<90) (it:It) (hit:ItOk it) {ka va:Option Addr} {kn kc vn vc:Nat} (hkn:it.1.length=kn) (hvn:it.2.length=vn) (hk:BK B wx ka kn kc it.1) (hv:BK B wx va vn vc it.2) :
  Calls Tryz.prog 11 #[.pointer (some ⟨g,0,none⟩),.slice ka kn kc,.slice va vn vc] wx fun e w'=>e=.returned (.int .i64 0)∧∃ s' t' now' left',TI B p q g N c (u+9) last (putL l it) s' t' now' left' W w':=by
 have hd:=h.dep
 have h8:=h.mu
 have h9:=h.cu
 have h7:=h.ln
 refine (Put_ok hg0 h.tm h.tr (by omega) it hit hkn hvn hk hv (by omega) (by omega) (by omega)).mono ?_
 rintro e w' ⟨rfl,hp⟩
 exact ⟨rfl,h.put hl hp⟩
theorem TI.Delete (hg0:Gd.g=none) (h:TI B p q g N c u last l s t now left W wx) (hu:u+20≤N) (hu2:u≤3000) (k:List Nat) {ka:Option Addr} {kn kc:Nat} (hkn:k.length=kn) (hk0:0<kn) (hk6:kn≤64) (hk:BK B wx ka kn kc k) :
  Calls Tryz.prog 13 #[.pointer (some ⟨g,0,none⟩),.slice ka kn kc] wx fun e w'=>e=.returned (.tuple #[.bool (hasI l k),.int .i64 0])∧∃ s' t' now' left',TI B p q g N c (u+9) last (delL l k) s' t' now' left' W w':=by
 have hd:=h.dep
 have h8:=h.mu
 have h9:=h.cu
 have h7:=h.ln
 refine (Delete_ok hg0 h.tm h.tr (by omega) k hkn hk0 hk6 hk (by omega) (by omega) (by omega)).mono ?_
 rintro e w' ⟨rfl,hp⟩
 exact ⟨rfl,h.del hp⟩
end
theorem OpT.ti [Gd] {B p g n:Nat} {W w':World} (h:OpT B p g n w') (hn:2≤n) (hb:Below B W w'):∃ q s t st0 left,TI B p q g n 0 0 st0 [] s t st0 left W w'∧left=((n-2:Nat):Int):=by
 obtain ⟨q,s,t,st0,hM,hTr,hdp,hsn,hm,hc,hnum,hs0,hs1⟩:=h
 have hln:t.st.length=n:=by rw [hM.sn];exact hsn
 refine ⟨q,s,t,st0,_,⟨hM,hTr,by simp,hsn,by omega,by omega,hnum,fun i h2 hi=>?_,hb⟩,by rw [hc]⟩
 exact Or.inl ((count_all hM.hd.1 hM.hd.2 (by omega)).1 (by rw [hc,hln]) i h2 hi)
theorem arg_bk {B m cc b0:Nat} {W wx:World} {aa:Option Addr} {ys:List Nat} (hB:W.heap.size=B) (h:BS W aa m cc ys) (hb:Below B W wx) (hm:0<m):BK B wx aa m cc ys:=by
 have hbs:=h.later hb (by rw [hB];exact nR B)
 refine ⟨hbs,fun x hx=>Or.inl ?_⟩
 subst hx
 obtain ⟨bb,ob,e1,e2,e3⟩:=h.place (by omega)
 simp only [oI] at e1
 subst e1
 rw [←hB]
 exact block_lt_of_cell (e3 0 (by omega))
end Go.Proofs.YtimdcaofgapnlaaGreat
