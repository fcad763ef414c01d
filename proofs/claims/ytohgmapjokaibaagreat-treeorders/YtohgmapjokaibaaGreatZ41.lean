import Derived.Test.YtohgmapjokaibaaGreatZ40
set_option maxRecDepth 100000
set_option maxHeartbeats 16000000
set_option linter.unusedVariables false
namespace Go.Proofs.YtohgmapjokaibaaGreat
open Go.RowKit
structure TM [Gd] (B p q g:Nat) (s:DS) (t:PS) (now last:StT) (sv:Value) (left:Int) (w:World):Prop where
 st:ST B p q s t w
 bw:B≤w.heap.size
 bg:B≤g
 tv:∃ cs,w.heap[g]?=some (.cells cs 60 (0,0))∧TV cs p q now last sv left false
 lf:s.life=t.life
 dn:s.down=false
 af:s.after<1
 l1:s.life<100000
 sn:t.st.length=s.n
 hd:t.st.getD 0 0=0∧t.st.getD 1 0=0
theorem TM.later [Gd] {B p q g:Nat} {s:DS} {t:PS} {now last:StT} {sv:Value} {left:Int} {w w':World} (h:TM B p q g s t now last sv left w) (hb:Below w.heap.size w w'):TM B p q g s t now last sv left w':=by
 obtain ⟨cs,h1,h2⟩:=h.tv
 exact ⟨h.st.later hb,nT h.bw hb.size,h.bg,⟨cs,(hb.block g (lO h1)).trans h1,h2⟩,h.lf,h.dn,h.af,h.l1,h.sn,h.hd⟩
theorem TM.sl [Gd] {B p q g:Nat} {s:DS} {t:PS} {now last:StT} {sv:Value} {left:Int} {w:World} (h:TM B p q g s t now last sv left w):t.st.length≤4096:=by
 obtain ⟨_,gs,h2⟩:=h.st
 exact h2.ok.sl
theorem Gw.heads {s s':DS} {t t':PS} {L:List Nat} (g:Gw s t s' t' L) (h:t.st.getD 0 0=0∧t.st.getD 1 0=0):t'.st.getD 0 0=0∧t'.st.getD 1 0=0 :=
 ⟨(g.old 0 fun q=>by have:=(g.new 0 q).1;omega).trans h.1,(g.old 1 fun q=>by have:=(g.new 1 q).1;omega).trans h.2⟩
theorem aG0:∀ {h:Nat} (b:BT h),BT.id b∈pgB h b
 | 0,_=>List.mem_singleton.2 rfl
 | _+1,_=>List.mem_cons_self
theorem ChR.tm [Gd] {B p q g:Nat} {s:DS} {t:PS} {w w':World} {now last:StT} {sv:Value} {left d n:Int} {gone:List Nat} {h:Nat} {e:ED h} (hM:TM B p q g s t now last sv left w) (hc:ChR B p q g s t w now last sv d n gone h e w') :
  ∃ (b:BT h) (s':DS) (t':PS) (L:List Nat),LdR h e b L∧Gw s t s' t' L∧OnD s' t' h b∧TM B p q g s' t' ⟨(BT.id b:Nat),d,n,L.foldl adP (gone.foldl drP now.pgs)⟩ last sv (cntF t'.st:Nat) w'∧ChF B g w w':=by
 obtain ⟨b,s',t',L,cs',k1,k2,k3,k4,k5,k6,k7⟩:=hc
 exact ⟨b,s',t',L,k1,k2,k4,⟨k3,nT hM.bw k7.1.size,hM.bg,⟨cs',k5,k6⟩,by rw [k2.life,k2.tlife];exact hM.lf,by rw [k2.down];exact hM.dn,by rw [k2.after];exact hM.af,by rw [k2.life];exact hM.l1,by rw [k2.len,k2.n];exact hM.sn,k2.heads hM.hd⟩,k7⟩
def PutT [Gd] (B p q g:Nat) (s:DS) (t:PS) (now last:StT) (sv:Value) (l:List It) (it:It) (w w':World):Prop :=
 ∃ (s':DS) (t':PS) (now':StT) (L:List Nat),Gw s t s' t' L∧TM B p q g s' t' now' last sv (cntF t'.st:Nat) w'∧Tr s' t' now' (putL l it)∧(L.length:Int)≤2*now.depth+1∧ChF B g w w'
theorem put_change [Gd] {B p q g kb vb:Nat} {s:DS} {t:PS} {w:World} {now last:StT} {sv:Value} {left:Int} {l:List It} (hg0:True) (hM:TM B p q g s t now last sv left w) (hTr:Tr s t now l) (hl:l.length<100000) (it:It) (hit:ItOk it) {ka va:Option Addr} {kn kc vn vc:Nat} (hkn:it.1.length=kn) (hvn:it.2.length=vn) (hk:BK B w ka kn kc it.1) (hv:BK B w va vn vc it.2) (hroom:2*now.depth+1≤((cntF t.st:Nat):Int)) (hdep:now.depth≤400) (hm:s.m+1000≤100000)
  (hkb:w.heap[kb]?=some (.cells #[.slice ka kn kc] 28 (0,0))) (hvb:w.heap[vb]?=some (.cells #[.slice va vn vc] 28 (0,0))) :
  Calls Tryz.prog 16 #[.pointer (some ⟨g,0,none⟩),.func (Fn.func 17) #[] #[.pointer (some ⟨kb,0,none⟩),.pointer (some ⟨vb,0,none⟩)]] w fun e w'=>e=.returned (.int .i64 0)∧PutT B p q g s t now last sv l it w w':=by
 obtain ⟨cs,hg,hT⟩:=hM.tv
 have hcf:∀ (v:Value) (ww:World),(callFunc 17 (#[v]++#[.pointer (some ⟨kb,0,none⟩),.pointer (some ⟨vb,0,none⟩)])).run Tryz.prog ww=.ok (.enter 17 (#[v]++#[.pointer (some ⟨kb,0,none⟩),.pointer (some ⟨vb,0,none⟩)])) ww:=fun v ww=>by rfl
 have hcell:∀ w1,Below w.heap.size w w1→w1.cell? ⟨kb,0,none⟩=some (.slice ka kn kc)∧w1.cell? ⟨vb,0,none⟩=some (.slice va vn vc):=fun w1 hb=>⟨(hb.cell (p:=⟨kb,0,none⟩) (lO hkb)).trans (aAa hkb),(hb.cell (p:=⟨vb,0,none⟩) (lO hvb)).trans (aAa hvb)⟩
 rcases hTr with ⟨r1,r2,r3,rfl,r5⟩ | ⟨h,b,e1,e2,e3,e4,e5,e6,e7,e8,e9⟩
 ·have hr:rootE 0 (Sum.inr [it]:ED 0)=⟨0,Sum.inr [it]⟩:=if_neg (show ¬ 4<1 by decide)
  have hits:ItsOk [it]:=⟨nR _,show 1≤4 by decide,fun x hx=>by rw [List.mem_singleton] at hx;rw [hx];exact hit,List.pairwise_singleton _ _⟩
  have hfr:frE 0 (Sum.inr [it]:ED 0)=1:=rfl
  have hC:=aGb (B:=B) (h:=0) (e:=(Sum.inr [it]:ED 0)) (d:=1) (n:=1) (gone:=[]) (hf:=17) (cap:=#[.pointer (some ⟨kb,0,none⟩),.pointer (some ⟨vb,0,none⟩)]) hg0 hM.st hM.bw hM.bg hg hT hcf (fun w1 px k1 k2 k3 k4 k5=>by
   have c:=hcell w1 k2
   rw [r1,r2,r3] at k3
   have hP:=put_none (w:=w1) (n:=0) k3 k5 (Int.le_refl _) (by decide) it hkn hvn (hk.later k2 hM.bw) (hv.later k2 hM.bw)
   refine (put1_any c.1 c.2 hP).mono ?_
   rintro e9 w9 ⟨rfl,rv,S,m1,m2,m3,m4⟩
   rw [hr] at m2
   exact ⟨rfl,rv,S,m1,m2,m3,m4⟩) hM.lf hM.dn hM.af hM.l1 (by rw [hfr];omega) hM.sn (by rw [hfr];decide) (by rw [hfr];omega) hits (fun x hx=>by simp at hx) (by simp)
  refine hC.mono ?_
  rintro e9 w9 ⟨rfl,hc⟩
  obtain ⟨b,s',t',L,k1,k2,k3,k4,k5⟩:=hc.tm hM
  have hlen:=k1.len
  refine ⟨rfl,s',t',_,L,k2,k4,Or.inr ⟨0,b,rfl,rfl,rfl,?_,List.pairwise_singleton _ _,k3,?_,?_,?_⟩,?_,k5⟩
  ·exact k1.fl
  ·exact k1.sh (show (1:Nat)≤4 by decide)
  ·rw [k1.it];exact nR 1
  ·refine r5.step (gone:=[]) (old:=[]) (List.Perm.refl _) ?_ k2.nd (gw_lt k2 hM.sl) fun x _=>List.not_mem_nil
   exact k1.pg
  ·rw [hlen,hfr];omega
 ·have ho:=on_put it hit e4 e5 e6 e7
  have hfr:=fr_put2 (b:=b) it
  have hpl:=pth_len b it.1
  have hh:h≤399:=by omega
  have hC:=aGb (B:=B) (h:=(rootE h (putE h (old b) it)).1) (e:=(rootE h (putE h (old b) it)).2) (d:=(if 4<(itE (putE h (old b) it)).length then ((h+1:Nat):Int)+1 else ((h+1:Nat):Int))) (n:=cntN ((l.length:Nat):Int) (nwB h b it.1)) (gone:=pthB h b it.1) (hf:=17) (cap:=#[.pointer (some ⟨kb,0,none⟩),.pointer (some ⟨vb,0,none⟩)]) hg0 hM.st hM.bw hM.bg hg hT hcf (fun w1 px k1 k2 k3 k4 k5=>by
   have c:=hcell w1 k2
   rw [e1,e2,e3] at k3
   have hP:=put_some (w:=w1) (gone:=[]) hg0 hM.lf hM.dn b k3 rfl k4 k5 (by simp;omega) (by omega) (by omega) e6 e7 it hkn hvn (hk.later k2 hM.bw) (hv.later k2 hM.bw)
   refine (put1_any c.1 c.2 hP).mono ?_
   rintro e9 w9 ⟨rfl,rv,S,m1,m2,m3,m4⟩
   exact ⟨rfl,rv,S,m1,m2,m3,m4⟩) hM.lf hM.dn hM.af hM.l1 (by omega) hM.sn (by omega) (by omega) ho.2.2.2 (fun x hx=>Nat.lt_of_lt_of_le (e6.pth it.1 x hx) (by rw [←hM.sn];exact hM.sl)) (by omega)
  refine hC.mono ?_
  rintro e9 w9 ⟨rfl,hc⟩
  obtain ⟨b',s',t',L,k1,k2,k3,k4,k5⟩:=hc.tm hM
  have hlen:=k1.len
  exact ⟨rfl,s',t',_,L,k2,k4,Tr.put hit e4 e5 e6 e7 e9 hM.sl k1 k2 k3,by omega,k5⟩
theorem Put_ok [Gd] {B p q g:Nat} {s:DS} {t:PS} {w:World} {now last:StT} {sv:Value} {left:Int} {l:List It} (hg0:True) (hM:TM B p q g s t now last sv left w) (hTr:Tr s t now l) (hl:l.length<100000) (it:It) (hit:ItOk it) {ka va:Option Addr} {kn kc vn vc:Nat} (hkn:it.1.length=kn) (hvn:it.2.length=vn) (hk:BK B w ka kn kc it.1) (hv:BK B w va vn vc it.2) (hroom:2*now.depth+1≤((cntF t.st:Nat):Int)) (hdep:now.depth≤400) (hm:s.m+1000≤100000) :
  Calls Tryz.prog 5 #[.pointer (some ⟨g,0,none⟩),.slice ka kn kc,.slice va vn vc] w fun e w'=>e=.returned (.int .i64 0)∧PutT B p q g s t now last sv l it w w':=by
 have hmf:∀ (fn:Fn) (first cap:Array Value) (w:World),(Instr.makeFunc fn first cap).run Tryz.prog w=.ok (.func fn first cap) w:=fun _ _ _ _=>rfl
 have hk0:¬ (kn:Int)=0:=by
  intro q9
  have:it.1.length=0:=by omega
  exact hit.k0 (List.eq_nil_of_length_eq_zero this)
 have hk6:=hit.k1
 have hv1:=hit.v1
 rw [hkn] at hk6
 rw [hvn] at hv1
 have xv:¬ (1800:Int)<(vn:Int):=by omega
 have b1:=aAb w (.cells #[.slice ka kn kc] 28)
 have b2:=aAb (w.alloc (.cells #[.slice ka kn kc] 28)) (.cells #[.slice va vn vc] 28)
 have x1:(w.alloc (.cells #[.slice ka kn kc] 28)).heap[w.heap.size]?=some (.cells #[.slice ka kn kc] 28 (0,0)):=heap_alloc_new w _
 have x2:=heap_alloc_new (w.alloc (.cells #[.slice ka kn kc] 28)) (.cells #[.slice va vn vc] 28)
 have e1:(w.alloc (.cells #[.slice ka kn kc] 28)).heap.size=w.heap.size+1:=Array.size_push _
 have b12:=b1.trans (b2.mono b1.size)
 have x1':=(b2.block w.heap.size (by omega)).trans x1
 rw [e1] at x2
 have HM:=hide hM
 have HTR:=hide hTr
 have HK:=hide hk
 have HV:=hide hv
 have HBB:=hide b12
 have HX1:=hide x1'
 have HX2:=hide x2
 have HRF:=hide (fun (ww:World) (hb:Below w.heap.size w ww)=>by
  obtain ⟨cs,hg,hT⟩:=(hM.later hb).tv
  have hr:=aCs (hM.later hb).st hM.lf hg hT ka kn kc
  rw [if_neg (by omega),if_neg (by omega)] at hr
  exact hr)
 have HPC:=hide (fun (ww:World) (hb:Below w.heap.size w ww) (y1:ww.heap[w.heap.size]?=some (.cells #[.slice ka kn kc] 28 (0,0))) (y2:ww.heap[w.heap.size+1]?=some (.cells #[.slice va vn vc] 28 (0,0)))=>put_change hg0 (hM.later hb) hTr hl it hit hkn hvn (hk.later hb hM.bw) (hv.later hb hM.bw) hroom hdep hm y1 y2)
 have c1:((w.alloc (.cells #[.slice ka kn kc] 28)).alloc (.cells #[.slice va vn vc] 28)).cell? ⟨w.heap.size,0,none⟩=some (.slice ka kn kc):=aAa x1'
 clear hM hTr hk hv hl hit hroom hdep hm b1 b2 x1 x2 b12 x1' hk6 hv1 hkn hvn
 go_enter Tryz.func5,Tryz.ntmps5
 go_wp2_with fail
 refine (HRF.out _ HBB.out).mono ?_
 rintro e9 w1 ⟨rfl,hb1⟩
 have HB1:=hide (HBB.out.trans (hb1.mono HBB.out.size))
 have y1:=(hb1.block _ (lO HX1.out)).trans HX1.out
 have y2:=(hb1.block _ (lO HX2.out)).trans HX2.out
 have HCH:=hide (HPC.out w1 HB1.out y1 y2)
 have c2:w1.cell? ⟨w.heap.size+1,0,none⟩=some (.slice va vn vc):=aAa y2
 clear hb1 y1 y2 c1
 go_wp2_with fail
 refine HCH.out.mono ?_
 rintro e9 w2 ⟨rfl,hp⟩
 have HP:=hide hp
 clear hp
 go_wp2
 go_ret
 refine ⟨rfl,?_⟩
 obtain ⟨s',t',now',L,k1,k2,k3,k4,k5⟩:=HP.out
 refine ⟨s',t',now',L,k1,k2,k3,k4,(HB1.out.mono HM.out.bw).trans k5.1,fun k cs0 t0 fz m1 m2 m3=>?_,(GdK.of HB1.out).trans k5.gd⟩
 exact k5.2 k cs0 t0 fz ((HB1.out.block k (lO m1)).trans m1) m2 m3
theorem Ex.ftE {B g:Nat} {w w':World} {cs:Array Value} (f:Ex B [g] w w') (hg:w.heap[g]?=some (.cells cs 29 (0,0))):FT B w w':=⟨f.1,fun k cs' fz e=>f.keepX hg e (by decide)⟩
theorem PRW.exE {B B1 b0:Nat} {w w':World} {v:Value} {F:List It} {cs:Array Value} (h:PRW B B1 w v F) (f:Ex B [b0] w w') (hg:w.heap[b0]?=some (.cells cs 29 (0,0))):PRW B B1 w' v F :=
 h.stay (f.ftE hg) fun k cs' _ e=>f.keepX hg e (by decide)
theorem SpV.exE {B B1 r b0:Nat} {w w':World} {lv hv:Value} {lo hi:List Nat} {most:Nat} {F:List It} {cs:Array Value} (h:SpV B B1 w r lv hv lo hi most F) (f:Ex B [b0] w w') (hg:w.heap[b0]?=some (.cells cs 29 (0,0))):SpV B B1 w' r lv hv lo hi most F:=by
 obtain ⟨fv,h1,h2⟩:=h.hx
 exact ⟨h.hr,h.klo.ft (f.ftE hg),h.khi.ft (f.ftE hg),fv,f.keepX hg h1 (by decide),h2.exE f hg⟩
theorem aIc {a b c:List Nat} (h1:0≤cmpB a b) (h2:0≤cmpB b c):0≤cmpB a c:=by
 apply Classical.byContradiction
 intro q9
 have h3:cmpB a c<0:=by omega
 by_cases h4:cmpB b c=0
 ·have:=aDj h4
  subst this
  omega
 ·have h5:cmpB c b<0:=by rw [aBa];omega
  have:=aBb h3 h5
  omega
theorem scan_none {hi lo:List Nat} {most:Nat} (l:List It) (h:endB hi lo=true):(scan hi most [] (frm l lo)).1=[]:=by
 cases hf:frm l lo with
 | nil=>rfl
 | cons x r =>
  have hx:x∈frm l lo:=by rw [hf];exact List.mem_cons_self
  have hx2:0≤cmpB x.1 lo:=by
   have:=(List.mem_filter.1 hx).2
   simpa using this
  simp only [endB,Bool.and_eq_true,decide_eq_true_eq] at h
  have he:endB hi x.1=true:=by
   simp only [endB,Bool.and_eq_true,decide_eq_true_eq]
   exact ⟨h.1,aIc hx2 h.2⟩
  simp [scan,he]
def rngL (l:List It) (lo hi:List Nat) (most:Nat):List It:=(scan hi most [] (frm l lo)).1
theorem pairsC_ok [Gd] {B p q g r n0 gs so h:Nat} {s:DS} {t:PS} {w0 w:World} {now last:StT} {sv:Value} {left:Int} {lv hv:Value} {lo hi:List Nat} {most:Nat} (hM:TM B p q g s t now last sv left w0) (hb:Below w0.heap.size w0 w) (b:BT h) (hon:OnD s t h b) (hsr:Srt (flB h b)) (hh:h<100000) (hsp:SpV B w0.heap.size w r lv hv lo hi most []) (hm0:0<most) (hmo:most<100000) (hgs:LkB w0 gs) (hr0:w0.cell? ⟨gs,so,none⟩=some (.int .i64 (BT.id b:Int))) (hd0:w0.cell? ⟨gs,so+1,none⟩=some (.int .i64 ((h:Int)+1)))
  (x0:w.heap[n0]?=some (.cells #[.pointer (some ⟨g,0,none⟩)] 25 (0,0))) (x1:w.heap[n0+1]?=some (.cells #[.pointer (some ⟨gs,so,none⟩)] 64 (0,0))) (x2:w.heap[n0+2]?=some (.cells #[.pointer (some ⟨r,0,none⟩)] 65 (0,0))) :
  Calls Tryz.prog 36 #[.func (Fn.func 54) #[] #[.pointer (some ⟨n0+2,0,none⟩),.pointer (some ⟨n0,0,none⟩),.pointer (some ⟨n0+1,0,none⟩)]] w fun e w'=>e=.returned (.int .i64 0)∧SpV B w0.heap.size w' r lv hv lo hi most (scan hi most [] (frm (flB h b) lo)).1∧LkF w0.heap.size w w':=by
 have b3:=aAb w (.cells #[.int .i64 0] 29)
 have x3:(w.alloc (.cells #[.int .i64 0] 29)).heap[w.heap.size]?=some (.cells #[.int .i64 0] 29 (0,0)):=heap_alloc_new w _
 have hbx:w0.heap.size≤w.heap.size:=hb.size
 have hBw:B≤w.heap.size:=nT hM.bw hbx
 have b4:=hb.trans (b3.mono hbx)
 generalize hw1:(w.alloc (.cells #[.int .i64 0] 29))=w1 at *
 obtain ⟨cs,hg,hT⟩:=hM.tv
 have lt:∀ {k:Nat} {o:Obj} {ww:World},ww.heap[k]?=some o→k<ww.heap.size:=fun e=>(lO e)
 have y0:=(b3.block _ (lt x0)).trans x0
 have y1:=(b3.block _ (lt x1)).trans x1
 have y2:=(b3.block _ (lt x2)).trans x2
 have yg:=(b4.block _ (lt hg)).trans hg
 obtain ⟨cs2,t2,fz2,hgs1,hgs2,hgs3⟩:=hgs
 have ygs:=(b4.block _ (lt hgs1)).trans hgs1
 have hC:=pairs1_ok (w:=w1) (w0:=w0) hM.st hM.bw hM.lf hM.dn b4 b hon hsr hh (hsp.later b3 hBw) hm0 hmo (aAa y2) (aAa y0) ((aAa yg).trans hT.c1) (aAa y1) ((b4.cell (p:=⟨gs,so,none⟩) (lt hgs1)).trans hr0) ((b4.cell (p:=⟨gs,so+1,none⟩) (lt hgs1)).trans hd0) ⟨_,_,_,y2,by decide,by decide⟩ ⟨_,_,_,y0,by decide,by decide⟩ ⟨_,_,_,yg,by decide,by decide⟩ ⟨_,_,_,y1,by decide,by decide⟩ ⟨_,_,_,ygs,hgs2,hgs3⟩
 subst hw1
 refine (aB6 (w:=w) (P:=fun r' ww=>r'=0∧SpV B w0.heap.size ww r lv hv lo hi most (scan hi most [] (frm (flB h b) lo)).1∧LkF w0.heap.size (w.alloc (.cells #[.int .i64 0] 29)) ww) (fun ww=>by rfl) (hC.mono ?_)).mono ?_
 ·rintro e9 w9 ⟨rfl,h1,h2⟩
  exact ⟨0,rfl,⟨rfl,h1,h2⟩,h2.2 _ _ _ _ x3 (by decide) (by decide)⟩
 ·rintro e9 w9 ⟨r',w8,rfl,⟨rfl,h1,h2⟩,rfl⟩
  have x9:=h2.2 _ _ _ _ x3 (by decide) (by decide)
  have hex:Ex B [w.heap.size] w8 (w8.setCell ⟨w.heap.size,0,none⟩ (.int .i64 0)):=Ex.set hBw
  refine ⟨rfl,h1.exE hex x9,?_,fun k cs0 t0 fz m1 m2 m3=>?_⟩
  ·exact (b3.mono hbx).trans (h2.1.trans ((Below.refl _ w8).setCell (p:=⟨w.heap.size,0,none⟩) hbx _))
  ·have m4:=h2.2 k cs0 t0 fz ((b3.block k (lt m1)).trans m1) m2 m3
   have hkl:=lt m1
   rw [hex.2 k (lt m4) (by simp;omega),m4]
theorem pairs_any [Gd] {B p q g r gs so:Nat} {s:DS} {t:PS} {w0 w:World} {now last st:StT} {sv:Value} {left:Int} {lv hv:Value} {lo hi:List Nat} {most:Nat} {l:List It} (hM:TM B p q g s t now last sv left w0) (hb:Below w0.heap.size w0 w) (hTr:Tr s t st l) (hdp:st.depth<100000) (hlo:lo.length≤64) (hhi:hi.length≤64) (hsp:SpV B w0.heap.size w r lv hv lo hi most []) (hm0:0<most) (hmo:most<100000) (hgs:LkB w0 gs) (hr0:w0.cell? ⟨gs,so,none⟩=some (.int .i64 st.root)) (hd0:w0.cell? ⟨gs,so+1,none⟩=some (.int .i64 st.depth)) :
  Calls Tryz.prog 25 #[.pointer (some ⟨g,0,none⟩),.pointer (some ⟨gs,so,none⟩),.pointer (some ⟨r,0,none⟩)] w fun e w'=>∃ fv,e=.returned (.tuple #[fv,.int .i64 0])∧PRW B w0.heap.size w' fv (rngL l lo hi most)∧LkF w0.heap.size w w':=by
 have hmf:∀ (fn:Fn) (first cap:Array Value) (w:World),(Instr.makeFunc fn first cap).run Tryz.prog w=.ok (.func fn first cap) w:=fun _ _ _ _=>rfl
 have hbs:=hb.size
 have hBw:B≤w.heap.size:=nT hM.bw hbs
 have lt:∀ {k:Nat} {o:Obj} {ww:World},ww.heap[k]?=some o→k<ww.heap.size:=fun e=>(lO e)
 have HB1:Hid (Below w.heap.size w (((w.alloc (.cells #[.pointer (some ⟨g,0,none⟩)] 25)).alloc (.cells #[.pointer (some ⟨gs,so,none⟩)] 64)).alloc (.cells #[.pointer (some ⟨r,0,none⟩)] 65))):=by
  have a1:=aAb w (.cells #[.pointer (some ⟨g,0,none⟩)] 25)
  have a2:=aAb (w.alloc (.cells #[.pointer (some ⟨g,0,none⟩)] 25)) (.cells #[.pointer (some ⟨gs,so,none⟩)] 64)
  have a3:=aAb ((w.alloc (.cells #[.pointer (some ⟨g,0,none⟩)] 25)).alloc (.cells #[.pointer (some ⟨gs,so,none⟩)] 64)) (.cells #[.pointer (some ⟨r,0,none⟩)] 65)
  exact (a1.trans (a2.mono a1.size)).trans (a3.mono (nT a1.size a2.size))
 have e1:(w.alloc (.cells #[.pointer (some ⟨g,0,none⟩)] 25)).heap.size=w.heap.size+1:=Array.size_push _
 have e2:((w.alloc (.cells #[.pointer (some ⟨g,0,none⟩)] 25)).alloc (.cells #[.pointer (some ⟨gs,so,none⟩)] 64)).heap.size=w.heap.size+2:=(Array.size_push _).trans (by rw [e1])
 have HX:Hid ((((w.alloc (.cells #[.pointer (some ⟨g,0,none⟩)] 25)).alloc (.cells #[.pointer (some ⟨gs,so,none⟩)] 64)).alloc (.cells #[.pointer (some ⟨r,0,none⟩)] 65)).heap[w.heap.size]?=some (.cells #[.pointer (some ⟨g,0,none⟩)] 25 (0,0))∧(((w.alloc (.cells #[.pointer (some ⟨g,0,none⟩)] 25)).alloc (.cells #[.pointer (some ⟨gs,so,none⟩)] 64)).alloc (.cells #[.pointer (some ⟨r,0,none⟩)] 65)).heap[w.heap.size+1]?=some (.cells #[.pointer (some ⟨gs,so,none⟩)] 64 (0,0))∧(((w.alloc (.cells #[.pointer (some ⟨g,0,none⟩)] 25)).alloc (.cells #[.pointer (some ⟨gs,so,none⟩)] 64)).alloc (.cells #[.pointer (some ⟨r,0,none⟩)] 65)).heap[w.heap.size+2]?=some (.cells #[.pointer (some ⟨r,0,none⟩)] 65 (0,0))):=by
  have a2:=aAb (w.alloc (.cells #[.pointer (some ⟨g,0,none⟩)] 25)) (.cells #[.pointer (some ⟨gs,so,none⟩)] 64)
  have a3:=aAb ((w.alloc (.cells #[.pointer (some ⟨g,0,none⟩)] 25)).alloc (.cells #[.pointer (some ⟨gs,so,none⟩)] 64)) (.cells #[.pointer (some ⟨r,0,none⟩)] 65)
  have x0:(w.alloc (.cells #[.pointer (some ⟨g,0,none⟩)] 25)).heap[w.heap.size]?=_:=heap_alloc_new w _
  have x1:((w.alloc (.cells #[.pointer (some ⟨g,0,none⟩)] 25)).alloc (.cells #[.pointer (some ⟨gs,so,none⟩)] 64)).heap[(w.alloc (.cells #[.pointer (some ⟨g,0,none⟩)] 25)).heap.size]?=_:=heap_alloc_new _ _
  have x2:(((w.alloc (.cells #[.pointer (some ⟨g,0,none⟩)] 25)).alloc (.cells #[.pointer (some ⟨gs,so,none⟩)] 64)).alloc (.cells #[.pointer (some ⟨r,0,none⟩)] 65)).heap[((w.alloc (.cells #[.pointer (some ⟨g,0,none⟩)] 25)).alloc (.cells #[.pointer (some ⟨gs,so,none⟩)] 64)).heap.size]?=_:=heap_alloc_new _ _
  rw [e1] at x1
  rw [e2] at x2
  refine ⟨?_,?_,x2⟩
  ·rw [a3.block _ (by omega),a2.block _ (by omega),x0]
  ·rw [a3.block _ (by omega),x1]
 have HM:=hide hM
 have HTR:=hide hTr
 have HB0:=hide hb
 have HSP:=hide hsp
 have HGS:=hide hgs
 have HR0:=hide hr0
 have HD0:=hide hd0
 have HDP:=hide hdp
 obtain ⟨la,lc,hlv,hlb⟩:=hsp.klo
 obtain ⟨ha,hc,hhv,hhb⟩:=hsp.khi
 subst hlv hhv
 have HLB:=hide hlb
 have c0:(((w.alloc (.cells #[.pointer (some ⟨g,0,none⟩)] 25)).alloc (.cells #[.pointer (some ⟨gs,so,none⟩)] 64)).alloc (.cells #[.pointer (some ⟨r,0,none⟩)] 65)).cell? ⟨w.heap.size,0,none⟩=some (.pointer (some ⟨g,0,none⟩)):=aAa HX.out.1
 clear hM hTr hb hsp hgs hr0 hd0 hdp hlb hhb e1 e2
 have xl:¬ (64:Int)<(lo.length:Int):=by omega
 have xh:¬ (64:Int)<(hi.length:Int):=by omega
 have dl:decide ((64:Int)<(lo.length:Int))=false:=by simp;omega
 have xm:¬ (most:Int)<0:=by omega
 have xm2:¬ (most:Int)=0:=by omega
 have dm2:((most:Int) == 0)=false:=by simp;omega
 generalize hln:lo.length=ln at *
 generalize hhn:hi.length=hn at *
 generalize hn0:w.heap.size=n0 at *
 generalize hW1:(((w.alloc (.cells #[.pointer (some ⟨g,0,none⟩)] 25)).alloc (.cells #[.pointer (some ⟨gs,so,none⟩)] 64)).alloc (.cells #[.pointer (some ⟨r,0,none⟩)] 65))=w1 at *
 have HDD:Hid (Calls Tryz.prog 19 #[.pointer (some ⟨g,0,none⟩)] w1 fun e w'=>e=.returned (.bool false)∧Below w1.heap.size w1 w'):=by
  have h1:=(HM.out.later (HB0.out.trans (HB1.out.mono hbs)))
  obtain ⟨cs,hg,hT⟩:=h1.tv
  exact aDa h1.st HM.out.lf hg hT
 go_enter Tryz.func25,Tryz.ntmps25
 go_upto_region 1 with fail
 go_wp2_with fail
 refine HDD.out.mono ?_
 rintro e w2 ⟨rfl,hb2⟩
 have HB2:Hid (Below n0 w w2):=HB1.out.trans (hb2.mono (by have:=HB1.out.size;omega))
 have HY:Hid (w2.heap[n0]?=some (.cells #[.pointer (some ⟨g,0,none⟩)] 25 (0,0))∧w2.heap[n0+1]?=some (.cells #[.pointer (some ⟨gs,so,none⟩)] 64 (0,0))∧w2.heap[n0+2]?=some (.cells #[.pointer (some ⟨r,0,none⟩)] 65 (0,0))):=⟨(hb2.block _ (lt HX.out.1)).trans HX.out.1,(hb2.block _ (lt HX.out.2.1)).trans HX.out.2.1,(hb2.block _ (lt HX.out.2.2)).trans HX.out.2.2⟩
 have HSP2:Hid (SpV B w0.heap.size w2 r (.slice la ln lc) (.slice ha hn hc) lo hi most []):=HSP.out.later (by rw [hn0];exact HB2.out) (by rw [hn0];exact hBw)
 have HB02:Hid (Below w0.heap.size w0 w2):=HB0.out.trans (HB2.out.mono hbs)
 have HR2:Hid (w2.cell? ⟨gs,so,none⟩=some (.int .i64 st.root)):=by
  obtain ⟨cs2,t2,fz2,k1,k2,k3⟩:=HGS.out
  exact (HB02.out.cell (p:=⟨gs,so,none⟩) (lt k1)).trans HR0.out
 have b0:w2.cell? ⟨n0,0,none⟩=some (.pointer (some ⟨g,0,none⟩)):=aAa HY.out.1
 have b1:w2.cell? ⟨n0+1,0,none⟩=some (.pointer (some ⟨gs,so,none⟩)):=aAa HY.out.2.1
 have b2:w2.cell? ⟨n0+2,0,none⟩=some (.pointer (some ⟨r,0,none⟩)):=aAa HY.out.2.2
 have s0:w2.cell? ⟨r,0,none⟩=some (.slice la ln lc):=HSP2.out.cellsx.1
 have s1:w2.cell? ⟨r,1,none⟩=some (.slice ha hn hc):=HSP2.out.cellsx.2.1
 have s2:w2.cell? ⟨r,2,none⟩=some (.int .i64 (most:Int)):=HSP2.out.cellsx.2.2
 have HLB2:Hid (BK B w2 la ln lc lo):=HLB.out.later (by rw [hn0];exact HB2.out) (by rw [hn0];exact hBw)
 have HBW2:Hid (B≤w2.heap.size):=by
  have h1:=HB2.out.size
  show B≤w2.heap.size
  omega
 clear hb2 c0 HDD HX HB1
 go_upto_region 7 with fail
 generalize hrt:st.root=root at *
 have HX0:Hid ((fun wx=>wx.cell? ⟨n0+2,0,none⟩=some (.pointer (some ⟨r,0,none⟩))∧wx.cell? ⟨r,2,none⟩=some (.int .i64 (most:Int))∧wx.cell? ⟨r,0,none⟩=some (.slice la ln lc)∧wx.cell? ⟨n0+1,0,none⟩=some (.pointer (some ⟨gs,so,none⟩))∧wx.cell? ⟨gs,so,none⟩=some (.int .i64 root)) w2.drew):=⟨b2,s2,s0,b1,HR2.out⟩
 have HEN:=hide (ends_any (HSP2.out.later (Below.refl _ _).drew HBW2.out) (HLB2.out.later (Below.refl _ _).drew HBW2.out).1)
 clear b1 b2 s0 s1 s2
 have HBd:=hide ((Below.refl w2.heap.size w2).drew)
 rcases HTR.out with ⟨r1,r2,r3,r4,r5⟩ | ⟨h,b,q1,q2,q3,q4,q5,q6,q7,q8,q9⟩
 ·obtain rfl:root=0:=by rw [←hrt];exact r1
  subst r4
  have HRG:Hid (rngL [] lo hi most=[]):=rfl
  refine wp_region_noPanic ?_
  refine wp_region_held_drew (S:=fun wx=>wx.cell? ⟨n0+2,0,none⟩=some (.pointer (some ⟨r,0,none⟩))∧wx.cell? ⟨r,2,none⟩=some (.int .i64 (most:Int))∧wx.cell? ⟨r,0,none⟩=some (.slice la ln lc)∧wx.cell? ⟨n0+1,0,none⟩=some (.pointer (some ⟨gs,so,none⟩))∧wx.cell? ⟨gs,so,none⟩=some (.int .i64 0)) (by kernel_rfl) HX0.out (fun hHeld=>?_)
  refine wpAnyH_tk 0 34 ?_
  refine wpAnyH_tk 1 35 ?_
  refine wpAnyH_tk 2 36 ?_
  refine wpAnyH_tk 3 37 ?_
  refine wpAnyH_tk 4 38 ?_
  refine wpAnyH_tk 5 39 ?_
  refine wpAnyH_tk 6 40 ?_
  refine wpAnyH_tk 7 41 ?_
  refine wpAnyH_tk 8 42 ?_
  refine wpAnyH_tk 9 43 ?_
  refine wpAnyH_tk 10 44 ?_
  refine wpAnyH_tk 11 45 ?_
  refine wpAnyH_tk 12 46 ?_
  refine aAd (i:=13) (d:=47) (v:=undef) (by kernel_rfl) (by kernel_rfl) (by kernel_rfl) (by kernel_rfl) (fun _ _ _ h=>h) ?hyn13 (by assumption) ?restn13
  case hyn13 =>
   intro oi ho
   simp only [List.getElem?_toArray,List.getElem?_cons_succ,List.getElem?_cons_zero,oI] at ho
   subst ho
   exact Or.inr ⟨by rfl,rfl⟩
  try simp only [Act.put,siT,scZ,scS]
  refine aAd (i:=14) (d:=48) (v:=undef) (by kernel_rfl) (by kernel_rfl) (by kernel_rfl) (by kernel_rfl) (fun _ _ _ h=>h) ?hyn14 (by assumption) ?restn14
  case hyn14 =>
   intro oi ho
   simp only [List.getElem?_toArray,List.getElem?_cons_succ,List.getElem?_cons_zero,oI] at ho
   subst ho
   exact Or.inr ⟨by rfl,rfl⟩
  try simp only [Act.put,siT,scZ,scS]
  refine aAd (i:=15) (d:=49) (v:=undef) (by kernel_rfl) (by kernel_rfl) (by kernel_rfl) (by kernel_rfl) (fun _ _ _ h=>h) ?hyn15 (by assumption) ?restn15
  case hyn15 =>
   intro oi ho
   simp only [List.getElem?_toArray,List.getElem?_cons_succ,List.getElem?_cons_zero,oI] at ho
   subst ho
   exact Or.inr ⟨by rfl,rfl⟩
  try simp only [Act.put,siT,scZ,scS]
  refine aAd (i:=16) (d:=50) (v:=undef) (by kernel_rfl) (by kernel_rfl) (by kernel_rfl) (by kernel_rfl) (fun _ _ _ h=>h) ?hyn16 (by assumption) ?restn16
  case hyn16 =>
   intro oi ho
   simp only [List.getElem?_toArray,List.getElem?_cons_succ,List.getElem?_cons_zero,oI] at ho
   subst ho
   exact Or.inr ⟨by rfl,rfl⟩
  try simp only [Act.put,siT,scZ,scS]
  refine aAd (i:=17) (d:=51) (v:=undef) (by kernel_rfl) (by kernel_rfl) (by kernel_rfl) (by kernel_rfl) (fun _ _ _ h=>h) ?hyn17 (by assumption) ?restn17
  case hyn17 =>
   intro oi ho
   simp only [List.getElem?_toArray,List.getElem?_cons_succ,List.getElem?_cons_zero,oI] at ho
   subst ho
   exact Or.inr ⟨by rfl,rfl⟩
  try simp only [Act.put,siT,scZ,scS]
  refine aAd (i:=18) (d:=52) (v:=undef) (by kernel_rfl) (by kernel_rfl) (by kernel_rfl) (by kernel_rfl) (fun _ _ _ h=>h) ?hyn18 (by assumption) ?restn18
  case hyn18 =>
   intro oi ho
   simp only [List.getElem?_toArray,List.getElem?_cons_succ,List.getElem?_cons_zero,oI] at ho
   subst ho
   exact Or.inr ⟨by rfl,rfl⟩
  try simp only [Act.put,siT,scZ,scS]
  refine wpAnyH_tk 19 53 ?_
  refine wpAnyH_tk 20 33 ?_
  refine wpAnyH_done (by kernel_rfl) ?_ _
  refine NoPanic.normal ?_
  clear hHeld
  go_wp2
  go_ret2
  refine ⟨_,rfl,?_,?_⟩
  ·rw [HRG.out];exact PRW.nil _ _ _
  ·exact LkF.of (by rw [hn0];exact HB2.out.trans (HBd.out.mono (by have:=HB2.out.size;omega))) (by rw [hn0];exact hbs)
 ·have hid:=q6.idlt
  have hid1:0<BT.id b:=by
   have k1:=(q6.held _ (aG0 b)).1
   have k2:=HM.out.hd.1
   apply Classical.byContradiction
   intro k3
   rw [show BT.id b=0 by omega,k2] at k1
   exact absurd k1 (by decide)
  have xr:¬ root=0:=by rw [←hrt,q1];omega
  have dr:(root == 0)=false:=by simp;exact xr
  refine wp_region_noPanic ?_
  refine wp_region_held_drew (S:=fun wx=>wx.cell? ⟨n0+2,0,none⟩=some (.pointer (some ⟨r,0,none⟩))∧wx.cell? ⟨r,2,none⟩=some (.int .i64 (most:Int))∧wx.cell? ⟨r,0,none⟩=some (.slice la ln lc)∧wx.cell? ⟨n0+1,0,none⟩=some (.pointer (some ⟨gs,so,none⟩))∧wx.cell? ⟨gs,so,none⟩=some (.int .i64 root)) (by kernel_rfl) HX0.out (fun hHeld=>?_)
  refine wpAnyH_tk 0 34 ?_
  refine wpAnyH_tk 1 35 ?_
  refine wpAnyH_tk 2 36 ?_
  refine wpAnyH_tk 3 37 ?_
  refine wpAnyH_tk 4 38 ?_
  refine wpAnyH_tk 5 39 ?_
  refine wpAnyH_tk 6 40 ?_
  refine wpAnyH_tk 7 41 ?_
  refine wpAnyH_tk 8 42 ?_
  refine wpAnyH_tk 9 43 ?_
  refine wpAnyH_tk 10 44 ?_
  refine wpAnyH_tk 11 45 ?_
  refine wpAnyH_tk 12 46 ?_
  refine wpAnyH_tk 13 47 ?_
  refine wpAnyH_tk 14 48 ?_
  refine wpAnyH_tk 15 49 ?_
  refine wpAnyH_tk 16 50 ?_
  refine wpAnyH_tk 17 51 ?_
  refine wpAnyH_cm 18 ?_;intro K hK
  go_simp
  refine HEN.out.mono ?_
  rintro e w3 ⟨rfl,rfl⟩
  refine hK.out _ _ HX0.out (fun hHeld=>?_)
  clear hK K
  try simp only [Act.put,siT,scZ,scS]
  refine wpAnyH_tk 19 53 ?_
  refine wpAnyH_tk 20 33 ?_
  refine wpAnyH_done (by kernel_rfl) ?_ _
  refine NoPanic.normal ?_
  clear hHeld
  have HEQ:Hid (flB h b=l):=q4
  cases hen:endB hi lo with
  | true =>
   have HRG:Hid (rngL l lo hi most=[]):=scan_none l hen
   clear hen
   go_wp2
   go_ret2
   refine ⟨_,rfl,?_,?_⟩
   ·rw [HRG.out];exact PRW.nil _ _ _
   ·exact LkF.of (by rw [hn0];exact HB2.out.trans (HBd.out.mono (by have:=HB2.out.size;omega))) (by rw [hn0];exact hbs)
  | false =>
   have HCC:=hide (pairsC_ok (w:=w2.drew) HM.out (HB02.out.trans (HBd.out.mono HB02.out.size)) b q6 (by rw [q4];exact q5) (by have:=HDP.out;omega) (HSP2.out.later HBd.out HBW2.out) hm0 hmo HGS.out (by rw [HR0.out,←hrt,q1]) (by rw [HD0.out,q2];simp) HY.out.1 HY.out.2.1 HY.out.2.2)
   clear hen q1 q2 q3 q4 q5 q6 q7 q8 q9
   go_wp2_with fail
   refine HCC.out.mono ?_
   rintro e w4 ⟨rfl,h1,h2⟩
   rw [HEQ.out] at h1
   have HL4:=hide h2
   obtain ⟨fv,k1,k2⟩:=h1.hx
   have HP4:=hide k2
   have HY4:=hide (h2.2 _ _ _ _ (show w2.drew.heap[n0+2]?=_ from HY.out.2.2) (by decide) (by decide))
   obtain ⟨fa,fc,hfv⟩:=k2.form
   subst hfv
   have z2:w4.cell? ⟨n0+2,0,none⟩=some (.pointer (some ⟨r,0,none⟩)):=aAa HY4.out
   have z3:w4.cell? ⟨r,3,none⟩=some (.slice fa (scan hi most [] (frm l lo)).1.length fc):=aAa k1
   clear h1 h2 k1 k2 HCC
   go_wp2
   go_ret2
   refine ⟨_,rfl,HP4.out,?_⟩
   exact (LkF.of (by rw [hn0];exact HB2.out.trans (HBd.out.mono (by have:=HB2.out.size;omega))) (by rw [hn0];exact hbs)).trans HL4.out
theorem span_new {B:Nat} {w:World} {la ha:Option Addr} {lc hc:Nat} {lo hi:List Nat} {ln hn most:Nat} (hB:B≤w.heap.size) (hln:lo.length=ln) (hhn:hi.length=hn) (hlo:BK B w la ln lc lo) (hhi:BK B w ha hn hc hi) :
  SpV B w.heap.size (w.alloc (.cells #[.slice la ln lc,.slice ha hn hc,.int .i64 (most:Int),.slice none 0 0] 67)) w.heap.size (.slice la ln lc) (.slice ha hn hc) lo hi most []:=by
 have hb:=aAb w (.cells #[.slice la ln lc,.slice ha hn hc,.int .i64 (most:Int),.slice none 0 0] 67)
 refine ⟨nR _,⟨la,lc,by rw [hln],by rw [hln];exact hlo.later hb hB⟩,⟨ha,hc,by rw [hhn],by rw [hhn];exact hhi.later hb hB⟩,_,heap_alloc_new w _,PRW.nil _ _ _⟩
theorem Range_ok [Gd] {B p q g:Nat} {s:DS} {t:PS} {w:World} {now last:StT} {sv:Value} {left:Int} {lo hi:List Nat} {most:Nat} {l:List It} (hM:TM B p q g s t now last sv left w) (hTr:Tr s t now l) (hdp:now.depth<100000) {la ha:Option Addr} {ln lc hn hc:Nat} (hln:lo.length=ln) (hhn:hi.length=hn) (hlo:BK B w la ln lc lo) (hhi:BK B w ha hn hc hi) (h1:ln≤64) (h2:hn≤64) (hm0:0<most) (hmo:most<100000) :
  Calls Tryz.prog 8 #[.pointer (some ⟨g,0,none⟩),.slice la ln lc,.slice ha hn hc,.int .i64 (most:Int)] w fun e w'=>∃ fv,e=.returned (.tuple #[fv,.int .i64 0])∧PRW B w.heap.size w' fv (rngL l lo hi most)∧Below w.heap.size w w':=by
 obtain ⟨cs,hg,hT⟩:=hM.tv
 have HSB:=hide (aAb w (.cells #[.slice la ln lc,.slice ha hn hc,.int .i64 (most:Int),.slice none 0 0] 67))
 have HPA:=hide (pairs_any (w0:=w) (gs:=g) (so:=2) hM HSB.out hTr hdp (by omega) (by omega) (span_new hM.bw hln hhn hlo hhi) hm0 hmo ⟨_,_,_,hg,by decide,by decide⟩ ((aAa hg).trans hT.n0) ((aAa hg).trans hT.n1))
 clear hM hTr hdp hlo hhi hg hT
 go_enter Tryz.func8,Tryz.ntmps8
 go_wp2_with fail
 refine HPA.out.mono ?_
 rintro e w1 ⟨fv,rfl,k1,k2⟩
 have HK1:=hide k1
 have HK2:=hide k2
 obtain ⟨fa,fc,hfv⟩:=k1.form
 subst hfv
 clear k1 k2
 go_wp2
 go_ret2
 exact ⟨_,rfl,HK1.out,HSB.out.trans HK2.out.1⟩
theorem SnapRange_ok [Gd] {B p q g gn:Nat} {s:DS} {t:PS} {w:World} {now last st:StT} {sv:Value} {left:Int} {lo hi:List Nat} {most:Nat} {l:List It} {cn:Array Value} (hM:TM B p q g s t now last sv left w) (hTr:Tr s t st l) (hdp:st.depth<100000) (hn0:w.heap[gn]?=some (.cells cn 119 (0,0))) (c0:cn[0]?=some (.pointer (some ⟨g,0,none⟩))) (c1:cn[1]?=some (.int .i64 st.root)) (c2:cn[2]?=some (.int .i64 st.depth)) {la ha:Option Addr} {ln lc hn hc:Nat} (hln:lo.length=ln) (hhn:hi.length=hn) (hlo:BK B w la ln lc lo) (hhi:BK B w ha hn hc hi) (h1:ln≤64) (h2:hn≤64) (hm0:0<most) (hmo:most<100000) :
  Calls Tryz.prog 27 #[.pointer (some ⟨gn,0,none⟩),.slice la ln lc,.slice ha hn hc,.int .i64 (most:Int)] w fun e w'=>∃ fv,e=.returned (.tuple #[fv,.int .i64 0])∧PRW B w.heap.size w' fv (rngL l lo hi most)∧Below w.heap.size w w':=by
 have HSB:=hide (aAb w (.cells #[.slice la ln lc,.slice ha hn hc,.int .i64 (most:Int),.slice none 0 0] 67))
 have HSD:=hide (HSB.out.drew)
 have HPA:=hide (pairs_any (w0:=w) (w:=(w.alloc (.cells #[.slice la ln lc,.slice ha hn hc,.int .i64 (most:Int),.slice none 0 0] 67)).drew) (gs:=gn) (so:=1) hM HSD.out hTr hdp (by omega) (by omega) ((span_new hM.bw hln hhn hlo hhi).later (Below.refl _ _).drew (nT hM.bw HSB.out.size)) hm0 hmo ⟨_,_,_,hn0,by decide,by decide⟩ ((aAa hn0).trans c1) ((aAa hn0).trans c2))
 have r0:w.cell? ⟨gn,0,none⟩=some (.pointer (some ⟨g,0,none⟩)):=(aAa hn0).trans c0
 have hgl:=(lO hn0)
 have HX0:Hid ((fun wx=>wx.cell? ⟨gn,0,none⟩=some (.pointer (some ⟨g,0,none⟩))) w.drew):=r0
 have HX1:Hid ((fun wx=>wx.cell? ⟨gn,0,none⟩=some (.pointer (some ⟨g,0,none⟩))) (w.alloc (.cells #[.slice la ln lc,.slice ha hn hc,.int .i64 (most:Int),.slice none 0 0] 67)).drew):=(HSD.out.cell (p:=⟨gn,0,none⟩) hgl).trans r0
 clear hM hTr hdp hlo hhi hn0 c0 c1 c2
 go_enter Tryz.func27,Tryz.ntmps27
 go_upto_region 3 with fail
 refine wp_region_noPanic ?_
 refine wp_region_held_drew (S:=fun wx=>wx.cell? ⟨gn,0,none⟩=some (.pointer (some ⟨g,0,none⟩))) (by kernel_rfl) HX0.out (fun hHeld=>?_)
 refine wpAnyH_tk 0 15 ?_
 refine wpAnyH_tk 1 16 ?_
 refine wpAnyH_tk 2 17 ?_
 refine wpAnyH_tk 3 18 ?_
 refine wpAnyH_tk 4 19 ?_
 refine wpAnyH_tk 5 20 ?_
 refine wpAnyH_tk 6 21 ?_
 refine wpAnyH_tk 7 22 ?_
 refine wpAnyH_tk 8 23 ?_
 refine wpAnyH_tk 9 24 ?_
 refine wpAnyH_tk 10 25 ?_
 refine wpAnyH_cm 11 ?_;intro K hK
 go_simp
 clear hHeld
 refine hK.out _ _ HX1.out (fun hHeld=>?_)
 clear hK K
 try simp only [Act.put,siT,scZ,scS]
 refine wpAnyH_cm 12 ?_;intro K hK
 go_simp
 refine HPA.out.mono ?_
 rintro e w1 ⟨fv,rfl,k1,k2⟩
 have HK1:=hide k1
 have HK2:=hide k2
 obtain ⟨fa,fc,hfv⟩:=k1.form
 subst hfv
 have HX2:Hid ((fun wx=>wx.cell? ⟨gn,0,none⟩=some (.pointer (some ⟨g,0,none⟩))) w1):=(k2.1.cell (p:=⟨gn,0,none⟩) hgl).trans HX1.out
 clear k1 k2 hHeld
 refine hK.out _ _ HX2.out (fun hHeld=>?_)
 clear hK K
 try simp only [Act.put,siT,scZ,scS]
 refine wpAnyH_tk 13 28 ?_
 refine wpAnyH_tk 14 29 ?_
 refine wpAnyH_tk 15 8 ?_
 refine wpAnyH_tk 16 9 ?_
 refine wpAnyH_done (by kernel_rfl) ?_ _
 refine NoPanic.normal ?_
 clear hHeld
 go_wp2
 go_ret2
 exact ⟨_,rfl,HK1.out,HSD.out.trans HK2.out.1⟩
def valL (L:List It) (k:List Nat):Option (List Nat):=(L.find? fun y=>decide (y.1=k)).map (·.2)
theorem Srt.inj {L:List It} (hs:Srt L) {x y:It} (hx:x∈L) (hy:y∈L) (h:x.1=y.1):x=y:=by
 obtain ⟨i,hi,rfl⟩:=List.getElem_of_mem hx
 obtain ⟨j,hj,rfl⟩:=List.getElem_of_mem hy
 have hp:=List.pairwise_iff_getElem.1 hs
 rcases Nat.lt_trichotomy i j with q | q | q
 ·have:=hp i j hi hj q
  rw [h,aA7] at this
  omega
 ·subst q;rfl
 ·have:=hp j i hj hi q
  rw [h,aA7] at this
  omega
theorem aE7 {L:List It} (hs:Srt L) {x:It} (hx:x∈L):valL L x.1=some x.2:=by
 unfold valL
 cases h:L.find? fun y=>decide (y.1=x.1) with
 | none =>
  have:=List.find?_eq_none.1 h x hx
  simp at this
 | some y =>
  have h1:=List.mem_of_find?_eq_some h
  have h2:=List.find?_some h
  simp only [decide_eq_true_eq] at h2
  rw [hs.inj h1 hx h2]
  rfl
theorem aFi {L:List It} {k:List Nat} (h:∀ x∈L,x.1≠k):valL L k=none:=by
 unfold valL
 rw [List.find?_eq_none.2 fun x hx=>by simpa using h x hx]
 rfl
theorem valL_same {L M:List It} (hs:Srt L) (hsm:Srt M) {k:List Nat} (h1:∀ x∈M,x∈L) (h2:∀ x∈L,x.1=k→x∈M):valL L k=valL M k:=by
 by_cases c:∃ x∈M,x.1=k
 ·obtain ⟨x,hx,rfl⟩:=c
  rw [aE7 hs (h1 x hx),aE7 hsm hx]
 ·rw [aFi (L:=M) fun x hx q=>c ⟨x,hx,q⟩,aFi fun x hx q=>c ⟨x,h2 x hx q,q⟩]
theorem aFh:∀ (l:List It) (c:List (List It)),c.length=l.length+1→∀ x∈l,x∈weave l c:=fun l c h x hx=>(aCk l c h).subset hx
theorem valL_kid {l:List It} {cs:List (List It)} {c:List It} {k:List Nat} (hs:Srt (weave l cs)) (hl:cs.length=l.length+1) (hc:cs[fndI l k]?=some c) (hh:hasI l k=false):valL (weave l cs) k=valL c k:=by
 refine valL_same hs (Srt.kid hs hl (mG hc)) (fun x hx=>(aCx l cs c hl (mG hc)).subset hx) fun x hx ek=>?_
 have e0:0≤cmpB x.1 k:=by rw [ek,aA7];omega
 have hf:x∈frm (weave l cs) k:=List.mem_filter.2 ⟨hx,by simpa using e0⟩
 rw [frm_weave hs hl hc,hh] at hf
 simp only [Bool.false_eq_true,if_false] at hf
 rcases List.mem_append.1 hf with q | q
 ·exact (List.mem_filter.1 q).1
 ·exfalso
  have hsl:Srt l:=List.Pairwise.sublist (aCk l cs hl) hs
  have hle:=aA1 l k
  by_cases e:fndI l k=l.length
  ·rw [wvR_end (by omega)] at q
   simp at q
  ·obtain ⟨z,hz⟩:∃ z,l[fndI l k]?=some z:=⟨_,gE (by omega)⟩
   obtain ⟨c2,hc2⟩:∃ c2,cs[fndI l k+1]?=some c2:=⟨_,gE (by omega)⟩
   have hw:=aAv l cs (fndI l k) c hl hc
   rw [hw] at hs
   have p5:=hs.app.2.1.app.2.1
   have hz0:=(hsl.part k).2 z (by
    have hd:l.drop (fndI l k)=z::l.drop (fndI l k+1):=by rw [←(List.getElem?_eq_some_iff.1 hz).2,List.getElem_cons_drop]
    rw [hd];simp)
   have hzk:cmpB z.1 k≠0:=fun q3=>by
    have:=(hsl.has k).2 ⟨z,hz,aDj q3⟩
    rw [hh] at this
    cases this
   rw [aDl hz hc2] at q p5
   rcases List.mem_cons.1 q with q | q
   ·rw [q] at ek
    rw [ek,aA7] at hzk
    exact hzk rfl
   ·have h1:=(List.pairwise_cons.1 p5).1 x q
    rw [ek] at h1
    omega
def VlR (B:Nat) (o:Option (List Nat)) (e:Ending) (w':World):Prop:=match o with
 | some x=>∃ v,e=.returned (.tuple #[v,.bool true])∧KV B w' v x
 | none=>e=.returned (.tuple #[.slice none 0 0,.bool false])
def VlI (s:DS) (t:PS) (o:Option (List Nat)) (k:List Nat) (a d:Value):Prop :=
 (d=.int .i64 0∧o=none∧∃ i:Nat,a=.int .i64 (i:Int))∨∃ (h:Nat) (b:BT h),a=.int .i64 (BT.id b:Int)∧d=.int .i64 ((h:Int)+1)∧h<100000∧OnD s t h b∧Srt (flB h b)∧valL (flB h b) k=o
theorem valueIn_any [Gd] {B p q gs so:Nat} {s:DS} {t:PS} {w:World} {st:StT} {l:List It} (hST:ST B p q s t w) (hB:B≤w.heap.size) (hlf:s.life=t.life) (hdn:s.down=false) (hTr:Tr s t st l) (hdp:st.depth<100000) (hr0:w.cell? ⟨gs,so,none⟩=some (.int .i64 st.root)) (hd0:w.cell? ⟨gs,so+1,none⟩=some (.int .i64 st.depth)) {ka:Option Addr} {kn kc:Nat} {key:List Nat} (hk:BK B w ka kn kc key) :
  Calls Tryz.prog 90 #[.pointer (some ⟨q,0,none⟩),.pointer (some ⟨gs,so,none⟩),.slice ka kn kc] w fun e w'=>VlR B (valL l key) e w'∧Below w.heap.size w w':=by
 have HST:=hide hST
 have HB:=hide hB
 have HK:=hide hk
 have HI0:Hid (VlI s t (valL l key) key (.int .i64 st.root) (.int .i64 st.depth)):=by
  rcases hTr with ⟨r1,r2,r3,r4,r5⟩ | ⟨h,b,q1,q2,q3,q4,q5,q6,q7,q8,q9⟩
  ·subst r4
   exact Or.inl ⟨by rw [r2],rfl,0,by rw [r1];rfl⟩
  ·exact Or.inr ⟨h,b,by rw [q1],by rw [q2];simp,by omega,q6,by rw [q4];exact q5,by rw [q4]⟩
 clear hST hB hTr hdp hk
 generalize st.root=rt at *
 generalize st.depth=dp at *
 generalize valL l key=o at *
 go_enter Tryz.func90,Tryz.ntmps90
 go_wp2_with fail
 go_loopw [8,9] (fun a d wx=>VlI s t o key a d∧Below w.heap.size w wx) (fun _ d _=>(intOf d).toNat)
 case atStart=>exact ⟨HI0.out,Below.refl _ _⟩
 case round =>
  obtain ⟨hI,hbr⟩:=hrel
  have HBR:=hide hbr
  have HBw:Hid (B≤wr.heap.size):=nT HB.out hbr.size
  rcases hI with ⟨rfl,rfl,i0,rfl⟩ | ⟨h,b,rfl,rfl,hh,hon,hsr,hvl⟩
  ·clear hbr
   go_wp2
   (try simp only [Exit.inBlock,Exit.then])
   go_ret2
   exact ⟨rfl,HBR.out⟩
  ·have HVL:=hide hvl
   have HSR:=hide hsr
   cases h with
   | zero =>
    obtain ⟨hpg,hit⟩:=hon
    have HLD:=hide (aBo b.1 (HST.out.later hbr) HBw.out hlf hpg.lt (by rw [hpg.of];decide) hdn b.2 hpg.pg hit.n1 hit.n4 hit.ok hit.so hpg.ln hpg.bt)
    have HIT:=hide hit
    have hl4:=hit.n4
    clear hpg hit hvl hsr hbr
    generalize hl:b.2=l0 at *
    generalize hLL:l0.length=L at *
    generalize hFi:fndI l0 key=Fi at *
    generalize hhb:hasI l0 key=hb0 at *
    have HBI:Hid (flB 0 b=l0):=hl
    have x0:(0:Int)<((0:Nat):Int)+1:=by omega
    have x1:((0:Nat):Int)+1=1:=rfl
    rw [x1]
    go_wp2_with fail
    refine HLD.out.mono ?_
    rintro e w1 ⟨v1,rfl,⟨gl,gi,rfl,z1,z2,z3,z4⟩,hb1⟩
    rw [hLL] at z3
    have HZ3:=hide z3
    have HIO:=hide (aAp z3)
    have HBw1:Hid (B≤w1.heap.size):=nT HBw.out hb1.size
    have HB1:Hid (Below w.heap.size w w1):=HBR.out.trans (hb1.mono HBR.out.size)
    have HFN:Hid (Calls Tryz.prog 75 #[.slice (some ⟨gi,0,none⟩) L L,.slice ka kn kc] w1 fun e w'=>e=.returned (.tuple #[.int .i64 (Fi:Int),.bool hb0])∧Below w1.heap.size w1 w'):=by
     have:=find_ok z4 HBw1.out ((HK.out.later HB1.out HB.out).1) (by omega) HIT.out.so hLL
     rw [hFi,hhb] at this
     exact this
    have HZ4:=hide z4
    clear z3 z4 hb1 HLD
    unfold lfP at HIO
    go_wp2_with fail
    refine HIO.out.mono ?_
    rintro e w1' ⟨rfl,rfl⟩
    go_wp2_with fail
    refine HFN.out.mono ?_
    rintro e w2 ⟨rfl,hb2⟩
    have HIR2:=hide (HZ4.out.later hb2 HBw1.out)
    have HB2:Hid (Below w.heap.size w w2):=HB1.out.trans (hb2.mono HB1.out.size)
    have HG2:=hide ((hb2.block gl (lO HZ3.out)).trans HZ3.out)
    have ta:=aAm (.pointer (some ⟨gl,0,none⟩)) w2
    clear hb2 HFN HIO HZ4 HZ3
    cases hb0 with
    | true =>
     obtain ⟨x,hx,hxk⟩:=(HIT.out.so.has key).1 hhb
     have hFL:Fi<L:=by
      rw [hFi] at hx
      have:=(lL hx)
      omega
     rw [hFi] at hx
     obtain ⟨kf,vf,hg1,hg2⟩:=HIR2.out
     rw [hLL] at hg1
     obtain ⟨hk1,hv1⟩:=hg2 Fi x hx
     have HVV:=hide hv1
     have y6:w2.cell? ⟨gi,Fi*2+1,none⟩=some (vf Fi):=by rw [aAa hg1,List.getElem?_toArray];exact aA0 kf vf Fi L hFL
     have xF:(Fi:Int)<(L:Int):=by omega
     have HOV:Hid (o=some x.2):=by
      show _=_
      rw [←HVL.out,←hxk]
      exact aE7 HSR.out (by rw [HBI.out];exact mG hx)
     have HIO2:=hide (by have h9:=aAp HG2.out;unfold lfP at h9;exact h9)
     obtain ⟨va,vc,hva,_⟩:=hv1
     rw [hva] at y6 HVV
     generalize hvn:x.2.length=vn at *
     clear hg1 hg2 hk1 hva
     go_wp2_with fail
     refine HIO2.out.mono ?_
     rintro e w4 ⟨rfl,rfl⟩
     go_wp2
     (try simp only [Exit.inBlock,Exit.then])
     go_ret2
     refine ⟨?_,HB2.out⟩
     rw [HOV.out]
     exact ⟨_,rfl,HVV.out⟩
    | false =>
     have HOV:Hid (o=none):=by
      show _=_
      rw [←HVL.out,HBI.out]
      refine aFi fun x hx q9=>?_
      have:hasI l0 key=true:=by
       simp only [hasI,List.contains_eq_mem,List.mem_map,decide_eq_true_eq]
       exact ⟨x,hx,q9⟩
      rw [hhb] at this
      cases this
     go_wp2_with fail
     go_roundw
     case rel=>exact ⟨Or.inl ⟨by go_num,HOV.out,b.1,rfl⟩,HB2.out⟩
     case measure=>simp [intOf]
   | succ h =>
    obtain ⟨hpg,hit,hcl,hid,hkd⟩:=hon
    have hidl:(b.2.2.map BT.id).length=b.2.1.length+1:=by rw [List.length_map];exact hcl
    have HLD:=aBd b.1 (h+2) (by omega) (HST.out.later hbr) HBw.out hlf hpg.lt (by rw [hpg.of];decide) hdn b.2.1 (b.2.2.map BT.id) hpg.pg hidl (by intro x hx;obtain ⟨k,hk,rfl⟩:=List.mem_map.1 hx;exact hid k hk) hit.n1 hit.n4 hit.ok hit.so hpg.ln hpg.bt
    rw [show (((h+2:Nat):Nat):Int)=(h:Int)+1+1 by omega] at HLD
    replace HLD:=hide HLD
    have HIT:=hide hit
    have hl4:=hit.n4
    have HKD:=hide hkd
    have HCL:=hide hcl
    have hfl:=aA1 b.2.1 key
    have HSW:Hid (Srt (weave b.2.1 (b.2.2.map (flB h)))):=hsr
    have HBI:Hid (flB (h+1) b=weave b.2.1 (b.2.2.map (flB h))):=rfl
    have HCS:Hid ((b.2.2.map (flB h)).length=b.2.1.length+1):=by rw [List.length_map];exact hcl
    clear hpg hit hvl hsr hbr hid hkd
    have hn2:(b.2.2.map BT.id).length=b.2.1.length+1:=hidl
    generalize hl:b.2.1=l0 at *
    generalize hLL:l0.length=L at *
    generalize hFi:fndI l0 key=Fi at *
    generalize hhb:hasI l0 key=hb0 at *
    have x0:(0:Int)<(((h+1:Nat):Nat):Int)+1:=by omega
    have x1:(((h+1:Nat):Nat):Int)+1=(h:Int)+1+1:=by omega
    rw [x1]
    rw [x1] at x0
    go_wp2_with fail
    refine HLD.out.mono ?_
    rintro e w1 ⟨v1,rfl,⟨gb,gi,gc,rfl,z1,z2,z5,z3,z4,z6⟩,hb1⟩
    rw [hLL,hn2] at z3
    have HZ3:=hide z3
    have HIO:=hide (aAn z3)
    have HBw1:Hid (B≤w1.heap.size):=nT HBw.out hb1.size
    have HB1:Hid (Below w.heap.size w w1):=HBR.out.trans (hb1.mono HBR.out.size)
    have HFN:Hid (Calls Tryz.prog 75 #[.slice (some ⟨gi,0,none⟩) L L,.slice ka kn kc] w1 fun e w'=>e=.returned (.tuple #[.int .i64 (Fi:Int),.bool hb0])∧Below w1.heap.size w1 w'):=by
     have:=find_ok z4 HBw1.out ((HK.out.later HB1.out HB.out).1) (by omega) HIT.out.so hLL
     rw [hFi,hhb] at this
     exact this
    have HZ4:=hide z4
    have HZ6:=hide z6
    clear z3 z4 z6 hb1 HLD
    unfold brP at HIO
    go_wp2_with fail
    refine HIO.out.mono ?_
    rintro e w1' ⟨rfl,rfl⟩
    go_wp2_with fail
    refine HFN.out.mono ?_
    rintro e w2 ⟨rfl,hb2⟩
    have HIR2:=hide (HZ4.out.later hb2 HBw1.out)
    have HB2:Hid (Below w.heap.size w w2):=HB1.out.trans (hb2.mono HB1.out.size)
    have HG2:=hide ((hb2.block gb (lO HZ3.out)).trans HZ3.out)
    have HGC2:=hide ((hb2.block gc (lO HZ6.out)).trans HZ6.out)
    have ta:=aAk (.pointer (some ⟨gb,0,none⟩)) w2
    clear hb2 HFN HIO HZ4 HZ3 HZ6
    cases hb0 with
    | true =>
     obtain ⟨x,hx,hxk⟩:=(HIT.out.so.has key).1 hhb
     have hFL:Fi<L:=by
      rw [hFi] at hx
      have:=(lL hx)
      omega
     rw [hFi] at hx
     obtain ⟨kf,vf,hg1,hg2⟩:=HIR2.out
     rw [hLL] at hg1
     obtain ⟨hk1,hv1⟩:=hg2 Fi x hx
     have HVV:=hide hv1
     have y6:w2.cell? ⟨gi,Fi*2+1,none⟩=some (vf Fi):=by rw [aAa hg1,List.getElem?_toArray];exact aA0 kf vf Fi L hFL
     have xF:(Fi:Int)<(L:Int):=by omega
     have HOV:Hid (o=some x.2):=by
      show _=_
      rw [←HVL.out,←hxk]
      exact aE7 HSR.out (by rw [HBI.out];exact aFh _ _ (by rw [hLL];exact HCS.out) _ (mG hx))
     have HIO2:=hide (by have h9:=aAn HG2.out;unfold brP at h9;exact h9)
     obtain ⟨va,vc,hva,_⟩:=hv1
     rw [hva] at y6 HVV
     generalize hvn:x.2.length=vn at *
     clear hg1 hg2 hk1 hva
     go_wp2_with fail
     refine HIO2.out.mono ?_
     rintro e w4 ⟨rfl,rfl⟩
     go_wp2
     (try simp only [Exit.inBlock,Exit.then])
     go_ret2
     refine ⟨?_,HB2.out⟩
     rw [HOV.out]
     exact ⟨_,rfl,HVV.out⟩
    | false =>
     obtain ⟨kb,hkb⟩:∃ kb,b.2.2[Fi]?=some kb:=⟨_,gE (by have:=HCL.out;omega)⟩
     have hkm:=mG hkb
     have HOV:Hid (valL (flB h kb) key=o):=by
      show _=_
      rw [←HVL.out,HBI.out]
      exact (valL_kid HSW.out (by rw [hLL];exact HCS.out) (by rw [hFi,List.getElem?_map,hkb];rfl) hhb).symm
     have HKS:Hid (Srt (flB h kb)):=Srt.kid HSW.out (by rw [hLL];exact HCS.out) (List.mem_map_of_mem hkm)
     have HKO:=hide (HKD.out kb hkm)
     have g1:w2.cell? ⟨gb,1,none⟩=some (.slice (some ⟨gc,0,none⟩) (L+1) (L+1)):=aAa HG2.out
     have g2:w2.cell? ⟨gc,Fi,none⟩=some (.iface 89 (.int .i64 (BT.id kb:Int))):=by
      rw [aAa HGC2.out,List.getElem?_toArray,List.getElem?_map,List.getElem?_map,hkb]
      rfl
     have g3:=aC7 (.int .i64 (BT.id kb:Int)) w2
     have xl:(Fi:Int)<((L+1:Nat):Int):=by omega
     clear hkb hkm
     go_wp2_with fail
     go_roundw
     case rel=>exact ⟨Or.inr ⟨h,kb,rfl,by go_num,by omega,HKO.out,HKS.out,HOV.out⟩,HB2.out⟩
     case measure=>simp [intOf];omega
theorem aA8:∀ (l:List Obj) (w:World),Below w.heap.size w (l.foldl World.alloc w)∧(l.foldl World.alloc w).heap.size=w.heap.size+l.length
 | [],w=>⟨Below.refl _ _,rfl⟩
 | o::l,w=>by
  have h:=aA8 l (w.alloc o)
  have b:=aAb w o
  have e:(w.alloc o).heap.size=w.heap.size+1:=Array.size_push _
  refine ⟨b.trans (h.1.mono b.size),?_⟩
  rw [List.foldl_cons,h.2,e,List.length_cons]
  omega
theorem aAr:∀ (l:List Obj) (w:World) (i:Nat) (o:Obj),l[i]?=some o→(l.foldl World.alloc w).heap[w.heap.size+i]?=some o
 | [],w,i,o,h=>by simp at h
 | a::l,w,0,o,h=>by
  simp only [List.getElem?_cons_zero,oI] at h
  subst h
  have e:(w.alloc a).heap.size=w.heap.size+1:=Array.size_push _
  have hb:=(aA8 l (w.alloc a)).1
  rw [List.foldl_cons,Nat.add_zero,hb.block _ (by omega)]
  exact heap_alloc_new w a
 | a::l,w,i+1,o,h=>by
  have e:(w.alloc a).heap.size=w.heap.size+1:=Array.size_push _
  have:=aAr l (w.alloc a) i o (by simpa using h)
  rw [e,show w.heap.size+1+i=w.heap.size+(i+1) by omega] at this
  exact this
theorem Ex.ftX {B g:Nat} {w w':World} {cs:Array Value} {T0:TypeId} {fz:Nat×Nat} (f:Ex B [g] w w') (hg:w.heap[g]?=some (.cells cs T0 fz)) (h0:5≠T0):FT B w w':=⟨f.1,fun k cs' fz e=>f.keepX hg e h0⟩
theorem results_cct {fn:Func} {p q u:Tmp} {ty ty2:TypeId} (h:fn.results=#[.cell p ty,.cell q ty2,.tmp u]) (tmps:Array Value) (P:Program) (w:World) {a b:Addr} {v1 v2:Value} (hp:tmps.getD p undef=.pointer (some a)) (hq:tmps.getD q undef=.pointer (some b)) (h1:(loadVar ty a).run P w=.ok v1 w) (h2:(loadVar ty2 b).run P w=.ok v2 w) :
  (results fn tmps).run P w=.ok (.tuple #[v1,v2,tmps.getD u undef]) w:=by
 have hp':tmps[p]?.getD undef=.pointer (some a):=by simpa using hp
 have hq':tmps[q]?.getD undef=.pointer (some b):=by simpa using hq
 simp [results,h,hp',hq',asAddr,Sem.run_bind,Result.andThen,h1,h2]
def VlV (B:Nat) (w:World) (o:Option (List Nat)) (v:Value) (isb:Bool):Prop:=match o with
 | some x=>isb=true∧KV B w v x
 | none=>isb=false∧v=.slice none 0 0
theorem VlV.ft {B:Nat} {w w':World} {o:Option (List Nat)} {v:Value} {isb:Bool} (h:VlV B w o v isb) (f:FT B w w'):VlV B w' o v isb:=by
 cases o with
 | some x=>exact ⟨h.1,h.2.ft f⟩
 | none=>exact h
theorem VlV.form {B:Nat} {w:World} {o:Option (List Nat)} {v:Value} {isb:Bool} (h:VlV B w o v isb):∃ a n c,v=.slice a n c:=by
 cases o with
 | some x=>obtain ⟨a,c,e,_⟩:=h.2;exact ⟨a,_,c,e⟩
 | none=>exact ⟨none,0,0,h.2⟩
theorem VlR.vv {B:Nat} {o:Option (List Nat)} {e:Ending} {w:World} (h:VlR B o e w):∃ v isb,e=.returned (.tuple #[v,.bool isb])∧VlV B w o v isb:=by
 cases o with
 | some x=>obtain ⟨v,h1,h2⟩:=h;exact ⟨v,true,h1,rfl,h2⟩
 | none=>exact ⟨_,false,h,rfl,rfl⟩
def GtR (B:Nat) (w:World) (o:Option (List Nat)) (vb ib:Nat) (w':World):Prop:=∃ w1 v isb,VlV B w1 o v isb∧Below w.heap.size w w1∧w'=(w1.setCell ⟨vb,0,none⟩ v).setCell ⟨ib,0,none⟩ (.bool isb)
theorem get1_any [Gd] {B p q g tb sb kb vb ib gs so:Nat} {s:DS} {t:PS} {w:World} {st:StT} {l:List It} (hST:ST B p q s t w) (hB:B≤w.heap.size) (hlf:s.life=t.life) (hdn:s.down=false) (hTr:Tr s t st l) (hdp:st.depth<100000) (hr0:w.cell? ⟨gs,so,none⟩=some (.int .i64 st.root)) (hd0:w.cell? ⟨gs,so+1,none⟩=some (.int .i64 st.depth)) {ka:Option Addr} {kn kc:Nat} {key:List Nat} (hk:BK B w ka kn kc key)
  (c1:w.cell? ⟨tb,0,none⟩=some (.pointer (some ⟨g,0,none⟩))) (c2:w.cell? ⟨g,1,none⟩=some (.pointer (some ⟨q,0,none⟩))) (c3:w.cell? ⟨sb,0,none⟩=some (.pointer (some ⟨gs,so,none⟩))) (c4:w.cell? ⟨kb,0,none⟩=some (.slice ka kn kc)) (hvb:w.heap[vb]?=some (.cells #[.slice none 0 0] 28 (0,0))) (hib:w.heap[ib]?=some (.cells #[.bool false] 4 (0,0))) (n1:tb≠vb∧g≠vb∧sb≠vb∧kb≠vb) (n2:tb≠ib∧g≠ib∧sb≠ib∧kb≠ib) :
  Calls Tryz.prog 89 #[.pointer (some ⟨tb,0,none⟩),.pointer (some ⟨sb,0,none⟩),.pointer (some ⟨kb,0,none⟩),.pointer (some ⟨vb,0,none⟩),.pointer (some ⟨ib,0,none⟩)] w fun e w'=>e=.returned (.int .i64 0)∧GtR B w (valL l key) vb ib w':=by
 have HBd:=hide ((Below.refl w.heap.size w).drew)
 have HVI:=hide (valueIn_any (w:=w.drew) (hST.later HBd.out) hB hlf hdn hTr hdp hr0 hd0 (hk.later HBd.out hB))
 have HVB:=hide hvb
 have HIB:=hide hib
 have lt:∀ {k:Nat} {o:Obj} {ww:World},ww.heap[k]?=some o→k<ww.heap.size:=fun e=>(lO e)
 have hnvi:vb≠ib:=by
  intro q9
  subst q9
  rw [hvb] at hib
  simp only [oI,cI] at hib
  exact absurd hib.2.1 (by decide)
 have HX0:Hid ((fun wx=>wx.cell? ⟨tb,0,none⟩=some (.pointer (some ⟨g,0,none⟩))∧wx.cell? ⟨g,1,none⟩=some (.pointer (some ⟨q,0,none⟩))∧wx.cell? ⟨sb,0,none⟩=some (.pointer (some ⟨gs,so,none⟩))∧wx.cell? ⟨kb,0,none⟩=some (.slice ka kn kc)) w.drew):=⟨c1,c2,c3,c4⟩
 have HKK:=hide (show ∀ w',Below w.heap.size w.drew w'→((fun wx=>wx.cell? ⟨tb,0,none⟩=some (.pointer (some ⟨g,0,none⟩))∧wx.cell? ⟨g,1,none⟩=some (.pointer (some ⟨q,0,none⟩))∧wx.cell? ⟨sb,0,none⟩=some (.pointer (some ⟨gs,so,none⟩))∧wx.cell? ⟨kb,0,none⟩=some (.slice ka kn kc)) w') from fun w' hb=>⟨(hb.cell (p:=⟨tb,0,none⟩) (block_lt_of_cell c1)).trans c1,(hb.cell (p:=⟨g,1,none⟩) (block_lt_of_cell c2)).trans c2,(hb.cell (p:=⟨sb,0,none⟩) (block_lt_of_cell c3)).trans c3,(hb.cell (p:=⟨kb,0,none⟩) (block_lt_of_cell c4)).trans c4⟩)
 clear hST hTr hr0 hd0 hk c1 c2 c3 c4 hvb hib
 go_enter Tryz.func89,Tryz.ntmps89
 go_upto_region 1 with fail
 refine wp_region_noPanic ?_
 refine wp_region_held_drew (S:=fun wx=>wx.cell? ⟨tb,0,none⟩=some (.pointer (some ⟨g,0,none⟩))∧wx.cell? ⟨g,1,none⟩=some (.pointer (some ⟨q,0,none⟩))∧wx.cell? ⟨sb,0,none⟩=some (.pointer (some ⟨gs,so,none⟩))∧wx.cell? ⟨kb,0,none⟩=some (.slice ka kn kc)) (by kernel_rfl) HX0.out (fun hHeld=>?_)
 refine wpAnyH_tk 0 7 ?_
 refine wpAnyH_tk 1 8 ?_
 refine wpAnyH_tk 2 9 ?_
 refine wpAnyH_tk 3 10 ?_
 refine wpAnyH_tk 4 11 ?_
 refine wpAnyH_tk 5 12 ?_
 refine wpAnyH_cm 6 ?_;intro K hK
 go_simp
 refine HVI.out.mono ?_
 rintro e w1 ⟨hv,hb1⟩
 obtain ⟨v,isb,rfl,hvv⟩:=hv.vv
 obtain ⟨va,vn,vc,hva⟩:=hvv.form
 subst hva
 have HVV:=hide hvv
 have HB1:=hide hb1
 have HX1:=hide (HKK.out w1 hb1)
 have HV1:=hide ((hb1.block vb (lt HVB.out)).trans (show w.drew.heap[vb]?=_ from HVB.out))
 have HI1:=hide ((hb1.block ib (lt HIB.out)).trans (show w.drew.heap[ib]?=_ from HIB.out))
 have f1:w1.frozen? ⟨vb,0,none⟩=false:=aAc HV1.out
 have d1:w1.cell? ⟨vb,0,none⟩=some (.slice none 0 0):=aAa HV1.out
 have HI2:Hid ((w1.setCell ⟨vb,0,none⟩ (.slice va vn vc)).heap[ib]?=some (.cells #[.bool false] 4 (0,0))):=(heap_setCell_other _ _ _ _ (Ne.symm hnvi)).trans HI1.out
 have f2:(w1.setCell ⟨vb,0,none⟩ (.slice va vn vc)).frozen? ⟨ib,0,none⟩=false:=aAc HI2.out
 have d2:(w1.setCell ⟨vb,0,none⟩ (.slice va vn vc)).cell? ⟨ib,0,none⟩=some (.bool false):=aAa HI2.out
 have HX2:Hid ((fun wx=>wx.cell? ⟨tb,0,none⟩=some (.pointer (some ⟨g,0,none⟩))∧wx.cell? ⟨g,1,none⟩=some (.pointer (some ⟨q,0,none⟩))∧wx.cell? ⟨sb,0,none⟩=some (.pointer (some ⟨gs,so,none⟩))∧wx.cell? ⟨kb,0,none⟩=some (.slice ka kn kc)) (w1.setCell ⟨vb,0,none⟩ (.slice va vn vc))):=⟨(World.cell?_of_block (heap_setCell_other _ _ _ _ n1.1)).trans HX1.out.1,(World.cell?_of_block (heap_setCell_other _ _ _ _ n1.2.1)).trans HX1.out.2.1,(World.cell?_of_block (heap_setCell_other _ _ _ _ n1.2.2.1)).trans HX1.out.2.2.1,(World.cell?_of_block (heap_setCell_other _ _ _ _ n1.2.2.2)).trans HX1.out.2.2.2⟩
 have HX3:Hid ((fun wx=>wx.cell? ⟨tb,0,none⟩=some (.pointer (some ⟨g,0,none⟩))∧wx.cell? ⟨g,1,none⟩=some (.pointer (some ⟨q,0,none⟩))∧wx.cell? ⟨sb,0,none⟩=some (.pointer (some ⟨gs,so,none⟩))∧wx.cell? ⟨kb,0,none⟩=some (.slice ka kn kc)) ((w1.setCell ⟨vb,0,none⟩ (.slice va vn vc)).setCell ⟨ib,0,none⟩ (.bool isb))):=⟨(World.cell?_of_block (heap_setCell_other _ _ _ _ n2.1)).trans HX2.out.1,(World.cell?_of_block (heap_setCell_other _ _ _ _ n2.2.1)).trans HX2.out.2.1,(World.cell?_of_block (heap_setCell_other _ _ _ _ n2.2.2.1)).trans HX2.out.2.2.1,(World.cell?_of_block (heap_setCell_other _ _ _ _ n2.2.2.2)).trans HX2.out.2.2.2⟩
 clear hv hb1 hvv hHeld
 refine hK.out _ _ HX1.out (fun hHeld=>?_)
 clear hK K
 try simp only [Act.put,siT,scZ,scS]
 refine wpAnyH_tk 7 6 ?_
 refine wpAnyH_tk 8 14 ?_
 refine wpAnyH_tk 9 15 ?_
 refine wpAnyH_cm 10 ?_;intro K hK
 go_simp
 clear hHeld
 refine hK.out _ _ HX2.out (fun hHeld=>?_)
 clear hK K
 try simp only [Act.put,siT,scZ,scS]
 refine wpAnyH_cm 11 ?_;intro K hK
 go_simp
 clear hHeld
 refine hK.out _ _ HX3.out (fun hHeld=>?_)
 clear hK K
 try simp only [Act.put,siT,scZ,scS]
 refine wpAnyH_done (by kernel_rfl) ?_ _
 refine NoPanic.normal ?_
 clear hHeld f1 f2 d1 d2
 go_wp2
 go_ret
 exact ⟨rfl,w1,_,isb,HVV.out,HBd.out.trans HB1.out,rfl⟩
theorem getC_any [Gd] {B p q g n0 gs so:Nat} {s:DS} {t:PS} {w:World} {now last st:StT} {sv:Value} {left:Int} {l:List It} (hM:TM B p q g s t now last sv left w) (hTr:Tr s t st l) (hdp:st.depth<100000) (hr0:w.cell? ⟨gs,so,none⟩=some (.int .i64 st.root)) (hd0:w.cell? ⟨gs,so+1,none⟩=some (.int .i64 st.depth)) {ka:Option Addr} {kn kc:Nat} {key:List Nat} (hk:BK B w ka kn kc key) (hn0:B≤n0) (hgn:g<n0)
  (x:w.heap[n0]?=some (.cells #[.pointer (some ⟨g,0,none⟩)] 25 (0,0))∧w.heap[n0+1]?=some (.cells #[.pointer (some ⟨gs,so,none⟩)] 64 (0,0))∧w.heap[n0+2]?=some (.cells #[.slice ka kn kc] 28 (0,0))∧w.heap[n0+3]?=some (.cells #[.slice none 0 0] 28 (0,0))∧w.heap[n0+4]?=some (.cells #[.bool false] 4 (0,0))) :
  Calls Tryz.prog 36 #[.func (Fn.func 89) #[] #[.pointer (some ⟨n0,0,none⟩),.pointer (some ⟨n0+1,0,none⟩),.pointer (some ⟨n0+2,0,none⟩),.pointer (some ⟨n0+3,0,none⟩),.pointer (some ⟨n0+4,0,none⟩)]] w fun e w'=>e=.returned (.int .i64 0)∧∃ v isb,VlV B w' (valL l key) v isb∧Below n0 w w'∧w'.heap[n0+3]?=some (.cells #[v] 28 (0,0))∧w'.heap[n0+4]?=some (.cells #[.bool isb] 4 (0,0)):=by
 obtain ⟨x0,x1,x2,x3,x4⟩:=x
 have lt:∀ {k:Nat} {o:Obj} {ww:World},ww.heap[k]?=some o→k<ww.heap.size:=fun e=>(lO e)
 have b3:=aAb w (.cells #[.int .i64 0] 29)
 have xe:(w.alloc (.cells #[.int .i64 0] 29)).heap[w.heap.size]?=some (.cells #[.int .i64 0] 29 (0,0)):=heap_alloc_new w _
 have hn4:=lt x4
 obtain ⟨cs,hg,hT⟩:=hM.tv
 have yg:=(b3.block _ (lt hg)).trans hg
 have y0:=(b3.block _ (lt x0)).trans x0
 have y1:=(b3.block _ (lt x1)).trans x1
 have y2:=(b3.block _ (lt x2)).trans x2
 have y3:=(b3.block _ (lt x3)).trans x3
 have y4:=(b3.block _ (lt x4)).trans x4
 have hC:=get1_any (w:=w.alloc (.cells #[.int .i64 0] 29)) (hM.st.later b3) (nT hM.bw b3.size) hM.lf hM.dn hTr hdp ((b3.cell (p:=⟨gs,so,none⟩) (block_lt_of_cell hr0)).trans hr0) ((b3.cell (p:=⟨gs,so+1,none⟩) (block_lt_of_cell hd0)).trans hd0) (hk.later b3 hM.bw) (aAa y0) ((aAa yg).trans hT.c1) (aAa y1) (aAa y2) y3 y4 ⟨by omega,by omega,by omega,by omega⟩ ⟨by omega,by omega,by omega,by omega⟩
 refine (aB6 (w:=w) (P:=fun r' ww=>r'=0∧GtR B (w.alloc (.cells #[.int .i64 0] 29)) (valL l key) (n0+3) (n0+4) ww) (fun ww=>by rfl) (hC.mono ?_)).mono ?_
 ·rintro e9 w9 ⟨rfl,hG⟩
  refine ⟨0,rfl,⟨rfl,hG⟩,?_⟩
  obtain ⟨w1,v,isb,g1,g2,rfl⟩:=hG
  rw [heap_setCell_other _ _ _ _ (by show w.heap.size≠n0+4;omega),heap_setCell_other _ _ _ _ (by show w.heap.size≠n0+3;omega),g2.block _ (lt xe),xe]
 ·rintro e9 w9 ⟨r',w8,rfl,⟨rfl,hG⟩,rfl⟩
  obtain ⟨w1,v,isb,g1,g2,rfl⟩:=hG
  have z3:=(g2.block _ (lt y3)).trans y3
  have z4:=(g2.block _ (lt y4)).trans y4
  have ze:=(g2.block _ (lt xe)).trans xe
  have a1:Ex B [n0+3] w1 (w1.setCell ⟨n0+3,0,none⟩ v):=Ex.set (by omega)
  have z4':(w1.setCell ⟨n0+3,0,none⟩ v).heap[n0+4]?=_:=(heap_setCell_other _ _ _ _ (by show n0+4≠n0+3;omega)).trans z4
  have a2:Ex B [n0+4] (w1.setCell ⟨n0+3,0,none⟩ v) ((w1.setCell ⟨n0+3,0,none⟩ v).setCell ⟨n0+4,0,none⟩ (.bool isb)):=Ex.set (by omega)
  have ze':((w1.setCell ⟨n0+3,0,none⟩ v).setCell ⟨n0+4,0,none⟩ (.bool isb)).heap[w.heap.size]?=_:=(heap_setCell_other _ _ _ _ (by show w.heap.size≠n0+4;omega)).trans ((heap_setCell_other _ _ _ _ (by show w.heap.size≠n0+3;omega)).trans ze)
  have a3:Ex B [w.heap.size] ((w1.setCell ⟨n0+3,0,none⟩ v).setCell ⟨n0+4,0,none⟩ (.bool isb)) (((w1.setCell ⟨n0+3,0,none⟩ v).setCell ⟨n0+4,0,none⟩ (.bool isb)).setCell ⟨w.heap.size,0,none⟩ (.int .i64 0)):=Ex.set hM.bw
  refine ⟨rfl,v,isb,((g1.ft (a1.ftX z3 (by decide))).ft (a2.ftX z4' (by decide))).ft (a3.ftX ze' (by decide)),?_,?_,?_⟩
  ·have c0:Below n0 w w1:=(b3.mono (by omega)).trans (g2.mono (by have:=b3.size;omega))
   exact ((c0.setCell (p:=⟨n0+3,0,none⟩) (by show n0≤n0+3;omega) _).setCell (p:=⟨n0+4,0,none⟩) (by show n0≤n0+4;omega) _).setCell (p:=⟨w.heap.size,0,none⟩) (by show n0≤w.heap.size;omega) _
  ·rw [heap_setCell_other _ _ _ _ (by show n0+3≠w.heap.size;omega),heap_setCell_other _ _ _ _ (by show n0+3≠n0+4;omega),heap_setCell_same _ _ _ _ _ _ z3]
   rfl
  ·rw [heap_setCell_other _ _ _ _ (by show n0+4≠w.heap.size;omega),heap_setCell_same _ _ _ _ _ _ z4']
   rfl
theorem get_any' [Gd] {B p q g gs so:Nat} {s:DS} {t:PS} {w:World} {now last st:StT} {sv:Value} {left:Int} {l:List It} (hM:TM B p q g s t now last sv left w) (hTr:Tr s t st l) (hdp:st.depth<100000) (hr0:w.cell? ⟨gs,so,none⟩=some (.int .i64 st.root)) (hd0:w.cell? ⟨gs,so+1,none⟩=some (.int .i64 st.depth)) {ka:Option Addr} {kn kc:Nat} {key:List Nat} (hk:BK B w ka kn kc key) (hk0:0<kn) (hk6:kn≤64) :
  Calls Tryz.prog 56 #[.pointer (some ⟨g,0,none⟩),.pointer (some ⟨gs,so,none⟩),.slice ka kn kc] w fun e w'=>∃ v isb,e=.returned (.tuple #[v,.bool isb,.int .i64 0])∧VlV B w' (valL l key) v isb∧Below w.heap.size w w':=by
 have hmf:∀ (fn:Fn) (first cap:Array Value) (w:World),(Instr.makeFunc fn first cap).run Tryz.prog w=.ok (.func fn first cap) w:=fun _ _ _ _=>rfl
 have lt:∀ {k:Nat} {o:Obj} {ww:World},ww.heap[k]?=some o→k<ww.heap.size:=fun e=>(lO e)
 have HM:=hide hM
 have HTR:=hide hTr
 have HK:=hide hk
 have HR0:=hide hr0
 have HD0:=hide hd0
 have HGL:Hid (g<w.heap.size):=by obtain ⟨cs,hg,hT⟩:=hM.tv;exact lt hg
 have HBB:=hide (aA8 [(Obj.cells #[.pointer (some ⟨g,0,none⟩)] 25),(Obj.cells #[.pointer (some ⟨gs,so,none⟩)] 64),(Obj.cells #[.slice ka kn kc] 28),(Obj.cells #[.slice none 0 0] 28),(Obj.cells #[.bool false] 4)] w)
 have HXX:Hid ((((((w.alloc (.cells #[.pointer (some ⟨g,0,none⟩)] 25)).alloc (.cells #[.pointer (some ⟨gs,so,none⟩)] 64)).alloc (.cells #[.slice ka kn kc] 28)).alloc (.cells #[.slice none 0 0] 28)).alloc (.cells #[.bool false] 4)).heap[w.heap.size]?=some (.cells #[.pointer (some ⟨g,0,none⟩)] 25 (0,0))∧(((((w.alloc (.cells #[.pointer (some ⟨g,0,none⟩)] 25)).alloc (.cells #[.pointer (some ⟨gs,so,none⟩)] 64)).alloc (.cells #[.slice ka kn kc] 28)).alloc (.cells #[.slice none 0 0] 28)).alloc (.cells #[.bool false] 4)).heap[w.heap.size+1]?=some (.cells #[.pointer (some ⟨gs,so,none⟩)] 64 (0,0))∧(((((w.alloc (.cells #[.pointer (some ⟨g,0,none⟩)] 25)).alloc (.cells #[.pointer (some ⟨gs,so,none⟩)] 64)).alloc (.cells #[.slice ka kn kc] 28)).alloc (.cells #[.slice none 0 0] 28)).alloc (.cells #[.bool false] 4)).heap[w.heap.size+2]?=some (.cells #[.slice ka kn kc] 28 (0,0))∧(((((w.alloc (.cells #[.pointer (some ⟨g,0,none⟩)] 25)).alloc (.cells #[.pointer (some ⟨gs,so,none⟩)] 64)).alloc (.cells #[.slice ka kn kc] 28)).alloc (.cells #[.slice none 0 0] 28)).alloc (.cells #[.bool false] 4)).heap[w.heap.size+3]?=some (.cells #[.slice none 0 0] 28 (0,0))∧(((((w.alloc (.cells #[.pointer (some ⟨g,0,none⟩)] 25)).alloc (.cells #[.pointer (some ⟨gs,so,none⟩)] 64)).alloc (.cells #[.slice ka kn kc] 28)).alloc (.cells #[.slice none 0 0] 28)).alloc (.cells #[.bool false] 4)).heap[w.heap.size+4]?=some (.cells #[.bool false] 4 (0,0))):=⟨aAr [(Obj.cells #[.pointer (some ⟨g,0,none⟩)] 25),(Obj.cells #[.pointer (some ⟨gs,so,none⟩)] 64),(Obj.cells #[.slice ka kn kc] 28),(Obj.cells #[.slice none 0 0] 28),(Obj.cells #[.bool false] 4)] w 0 _ rfl,aAr [(Obj.cells #[.pointer (some ⟨g,0,none⟩)] 25),(Obj.cells #[.pointer (some ⟨gs,so,none⟩)] 64),(Obj.cells #[.slice ka kn kc] 28),(Obj.cells #[.slice none 0 0] 28),(Obj.cells #[.bool false] 4)] w 1 _ rfl,aAr [(Obj.cells #[.pointer (some ⟨g,0,none⟩)] 25),(Obj.cells #[.pointer (some ⟨gs,so,none⟩)] 64),(Obj.cells #[.slice ka kn kc] 28),(Obj.cells #[.slice none 0 0] 28),(Obj.cells #[.bool false] 4)] w 2 _ rfl,aAr [(Obj.cells #[.pointer (some ⟨g,0,none⟩)] 25),(Obj.cells #[.pointer (some ⟨gs,so,none⟩)] 64),(Obj.cells #[.slice ka kn kc] 28),(Obj.cells #[.slice none 0 0] 28),(Obj.cells #[.bool false] 4)] w 3 _ rfl,aAr [(Obj.cells #[.pointer (some ⟨g,0,none⟩)] 25),(Obj.cells #[.pointer (some ⟨gs,so,none⟩)] 64),(Obj.cells #[.slice ka kn kc] 28),(Obj.cells #[.slice none 0 0] 28),(Obj.cells #[.bool false] 4)] w 4 _ rfl⟩
 have HB1:Hid (Below w.heap.size w (((((w.alloc (.cells #[.pointer (some ⟨g,0,none⟩)] 25)).alloc (.cells #[.pointer (some ⟨gs,so,none⟩)] 64)).alloc (.cells #[.slice ka kn kc] 28)).alloc (.cells #[.slice none 0 0] 28)).alloc (.cells #[.bool false] 4))):=HBB.out.1
 have c0:(((((w.alloc (.cells #[.pointer (some ⟨g,0,none⟩)] 25)).alloc (.cells #[.pointer (some ⟨gs,so,none⟩)] 64)).alloc (.cells #[.slice ka kn kc] 28)).alloc (.cells #[.slice none 0 0] 28)).alloc (.cells #[.bool false] 4)).cell? ⟨w.heap.size,0,none⟩=some (.pointer (some ⟨g,0,none⟩)):=aAa HXX.out.1
 have c2:(((((w.alloc (.cells #[.pointer (some ⟨g,0,none⟩)] 25)).alloc (.cells #[.pointer (some ⟨gs,so,none⟩)] 64)).alloc (.cells #[.slice ka kn kc] 28)).alloc (.cells #[.slice none 0 0] 28)).alloc (.cells #[.bool false] 4)).cell? ⟨w.heap.size+2,0,none⟩=some (.slice ka kn kc):=aAa HXX.out.2.2.1
 have HBW:=hide hM.bw
 clear hM hTr hk hr0 hd0 HBB
 generalize hn0:w.heap.size=n0 at *
 generalize hW:(((((w.alloc (.cells #[.pointer (some ⟨g,0,none⟩)] 25)).alloc (.cells #[.pointer (some ⟨gs,so,none⟩)] 64)).alloc (.cells #[.slice ka kn kc] 28)).alloc (.cells #[.slice none 0 0] 28)).alloc (.cells #[.bool false] 4))=w1 at *
 have HRF:Hid (Calls Tryz.prog 15 #[.pointer (some ⟨g,0,none⟩),.slice ka kn kc] w1 fun e w'=>e=.returned (.int .i64 0)∧Below w1.heap.size w1 w'):=by
  have h1:=HM.out.later (by rw [hn0];exact HB1.out)
  obtain ⟨cs,hg,hT⟩:=h1.tv
  have hr:=aCs h1.st HM.out.lf hg hT ka kn kc
  rw [if_neg (by omega),if_neg (by omega)] at hr
  exact hr
 go_enter Tryz.func56,Tryz.ntmps56
 go_wp2_with fail
 refine HRF.out.mono ?_
 rintro e w2 ⟨rfl,hb2⟩
 have HB2:Hid (Below n0 w w2):=HB1.out.trans (hb2.mono (by have:=HB1.out.size;omega))
 have HY:Hid (w2.heap[n0]?=some (.cells #[.pointer (some ⟨g,0,none⟩)] 25 (0,0))∧w2.heap[n0+1]?=some (.cells #[.pointer (some ⟨gs,so,none⟩)] 64 (0,0))∧w2.heap[n0+2]?=some (.cells #[.slice ka kn kc] 28 (0,0))∧w2.heap[n0+3]?=some (.cells #[.slice none 0 0] 28 (0,0))∧w2.heap[n0+4]?=some (.cells #[.bool false] 4 (0,0))):=⟨(hb2.block _ (lt HXX.out.1)).trans HXX.out.1,(hb2.block _ (lt HXX.out.2.1)).trans HXX.out.2.1,(hb2.block _ (lt HXX.out.2.2.1)).trans HXX.out.2.2.1,(hb2.block _ (lt HXX.out.2.2.2.1)).trans HXX.out.2.2.2.1,(hb2.block _ (lt HXX.out.2.2.2.2)).trans HXX.out.2.2.2.2⟩
 have HB2':Hid (Below w.heap.size w w2):=by rw [hn0];exact HB2.out
 have HCC:=hide (getC_any (n0:=n0) (HM.out.later HB2'.out) HTR.out hdp ((HB2'.out.cell (p:=⟨gs,so,none⟩) (block_lt_of_cell HR0.out)).trans HR0.out) ((HB2'.out.cell (p:=⟨gs,so+1,none⟩) (block_lt_of_cell HD0.out)).trans HD0.out) (HK.out.later HB2'.out HM.out.bw) HBW.out HGL.out HY.out)
 clear hb2 c0 c2 HRF
 go_wp2_with fail
 refine HCC.out.mono ?_
 rintro e w3 ⟨rfl,v,isb,h1,h2,h3,h4⟩
 obtain ⟨va,vn,vc,hva⟩:=h1.form
 subst hva
 have HV3:=hide h1
 have HB3:Hid (Below n0 w w3):=HB2.out.trans h2
 have H3:=hide h3
 have H4:=hide h4
 have d3:w3.cell? ⟨n0+3,0,none⟩=some (.slice va vn vc):=aAa h3
 have d4:w3.cell? ⟨n0+4,0,none⟩=some (.bool isb):=aAa h4
 have f3:w3.frozen? ⟨n0+3,0,none⟩=false:=aAc h3
 have f4:w3.frozen? ⟨n0+4,0,none⟩=false:=aAc h4
 clear h1 h2 h3 h4 HCC
 have e4:(w3.setCell ⟨n0+3,0,none⟩ (.slice va vn vc)).heap[n0+4]?=some (.cells #[.bool isb] 4 (0,0)):=(heap_setCell_other _ _ _ _ (by show n0+4≠n0+3;omega)).trans H4.out
 have f5:(w3.setCell ⟨n0+3,0,none⟩ (.slice va vn vc)).frozen? ⟨n0+4,0,none⟩=false:=aAc e4
 have d5:(w3.setCell ⟨n0+3,0,none⟩ (.slice va vn vc)).cell? ⟨n0+4,0,none⟩=some (.bool isb):=aAa e4
 clear e4
 go_wp2
 go_region
 go_wp2
 have a1:Ex B [n0+3] w3 (w3.setCell ⟨n0+3,0,none⟩ (.slice va vn vc)):=Ex.set (by have:=HBW.out;omega)
 have z4:(w3.setCell ⟨n0+3,0,none⟩ (.slice va vn vc)).heap[n0+4]?=some (.cells #[.bool isb] 4 (0,0)):=(heap_setCell_other _ _ _ _ (by show n0+4≠n0+3;omega)).trans H4.out
 have a2:Ex B [n0+4] (w3.setCell ⟨n0+3,0,none⟩ (.slice va vn vc)) ((w3.setCell ⟨n0+3,0,none⟩ (.slice va vn vc)).setCell ⟨n0+4,0,none⟩ (.bool isb)):=Ex.set (by have:=HBW.out;omega)
 have z3:(w3.setCell ⟨n0+3,0,none⟩ (.slice va vn vc)).heap[n0+3]?=some (.cells #[.slice va vn vc] 28 (0,0)):=by rw [heap_setCell_same _ _ _ _ _ _ H3.out];rfl
 have z3':((w3.setCell ⟨n0+3,0,none⟩ (.slice va vn vc)).setCell ⟨n0+4,0,none⟩ (.bool isb)).drew.heap[n0+3]?=some (.cells #[.slice va vn vc] 28 (0,0)):=(heap_setCell_other _ _ _ _ (by show n0+3≠n0+4;omega)).trans z3
 have z4':((w3.setCell ⟨n0+3,0,none⟩ (.slice va vn vc)).setCell ⟨n0+4,0,none⟩ (.bool isb)).drew.heap[n0+4]?=some (.cells #[.bool isb] 4 (0,0)):=by
  show ((w3.setCell ⟨n0+3,0,none⟩ (.slice va vn vc)).setCell ⟨n0+4,0,none⟩ (.bool isb)).heap[n0+4]?=_
  rw [heap_setCell_same _ _ _ _ _ _ z4];rfl
 have HBF:Hid (Below n0 w ((w3.setCell ⟨n0+3,0,none⟩ (.slice va vn vc)).setCell ⟨n0+4,0,none⟩ (.bool isb)).drew):=((HB3.out.setCell (p:=⟨n0+3,0,none⟩) (by show n0≤n0+3;omega) _).setCell (p:=⟨n0+4,0,none⟩) (by show n0≤n0+4;omega) _).drew
 have HVF:Hid (VlV B ((w3.setCell ⟨n0+3,0,none⟩ (.slice va vn vc)).setCell ⟨n0+4,0,none⟩ (.bool isb)).drew (valL l key) (.slice va vn vc) isb):=((HV3.out.ft (a1.ftX H3.out (by decide))).ft (a2.ftX z4 (by decide))).ft (FT.of (Below.refl _ _).drew (nT HM.out.bw (by have:=HBF.out.size;exact this)))
 have c3:=aAa (i:=0) z3'
 have c4:=aAa (i:=0) z4'
 simp only [show n0+1+1+1=n0+3 from rfl,show n0+1+1+1+1=n0+4 from rfl]
 generalize ((w3.setCell ⟨n0+3,0,none⟩ (.slice va vn vc)).setCell ⟨n0+4,0,none⟩ (.bool isb)).drew=w4 at *
 refine bodyPost_ret (results_cct (v1:=.slice va vn vc) (v2:=.bool isb) rfl _ _ _ rfl rfl (by simp [go_sem,c3]) (by simp [go_sem,c4])) rfl ⟨_,isb,rfl,HVF.out,HBF.out⟩
theorem Get_ok [Gd] {B p q g:Nat} {s:DS} {t:PS} {w:World} {now last:StT} {sv:Value} {left:Int} {l:List It} (hM:TM B p q g s t now last sv left w) (hTr:Tr s t now l) (hdp:now.depth<100000) {ka:Option Addr} {kn kc:Nat} {key:List Nat} (hk:BK B w ka kn kc key) (hk0:0<kn) (hk6:kn≤64) :
  Calls Tryz.prog 28 #[.pointer (some ⟨g,0,none⟩),.slice ka kn kc] w fun e w'=>∃ v isb,e=.returned (.tuple #[v,.bool isb,.int .i64 0])∧VlV B w' (valL l key) v isb∧Below w.heap.size w w':=by
 obtain ⟨cs,hg,hT⟩:=hM.tv
 have HGT:=hide (get_any' (gs:=g) (so:=2) hM hTr hdp ((aAa hg).trans hT.n0) ((aAa hg).trans hT.n1) hk hk0 hk6)
 clear hM hTr hdp hk hg hT
 go_enter Tryz.func28,Tryz.ntmps28
 go_wp2_with fail
 refine HGT.out.mono ?_
 rintro e w1 ⟨v,isb,rfl,h1,h2⟩
 obtain ⟨va,vn,vc,hva⟩:=h1.form
 subst hva
 have H1:=hide h1
 have H2:=hide h2
 clear h1 h2
 go_wp2
 go_ret3
 exact ⟨_,isb,rfl,H1.out,H2.out⟩
structure StV (cs:Array Value) (root dp k:Int) (ps:List Nat):Prop where
 sz:cs.size=67
 c0:cs[0]?=some (.int .i64 root)
 c1:cs[1]?=some (.int .i64 dp)
 c2:cs[2]?=some (.int .i64 k)
 wd:Wd cs 3 ps
theorem StV.keys {cs:Array Value} {root dp k k':Int} {ps:List Nat} (h:StV cs root dp k ps):StV (cs.setIfInBounds 2 (.int .i64 k')) root dp k' ps:=by
 have ne:∀ i,i≠2→(cs.setIfInBounds 2 (.int .i64 k'))[i]?=cs[i]?:=fun i hi=>Array.getElem?_setIfInBounds_ne (Ne.symm hi)
 exact ⟨by rw [Array.size_setIfInBounds,h.sz],(ne 0 (by decide)).trans h.c0,(ne 1 (by decide)).trans h.c1,Array.getElem?_setIfInBounds_self_of_lt (by rw [h.sz];decide),h.wd.same fun i hi _=>ne i (by omega)⟩
theorem StV.words {cs cs':Array Value} {root dp k:Int} {ps ps':List Nat} (h:StV cs root dp k ps) (hw:Wd cs' 3 ps') (hs:Sm cs cs' 3):StV cs' root dp k ps' :=
 ⟨hs.1.trans h.sz,(hs.2 0 (by omega)).trans h.c0,(hs.2 1 (by omega)).trans h.c1,(hs.2 2 (by omega)).trans h.c2,hw⟩
theorem ST.exS [Gd] {B p q g:Nat} {s:DS} {t:PS} {w w':World} {cs:Array Value} (h:ST B p q s t w) (f:Ex B [g] w w') (hg:w.heap[g]?=some (.cells cs 57 (0,0))):ST B p q s t w':=by
 obtain ⟨h1,gs,h2⟩:=h
 refine ⟨?_,gs,f.keepX hg h2.hq (by decide),f.keepX hg h2.hs (by decide),h2.qB,h2.gB,h2.ok,h2.hG⟩
 exact h1.of_stay (fun k cs t e ht=>f.keepX hg e (by rcases ht with rfl | rfl | rfl | rfl | rfl | rfl | rfl<;>decide))
def WkR (B fb:Nat) (root dp k:Int) (ps:List Nat) (n:Nat) (pg:List Nat) (w w':World):Prop:=∃ cs',w'.heap[fb]?=some (.cells cs' 57 (0,0))∧StV cs' root dp (k+(n:Int)) (pg.foldl adP ps)∧Ex B [fb] w w'
def Bnd (lo hi:List Nat) (l:List It):Prop:=∀ x∈l,0<cmpB x.1 lo∧(hi=[]∨cmpB x.1 hi<0)
def WkC [Gd] (B p q fb:Nat) (s:DS) (t:PS) (h:Nat):Prop :=
 ∀ (w:World) (b:BT h) (cs:Array Value) (root dp k:Int) (ps:List Nat) (lo hi:List Nat) (la:Option Addr) (ln lc:Nat) (ha:Option Addr) (hn hc:Nat),
  ST B p q s t w→B≤w.heap.size→B≤fb→w.heap[fb]?=some (.cells cs 57 (0,0))→StV cs root dp k ps→OnD s t h b→ShB h b→Srt (flB h b)→((BT.id b:Int)=root∨2≤(BT.it b).length)→0≤k→k+((flB h b).length:Int)≤1000000→BK B w la ln lc lo→BK B w ha hn hc hi→lo.length=ln→hi.length=hn→Bnd lo hi (flB h b) →
  Calls Tryz.prog 60 #[.pointer (some ⟨fb,0,none⟩),.pointer (some ⟨q,0,none⟩),.int .i64 (BT.id b:Int),.slice la ln lc,.slice ha hn hc] w fun e w'=>e=.returned (.int .i64 ((h:Int)+1))∧WkR B fb root dp k ps (flB h b).length (pgB h b) w w'
theorem walk_leaf [Gd] {B p q fb:Nat} {s:DS} {t:PS} (hlf:s.life=t.life) (hdn:s.down=false) (hsn:s.n≤4096):WkC B p q fb s t 0:=by
 intro w b cs root dp k ps lo hi la ln lc ha hn hc hST hB hBf hfb hsv hon hsh hsr hro hk0 hk1 hlo hhi hln hhn hbd
 obtain ⟨hpg,hit⟩:=hon
 have hkk:k+(b.2.length:Int)≤1000000:=hk1
 show Calls Tryz.prog 60 #[.pointer (some ⟨fb,0,none⟩),.pointer (some ⟨q,0,none⟩),.int .i64 (b.1:Int),.slice la ln lc,.slice ha hn hc] w fun e w'=>e=.returned (.int .i64 1)∧WkR B fb root dp k ps b.2.length [b.1] w w'
 have HLD:=hide (aFx b.1 hST hB hlf hpg.lt (by rw [hpg.of];decide) hdn b.2 hpg.pg hit.n1 hit.n4 hit.ok hit.so hpg.ln hpg.bt)
 have HST:=hide hST
 have HIT:=hide hit
 have hl4:=hit.n4
 have hl1:=hit.n1
 have HB:=hide hB
 have HFB:=hide hfb
 have HSV:=hide hsv
 have HBF:=hide hBf
 have hfl:=(lO hfb)
 have HLO:=hide hlo
 have HHI:=hide hhi
 have HID:Hid (b.1<4096):=Nat.lt_of_lt_of_le hpg.lt hsn
 have HBI:Hid (∀ x∈b.2,0<cmpB x.1 lo∧(hi=[]∨cmpB x.1 hi<0)):=fun x hx=>hbd x (hx)
 clear hST hfb hsv hpg hit hlo hhi hB hBf hsn hlf hdn hbd hsh hsr hk1
 generalize hl:b.2=l at *
 generalize hLL:l.length=L at *
 go_enter Tryz.func60,Tryz.ntmps60
 go_wp2_with fail
 refine HLD.out.mono ?_
 rintro e w1 ⟨v1,rfl,⟨gl,gi,rfl,z1,z2,z3,z4⟩,hb1⟩
 rw [hLL] at z3
 have HIO:=hide (aAp z3)
 unfold lfP at HIO
 have HZ3:=hide z3
 have HB1:=hide hb1
 have HBw1:Hid (B≤w1.heap.size):=nT HB.out hb1.size
 obtain ⟨kf,vf,hg1,hg2⟩:=z4
 rw [hLL] at hg1
 have HG1:=hide hg1
 have HG2:=hide hg2
 have HFB1:=hide ((hb1.block fb hfl).trans HFB.out)
 have r0:w1.cell? ⟨fb,0,none⟩=some (.int .i64 root):=(aAa HFB1.out).trans HSV.out.c0
 have HF1:=hide (FT.of hb1 HB.out)
 clear z3 hb1 HLD hg1 hg2
 go_wp2_with fail
 refine HIO.out.mono ?_
 rintro e w1' ⟨rfl,rfl⟩
 go_upto_region 3 with fail
 go_cut [] from 26 to 37 (fun wx=>wx=w1')
 case first =>
  by_cases hrt:(b.1:Int)=root
  ·have drt:((b.1:Int) == root)=true:=by simp;exact hrt
   subst hrt
   go_wp2_with fail
   refine (aA3 _).mono ?_
   rintro e w2 ⟨rfl,rfl⟩
   go_wp2
   go_meet
   rfl
  ·have drt:((b.1:Int) == root)=false:=by simp;exact hrt
   have x2:(2:Int)≤(L:Int):=by
    rcases hro with h9 | h9
    ·exact absurd h9 hrt
    ·have h9:2≤b.2.length:=h9
     rw [hl,hLL] at h9
     omega
   go_wp2_with fail
   refine (aA3 _).mono ?_
   rintro e w2 ⟨rfl,rfl⟩
   go_wp2
   go_meet
   rfl
 case rest =>
  subst hcut
  obtain ⟨x0,hx0⟩:∃ x,l[0]?=some x:=⟨_,gE (by omega)⟩
  obtain ⟨x9,hx9⟩:∃ x,l[L-1]?=some x:=⟨_,gE (by omega)⟩
  obtain ⟨ka0,kc0,hk0,hb0⟩:=(HG2.out 0 x0 hx0).1
  obtain ⟨ka9,kc9,hk9,hb9⟩:=(HG2.out (L-1) x9 hx9).1
  have y0:wc.cell? ⟨gi,0,none⟩=some (.slice ka0 x0.1.length kc0):=by rw [aAa HG1.out,List.getElem?_toArray,←hk0];exact aAt kf vf 0 L (by omega)
  have y9:wc.cell? ⟨gi,(L-1)*2,none⟩=some (.slice ka9 x9.1.length kc9):=by rw [aAa HG1.out,List.getElem?_toArray,←hk9];exact aAt kf vf (L-1) L (by omega)
  have HC0:=hide (aBl ka0 la x0.1.length kc0 ln lc x0.1 lo wc hb0.1 (HLO.out.ft HF1.out).1)
  have HC9:=hide (aBl ka9 ha x9.1.length kc9 hn hc x9.1 hi wc hb9.1 (HHI.out.ft HF1.out).1)
  have xc0:(0:Int)<cmpB x0.1 lo:=(HBI.out x0 (mG hx0)).1
  have HX9:=hide (HBI.out x9 (mG hx9)).2
  clear hx0 hx9 hb0 hb9 hk0 hk9
  generalize cmpB x0.1 lo=cc0 at *
  generalize cmpB x9.1 hi=cc9 at *
  generalize x0.1.length=n00 at *
  generalize x9.1.length=n99 at *
  have xL0:(0:Int)<(L:Int):=by omega
  have xL1:((L:Int)-1)=((L-1:Nat):Int):=by omega
  have xL2:((L-1:Nat):Int)<(L:Int):=by omega
  go_wp2_with fail
  refine HC0.out.mono ?_
  rintro e w2 ⟨rfl,rfl⟩
  go_wp2_with fail
  refine (aA3 _).mono ?_
  rintro e w3 ⟨rfl,rfl⟩
  go_upto_region 5 with fail
  go_cut [] from 46 to 61 (fun wx=>wx=w3)
  case first =>
   by_cases hhe:hn=0
   ·subst hhe
    go_wp2_with fail
    refine (aA3 _).mono ?_
    rintro e w4 ⟨rfl,rfl⟩
    go_wp2
    go_meet
    rfl
   ·have xh:¬ (hn:Int)=0:=by omega
    have dh:((hn:Int) == 0)=false:=by simp;omega
    have xc9:cc9<0:=by
     rcases HX9.out with h9 | h9
     ·rw [h9] at hhn
      simp at hhn
      omega
     ·exact h9
    go_wp2_with fail
    refine HC9.out.mono ?_
    rintro e w4 ⟨rfl,rfl⟩
    go_wp2_with fail
    refine (aA3 _).mono ?_
    rintro e w5 ⟨rfl,rfl⟩
    go_wp2
    go_meet
    rfl
  case rest =>
   subst hcut
   have r2:wc.cell? ⟨fb,2,none⟩=some (.int .i64 k):=(aAa HFB1.out).trans HSV.out.c2
   have f2:wc.frozen? ⟨fb,2,none⟩=false:=aAc HFB1.out
   have HFB2:Hid ((wc.setCell ⟨fb,2,none⟩ (.int .i64 (k+(L:Int)))).heap[fb]?=some (.cells (cs.setIfInBounds 2 (.int .i64 (k+(L:Int)))) 57 (0,0))):=heap_setCell_same _ _ _ _ _ _ HFB1.out
   have HSV2:=hide (HSV.out.keys (k':=k+(L:Int)))
   have HEX2:Hid (Ex B [fb] wc (wc.setCell ⟨fb,2,none⟩ (.int .i64 (k+(L:Int))))):=Ex.set HBF.out
   have HAD:=hide (add_ok (B:=B) (o:=3) HBF.out HFB2.out HSV2.out.wd HID.out)
   clear y0 y9 r0 HC0 HC9 HX9
   go_wp2_with fail
   refine HAD.out.mono ?_
   rintro e w4 ⟨rfl,cs4,p1,p2,p3,p4⟩
   have HFB4:=hide p1
   have HSV4:=hide (HSV2.out.words p2 p3)
   have HEX4:=hide (HEX2.out.trans p4)
   have HEXw:Hid (Ex B [fb] w w4):=⟨(HB1.out.mono HB.out).trans HEX4.out.1,fun k9 h8 h9=>by rw [HEX4.out.2 k9 (Nat.lt_of_lt_of_le h8 HB1.out.size) h9,HB1.out.block k9 h8]⟩
   have ta:=aAm (.pointer (some ⟨gl,0,none⟩)) w4
   clear p1 p2 p3 p4 r2 f2 HAD
   go_wp2
   go_ret
   exact ⟨rfl,cs4,HFB4.out,HSV4.out,HEXw.out⟩
end Go.Proofs.YtohgmapjokaibaaGreat
