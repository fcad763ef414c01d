import Derived.Test.YtfobcelkmopohaaGreatZ48
import Derived.Test.YtfobcelkmopohaaGreatZ47
set_option maxRecDepth 100000
set_option maxHeartbeats 16000000
set_option linter.unusedVariables false
namespace Go.Proofs.YtfobcelkmopohaaGreat
open Go.RowKit
def KX [Gd] (B p q g N c u:Nat) (l:List It) (W w:World):Prop:=∃ last s t now left,TI B p q g N c u last l s t now left W w
section
variable [Gd] {B p q g N c u:Nat} {l:List It} {W w w':World}
theorem KX.bw (h:KX B p q g N c u l W w):B<=w.heap.size:=by
 obtain ⟨last,s,t,now,left,h⟩:=h
 exact h.tm.bw
theorem KX.be (h:KX B p q g N c u l W w):Below B W w:=by
 obtain ⟨last,s,t,now,left,h⟩:=h
 exact h.be
theorem KX.blk (h:KX B p q g N c u l W w):∃ cs,w.heap[g]?=some (.cells cs 58 (0,0)):=by
 obtain ⟨last,s,t,now,left,h⟩:=h
 obtain ⟨cs,h1,_⟩:=h.tm.tv
 exact ⟨cs,h1⟩
theorem KX.Len (h:KX B p q g N c u l W w):Calls Tryz.prog 9 #[.pointer (some ⟨g,0,none⟩)] w fun e w'=>e=.returned (.int .i64 (l.length:Int))/\w'=w:=by
 obtain ⟨last,s,t,now,left,h⟩:=h
 have:=Len_any h.tm
 rwa [h.tr.keys] at this
end
def ByK (w w':World):Prop:=∀ (k:Nat) (cs:Array Value) (fz:Nat×Nat),w.heap[k]?=some (Obj.cells cs 5 fz)->w'.heap[k]?=some (Obj.cells cs 5 fz)
theorem ST.fp [Gd] {B p q:Nat} {s:DS} {t:PS} {w:World} (h:ST B p q s t w):∃ F:Nat->Prop,(∀ k,F k->FBk w k)/\(∀ k,Gd.s k->¬ F k)/\∀ (w':World) (S':Nat->Prop),(∀ k,F k->w'.heap[k]?=w.heap[k]?)->ByK w w'->(∀ k,S' k->FBk w' k/\¬ F k)->@ST ⟨S'⟩ B p q s t w':=by
 obtain ⟨⟨gb,vo,kv,ov,wv,⟨dp,dg,dw,dk,db,do_,da,dpB,dgB,dok,dG⟩⟩,gs,⟨vq,vs,vqB,vgB,vok,vG⟩⟩:=h
 refine ⟨fun k=>k=p\/k=gb\/vo.ownBlock=some k\/(∃ i,i<s.n/\(ov i).ownBlock=some k)\/k=q\/k=gs,?_,?_,?_⟩
 ·intro k hk
  rcases hk with rfl | rfl | hk | ⟨i,hi,hk⟩ | rfl | rfl
  ·exact ⟨_,_,dp,by unfold DTy;decide⟩
  ·exact ⟨_,_,dg,by unfold DTy;decide⟩
  ·obtain ⟨_,cur,hc⟩:=aAr dw hk
   exact ⟨_,_,hc,by unfold DTy;decide⟩
  ·obtain ⟨_,cur,hc⟩:=aAr (do_ i hi) hk
   exact ⟨_,_,hc,by unfold DTy;decide⟩
  ·exact ⟨_,_,vq,by unfold DTy;decide⟩
  ·exact ⟨_,_,vs,by unfold DTy;decide⟩
 ·intro k hs hk
  obtain ⟨_,a1,a2,a3,a4⟩:=dG k hs
  obtain ⟨a5,a6⟩:=vG k hs
  rcases hk with e | e | e | ⟨i,hi,e⟩ | e | e
  ·exact a1 e
  ·exact a2 e
  ·exact a3 e
  ·exact a4 i hi e
  ·exact a5 e
  ·exact a6 e
 ·intro w' S' hF hB hS
  letI:Gd:=⟨S'⟩
  refine ⟨⟨gb,vo,kv,ov,wv,?_⟩,gs,?_⟩
  ·exact ⟨(hF p (Or.inl rfl)).trans dp,(hF gb (Or.inr (Or.inl rfl))).trans dg,aAj dw fun k cs hk e=>(hF k (Or.inr (Or.inr (Or.inl hk)))).trans e,fun i hi=>aAj (dk i hi) fun k cs _ e=>hB k cs _ e,fun i hi=>aAj (db i hi) fun k cs _ e=>hB k cs _ e,
    fun i hi=>aAj (do_ i hi) fun k cs hk e=>(hF k (Or.inr (Or.inr (Or.inr (Or.inl ⟨i,hi,hk⟩))))).trans e,da,dpB,dgB,dok,fun k hk=>⟨(hS k hk).1,fun e=>(hS k hk).2 (Or.inl e),fun e=>(hS k hk).2 (Or.inr (Or.inl e)),fun e=>(hS k hk).2 (Or.inr (Or.inr (Or.inl e))),fun i hi e=>(hS k hk).2 (Or.inr (Or.inr (Or.inr (Or.inl ⟨i,hi,e⟩))))⟩⟩
  ·exact ⟨(hF q (Or.inr (Or.inr (Or.inr (Or.inr (Or.inl rfl)))))).trans vq,(hF gs (Or.inr (Or.inr (Or.inr (Or.inr (Or.inr rfl)))))).trans vs,vqB,vgB,vok,fun k hk=>⟨fun e=>(hS k hk).2 (Or.inr (Or.inr (Or.inr (Or.inr (Or.inl e))))),fun e=>(hS k hk).2 (Or.inr (Or.inr (Or.inr (Or.inr (Or.inr e)))))⟩⟩
def PutOk (P:DS->StT->Prop):Prop:=∀ (s:DS) (t:PS) (s':DS) (t':PS) (L:List Nat) (now now':StT),P s now->Gw s t s' t' L->(t.st.getD 0 0=0/\t.st.getD 1 0=0)->P s' now'
def putV (l:List It) (k v:List Nat):List It:=if k=[] then l else putL l (k,v)
def delV (l:List It) (k:List Nat):List It:=if k=[] then l else delL l k
theorem putV_len (l:List It) (k v:List Nat):(putV l k v).length<=l.length+1:=by
 unfold putV
 split
 ·omega
 ·rw [aHt];split<;>omega
theorem delV_len (l:List It) (k:List Nat):(delV l k).length<=l.length:=by
 unfold delV
 split
 ·omega
 ·exact List.length_filter_le _ _
theorem Tr.has2 {s:DS} {t:PS} {st:StT} {l:List It} (h:Tr s t st l) {i:Nat} (hi:hsP st.pgs i=true):t.st.getD i 0=2:=by
 rcases h with ⟨_,_,_,_,r5⟩ | ⟨h,b,q1,q2,q3,q4,q5,q6,q7,q8,q9⟩
 ·rw [r5.2.2.2 i] at hi;simp at hi
 ·rw [q9.2.2.2 i] at hi
  exact (q6.held i (of_decide_eq_true hi)).1
theorem anew_free {s s2:DS} {t:PS} {st st':StT} {l:List It} {num root:Nat} (h:Tr s t st l) (e:SameT st st') (hp:PgN s2 st'.pgs) (hn:s2.n=s.n) (hsn:t.st.length=s.n) (hd:t.st.getD 0 0=0/\t.st.getD 1 0=0) :
  cntF t.st<=cntF (anew s2 num root st'.pgs).st/\Full3 (anew s2 num root st'.pgs):=by
 obtain ⟨a1,a2,a3,a4,a5⟩:=aDq (num:=num) (root:=root) hp
 refine ⟨cnt_mono _ _ (by rw [a1,hn,hsn]) fun i hi=>?_,fun i h2 hi=>?_⟩
 ·have hl:=(lL hi)
  have h1:t.st.getD i 0=1:=by rw [List.getD_eq_getElem?_getD,hi];rfl
  have hlt:i<s2.n:=by omega
  have hh:hsP st'.pgs i=false:=by
   cases q:hsP st'.pgs i with
   | false=>rfl
   | true =>
    rw [e.hs] at q
    have:=h.has2 q
    omega
  have h3:=a5 i hlt (fun _=>hh)
  rw [if_neg (by
   intro q
   have:i=0\/i=1:=by omega
   rcases this with rfl | rfl<;>omega)] at h3
  rw [List.getD_eq_getElem?_getD,gE (by rw [a1];exact hlt)] at h3
  rw [gE (by rw [a1];exact hlt)]
  exact congrArg some h3
 ·have hlt:i<s2.n:=by rw [<-a1];exact hi
  cases q:hsP st'.pgs i with
  | true =>
   by_cases q4:i<4096
   ·exact Or.inr (Or.inl (a4 i q4 q))
   ·refine Or.inl ?_
    rw [a5 i hlt (fun q5=>absurd q5 q4),if_neg (by omega)]
  | false =>
   refine Or.inl ?_
   rw [a5 i hlt (fun _=>q),if_neg (by omega)]
def KP [Gd] (B p q g N c u:Nat) (l:List It) (P:DS->StT->Prop) (W w:World):Prop:=∃ last s t now left,TI B p q g N c u last l s t now left W w/\P s now
section
variable [Gd] {B p q g N c u:Nat} {l:List It} {P:DS->StT->Prop} {W w w':World}
theorem KP.kx (h:KP B p q g N c u l P W w):KX B p q g N c u l W w:=by
 obtain ⟨last,s,t,now,left,h,_⟩:=h
 exact ⟨last,s,t,now,left,h⟩
theorem KP.later (h:KP B p q g N c u l P W w) (hb:Below w.heap.size w w'):KP B p q g N c u l P W w':=by
 obtain ⟨last,s,t,now,left,h,hP⟩:=h
 exact ⟨last,s,t,now,left,h.later hb,hP⟩
theorem KP.of (h:KP B p q g N c u l P W w) {Q:DS->StT->Prop} (hQ:∀ s now,P s now->Q s now):KP B p q g N c u l Q W w:=by
 obtain ⟨last,s,t,now,left,h,hP⟩:=h
 exact ⟨last,s,t,now,left,h,hQ _ _ hP⟩
theorem KP.up (h:KP B p q g N c u l P W w) {u':Nat} (hu:u<=u'):KP B p q g N c u' l P W w:=by
 obtain ⟨last,s,t,now,left,h,hP⟩:=h
 exact ⟨last,s,t,now,left,h.more hu,hP⟩
theorem KP.fp (h:KP B p q g N c u l P W w):∃ F:Nat->Prop,(∀ k,F k->FBk w k)/\(∀ k,Gd.s k->¬ F k)/\∀ (w':World) (S':Nat->Prop),(∀ k,F k->w'.heap[k]?=w.heap[k]?)->ByK w w'->w'.heap[g]?=w.heap[g]?->Below B w w'->(∀ k,S' k->FBk w' k/\¬ F k)->@KP ⟨S'⟩ B p q g N c u l P W w':=by
 obtain ⟨last,s,t,now,left,⟨⟨m1,m2,m3,⟨cg,k1,k2⟩,m5,m6,m7,m8,m9,m10⟩,t1,t2,t3,t4,t5,t6,t7,t8⟩,hP⟩:=h
 obtain ⟨F,h1,h2,h3⟩:=m1.fp
 refine ⟨F,h1,h2,fun w' S' hF hB hg hb hS=>⟨last,s,t,now,left,?_,hP⟩⟩
 have h4:=h3 w' S' hF hB hS
 letI:Gd:=⟨S'⟩
 exact ⟨⟨h4,nT m2 hb.size,m3,⟨cg,hg.trans k1,k2⟩,m5,m6,m7,m8,m9,m10⟩,t1,t2,t3,t4,t5,t6,t7,t8.trans hb⟩
theorem KP.put (h:KP B p q g N c u l P W w) (hPP:PutOk P) (hu:u+20<=N) (hu2:u<=3000) (hl:l.length<90) (k v:List Nat) {ka va:Option Addr} {kn kc vn vc:Nat} (hkb:∀ c∈k,c<256) (hvb:∀ c∈v,c<256) (hkn:k.length=kn) (hvn:v.length=vn) (hk6:kn<=64) (hv2:vn<=200) (hk:BK B w ka kn kc k) (hv:BK B w va vn vc v) :
  Calls Tryz.prog 8 #[.pointer (some ⟨g,0,none⟩),.slice ka kn kc,.slice va vn vc] w fun e w'=>e=.returned (.int .i64 (if kn=0 then 1 else 0))/\KP B p q g N c (u+9) (putV l k v) P W w'/\ChF B g w w':=by
 unfold putV
 by_cases c0:k=[]
 ·have hk0:kn=0:=by rw [<-hkn,c0];rfl
  have h0:=h
  have hB:=h.kx.bw
  obtain ⟨last,s,t,now,left,h,hP⟩:=h
  rw [if_pos c0]
  refine (Put_arg h.tm ka va kn kc vn vc (Or.inl hk0)).mono ?_
  rintro e w' ⟨rfl,hb⟩
  refine ⟨by rw [if_pos hk0,if_pos hk0],(h0.later hb).up (by omega),ChF.of hb hB⟩
 ·have hk0:kn≠0:=by
   intro q
   rw [q] at hkn
   exact c0 (List.eq_nil_of_length_eq_zero hkn)
  obtain ⟨last,s,t,now,left,h,hP⟩:=h
  have hd:=h.dep
  have h8:=h.mu
  have h9:=h.cu
  have h7:=aHt l (k,v)
  rw [if_neg c0]
  refine (Put_ok trivial h.tm h.tr (by omega) (k,v) ⟨c0,by show k.length<=64;omega,by show v.length<=1800;omega,hkb,hvb⟩ hkn hvn hk hv (by omega) (by omega) (by omega)).mono ?_
  rintro e w' ⟨rfl,s',t',now',L,k1,k2,k3,k4,k5⟩
  have h5:=k1.m
  have h6:=k1.cnt
  refine ⟨by rw [if_neg hk0],⟨last,s',t',now',_,⟨k2,k3,?_,by rw [k1.n];exact h.sn,by omega,by omega,by rw [k1.num];exact h.nm,h.f3.gw k1,h.be.trans k5.1⟩,hPP _ _ _ _ _ _ _ hP k1 h.tm.hd⟩,k5⟩
  rw [h7];split<;>omega
theorem KP.del (h:KP B p q g N c u l P W w) (hPP:PutOk P) (hu:u+20<=N) (hu2:u<=3000) (k:List Nat) {ka:Option Addr} {kn kc:Nat} (hkn:k.length=kn) (hk6:kn<=64) (hk:BK B w ka kn kc k) :
  Calls Tryz.prog 5 #[.pointer (some ⟨g,0,none⟩),.slice ka kn kc] w fun e w'=>e=.returned (.tuple #[.bool (if kn=0 then false else hasI l k),.int .i64 (if kn=0 then 1 else 0)])/\KP B p q g N c (u+9) (delV l k) P W w'/\ChF B g w w':=by
 unfold delV
 by_cases c0:k=[]
 ·have hk0:kn=0:=by rw [<-hkn,c0];rfl
  have h0:=h
  have hB:=h.kx.bw
  obtain ⟨last,s,t,now,left,h,hP⟩:=h
  rw [if_pos c0]
  refine (Delete_arg h.tm ka kn kc (Or.inl hk0)).mono ?_
  rintro e w' ⟨rfl,hb⟩
  refine ⟨by rw [if_pos hk0,if_pos hk0,if_pos hk0],(h0.later hb).up (by omega),ChF.of hb hB⟩
 ·have hk0:kn≠0:=by
   intro q
   rw [q] at hkn
   exact c0 (List.eq_nil_of_length_eq_zero hkn)
  obtain ⟨last,s,t,now,left,h,hP⟩:=h
  have hd:=h.dep
  have h8:=h.mu
  have h9:=h.cu
  have hll:=h.ln
  have h7:(delL l k).length<=l.length:=List.length_filter_le _ _
  rw [if_neg c0]
  refine (Delete_ok trivial h.tm h.tr (by omega) k hkn (by omega) hk6 hk (by omega) (by omega) (by omega)).mono ?_
  rintro e w' ⟨rfl,s',t',now',left',L,k1,k2,k3,k4,k5⟩
  have h5:=k1.m
  have h6:=k1.cnt
  exact ⟨by rw [if_neg hk0,if_neg hk0],⟨last,s',t',now',left',⟨k2,k3,by omega,by rw [k1.n];exact h.sn,by omega,by omega,by rw [k1.num];exact h.nm,h.f3.gw k1,h.be.trans k5.1⟩,hPP _ _ _ _ _ _ _ hP k1 h.tm.hd⟩,k5⟩
theorem KP.cmt (h:KP B p q g N c u l P W w) {Q:DS->StT->Prop} (hN:3<=N) (hc:c<900) (hQ:∀ (s:DS) (t:PS) (now:StT) (s':DS) (t':PS),P s now->Cmt s t now.pgs now.root.toNat s' t'->t.num=c->(now.root.toNat<s.n/\now.root.toNat≠1)->3<=s.n->s.n<=4096->Q s' now) :
  Calls Tryz.prog 6 #[.pointer (some ⟨g,0,none⟩)] w fun e w'=>e=.returned (.int .i64 0)/\KP B p q g N (c+1) u l Q W w'/\ChF B g w w':=by
 obtain ⟨last,s,t,now,left,h,hP⟩:=h
 have hsl:=h.tm.sl
 have hsn:=h.tm.sn
 have hn:=h.sn
 have hrk:=h.tr.rootk h.tm.hd (by omega)
 refine (Commit_ok h.tm h.tr (SnV.nil w) (by omega) (by rw [h.nm];omega)).mono ?_
 rintro e w' ⟨rfl,s',t',k1,k2,k3⟩
 have k1:Cmt s t now.pgs now.root.toNat s' t':=k1
 have h9:=k1.more
 have h8:=h.cu
 exact ⟨rfl,⟨now,s',t',now,_,⟨k2,h.tr.cmt k1 h.tm.hd (fun i _ hi=>hi),h.ln,by rw [k1.n];exact h.sn,by rw [k1.m];exact Nat.zero_le _,by omega,by rw [k1.num,h.nm],h.f3.cmt k1,h.be.trans k3.1⟩,hQ _ _ _ _ _ hP k1 h.nm ⟨hrk.1,hrk.2.1⟩ (by omega) (by omega)⟩,k3⟩
theorem KP.num (h:KP B p q g N c u l P W w):Calls Tryz.prog 10 #[.pointer (some ⟨g,0,none⟩)] w fun e w'=>e=.returned (.int .i64 (c:Int))/\w'=w:=by
 obtain ⟨last,s,t,now,left,h,hP⟩:=h
 have:=aHi h.tm
 rwa [h.nm] at this
theorem KX.all (h:KX B p q g N c u l W w) :
  Calls Tryz.prog 11 #[.pointer (some ⟨g,0,none⟩),.slice none 0 0,.slice none 0 0,.int .i64 999] w fun e w'=>∃ fv,e=.returned (.tuple #[fv,.int .i64 0])/\PRW B w.heap.size w' fv l/\Below w.heap.size w w':=by
 obtain ⟨last,s,t,now,left,h⟩:=h
 have hd:=h.dep
 have h7:=h.ln
 have:=Range_ok (most:=999) h.tm h.tr (by omega) (lo:=[]) (hi:=[]) rfl rfl (BK.nil _ _) (BK.nil _ _) (by decide) (by decide) (by decide) (by decide)
 rw [rng_all (by omega)] at this
 exact this
theorem KX.chk (h:KX B p q g N c u l W w):Calls Tryz.prog 14 #[.pointer (some ⟨g,0,none⟩)] w fun e w'=>e=.returned (.int .i64 0)/\Below w.heap.size w w':=by
 obtain ⟨last,s,t,now,left,h⟩:=h
 have hd:=h.dep
 have h7:=h.ln
 exact Check_ok h.tm h.tr (by omega) (by omega)
end
def PA (c k:Nat) (s:DS) (now:StT):Prop:=s.life<=(k:Int)/\∃ r,HdK s c r
def PC (c k:Nat) (s:DS) (now:StT):Prop:=s.life<=(k:Int)/\HdK s c now.root.toNat/\s.m=0
def PT (s:DS) (now:StT):Prop:=True
theorem PA.put (c k:Nat):PutOk (PA c k):=by
 rintro s t s' t' L now now' ⟨h1,r,h2⟩ g hd
 exact ⟨by rw [g.life];exact h1,r,h2.gw g hd⟩
theorem PT.put:PutOk PT:=fun _ _ _ _ _ _ _ _ _ _=>trivial
theorem PA.cmt {c k:Nat} (hc:c<900) (s:DS) (t:PS) (now:StT) (s':DS) (t':PS) (h:PA c k s now) (e:Cmt s t now.pgs now.root.toNat s' t') (hn:t.num=c) (hr:now.root.toNat<s.n/\now.root.toNat≠1) (h3:3<=s.n) (h4:s.n<=4096):PC (c+1) k s' now:=by
 obtain ⟨h1,r,h2⟩:=h
 exact ⟨by rw [e.life];exact h1,h2.cmt e hn hr.1 hr.2 (by omega) h4 (by omega),e.m⟩
theorem PC.pa {c k k':Nat} (hk:k<=k') (s:DS) (now:StT) (h:PC c k s now):PA c k' s now:=⟨Int.le_trans h.1 (by omega),_,h.2.1⟩
theorem PA.pa {c k k':Nat} (hk:k<=k') (s:DS) (now:StT) (h:PA c k s now):PA c k' s now:=⟨Int.le_trans h.1 (by omega),h.2⟩
theorem again_ok [Gd] {B p q g N c u k:Nat} {l:List It} {W w:World} (h:KP B p q g N c u l (PC c k) W w) (hN:3<=N) (hN4:N<=4096) (hc:c<900) (hk:k<900) (af:Int) (kp:Nat) (tn cu:Int) (hkp:kp<18446744073709551616) :
  Calls Tryz.prog 7 #[.pointer (some ⟨p,0,none⟩),.pointer (some ⟨g,0,none⟩),.agg #[.int .i64 af,.int .u64 (kp:Int),.int .i64 tn,.int .i64 cu]] w fun e w'=>∃ q' g',e=.returned (.pointer (some ⟨g',0,none⟩))/\w.heap.size<=g'/\KP B p q' g' N c u l (PA c (k+1)) W w'/\ChF B g w w':=by
 have kc9:=fun (w:World) (C:Array Value) (n c:Nat)=>Lib.run_convert_bytes_const (P:=Tryz.prog) w 27 5 C n c Tryz.underlying27 Tryz.underlying5
 have lt:∀ {k:Nat} {o:Obj} {ww:World},ww.heap[k]?=some o->k<ww.heap.size:=fun e=>(lO e)
 obtain ⟨last,s,t,now,left,hT,hlf,hhd,hm⟩:=h
 obtain ⟨cg,hg,hTV⟩:=hT.tm.tv
 have HBX:=zH (aAb w (.cells #[.int .i64 af,.int .u64 (kp:Int),.int .i64 tn,.int .i64 cu] 30))
 have xb:(w.alloc (.cells #[.int .i64 af,.int .u64 (kp:Int),.int .i64 tn,.int .i64 cu] 30)).heap[w.heap.size]?=some (.cells #[.int .i64 af,.int .u64 (kp:Int),.int .i64 tn,.int .i64 cu] 30 (0,0)):=heap_alloc_new w _
 have y0:(w.alloc (.cells #[.int .i64 af,.int .u64 (kp:Int),.int .i64 tn,.int .i64 cu] 30)).cell? ⟨w.heap.size,0,none⟩=some (.int .i64 af):=aAa xb
 have y1:(w.alloc (.cells #[.int .i64 af,.int .u64 (kp:Int),.int .i64 tn,.int .i64 cu] 30)).cell? ⟨w.heap.size,1,none⟩=some (.int .u64 (kp:Int)):=aAa xb
 have y2:(w.alloc (.cells #[.int .i64 af,.int .u64 (kp:Int),.int .i64 tn,.int .i64 cu] 30)).cell? ⟨w.heap.size,2,none⟩=some (.int .i64 tn):=aAa xb
 have y3:(w.alloc (.cells #[.int .i64 af,.int .u64 (kp:Int),.int .i64 tn,.int .i64 cu] 30)).cell? ⟨w.heap.size,3,none⟩=some (.int .i64 cu):=aAa xb
 have HT1:=zH (hT.later HBX.o)
 have HG1:=zH ((HBX.o.block g (lt hg)).trans hg)
 have HTV:=zH hTV
 have HT:=zH hT
 have HHD:=zH hhd
 have HLF:=zH hlf
 have HBW:=zH hT.tm.bw
 obtain ⟨lc1,lc2,lc3,lc4,lc5,lc6,lc7⟩:=lost_calm (keep:=kp) (torn:=tn) (cut:=cu) hm hT.tm.dn
 have HLC:=zH (And.intro lc1 (And.intro lc2 (And.intro lc3 (And.intro lc4 (And.intro lc5 (And.intro lc6 lc7))))))
 have HCU:=zH (cut_any B p s af kp tn cu _ HT1.o.tm.st.1 HT1.o.tm.bw hkp (by have:=hlf;omega))
 generalize hs1:s.cutS kp tn cu=s1 at *
 generalize hs2:s1.restart=s2 at *
 have HS2:=zH hs2
 clear hT hg hTV hlf hhd xb lc1 lc2 lc3 lc4 lc5 lc6 lc7 hs1 hs2
 generalize hn0:w.heap.size=n0 at *
 generalize hw0:w.alloc (.cells #[.int .i64 af,.int .u64 (kp:Int),.int .i64 tn,.int .i64 cu] 30)=w0 at *
 go_enter Tryz.func7,Tryz.ntmps7
 go_wp2_with fail
 refine HCU.o.mono ?_
 rintro e w1 ⟨rfl,hD1,hF1⟩
 have HST1:=zH (HT1.o.tm.st.cut hD1 hF1)
 have HG2:=zH (hF1.stay _ _ _ _ HG1.o (by decide) (by decide) (by decide) (by decide))
 have HF1:=zH hF1
 have HB1:Hid (B<=w1.heap.size):=nT HT1.o.tm.bw hF1.bel.size
 have hlf1:s1.life≠t.life:=by
  have h1:=HLC.o.2.2.2.2.2.2
  have h2:=HT.o.tm.lf
  omega
 have HLF1:=zH hlf1
 clear hD1 hF1 HCU hlf1
 have HGD:=zH (fun (ww:World) (hb:Below w1.heap.size w1 ww) (ka:Option Addr) (kn kc:Nat)=>Get_dead (HST1.o.later hb) HLF1.o ((hb.block g (lt HG2.o)).trans HG2.o) HTV.o ka kn kc)
 have HDD:=zH (fun (ww:World) (hb:Below w1.heap.size w1 ww)=>tdead_yes (HST1.o.later hb) HLF1.o ((hb.block g (lt HG2.o)).trans HG2.o) HTV.o)
 go_wp2_with fail
 refine (HGD.o _ (by
  first | exact aAb w1 _ | exact Below.refl _ _) _ _ _).mono ?_
 rintro e w2 ⟨rfl,hb2⟩
 have HB2:Hid (Below w1.heap.size w1 w2):=(aAb w1 _).trans (hb2.mono (aAb w1 _).size)
 have HD2:=zH (HDD.o w2 HB2.o)
 clear hb2 HGD HDD
 go_wp2_with fail
 refine HD2.o.mono ?_
 rintro e w3 ⟨rfl,hb3⟩
 have HB3:Hid (Below w1.heap.size w1 w3):=HB2.o.trans (hb3.mono HB2.o.size)
 have HST3:=zH (HST1.o.later HB3.o)
 have HRS:=zH (restart_any B p s1 w3 HST3.o.1 (nT HB1.o HB3.o.size))
 rw [HS2.o] at HRS
 clear hb3 HD2
 go_wp2_with fail
 refine HRS.o.mono ?_
 rintro e w4 ⟨rfl,hD4,hF4⟩
 obtain ⟨lc1,lc2,lc3,lc4,lc5,lc6,lc7⟩:=HLC.o
 have hsl:=HT.o.tm.sl
 have hsn:=HT.o.tm.sn
 have hn:=HT.o.sn
 have hrk:=HT.o.tr.rootk HT.o.tm.hd (by omega)
 have hdp:=HT.o.dep
 have hln:=HT.o.ln
 have hl1:=HLF.o
 have HTW:Hid (TrW s2 ⟨newSt s2.n,s2.life,c,now.root.toNat⟩ now l):=HT.o.tr.re lc1 lc2 HT.o.tm.hd
 have HH2:=zH (HHD.o.same (lc1 0) (lc1 1) lc2)
 have HB4:Hid (B<=w4.heap.size):=nT (nT HB1.o HB3.o.size) hF4.bel.size
 have HOP:=zH (Open_gen hD4 HB4.o lc5 lc6 (by omega) (by omega) (by omega) HH2.o.last (by omega) (by omega) HTW.o hrk.2.2 (by omega) (by omega))
 have HC4:Hid (ChF B g w w4):=(((ChF.of (by rw [hn0];exact HBX.o) (by rw [hn0];exact HBW.o)).trans (ChF.fp (Fp.ofFr HF1.o))).trans (ChF.of HB3.o HB1.o)).trans (ChF.fp (Fp.ofFr hF4))
 have HS4:Hid (n0<=w4.heap.size):=by
  have:=HBX.o.size
  have:=HF1.o.bel.size
  have:=HB3.o.size
  have:=hF4.bel.size
  show n0<=_
  omega
 have HNN:=zH (And.intro lc2 (And.intro lc3 lc4))
 clear hD4 hF4 HRS lc1 lc2 lc3 lc4 lc5 lc6 lc7 hsl hsn hn hrk hdp hln hl1
 go_wp2_with fail
 refine HOP.o.mono ?_
 rintro e w5 ⟨q5,g5,st5,rfl,hg5,hM5,hSm,hF5⟩
 have HG5:=zH hg5
 have HM5:=zH hM5
 have HSM:=zH hSm
 have HF5:=zH hF5
 clear hg5 hM5 hSm hF5 HOP
 go_wp2
 go_ret
 obtain ⟨m1,m2,m3⟩:=HNN.o
 have hpn:=HTW.o.pgn HSM.o
 obtain ⟨hfr,hf3⟩:=anew_free (num:=c) (root:=now.root.toNat) HT.o.tr HSM.o hpn m1 HT.o.tm.sn HT.o.tm.hd
 have hcu:=HT.o.cu
 have hC5:ChF B g w w5:=HC4.o.trans (ChF.fp HF5.o)
 have hl1:=HLF.o
 refine ⟨q5,g5,rfl,nT HS4.o HG5.o,⟨st5,s2,_,st5,_,⟨HM5.o,HTW.o.anew HSM.o hpn,HT.o.ln,by rw [m1];exact HT.o.sn,by omega,by omega,(aDq hpn).2.2.1,hf3,HT.o.be.trans hC5.bel⟩,⟨by omega,_,HH2.o⟩⟩,hC5⟩
structure KR where
 p:Nat
 q:Nat
 g:Nat
 c:Nat
 u:Nat
 l:List It
 P:DS->StT->Prop
def KPc (B N:Nat) (x:KR) (W:World) (F:Nat->Prop) (w:World):Prop :=
 ((∀ k,F k->FBk w k)/\∃ cs,w.heap[x.g]?=some (.cells cs 58 (0,0))) /\
 ∀ (w':World) (S':Nat->Prop),(∀ k,F k->w'.heap[k]?=w.heap[k]?)->ByK w w'->w'.heap[x.g]?=w.heap[x.g]?->Below B w w'->(∀ k,S' k->FBk w' k/\¬ F k)->@KP ⟨S'⟩ B x.p x.q x.g N x.c x.u x.l x.P W w'
section
variable {B N:Nat} {x y:KR} {W w w':World} {F:Nat->Prop}
theorem KPc.keep (h:KPc B N x W F w) (hF:∀ k,F k->w'.heap[k]?=w.heap[k]?) (hB:ByK w w') (hg:w'.heap[x.g]?=w.heap[x.g]?) (hb:Below B w w'):KPc B N x W F w':=by
 obtain ⟨⟨h1,c1,h2⟩,h5⟩:=h
 refine ⟨⟨fun k hk=>(h1 k hk).same (hF k hk),c1,hg.trans h2⟩,fun w2 S' a1 a2 a3 a6 a7=>?_⟩
 exact h5 w2 S' (fun k hk=>(a1 k hk).trans (hF k hk)) (fun k cs fz e=>a2 k cs fz (hB k cs fz e)) (a3.trans hg) (hb.trans a6) a7
theorem KPc.kx (h:KPc B N x W F w) (S':Nat->Prop) (hS:∀ k,S' k->FBk w k/\¬ F k):@KP ⟨S'⟩ B x.p x.q x.g N x.c x.u x.l x.P W w :=
 h.2 w S' (fun _ _=>rfl) (fun _ _ _ e=>e) rfl (Below.refl _ _) hS
theorem KP.cc [Gd] (h:KP B x.p x.q x.g N x.c x.u x.l x.P W w):∃ F:Nat->Prop,KPc B N x W F w/\∀ k,Gd.s k->¬ F k:=by
 obtain ⟨F,k1,k2,k3⟩:=h.fp
 obtain ⟨cg,hg⟩:=h.kx.blk
 exact ⟨F,⟨⟨k1,cg,hg⟩,k3⟩,k2⟩
def KpT (w w':World):Prop:=∀ (k:Nat) (cs:Array Value) (t:TypeId) (fz:Nat×Nat),w.heap[k]?=some (Obj.cells cs t fz)->NT t->t≠58->w'.heap[k]?=some (Obj.cells cs t fz)
def TWO (B N:Nat) (x y:KR) (W w:World):Prop:=∃ F G:Nat->Prop,KPc B N x W F w/\KPc B N y W G w/\(∀ k,F k->¬ G k)/\x.g≠y.g
theorem TWO.swap (h:TWO B N x y W w):TWO B N y x W w:=by
 obtain ⟨F,G,h1,h2,h3,h4⟩:=h
 exact ⟨G,F,h2,h1,fun k a b=>h3 k b a,fun e=>h4 e.symm⟩
theorem TWO.kx (h:TWO B N x y W w):@KP ⟨fun _=>False⟩ B x.p x.q x.g N x.c x.u x.l x.P W w:=by
 obtain ⟨F,G,h1,_⟩:=h
 exact h1.kx _ fun k hk=>hk.elim
theorem TWO.be (h:TWO B N x y W w):Below B W w:=by
 letI:Gd:=⟨fun _=>False⟩
 exact h.kx.kx.be
theorem TWO.bw (h:TWO B N x y W w):B<=w.heap.size:=by
 letI:Gd:=⟨fun _=>False⟩
 exact h.kx.kx.bw
theorem TWO.later (h:TWO B N x y W w) (hb:Below w.heap.size w w'):TWO B N x y W w':=by
 have hB:=h.bw
 obtain ⟨F,G,h1,h2,h3,h4⟩:=h
 have blk:∀ {k:Nat} {o:Obj},w.heap[k]?=some o->w'.heap[k]?=w.heap[k]?:=fun e=>hb.block _ (lO e)
 have k1:=h1
 have k2:=h2
 obtain ⟨⟨a1,c1,a2⟩,_⟩:=k1
 obtain ⟨⟨b1,c2,b2⟩,_⟩:=k2
 exact ⟨F,G,h1.keep (fun k hk=>hb.block k (a1 k hk).lt) (fun k cs fz e=>(blk e).trans e) (blk a2) (hb.mono hB),h2.keep (fun k hk=>hb.block k (b1 k hk).lt) (fun k cs fz e=>(blk e).trans e) (blk b2) (hb.mono hB),h3,h4⟩
theorem TWO.call (h:TWO B N x y W w) {K:Nat} {args:Array Value} {Q:Ending->World->KR->Prop}
  (hc:∀ S:Nat->Prop,@KP ⟨S⟩ B x.p x.q x.g N x.c x.u x.l x.P W w->Calls Tryz.prog K args w fun e w'=>∃ x':KR,Q e w' x'/\(x'.g=x.g\/w.heap.size<=x'.g)/\@KP ⟨S⟩ B x'.p x'.q x'.g N x'.c x'.u x'.l x'.P W w'/\@ChF ⟨S⟩ B x.g w w') :
  Calls Tryz.prog K args w fun e w'=>∃ x':KR,Q e w' x'/\TWO B N x' y W w'/\KpT w w':=by
 obtain ⟨F,G,h1,h2,h3,h4⟩:=h
 have k2:=h2
 obtain ⟨⟨b1,c2,b2⟩,_⟩:=k2
 refine (hc G (h1.kx G fun k hk=>⟨b1 k hk,fun q=>h3 k q hk⟩)).mono ?_
 rintro e w' ⟨x',hq,hg,hx,hf⟩
 letI:Gd:=⟨G⟩
 obtain ⟨F',k1,k2⟩:=hx.cc
 have ne:∀ {k:Nat} {cs:Array Value} {t:TypeId} {fz:Nat×Nat},w.heap[k]?=some (Obj.cells cs t fz)->t≠58->k≠x.g:=by
  intro k cs t fz e ht q
  have k1:=h1
  obtain ⟨⟨_,c1,a2⟩,_⟩:=k1
  subst q
  rw [a2] at e
  simp only [oI,cI] at e
  exact ht e.2.1.symm
 refine ⟨x',hq,⟨F',G,k1,?_,fun k a b=>k2 k b a,?_⟩,fun k cs t fz e n1 n2=>hf.stay k cs t fz e n1 (ne e n2)⟩
 ·refine h2.keep (fun k hk=>hf.gd k hk (b1 k hk)) (fun k cs fz e=>?_) ?_ hf.bel
  ·exact hf.stay k cs _ fz e (by decide) (ne e (by decide))
  ·rw [b2]
   exact hf.stay _ _ _ _ b2 (by decide) (fun q=>h4 q.symm)
 ·have hlt:y.g<w.heap.size:=(lO b2)
  rcases hg with hg | hg
  ·rw [hg];exact h4
  ·omega
end
theorem open_k [Gd] {B n:Nat} (w:World) (hB:B<=w.heap.size) (hg0:∀ k,Gd.s k->FBk w k) (h3:3<=n) (h4:n<=4096) :
  Calls Tryz.prog 4 #[.int .i64 (n:Int)] w fun e w'=>∃ p g,e=.returned (.tuple #[.pointer (some ⟨p,0,none⟩),.pointer (some ⟨g,0,none⟩)])/\w.heap.size<=g/\(∃ (q:Nat) (s:DS) (t:PS) (st0:StT),TM B p q g s t st0 st0 (.slice none 0 0) (cntF t.st:Nat) w'/\Tr s t st0 []/\st0.depth=0/\s.n=n/\s.m=0/\cntF t.st=n-2/\t.num=0/\s.show 0=[]/\s.show 1=[]/\s.life=0)/\Fp B w w':=by
 obtain ⟨s0,hs0⟩:∃ s,s=DS.new n:=⟨_,rfl⟩
 have hf:=new_facts n s0 hs0
 have HNW:=zH (new_any B n w (by omega) (by omega) hB hg0)
 rw [<-hs0] at HNW
 have HL0:Hid (lastH (rdH (pad (s0.show 0)) s0.n) (rdH (pad (s0.show 1)) s0.n)=some (0,0)):=by
  show _=_
  rw [hf.2.2.2.2.2.1,hf.2.2.2.2.2.2,aD6]
  exact aG3
 have HF:=zH hf
 have HBB:=zH hB
 clear hs0 hf hB
 go_enter Tryz.func4,Tryz.ntmps4
 go_wp2_with fail
 refine HNW.o.mono ?_
 rintro e w1 ⟨p,rfl,hD,hb1⟩
 have HB1:=zH hb1
 have HOP:=zH (Open_none (num:=0) hD (nT HBB.o hb1.size) HF.o.1 HF.o.2.1 (by rw [HF.o.2.2.1];decide) (by rw [HF.o.2.2.2.1];exact h3) (by rw [HF.o.2.2.2.1];exact h4) HL0.o (by decide))
 clear hD hb1 HNW
 go_wp2_with fail
 refine HOP.o.mono ?_
 rintro e w2 ⟨q,g,st0,rfl,hgB,hM,r0,r1,r2,r3,hF⟩
 have HM:=zH hM
 have HO:Hid (∃ (q:Nat) (s:DS) (t:PS) (st0:StT),TM B p q g s t st0 st0 (.slice none 0 0) (cntF t.st:Nat) w2/\Tr s t st0 []/\st0.depth=0/\s.n=n/\s.m=0/\cntF t.st=n-2/\t.num=0/\s.show 0=[]/\s.show 1=[]/\s.life=0):=⟨q,s0,_,st0,hM,Or.inl ⟨r0,r1,r2,rfl,r3⟩,r1,HF.o.2.2.2.1,HF.o.2.2.2.2.1,by show cntF (newSt s0.n)=_;rw [aF2 s0.n (by rw [HF.o.2.2.2.1];omega),HF.o.2.2.2.1],rfl,HF.o.2.2.2.2.2.1,HF.o.2.2.2.2.2.2,HF.o.2.2.1⟩
 have HB2:Hid (Fp B w w2):=(Fp.of HB1.o HBB.o).trans hF
 have HGB:Hid (w.heap.size<=g):=nT HB1.o.size hgB
 clear hM hgB r0 r1 r2 r3 hF HOP HM
 go_wp2
 go_ret2
 exact ⟨p,g,rfl,HGB.o,HO.o,HB2.o⟩
theorem open_p [Gd] {B n:Nat} {W w:World} (hB:B<=w.heap.size) (hW:Below B W w) (hg0:∀ k,Gd.s k->FBk w k) (h3:3<=n) (h4:n<=4096) :
  Calls Tryz.prog 4 #[.int .i64 (n:Int)] w fun e w'=>∃ p q g,e=.returned (.tuple #[.pointer (some ⟨p,0,none⟩),.pointer (some ⟨g,0,none⟩)])/\w.heap.size<=g/\KP B p q g n 0 0 [] (PA 0 0) W w'/\Fp B w w':=by
 refine (open_k w hB hg0 h3 h4).mono ?_
 rintro e w' ⟨p,g,rfl,hg,⟨q,s,t,st0,hM,hTr,hdp,hsn,hm,hc,hnum,hs0,hs1,hlf⟩,hf⟩
 have hln:t.st.length=n:=by rw [hM.sn];exact hsn
 refine ⟨p,q,g,rfl,hg,⟨st0,s,t,st0,_,⟨hM,hTr,by simp,hsn,by omega,by omega,hnum,fun i h2 hi=>?_,hW.trans hf.bel⟩,by rw [hlf];exact Int.le_refl _,0,HdK.new hs0 hs1⟩,hf⟩
 exact Or.inl ((count_all hM.hd.1 hM.hd.2 (by omega)).1 (by rw [hc,hln]) i h2 hi)
def ONE (B N:Nat) (x:KR) (W w:World):Prop:=∃ F:Nat->Prop,KPc B N x W F w
theorem one_open {n:Nat} (W:World) (h3:3<=n) (h4:n<=4096) :
  Calls Tryz.prog 4 #[.int .i64 (n:Int)] W fun e w'=>∃ p q g,e=.returned (.tuple #[.pointer (some ⟨p,0,none⟩),.pointer (some ⟨g,0,none⟩)])/\ONE W.heap.size n ⟨p,q,g,0,0,[],PA 0 0⟩ W w':=by
 letI:Gd:=⟨fun _=>False⟩
 refine (open_p (nR _) (Below.refl _ _) (fun k (hk:False)=>hk.elim) h3 h4).mono ?_
 rintro e w' ⟨p,q,g,rfl,_,hK,hf⟩
 obtain ⟨F,k1,_⟩:=KP.cc (x:=⟨p,q,g,0,0,[],PA 0 0⟩) hK
 exact ⟨p,q,g,rfl,F,k1⟩
theorem two_open {n:Nat} {x:KR} {B:Nat} {W w:World} (h:ONE B n x W w) (h3:3<=n) (h4:n<=4096) :
  Calls Tryz.prog 4 #[.int .i64 (n:Int)] w fun e w'=>∃ p q g,e=.returned (.tuple #[.pointer (some ⟨p,0,none⟩),.pointer (some ⟨g,0,none⟩)])/\TWO B n x ⟨p,q,g,0,0,[],PT⟩ W w':=by
 obtain ⟨F,h1⟩:=h
 have h0:=h1.kx (fun _=>False) (fun k hk=>hk.elim)
 have hx:=@KP.kx ⟨fun _=>False⟩ _ _ _ _ _ _ _ _ _ _ _ h0
 have hB:B<=w.heap.size:=@KX.bw ⟨fun _=>False⟩ _ _ _ _ _ _ _ _ _ _ hx
 have hbe:Below B W w:=@KX.be ⟨fun _=>False⟩ _ _ _ _ _ _ _ _ _ _ hx
 have k1:=h1
 obtain ⟨⟨a1,c1,a2⟩,_⟩:=k1
 letI:Gd:=⟨F⟩
 refine (open_p hB hbe (fun k hk=>a1 k hk) h3 h4).mono ?_
 rintro e w' ⟨p,q,g,rfl,hgB,hK,hf⟩
 obtain ⟨G,k1,k2⟩:=KP.cc (x:=⟨p,q,g,0,0,[],PT⟩) (hK.of fun _ _ _=>trivial)
 have hlt:x.g<w.heap.size:=(lO a2)
 refine ⟨p,q,g,rfl,⟨F,G,?_,k1,fun k hk=>k2 k hk,by show x.g≠g;omega⟩⟩
 refine h1.keep (fun k hk=>hf.gd k hk (a1 k hk)) (fun k cs fz e=>hf.stay k cs _ fz e (by decide) (by decide) (by decide) (by decide) (by decide) (by decide)) ?_ hf.bel
 rw [a2]
 exact hf.stay _ _ _ _ a2 (by decide) (by decide) (by decide) (by decide) (by decide) (by decide)
def TAM (B jx jy p0 g0 g1 c0 c1:Nat) (l0 l1:List It) (P:DS->StT->Prop) (W w:World):Prop:=∃ x y,TWO B 700 x y W w/\(x.p=p0/\x.g=g0/\y.g=g1)/\(x.l=l0/\y.l=l1/\l0.length<=jx/\l1.length<=jy)/\(x.c=c0/\y.c=c1/\c0<=jx/\c1<=jy)/\(x.u<=9*jx/\y.u<=9*jy)/\x.P=P/\y.P=PT
section
variable {B jx jy p0 g0 g1 c0 c1:Nat} {l0 l1:List It} {P:DS->StT->Prop} {W w w':World}
theorem TAM.later (h:TAM B jx jy p0 g0 g1 c0 c1 l0 l1 P W w) (hb:Below w.heap.size w w'):TAM B jx jy p0 g0 g1 c0 c1 l0 l1 P W w':=by
 obtain ⟨x,y,h1,h2⟩:=h
 exact ⟨x,y,h1.later hb,h2⟩
theorem TAM.be (h:TAM B jx jy p0 g0 g1 c0 c1 l0 l1 P W w):Below B W w:=by
 obtain ⟨x,y,h1,h2⟩:=h
 exact h1.be
theorem TAM.bw (h:TAM B jx jy p0 g0 g1 c0 c1 l0 l1 P W w):B<=w.heap.size:=by
 obtain ⟨x,y,h1,h2⟩:=h
 exact h1.bw
theorem TWO.turn {N:Nat} {x y:KR} (h:TWO B N x y W w) {Q:DS->StT->Prop} (hQ:∀ s now,x.P s now->Q s now):TWO B N { x with P:=Q } y W w:=by
 obtain ⟨F,G,⟨h1,h1'⟩,h2,h3,h4⟩:=h
 exact ⟨F,G,⟨h1,fun w' S' a1 a2 a3 a4 a5=>@KP.of ⟨S'⟩ _ _ _ _ _ _ _ _ _ _ _ (h1' w' S' a1 a2 a3 a4 a5) _ hQ⟩,h2,h3,h4⟩
theorem TAM.turn (h:TAM B jx jy p0 g0 g1 c0 c1 l0 l1 P W w) {Q:DS->StT->Prop} (hQ:∀ s now,P s now->Q s now):TAM B jx jy p0 g0 g1 c0 c1 l0 l1 Q W w:=by
 obtain ⟨x,y,h1,h2,h3,h4,h5,rfl,h7⟩:=h
 exact ⟨_,y,h1.turn hQ,h2,h3,h4,h5,rfl,h7⟩
theorem TAM.put0 (h:TAM B jx jy p0 g0 g1 c0 c1 l0 l1 P W w) (hPP:PutOk P) (hj:jx<40) (k v:List Nat) {ka va:Option Addr} {kn kc vn vc:Nat} (hkb:∀ c∈k,c<256) (hvb:∀ c∈v,c<256) (hkn:k.length=kn) (hvn:v.length=vn) (hk6:kn<=64) (hv2:vn<=200) (hk:BK B w ka kn kc k) (hv:BK B w va vn vc v) :
  Calls Tryz.prog 8 #[.pointer (some ⟨g0,0,none⟩),.slice ka kn kc,.slice va vn vc] w fun e w'=>e=.returned (.int .i64 (if kn=0 then 1 else 0))/\TAM B (jx+1) jy p0 g0 g1 c0 c1 (putV l0 k v) l1 P W w':=by
 obtain ⟨x,y,h1,⟨rfl,rfl,rfl⟩,⟨rfl,rfl,a3,a4⟩,⟨rfl,rfl,b3,b4⟩,⟨d1,d2⟩,rfl,h7⟩:=h
 refine (h1.call (Q:=fun e w' x'=>e=.returned (.int .i64 (if kn=0 then 1 else 0))/\x'={ x with u:=x.u+9,l:=putV x.l k v }) (fun S hx=>?_)).mono ?_
 ·letI:Gd:=⟨S⟩
  refine (hx.put hPP (by omega) (by omega) (by omega) k v hkb hvb hkn hvn hk6 hv2 hk hv).mono ?_
  rintro e w' ⟨he,h,hf⟩
  exact ⟨_,⟨he,rfl⟩,Or.inl rfl,h,hf⟩
 ·rintro e w' ⟨_,⟨he,rfl⟩,h,hkp⟩
  have:=putV_len x.l k v
  exact ⟨he,_,y,h,⟨rfl,rfl,rfl⟩,⟨rfl,rfl,by omega,a4⟩,⟨rfl,rfl,by omega,b4⟩,⟨by show x.u+9<=_;omega,d2⟩,rfl,h7⟩
theorem TAM.put1 (h:TAM B jx jy p0 g0 g1 c0 c1 l0 l1 P W w) (hj:jy<40) (k v:List Nat) {ka va:Option Addr} {kn kc vn vc:Nat} (hkb:∀ c∈k,c<256) (hvb:∀ c∈v,c<256) (hkn:k.length=kn) (hvn:v.length=vn) (hk6:kn<=64) (hv2:vn<=200) (hk:BK B w ka kn kc k) (hv:BK B w va vn vc v) :
  Calls Tryz.prog 8 #[.pointer (some ⟨g1,0,none⟩),.slice ka kn kc,.slice va vn vc] w fun e w'=>e=.returned (.int .i64 (if kn=0 then 1 else 0))/\TAM B jx (jy+1) p0 g0 g1 c0 c1 l0 (putV l1 k v) P W w':=by
 obtain ⟨x,y,h1,⟨rfl,rfl,rfl⟩,⟨rfl,rfl,a3,a4⟩,⟨rfl,rfl,b3,b4⟩,⟨d1,d2⟩,rfl,h7⟩:=h
 refine (h1.swap.call (Q:=fun e w' x'=>e=.returned (.int .i64 (if kn=0 then 1 else 0))/\x'={ y with u:=y.u+9,l:=putV y.l k v }) (fun S hx=>?_)).mono ?_
 ·letI:Gd:=⟨S⟩
  refine (hx.put (by rw [h7];exact PT.put) (by omega) (by omega) (by omega) k v hkb hvb hkn hvn hk6 hv2 hk hv).mono ?_
  rintro e w' ⟨he,h,hf⟩
  exact ⟨_,⟨he,rfl⟩,Or.inl rfl,h,hf⟩
 ·rintro e w' ⟨_,⟨he,rfl⟩,h,hkp⟩
  have:=putV_len y.l k v
  exact ⟨he,x,_,h.swap,⟨rfl,rfl,rfl⟩,⟨rfl,rfl,a3,by omega⟩,⟨rfl,rfl,b3,by omega⟩,⟨d1,by show y.u+9<=_;omega⟩,rfl,h7⟩
theorem TAM.del0 (h:TAM B jx jy p0 g0 g1 c0 c1 l0 l1 P W w) (hPP:PutOk P) (hj:jx<40) (k:List Nat) {ka:Option Addr} {kn kc:Nat} (hkn:k.length=kn) (hk6:kn<=64) (hk:BK B w ka kn kc k) :
  Calls Tryz.prog 5 #[.pointer (some ⟨g0,0,none⟩),.slice ka kn kc] w fun e w'=>e=.returned (.tuple #[.bool (if kn=0 then false else hasI l0 k),.int .i64 (if kn=0 then 1 else 0)])/\TAM B (jx+1) jy p0 g0 g1 c0 c1 (delV l0 k) l1 P W w':=by
 obtain ⟨x,y,h1,⟨rfl,rfl,rfl⟩,⟨rfl,rfl,a3,a4⟩,⟨rfl,rfl,b3,b4⟩,⟨d1,d2⟩,rfl,h7⟩:=h
 refine (h1.call (Q:=fun e w' x'=>e=.returned (.tuple #[.bool (if kn=0 then false else hasI x.l k),.int .i64 (if kn=0 then 1 else 0)])/\x'={ x with u:=x.u+9,l:=delV x.l k }) (fun S hx=>?_)).mono ?_
 ·letI:Gd:=⟨S⟩
  refine (hx.del hPP (by omega) (by omega) k hkn hk6 hk).mono ?_
  rintro e w' ⟨he,h,hf⟩
  exact ⟨_,⟨he,rfl⟩,Or.inl rfl,h,hf⟩
 ·rintro e w' ⟨_,⟨he,rfl⟩,h,hkp⟩
  have:=delV_len x.l k
  exact ⟨he,_,y,h,⟨rfl,rfl,rfl⟩,⟨rfl,rfl,by omega,a4⟩,⟨rfl,rfl,by omega,b4⟩,⟨by show x.u+9<=_;omega,d2⟩,rfl,h7⟩
theorem TAM.del1 (h:TAM B jx jy p0 g0 g1 c0 c1 l0 l1 P W w) (hj:jy<40) (k:List Nat) {ka:Option Addr} {kn kc:Nat} (hkn:k.length=kn) (hk6:kn<=64) (hk:BK B w ka kn kc k) :
  Calls Tryz.prog 5 #[.pointer (some ⟨g1,0,none⟩),.slice ka kn kc] w fun e w'=>e=.returned (.tuple #[.bool (if kn=0 then false else hasI l1 k),.int .i64 (if kn=0 then 1 else 0)])/\TAM B jx (jy+1) p0 g0 g1 c0 c1 l0 (delV l1 k) P W w':=by
 obtain ⟨x,y,h1,⟨rfl,rfl,rfl⟩,⟨rfl,rfl,a3,a4⟩,⟨rfl,rfl,b3,b4⟩,⟨d1,d2⟩,rfl,h7⟩:=h
 refine (h1.swap.call (Q:=fun e w' x'=>e=.returned (.tuple #[.bool (if kn=0 then false else hasI y.l k),.int .i64 (if kn=0 then 1 else 0)])/\x'={ y with u:=y.u+9,l:=delV y.l k }) (fun S hx=>?_)).mono ?_
 ·letI:Gd:=⟨S⟩
  refine (hx.del (by rw [h7];exact PT.put) (by omega) (by omega) k hkn hk6 hk).mono ?_
  rintro e w' ⟨he,h,hf⟩
  exact ⟨_,⟨he,rfl⟩,Or.inl rfl,h,hf⟩
 ·rintro e w' ⟨_,⟨he,rfl⟩,h,hkp⟩
  have:=delV_len y.l k
  exact ⟨he,x,_,h.swap,⟨rfl,rfl,rfl⟩,⟨rfl,rfl,a3,by omega⟩,⟨rfl,rfl,b3,by omega⟩,⟨d1,by show y.u+9<=_;omega⟩,rfl,h7⟩
theorem TAM.cmt0 {k:Nat} (h:TAM B jx jy p0 g0 g1 c0 c1 l0 l1 (PA c0 k) W w) (hj:jx<40) :
  Calls Tryz.prog 6 #[.pointer (some ⟨g0,0,none⟩)] w fun e w'=>e=.returned (.int .i64 0)/\TAM B (jx+1) jy p0 g0 g1 (c0+1) c1 l0 l1 (PC (c0+1) k) W w'/\KpT w w':=by
 obtain ⟨x,y,h1,⟨rfl,rfl,rfl⟩,⟨rfl,rfl,a3,a4⟩,⟨rfl,rfl,b3,b4⟩,⟨d1,d2⟩,h6,h7⟩:=h
 refine (h1.call (Q:=fun e w' x'=>e=.returned (.int .i64 0)/\x'={ x with c:=x.c+1,P:=PC (x.c+1) k }) (fun S hx=>?_)).mono ?_
 ·letI:Gd:=⟨S⟩
  rw [h6] at hx
  refine (hx.cmt (by decide) (by omega) (PA.cmt (by omega))).mono ?_
  rintro e w' ⟨he,h,hf⟩
  exact ⟨_,⟨he,rfl⟩,Or.inl rfl,h,hf⟩
 ·rintro e w' ⟨_,⟨he,rfl⟩,h,hkp⟩
  exact ⟨he,⟨_,y,h,⟨rfl,rfl,rfl⟩,⟨rfl,rfl,by omega,a4⟩,⟨rfl,rfl,by omega,b4⟩,⟨by show x.u<=_;omega,d2⟩,rfl,h7⟩,hkp⟩
theorem TAM.cmt1 (h:TAM B jx jy p0 g0 g1 c0 c1 l0 l1 P W w) (hj:jy<40) :
  Calls Tryz.prog 6 #[.pointer (some ⟨g1,0,none⟩)] w fun e w'=>e=.returned (.int .i64 0)/\TAM B jx (jy+1) p0 g0 g1 c0 (c1+1) l0 l1 P W w'/\KpT w w':=by
 obtain ⟨x,y,h1,⟨rfl,rfl,rfl⟩,⟨rfl,rfl,a3,a4⟩,⟨rfl,rfl,b3,b4⟩,⟨d1,d2⟩,rfl,h7⟩:=h
 refine (h1.swap.call (Q:=fun e w' x'=>e=.returned (.int .i64 0)/\x'={ y with c:=y.c+1,P:=PT }) (fun S hx=>?_)).mono ?_
 ·letI:Gd:=⟨S⟩
  refine (hx.cmt (Q:=PT) (by decide) (by omega) (fun _ _ _ _ _ _ _ _ _ _ _=>trivial)).mono ?_
  rintro e w' ⟨he,h,hf⟩
  exact ⟨_,⟨he,rfl⟩,Or.inl rfl,h,hf⟩
 ·rintro e w' ⟨_,⟨he,rfl⟩,h,hkp⟩
  exact ⟨he,⟨x,_,h.swap,⟨rfl,rfl,rfl⟩,⟨rfl,rfl,a3,by omega⟩,⟨rfl,rfl,b3,by omega⟩,⟨d1,by show y.u<=_;omega⟩,rfl,rfl⟩,hkp⟩
theorem TAM.again {k:Nat} (h:TAM B jx jy p0 g0 g1 c0 c1 l0 l1 (PC c0 k) W w) (hj:jx<=40) (hk:k<900) (af:Int) (kp:Nat) (tn cu:Int) (hkp:kp<18446744073709551616) :
  Calls Tryz.prog 7 #[.pointer (some ⟨p0,0,none⟩),.pointer (some ⟨g0,0,none⟩),.agg #[.int .i64 af,.int .u64 (kp:Int),.int .i64 tn,.int .i64 cu]] w fun e w'=>∃ g',e=.returned (.pointer (some ⟨g',0,none⟩))/\TAM B jx jy p0 g' g1 c0 c1 l0 l1 (PA c0 (k+1)) W w':=by
 obtain ⟨x,y,h1,⟨rfl,rfl,rfl⟩,⟨rfl,rfl,a3,a4⟩,⟨rfl,rfl,b3,b4⟩,⟨d1,d2⟩,h6,h7⟩:=h
 refine (h1.call (Q:=fun e w' x'=>e=.returned (.pointer (some ⟨x'.g,0,none⟩))/\x'.p=x.p/\x'.c=x.c/\x'.u=x.u/\x'.l=x.l/\x'.P=PA x.c (k+1)) (fun S hx=>?_)).mono ?_
 ·letI:Gd:=⟨S⟩
  rw [h6] at hx
  refine (again_ok hx (by decide) (by decide) (by omega) hk af kp tn cu hkp).mono ?_
  rintro e w' ⟨q',g',he,hg,h,hf⟩
  exact ⟨⟨x.p,q',g',x.c,x.u,x.l,PA x.c (k+1)⟩,⟨he,rfl,rfl,rfl,rfl,rfl⟩,Or.inr hg,h,hf⟩
 ·rintro e w' ⟨x',⟨he,e1,e2,e3,e4,e5⟩,h,hkp⟩
  exact ⟨x'.g,he,x',y,h,⟨e1,rfl,rfl⟩,⟨e4,rfl,a3,a4⟩,⟨e2,rfl,b3,b4⟩,⟨by rw [e3];exact d1,d2⟩,e5,h7⟩
theorem TAM.kx0 (h:TAM B jx jy p0 g0 g1 c0 c1 l0 l1 P W w):∃ q u,@KP ⟨fun _=>False⟩ B p0 q g0 700 c0 u l0 P W w:=by
 obtain ⟨x,y,h1,⟨rfl,rfl,rfl⟩,⟨rfl,rfl,_⟩,⟨rfl,rfl,_⟩,_,rfl,_⟩:=h
 exact ⟨_,_,h1.kx⟩
theorem TAM.kx1 (h:TAM B jx jy p0 g0 g1 c0 c1 l0 l1 P W w):∃ p q u,@KP ⟨fun _=>False⟩ B p q g1 700 c1 u l1 PT W w:=by
 obtain ⟨x,y,h1,⟨rfl,rfl,rfl⟩,⟨rfl,rfl,_⟩,⟨rfl,rfl,_⟩,_,rfl,h7⟩:=h
 have:=h1.swap.kx
 rw [h7] at this
 exact ⟨_,_,_,this⟩
theorem TAM.rng0 (h:TAM B jx jy p0 g0 g1 c0 c1 l0 l1 P W w) :
  Calls Tryz.prog 11 #[.pointer (some ⟨g0,0,none⟩),.slice none 0 0,.slice none 0 0,.int .i64 999] w fun e w'=>∃ fv,e=.returned (.tuple #[fv,.int .i64 0])/\PRW B w.heap.size w' fv l0/\Below w.heap.size w w':=by
 obtain ⟨q,u,h1⟩:=h.kx0
 letI:Gd:=⟨fun _=>False⟩
 exact h1.kx.all
theorem TAM.rng1 (h:TAM B jx jy p0 g0 g1 c0 c1 l0 l1 P W w) :
  Calls Tryz.prog 11 #[.pointer (some ⟨g1,0,none⟩),.slice none 0 0,.slice none 0 0,.int .i64 999] w fun e w'=>∃ fv,e=.returned (.tuple #[fv,.int .i64 0])/\PRW B w.heap.size w' fv l1/\Below w.heap.size w w':=by
 obtain ⟨p,q,u,h1⟩:=h.kx1
 letI:Gd:=⟨fun _=>False⟩
 exact h1.kx.all
theorem TAM.len0 (h:TAM B jx jy p0 g0 g1 c0 c1 l0 l1 P W w):Calls Tryz.prog 9 #[.pointer (some ⟨g0,0,none⟩)] w fun e w'=>e=.returned (.int .i64 (l0.length:Int))/\w'=w:=by
 obtain ⟨q,u,h1⟩:=h.kx0
 letI:Gd:=⟨fun _=>False⟩
 exact h1.kx.Len
theorem TAM.len1 (h:TAM B jx jy p0 g0 g1 c0 c1 l0 l1 P W w):Calls Tryz.prog 9 #[.pointer (some ⟨g1,0,none⟩)] w fun e w'=>e=.returned (.int .i64 (l1.length:Int))/\w'=w:=by
 obtain ⟨p,q,u,h1⟩:=h.kx1
 letI:Gd:=⟨fun _=>False⟩
 exact h1.kx.Len
theorem TAM.num0 (h:TAM B jx jy p0 g0 g1 c0 c1 l0 l1 P W w):Calls Tryz.prog 10 #[.pointer (some ⟨g0,0,none⟩)] w fun e w'=>e=.returned (.int .i64 (c0:Int))/\w'=w:=by
 obtain ⟨q,u,h1⟩:=h.kx0
 letI:Gd:=⟨fun _=>False⟩
 exact h1.num
theorem TAM.num1 (h:TAM B jx jy p0 g0 g1 c0 c1 l0 l1 P W w):Calls Tryz.prog 10 #[.pointer (some ⟨g1,0,none⟩)] w fun e w'=>e=.returned (.int .i64 (c1:Int))/\w'=w:=by
 obtain ⟨p,q,u,h1⟩:=h.kx1
 letI:Gd:=⟨fun _=>False⟩
 exact h1.num
theorem TAM.chk0 (h:TAM B jx jy p0 g0 g1 c0 c1 l0 l1 P W w):Calls Tryz.prog 14 #[.pointer (some ⟨g0,0,none⟩)] w fun e w'=>e=.returned (.int .i64 0)/\Below w.heap.size w w':=by
 obtain ⟨q,u,h1⟩:=h.kx0
 letI:Gd:=⟨fun _=>False⟩
 exact h1.kx.chk
theorem TAM.len (h:TAM B jx jy p0 g0 g1 c0 c1 l0 l1 P W w):l0.length<=jx/\l1.length<=jy/\c0<=jx/\c1<=jy:=by
 obtain ⟨x,y,h1,_,⟨_,_,a3,a4⟩,⟨_,_,b3,b4⟩,_⟩:=h
 exact ⟨a3,a4,b3,b4⟩
end
end Go.Proofs.YtfobcelkmopohaaGreat
