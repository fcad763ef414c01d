import Derived.Test.YtdfjjhlhnfindaaGreatY42
import Derived.Test.YtdfjjhlhnfindaaGreatY41
set_option maxRecDepth 100000
set_option maxHeartbeats 16000000
set_option linter.unusedVariables false
namespace Go.Proofs.YtdfjjhlhnfindaaGreat
open Go.RowKit Tryz
variable {B K N b c fb g j kc kn n o p q root u vc vn:Nat} {L nd xs:List Nat} {Q:Exit->Act->World->Prop} {W w w' w0 wr:World} {a ka va:Option Addr} {b0 b1 b2 b3 b4 b5 v:Value} {cl l:List It} {cs:Array Value} {fz:Nat×Nat} {it:It} {s s':DS} {st:StT} {t t':PS}
theorem cnt_bsum:∀ (l:List Nat),cntF l=bsum (fun i=>decide (l.getD i 0=1)) l.length
 | []=>rfl
 | a::l=>by
  have ih:=cnt_bsum l
  unfold cntF at ih ⊢
  rw [List.length_cons,Nat.add_comm l.length 1,bsum_add,List.count_cons,ih]
  have e1:bsum (fun i=>decide ((a::l).getD i 0=1)) 1=if a == 1 then 1 else 0:=by
   show 0+(decide (a=1)).toNat=_;by_cases c:a=1
   ·simp [c]
   ·simp [c]
  have e2:bsum (fun i=>decide ((a::l).getD (1+i) 0=1)) l.length=bsum (fun i=>decide (l.getD i 0=1)) l.length:=aG2 fun i _=>by
   show decide ((a::l).getD (1+i) 0=1)=_;rw [Nat.add_comm 1 i];rfl
  rw [e1,e2,Nat.add_comm]
theorem aG1 {f g k:Nat->Bool}:∀ {n:Nat},(∀ i,i<n->(f i).toNat+(g i).toNat+(k i).toNat=1)->bsum f n+bsum g n+bsum k n=n
 | 0,_=>rfl
 | n+1,h=>by
  have ih:=aG1 (n:=n) fun i hi=>h i (by omega)
  have h1:=h n (by omega)
  show bsum f n+(f n).toNat+(bsum g n+(g n).toNat)+(bsum k n+(k n).toNat)=n+1
  omega
theorem Cmt.count (c:Cmt s t nd root s' t') (h:Full3 t) (hn:PgS nd L) (hL:∀ x∈L,t.st.getD x 0=2/\x<t.st.length) (hd0:t.st.getD 0 0=0/\t.st.getD 1 0=0) (hd:t'.st.getD 0 0=0/\t'.st.getD 1 0=0) (h2:2<=t.st.length):cntF t'.st+L.length+2=t.st.length:=by
 have b1:bsum (fun j=>decide (j∈L)) t.st.length=L.length:=bsum_list hn.2.1 fun x hx=>(hL x hx).2
 have b2:bsum (fun j=>decide (j∈[0,1])) t.st.length=2:=bsum_list (l:=[0,1]) (by decide) fun x hx=>by
  simp at hx;omega
 have b3:=cnt_bsum t'.st;rw [c.len] at b3;rw [b3,<-b1,<-b2]
 conv=>lhs;arg 2;rw [b2]
 have:=aG1 (f:=fun i=>decide (t'.st.getD i 0=1)) (g:=fun j=>decide (j∈L)) (k:=fun j=>decide (j∈[0,1])) (n:=t.st.length) fun i hi=>?_
 ·rw [b2] at this;rw [this]
 ·have e:=c.st i hi;show (decide (t'.st.getD i 0=1)).toNat+(decide (i∈L)).toNat+(decide (i∈[0,1])).toNat=1;by_cases q2:i<2
  ·have hi0:t'.st.getD i 0=0/\t.st.getD i 0=0:=by
    rcases (show i=0\/i=1 by omega) with rfl | rfl
    ·exact ⟨hd.1,hd0.1⟩
    ·exact ⟨hd.2,hd0.2⟩
   have m1:i∉L:=fun q=>by have:=(hL i q).1;omega
   have m2:i∈[0,1]:=by simp;omega
   rw [hi0.1,decide_eq_false m1,decide_eq_true m2];rfl
  ·have m2:i∉[0,1]:=by simp;omega
   rw [decide_eq_false m2];by_cases q:i∈L
   ·have h9:=(hL i q).1;have hh:hsP nd i=true:=by rw [hn.2.2.2 i];exact decide_eq_true q
    rw [if_neg (by rintro (q9 | ⟨_,q9,_⟩)<;>simp_all)] at e;rw [e,h9,decide_eq_true q];rfl
   ·have hh:hsP nd i=false:=by rw [hn.2.2.2 i];exact decide_eq_false q
    have e1:t'.st.getD i 0=1:=by
     rw [e];rcases h i (by omega) hi with q9 | q9 | q9
     ·rw [if_neg (by rintro (q8 | q8)<;>omega),q9]
     ·rw [if_pos (Or.inr ⟨by omega,hh,q9⟩)]
     ·rw [if_pos (Or.inl q9)]
    rw [e1,decide_eq_false q];rfl
theorem pg_le:∀ {h:Nat} {b:BT h},ShB h b->1<=(BT.it b).length->(pgB h b).length<=(flB h b).length
 | 0,b,hs,h2=>h2
 | h+1,b,⟨s1,s2,s3⟩,h2=>by
  have h2:1<=b.2.1.length:=h2
  have hw:(flB (h+1) b).length=b.2.1.length+((b.2.2.map (flB h)).map List.length).sum:=aBs _ _ (by rw [List.length_map];exact s2)
  have key:∀ (c:List (BT h)),(∀ k∈c,ShB h k/\2<=(BT.it k).length)->(c.map (pgB h)).flatten.length<=((c.map (flB h)).map List.length).sum:=by
   intro c
   induction c with
   | nil=>intro _;simp
   | cons k c ih =>
    intro hc;have i1:=ih fun x hx=>hc x (List.mem_cons_of_mem _ hx)
    obtain ⟨a1,a2⟩:=hc k List.mem_cons_self;have i2:=pg_le a1 (by omega);simp only [List.map_cons,List.flatten_cons,lA,List.sum_cons];omega
  have hk:=key b.2.2 s3;show (b.1::(b.2.2.map (pgB h)).flatten).length<=_;rw [List.length_cons,hw];omega
structure Shp (n:Nat) (d:Nat) (P:Nat) (F:Nat) (M:Nat):Prop where
 pn:P<=n
 ls:0<d->2*3 ^ (d-1)<=n+1
 all:F+P+2=M
theorem Tr.shp (h:Tr s t st l) (hsn:t.st.length=s.n) (c:Cmt s t st.pgs st.root.toNat s' t') (f:Full3 t) (hd0:t.st.getD 0 0=0/\t.st.getD 1 0=0) (hd:t'.st.getD 0 0=0/\t'.st.getD 1 0=0) (h2:2<=t.st.length) :
  ∃ (d:Nat) (L:List Nat),st.depth=(d:Int)/\st.keys=((l.length:Nat):Int)/\PgS st.pgs L/\Shp l.length d L.length (cntF t'.st) t.st.length:=by
 have hk:=h.keys;rcases h with ⟨_,h1,_,rfl,h5⟩ | ⟨h,b,e1,e2,e3,e4,e5,e6,e7,e8,e9⟩
 ·exact ⟨0,[],h1,hk,h5,by simp,fun q=>absurd q (by decide),c.count f h5 (fun x hx=>by simp at hx) hd0 hd h2⟩
 ·refine ⟨h+1,pgB h b,e2,hk,e9,?_,fun _=>?_,c.count f e9 (fun x hx=>?_) hd0 hd h2⟩
  ·rw [<-e4];exact pg_le e7 e8
  ·rw [<-e4];exact deepR e7 e8
  ·have:=e6.held x hx;exact ⟨this.1,by rw [hsn];exact this.2⟩
def KX [Gd] (B p q g N c u:Nat) (l:List It) (W w:World):Prop:=∃ last s t now left,TI B p q g N c u last l s t now left W w
section
variable [Gd] {B p q g N c u:Nat} {l:List It} {W w w':World}
theorem KX.later (h:KX B p q g N c u l W w) (hb:Below w.heap.size w w'):KX B p q g N c u l W w':=by
 obtain ⟨last,s,t,now,left,h⟩:=h;exact ⟨last,s,t,now,left,h.later hb⟩
theorem KX.bw (h:KX B p q g N c u l W w):B<=w.heap.size:=by
 obtain ⟨last,s,t,now,left,h⟩:=h;exact h.tm.bw
theorem KX.srt (h:KX B p q g N c u l W w):Srt l:=by
 obtain ⟨last,s,t,now,left,h⟩:=h;exact h.tr.srt
theorem KX.blk (h:KX B p q g N c u l W w):∃ cs,w.heap[g]?=some (.cells cs 183 (0,0)):=by
 obtain ⟨last,s,t,now,left,h⟩:=h;obtain ⟨cs,h1,_⟩:=h.tm.tv;exact ⟨cs,h1⟩
theorem KX.same (h:KX B p q g N c u l W w) (hb:Below B w w') (f:∀ (k:Nat) (cs:Array Value) (t:TypeId) (fz:Nat×Nat),w.heap[k]?=some (Obj.cells cs t fz)->(t=183\/t=5\/¬ NT t)->w'.heap[k]?=some (Obj.cells cs t fz)):KX B p q g N c u l W w':=by
 obtain ⟨last,s,t,now,left,h⟩:=h;obtain ⟨cg,hg,hT⟩:=h.tm.tv;have hst:ST B p q s t w':=by
  obtain ⟨h1,gs,h2⟩:=h.tm.st;refine ⟨?_,gs,f _ _ _ _ h2.hq (Or.inr (Or.inr (by decide))),f _ _ _ _ h2.hs (Or.inr (Or.inr (by decide))),h2.qB,h2.gB,h2.ok,h2.hG⟩;exact h1.of_stay (fun k cs t e ht=>f k cs t _ e (by rcases ht with rfl | rfl | rfl | rfl | rfl | rfl | rfl<;>decide))
 exact ⟨last,s,t,now,left,⟨hst,nT h.tm.bw hb.size,h.tm.bg,⟨cg,f _ _ _ _ hg (Or.inl rfl),hT⟩,h.tm.lf,h.tm.dn,h.tm.af,h.tm.l1,h.tm.sn,h.tm.hd⟩,h.tr,h.ln,h.sn,h.mu,h.cu,h.nm,h.f3,h.be.trans hb⟩
theorem KX.Put (hg0:True) (h:KX B p q g N c u l W w) (hu:u+20<=N) (hu2:u<=3000) (hl:l.length<90) (it:It) (hit:ItOk it) {ka va:Option Addr} {kn kc vn vc:Nat} (hkn:it.1.length=kn) (hvn:it.2.length=vn) (hk:BK B w ka kn kc it.1) (hv:BK B w va vn vc it.2) :
  Calls prog 133 #[.pointer (some ⟨g,0,none⟩),.slice ka kn kc,.slice va vn vc] w fun e w'=>e=.returned (.int .i64 0)/\ChF B g w w'/\KX B p q g N c (u+9) (putL l it) W w':=by
 obtain ⟨last,s,t,now,left,h⟩:=h;have hd:=h.dep;have h8:=h.mu;have h9:=h.cu;have h7:=h.ln;refine (Put_ok hg0 h.tm h.tr (by omega) it hit hkn hvn hk hv (by omega) (by omega) (by omega)).mono ?_;rintro e w' ⟨rfl,hp⟩;have hc:ChF B g w w':=by
  obtain ⟨s',t',now',L,k1,k2,k3,k4,k5⟩:=hp;exact k5
 obtain ⟨s',t',now',left',h'⟩:=h.put hl hp;exact ⟨rfl,hc,last,s',t',now',left',h'⟩
theorem KX.commit (h:KX B p q g N c u l W w) (hN:3<=N) (hc:c<900) :
  Calls prog 130 #[.pointer (some ⟨g,0,none⟩)] w fun e w'=>e=.returned (.int .i64 0)/\ChF B g w w'/\KX B p q g N (c+1) l.length l W w':=by
 obtain ⟨last,s,t,now,left,h⟩:=h;refine (Commit_ok h.tm h.tr (SnV.nil w) (by rw [h.sn];omega) (by rw [h.nm];omega)).mono ?_;rintro e w' ⟨rfl,s',t',k1,k2,k3⟩;have k1:Cmt s t now.pgs now.root.toNat s' t':=k1;have hlen:t.st.length=N:=by rw [h.tm.sn];exact h.sn
 obtain ⟨d,L,e1,e2,e3,e4⟩:=h.tr.shp h.tm.sn k1 h.f3 h.tm.hd k2.hd (by omega);have a1:=e4.all;have a2:=e4.pn;exact ⟨rfl,k3,now,s',t',now,_,k2,h.tr.cmt k1 h.tm.hd (fun i _ hi=>hi),h.ln,by rw [k1.n];exact h.sn,by rw [k1.m];exact Nat.zero_le _,by omega,by rw [k1.num,h.nm],h.f3.cmt k1,h.be.trans k3.1⟩
theorem KX.Get (h:KX B p q g N c u l W w) {ka:Option Addr} {kn kc:Nat} {key:List Nat} (hk:BK B w ka kn kc key) (hk0:0<kn) (hk6:kn<=64) :
  Calls prog 129 #[.pointer (some ⟨g,0,none⟩),.slice ka kn kc] w fun e w'=>∃ v isb,e=.returned (.tuple #[v,.bool isb,.int .i64 0])/\VlV B w' (valL l key) v isb/\Below w.heap.size w w':=by
 obtain ⟨last,s,t,now,left,h⟩:=h;have hd:=h.dep;exact Get_ok h.tm h.tr (by omega) hk hk0 hk6
theorem KX.Len (h:KX B p q g N c u l W w):Calls prog 86 #[.pointer (some ⟨g,0,none⟩)] w fun e w'=>e=.returned (.int .i64 (l.length:Int))/\w'=w:=by
 obtain ⟨last,s,t,now,left,h⟩:=h;have:=Len_any h.tm;rwa [h.tr.keys] at this
theorem KX.dead (h:KX B p q g N c u l W w):Calls prog 89 #[.pointer (some ⟨g,0,none⟩)] w fun e w'=>e=.returned (.bool false)/\Below w.heap.size w w':=by
 obtain ⟨last,s,t,now,left,h⟩:=h;obtain ⟨cs,h1,h2⟩:=h.tm.tv;exact aHb h.tm.st h.tm.lf h1 h2
end
theorem wp_cat {o:Oper} {a:Act} {K:Act->World->Prop} (s x:Operand)
  (ho:o.op=.call { callee:=.builtin .append,args:=#[s,x],argTypes:=#[55,55] })
  {B B1 n m cap:Nat} {v:Value} {ys xs:List Nat} {ax:Option Addr} (hs:a.eval s=v) (hx:a.eval x=.slice ax m cap) (hown:wr.ownsRow B1 5 1 v n (cellsOf ys)) (hn:ys.length=n) (hX:BS wr ax m cap xs) (hb:∀ z∈ys,z<256) (hl:n+m<=100000) (hB1:B1<=wr.heap.size)
  (h:∀ b c w',BK B w' b (n+m) c (ys++xs)->Below B1 wr w'->K (a.put o.dst (.slice b (n+m) c)) w'):Oper.wp prog o a wr K Q:=by
 obtain ⟨i0,hi,hz0,hz1,hz2⟩:=info_parts aE1;have hxl:=hX.hlen;have hbb:∀ z∈ys++xs,z<256:=fun z hz=>by
  rcases List.mem_append.1 hz with q | q
  ·exact hb z q
  ·exact hX.hbyte z q
 have e2:n+m=(ys++xs).length:=by rw [lA];omega
 cases ax with
 | none =>
  have hc0:=hX.hnil rfl;have hcc:=hX.hcap;have e0:m=0:=by omega
  subst e0 hc0;have ex:xs=[]:=List.eq_nil_of_length_eq_zero hxl;subst ex;have hrun:=run_append_owned_none (P:=prog) (w:=wr) B1 55 o.type 5 i0 1 underlying55 hi v n (cellsOf ys) hown;obtain ⟨b,c,rfl,hk⟩:=BK.owned (B:=B) (xs:=ys) (by rw [hn];exact hown) (by omega) hb;have hK:=h b c wr (by rw [List.append_nil,Nat.add_zero,<-hn];exact hk) (Below.refl _ _);rw [Nat.add_zero,<-hn] at hK;unfold Oper.wp;simp [execOp,ho,resolve,invoke,builtin,hs,hx,hrun,Result.andThen];exact hK
 | some ad =>
  refine wp_append_own wr s x _ ho B1 5 i0 (.int .u8 0) 1 1 underlying55 hi hz0 hz1 hz2 rfl (by omega) v n (cellsOf ys) hs hown ad m cap (cellsOf xs) hx (by rw [aAd,hxl,Nat.mul_one]) hX.news (aAz xs) (by unfold maxLen;omega) (by omega) hB1 ?_;intro v' w' h1 h2 _;rw [<-aAq,e2] at h1;obtain ⟨b,c,rfl,hk⟩:=BK.owned (B:=B) h1 (by omega) hbb;rw [<-e2] at hk;have h9:=h b c w' hk ((Below.refl B1 _).grown h2 hB1 (fun k hk=>(hown.lt k hk).1));rw [<-e2];exact h9
theorem aEd {ops:Array Oper} {rest:List Oper} {o:Oper} {a:Act} (hw:Region.wanted o (yielded ops a.tmps)=true) (s x:Operand)
  (ho:o.op=.call { callee:=.builtin .append,args:=#[s,x],argTypes:=#[55,55] })
  {B B1 n m cap:Nat} {v:Value} {ys xs:List Nat} {ax:Option Addr} (hs:a.eval s=v) (hx:a.eval x=.slice ax m cap) (hown:wr.ownsRow B1 5 1 v n (cellsOf ys)) (hn:ys.length=n) (hX:BS wr ax m cap xs) (hb:∀ z∈ys,z<256) (hl:n+m<=100000) (hB1:B1<=wr.heap.size)
  (h:∀ b c w',BK B w' b (n+m) c (ys++xs)->Below B1 wr w'->wpList prog ops Q rest (a.put o.dst (.slice b (n+m) c)) w'):wpList prog ops Q (o::rest) a wr :=
 wpList_step fun K hK=>by
  rw [if_pos hw];exact wp_cat (B:=B) s x ho hs hx hown hn hX hb hl hB1 fun b c w' p1 p2=>hK _ _ (h b c w' p1 p2)
theorem own_one (w:World) (x:Nat):(w.alloc (.cells #[.int .u8 (x:Int)] 5)).ownsRow w.heap.size 5 1 (.slice (some ⟨w.heap.size,0,none⟩) 1 1) 1 (cellsOf [x]) :=
 ⟨rfl,Or.inr ⟨w.heap.size,1,#[.int .u8 (x:Int)],rfl,nR _,heap_alloc_new w _,nR _,by unfold maxLen;omega,rfl,rfl⟩⟩
theorem aC6 {sp:Nat} (hsp:sp<256) (h:BS w a n c xs) (hn:n<=10000) :
  Calls prog 94 #[.int .i64 (sp:Int),.slice a n c] w fun e w'=>∃ b d,e=.returned (.slice b (n+1) d)/\BK B w' b (n+1) d (sp::xs)/\Below w.heap.size w w':=by
 have ew:IntKind.u8.wrap (sp:Int)=(sp:Int):=by rw [IntKind.wrap_u8];omega
 have HO:=zH (own_one w sp);have HBX:=zH (aAc w (.cells #[.int .u8 (sp:Int)] 5));have HX:=zH (h.later HBX.o (nR _));clear h;go_enter func94,ntmps94;go_wp2_with (at_builtin;refine aEd (B:=B) (by rfl) (.tmp 7) (.tmp 8) rfl rfl rfl HO.o rfl HX.o (by intro z hz;simp at hz;omega) (by omega) HBX.o.size ?_;intro b d w2 hk2 hb2;have HK2:=zH hk2;have HB2:=zH hb2;clear hk2 hb2);go_ret;refine ⟨b,d,?_,?_,HBX.o.trans HB2.o⟩
 ·rw [Nat.add_comm n 1];rfl
 ·have h9:=HK2.o;rw [Nat.add_comm 1 n] at h9;exact h9
structure LV (cs:Array Value) (g p:Nat):Prop where
 sz:cs.size=19
 c0:cs[0]?=some (.pointer (some ⟨g,0,none⟩))
 c1:cs[1]?=some (.pointer (some ⟨p,0,none⟩))
 c2:cs[2]?=some (.int .i64 0)
 cp:∀ i,3<=i->i<19->∃ n:Int,cs[i]?=some (.int .i64 n)
structure LS [Gd] (B p q g ls N c u:Nat) (l:List It) (W w:World):Prop where
 kx:KX B p q g N c u l W w
 bl:B<=ls
 lv:∃ cs,w.heap[ls]?=some (.cells cs 130 (0,0))/\LV cs g p
section
variable [Gd] {B p q g ls N c u:Nat} {l:List It} {W w w':World}
theorem LS.later (h:LS B p q g ls N c u l W w) (hb:Below w.heap.size w w'):LS B p q g ls N c u l W w':=by
 obtain ⟨cs,h1,h2⟩:=h.lv;exact ⟨h.kx.later hb,h.bl,cs,(hb.block ls (lO h1)).trans h1,h2⟩
theorem LS.bw (h:LS B p q g ls N c u l W w):B<=w.heap.size:=h.kx.bw
theorem LS.dead (h:LS B p q g ls N c u l W w):Calls prog 57 #[.pointer (some ⟨ls,0,none⟩)] w fun e w'=>e=.returned (.bool false)/\Below w.heap.size w w':=by
 obtain ⟨cs,h1,h2⟩:=h.lv;have r0:w.cell? ⟨ls,0,none⟩=some (.pointer (some ⟨g,0,none⟩)):=(aAa h1).trans h2.c0;have HD:=zH h.kx.dead;clear h h1 h2;go_enter func57,ntmps57;go_wp2_with fail;refine HD.o.mono ?_;rintro e w1 ⟨rfl,hb1⟩;have HB1:=zH hb1;clear hb1;go_wp2;go_ret;exact ⟨rfl,HB1.o⟩
theorem LS.pos (h:LS B p q g ls N c u l W w):Calls prog 75 #[.pointer (some ⟨ls,0,none⟩)] w fun e w'=>e=.returned (.int .i64 0)/\w'=w:=by
 obtain ⟨cs,h1,h2⟩:=h.lv;have r0:w.cell? ⟨ls,2,none⟩=some (.int .i64 0):=(aAa h1).trans h2.c2;clear h h1 h2;go_enter func75,ntmps75;go_wp2;go_ret;exact ⟨rfl,rfl⟩
end
def chC (kv:List (Value×Value)):List Value:=kv.flatMap fun x=>[.int .i64 15,x.1,x.2,.bool false]
theorem chC_get:∀ {kv:List (Value×Value)} {i:Nat} {x:Value×Value},kv[i]?=some x->(chC kv)[i*4]?=some (.int .i64 15)/\(chC kv)[i*4+1]?=some x.1/\(chC kv)[i*4+2]?=some x.2/\(chC kv)[i*4+3]?=some (.bool false)
 | [],i,x,h=>by simp at h
 | y::kv,0,x,h=>by
  simp only [List.getElem?_cons_zero,oI] at h
  subst h
  exact ⟨rfl,rfl,rfl,rfl⟩
 | y::kv,i+1,x,h=>by
  have e:=chC_get (kv:=kv) (i:=i) (x:=x) (by simpa using h)
  have f:∀ j,(chC (y::kv))[j+4]?=(chC kv)[j]?:=fun j=>rfl
  refine ⟨?_,?_,?_,?_⟩
  ·rw [show (i+1)*4=i*4+4 by omega,f];exact e.1
  ·rw [show (i+1)*4+1=i*4+1+4 by omega,f];exact e.2.1
  ·rw [show (i+1)*4+2=i*4+2+4 by omega,f];exact e.2.2.1
  ·rw [show (i+1)*4+3=i*4+3+4 by omega,f];exact e.2.2.2
def CHV (B:Nat) (w:World) (v:Value) (cl:List It):Prop:=∃ (kv:List (Value×Value)) (g cap:Nat),v=.slice (some ⟨g,0,none⟩) cl.length cap/\kv.length=cl.length/\w.heap[g]?=some (.cells (chC kv).toArray 152 (0,0))/\∀ (i:Nat) it x,cl[i]?=some it->kv[i]?=some x->KV B w x.1 it.1/\KV B w x.2 it.2
theorem CHV.stay {B:Nat} {w w':World} {v:Value} {cl:List It} (h:CHV B w v cl) (f:FT B w w') (hk:∀ (k:Nat) (cs:Array Value),w.heap[k]?=some (.cells cs 152 (0,0))->w'.heap[k]?=some (.cells cs 152 (0,0))):CHV B w' v cl:=by
 obtain ⟨kv,g,cap,h1,h2,h3,h4⟩:=h;exact ⟨kv,g,cap,h1,h2,hk g _ h3,fun i it x e1 e2=>⟨(h4 i it x e1 e2).1.ft f,(h4 i it x e1 e2).2.ft f⟩⟩
theorem CHV.later (h:CHV B w v cl) (hb:Below w.heap.size w w') (hB:B<=w.heap.size):CHV B w' v cl :=
 h.stay (FT.of hb hB) fun k cs e=>(hb.block k (lO e)).trans e
theorem CHV.at (h:CHV B w v cl) {j:Nat} {it:It} (hj:cl[j]?=some it):∃ g cap ka kc va vc,v=.slice (some ⟨g,0,none⟩) cl.length cap/\w.cell? ⟨g,j*4,none⟩=some (.int .i64 15)/\w.cell? ⟨g,j*4+1,none⟩=some (.slice ka it.1.length kc)/\w.cell? ⟨g,j*4+2,none⟩=some (.slice va it.2.length vc)/\w.cell? ⟨g,j*4+3,none⟩=some (.bool false)/\BK B w ka it.1.length kc it.1/\BK B w va it.2.length vc it.2:=by
 obtain ⟨kv,g,cap,h1,h2,h3,h4⟩:=h;have hlt:=(lL hj);obtain ⟨x,hx⟩:∃ x,kv[j]?=some x:=⟨_,gE (by omega)⟩;obtain ⟨⟨ka,kc,e1,b1⟩,⟨va,vc,e2,b2⟩⟩:=h4 j it x hj hx;obtain ⟨p0,p1,p2,p3⟩:=chC_get hx;have get:∀ i u,(chC kv)[i]?=some u->w.cell? ⟨g,i,none⟩=some u:=fun i u hi=>by
  rw [aAa h3,List.getElem?_toArray];exact hi
 exact ⟨g,cap,ka,kc,va,vc,h1,get _ _ p0,by rw [<-e1];exact get _ _ p1,by rw [<-e2];exact get _ _ p2,get _ _ p3,b1,b2⟩
theorem isSpace_15 (w:World):Calls prog 92 #[.int .i64 15] w fun e w'=>e=.returned (.bool true)/\w'=w:=by
 go_enter func92,ntmps92;go_wp2;go_ret;exact ⟨rfl,rfl⟩
theorem isWrong_no (w:World) (h0:0<kn) :
  Calls prog 127 #[.agg #[.int .i64 15,.slice ka kn kc,.slice va vn vc,.bool false]] w fun e w'=>e=.returned (.bool false)/\Below w.heap.size w w':=by
 have zb:((kn:Int) == 0)=false:=by simp;omega
 have HBX:=zH (aAc w (.cells #[.int .i64 15,.slice ka kn kc,.slice va vn vc,.bool false] 152));have HIS:=zH (fun w=>isSpace_15 w);go_enter func127,ntmps127;go_wp2_with fail;refine (HIS.o _).mono ?_;rintro e w1 ⟨rfl,hw⟩;have hw:=hw.symm;subst hw;go_wp2;go_ret;refine ⟨?_,HBX.o⟩
 first | rfl | (show Ending.returned (.bool ((kn:Int) == 0))=_;rw [zb])
theorem isLong_no (w:World) (h0:kn<=60) (h1:vn<=1800) :
  Calls prog 128 #[.agg #[.int .i64 15,.slice ka kn kc,.slice va vn vc,.bool false]] w fun e w'=>e=.returned (.bool false)/\Below w.heap.size w w':=by
 have z0:¬ (60:Int)<(kn:Int):=by omega
 have z1:¬ (1800:Int)<(vn:Int):=by omega
 have HBX:=zH (aAc w (.cells #[.int .i64 15,.slice ka kn kc,.slice va vn vc,.bool false] 152));go_enter func128,ntmps128;go_wp2;go_ret;exact ⟨rfl,HBX.o⟩
theorem indexFunc_no (hv:CHV B w v cl) (hB:B<=w.heap.size) (hl:cl.length<=1000) (hcf:∀ (a:Value) (ww:World),(callFunc K #[a]).run prog ww=.ok (.enter K #[a]) ww)
  (hK:∀ (it:It) (ka va:Option Addr) (kc vc:Nat) (ww:World),it∈cl->Calls prog K #[.agg #[.int .i64 15,.slice ka it.1.length kc,.slice va it.2.length vc,.bool false]] ww fun e w'=>e=.returned (.bool false)/\Below ww.heap.size ww w') :
  Calls prog 146 #[v,.func (Fn.func K) #[] #[]] w fun e w'=>e=.returned (.int .i64 (-1))/\Below w.heap.size w w':=by
 obtain ⟨g,cap,hform⟩:∃ g cap,v=.slice (some ⟨g,0,none⟩) cl.length cap:=by
  obtain ⟨kv,g,cap,h1,_⟩:=hv;exact ⟨g,cap,h1⟩
 subst hform;have HV:=zH hv;have HK:=zH hK;have HCF:=zH hcf;clear hv hK hcf;generalize hN:cl.length=M at *
 go_enter func146,ntmps146;go_wp2_with fail;go_loopw [8] (fun i wx=>∃ j:Nat,j<=M/\i=.int .i64 j/\Below w.heap.size w wx) (fun i _=>M-(intOf i).toNat)
 case atStart=>exact ⟨0,by omega,rfl,Below.refl _ _⟩
 case round =>
  obtain ⟨j,hj,rfl,hb⟩:=hrel;have HB:=zH hb;by_cases hjn:j<M
  ·have xj:(j:Int)<(M:Int):=by omega
   obtain ⟨it,hit⟩:∃ it,cl[j]?=some it:=⟨_,gE (by omega)⟩;obtain ⟨g',cap',ka,kc,va,vc,f1,q1,q2,q3,q4,q5,q6⟩:=(HV.o.later hb hB).at hit;rw [hN] at f1;simp only [Value.slice.injEq,oI,Addr.mk.injEq] at f1;obtain ⟨⟨rfl,_,_⟩,_,rfl⟩:=f1;have HC:=zH (HK.o it ka va kc vc wr (mG hit));have hcf1:=HCF.o (.agg #[.int .i64 15,.slice ka it.1.length kc,.slice va it.2.length vc,.bool false]) wr;generalize it.1.length=kn at *
   generalize it.2.length=vn at *
   clear hb hit q5 q6;go_wp2_with fail;refine HC.o.mono ?_;rintro e w1 ⟨rfl,hb1⟩;have HB1:=zH (HB.o.trans (hb1.mono HB.o.size));clear hb1 HC;go_wp2_with fail;go_roundw
   case rel=>exact ⟨j+1,by omega,by go_num,HB1.o⟩
   case measure=>simp [intOf];omega
  ·have xj:¬ (j:Int)<(M:Int):=by omega
   clear hb;go_wp2;go_ret;exact ⟨rfl,HB.o⟩
theorem aCw (hv:CHV B w v cl) (hB:B<=w.heap.size) (hl:cl.length<=1000) (hcf:∀ (a:Value) (ww:World),(callFunc K #[a]).run prog ww=.ok (.enter K #[a]) ww)
  (hK:∀ (it:It) (ka va:Option Addr) (kc vc:Nat) (ww:World),it∈cl->Calls prog K #[.agg #[.int .i64 15,.slice ka it.1.length kc,.slice va it.2.length vc,.bool false]] ww fun e w'=>e=.returned (.bool false)/\Below ww.heap.size ww w') :
  Calls prog 126 #[v,.func (Fn.func K) #[] #[]] w fun e w'=>e=.returned (.bool false)/\Below w.heap.size w w':=by
 have HI:=zH (indexFunc_no hv hB hl hcf hK);obtain ⟨g,cap,hform⟩:∃ g cap,v=.slice (some ⟨g,0,none⟩) cl.length cap:=by
  obtain ⟨kv,g,cap,h1,_⟩:=hv;exact ⟨g,cap,h1⟩
 subst hform;clear hv hcf hK;go_enter func126,ntmps126;go_wp2_with fail;refine HI.o.mono ?_;rintro e w1 ⟨rfl,hb1⟩;have HB1:=zH hb1;clear hb1;go_wp2;go_ret;exact ⟨rfl,HB1.o⟩
theorem LS.refusal [Gd] {ls:Nat} (h:LS B p q g ls N c u l W w) (hv:CHV B w v cl) (hl:cl.length<=1000) (hok:∀ x∈cl,0<x.1.length/\x.1.length<=60/\x.2.length<=1800) :
  Calls prog 91 #[.pointer (some ⟨ls,0,none⟩),.bool true,v] w fun e w'=>e=.returned (.int .i64 0)/\Below w.heap.size w w':=by
 have HD:=zH h.dead;have HBW:=zH h.bw;have HV:=zH hv;have HOK:=zH hok;obtain ⟨gv,cap,hform⟩:∃ g cap,v=.slice (some ⟨g,0,none⟩) cl.length cap:=by
  obtain ⟨kv,g,cap,h1,_⟩:=hv;exact ⟨g,cap,h1⟩
 subst hform;clear h hv hok;go_enter func91,ntmps91;go_wp2_with fail;refine HD.o.mono ?_;rintro e w1 ⟨rfl,hb1⟩;have HB1:=zH hb1;have HV1:=zH (HV.o.later hb1 HBW.o);have HBW1:Hid (B<=w1.heap.size):=nT HBW.o hb1.size;have HC1:=zH (aCw (K:=127) HV1.o HBW1.o hl (fun a ww=>by rfl) (fun it ka va kc vc ww hm=>isWrong_no ww (HOK.o it hm).1));clear hb1;go_wp2_with fail;refine HC1.o.mono ?_;rintro e w2 ⟨rfl,hb2⟩;have HB2:=zH (HB1.o.trans (hb2.mono HB1.o.size));have HV2:=zH (HV1.o.later hb2 HBW1.o);have HBW2:Hid (B<=w2.heap.size):=nT HBW1.o hb2.size;have HC2:=zH (aCw (K:=128) HV2.o HBW2.o hl (fun a ww=>by rfl) (fun it ka va kc vc ww hm=>isLong_no ww (HOK.o it hm).2.1 (HOK.o it hm).2.2));clear hb2 HC1;go_wp2_with fail;refine HC2.o.mono ?_;rintro e w3 ⟨rfl,hb3⟩;have HB3:=zH (HB2.o.trans (hb3.mono HB2.o.size));clear hb3 HC2;go_wp2;go_ret;exact ⟨rfl,HB3.o⟩
def ByK (w w':World):Prop:=∀ (k:Nat) (cs:Array Value) (fz:Nat×Nat),w.heap[k]?=some (Obj.cells cs 5 fz)->w'.heap[k]?=some (Obj.cells cs 5 fz)
theorem ST.fp [Gd] (h:ST B p q s t w):∃ F:Nat->Prop,(∀ k,F k->FBk w k)/\(∀ k,Gd.s k->¬ F k)/\∀ (w':World) (S':Nat->Prop),(∀ k,F k->w'.heap[k]?=w.heap[k]?)->ByK w w'->(∀ k,S' k->FBk w' k/\¬ F k)->@ST ⟨S'⟩ B p q s t w':=by
 obtain ⟨⟨gb,vo,kv,ov,wv,⟨dp,dg,dw,dk,db,do_,da,dpB,dgB,dok,dG⟩⟩,gs,⟨vq,vs,vqB,vgB,vok,vG⟩⟩:=h;refine ⟨fun k=>k=p\/k=gb\/vo.ownBlock=some k\/(∃ i,i<s.n/\(ov i).ownBlock=some k)\/k=q\/k=gs,?_,?_,?_⟩
 ·intro k hk;rcases hk with rfl | rfl | hk | ⟨i,hi,hk⟩ | rfl | rfl
  ·exact ⟨_,_,dp,by unfold DTy;decide⟩
  ·exact ⟨_,_,dg,by unfold DTy;decide⟩
  ·obtain ⟨_,cur,hc⟩:=aAm dw hk;exact ⟨_,_,hc,by unfold DTy;decide⟩
  ·obtain ⟨_,cur,hc⟩:=aAm (do_ i hi) hk;exact ⟨_,_,hc,by unfold DTy;decide⟩
  ·exact ⟨_,_,vq,by unfold DTy;decide⟩
  ·exact ⟨_,_,vs,by unfold DTy;decide⟩
 ·intro k hs hk;obtain ⟨_,a1,a2,a3,a4⟩:=dG k hs;obtain ⟨a5,a6⟩:=vG k hs;rcases hk with e | e | e | ⟨i,hi,e⟩ | e | e
  ·exact a1 e
  ·exact a2 e
  ·exact a3 e
  ·exact a4 i hi e
  ·exact a5 e
  ·exact a6 e
 ·intro w' S' hF hB hS;letI:Gd:=⟨S'⟩;refine ⟨⟨gb,vo,kv,ov,wv,?_⟩,gs,?_⟩
  ·exact ⟨(hF p (Or.inl rfl)).trans dp,(hF gb (Or.inr (Or.inl rfl))).trans dg,aAl dw fun k cs hk e=>(hF k (Or.inr (Or.inr (Or.inl hk)))).trans e,fun i hi=>aAl (dk i hi) fun k cs _ e=>hB k cs _ e,fun i hi=>aAl (db i hi) fun k cs _ e=>hB k cs _ e,
    fun i hi=>aAl (do_ i hi) fun k cs hk e=>(hF k (Or.inr (Or.inr (Or.inr (Or.inl ⟨i,hi,hk⟩))))).trans e,da,dpB,dgB,dok,fun k hk=>⟨(hS k hk).1,fun e=>(hS k hk).2 (Or.inl e),fun e=>(hS k hk).2 (Or.inr (Or.inl e)),fun e=>(hS k hk).2 (Or.inr (Or.inr (Or.inl e))),fun i hi e=>(hS k hk).2 (Or.inr (Or.inr (Or.inr (Or.inl ⟨i,hi,e⟩))))⟩⟩
  ·exact ⟨(hF q (Or.inr (Or.inr (Or.inr (Or.inr (Or.inl rfl)))))).trans vq,(hF gs (Or.inr (Or.inr (Or.inr (Or.inr (Or.inr rfl)))))).trans vs,vqB,vgB,vok,fun k hk=>⟨fun e=>(hS k hk).2 (Or.inr (Or.inr (Or.inr (Or.inr (Or.inl e))))),fun e=>(hS k hk).2 (Or.inr (Or.inr (Or.inr (Or.inr (Or.inr e)))))⟩⟩
theorem KX.fp [Gd] (h:KX B p q g N c u l W w):∃ F:Nat->Prop,(∀ k,F k->FBk w k)/\(∀ k,Gd.s k->¬ F k)/\∀ (w':World) (S':Nat->Prop),(∀ k,F k->w'.heap[k]?=w.heap[k]?)->ByK w w'->w'.heap[g]?=w.heap[g]?->Below B w w'->(∀ k,S' k->FBk w' k/\¬ F k)->@KX ⟨S'⟩ B p q g N c u l W w':=by
 obtain ⟨last,s,t,now,left,⟨⟨m1,m2,m3,⟨cg,k1,k2⟩,m5,m6,m7,m8,m9,m10⟩,t1,t2,t3,t4,t5,t6,t7,t8⟩⟩:=h;obtain ⟨F,h1,h2,h3⟩:=m1.fp;refine ⟨F,h1,h2,fun w' S' hF hB hg hb hS=>⟨last,s,t,now,left,?_⟩⟩;have h4:=h3 w' S' hF hB hS;letI:Gd:=⟨S'⟩;exact ⟨⟨h4,nT m2 hb.size,m3,⟨cg,hg.trans k1,k2⟩,m5,m6,m7,m8,m9,m10⟩,t1,t2,t3,t4,t5,t6,t7,t8.trans hb⟩
theorem aGf (h:BS w a n c xs) (hn:n<=10000) :
  Calls prog 94 #[.int .i64 15,.slice a n c] w fun e w'=>∃ b d,e=.returned (.slice b (n+1) d)/\BK B w' b (n+1) d (15::xs)/\Below w.heap.size w w':=aC6 (sp:=15) (by decide) h hn
def GtT (B:Nat) (o:Option (List Nat)) (w:World) (e:Ending) (w':World):Prop:=∃ v isb,e=.returned (.tuple #[v,.bool isb,.int .i64 0])/\VlV B w' o v isb/\Below w.heap.size w w'
theorem kv_nil (B:Nat) (w:World):KV B w (.slice none 0 0) []:=⟨none,0,rfl,BK.nil _ _⟩
theorem CHV.one {kv vv:Value} (h:w.heap[g]?=some (.cells #[.int .i64 15,kv,vv,.bool false] 152 (0,0))) (hk:KV B w kv it.1) (hv:KV B w vv it.2):CHV B w (.slice (some ⟨g,0,none⟩) 1 1) [it]:=by
 refine ⟨[(kv,vv)],g,1,rfl,rfl,h,fun i it' x h1 h2=>?_⟩;have:i=0:=by
  have:=(lL h1);simp at this;omega
 subst this;simp at h1 h2;subst h1 h2;exact ⟨hk,hv⟩
theorem LS.cell0 [Gd] {ls:Nat} (h:LS B p q g ls N c u l W w):w.cell? ⟨ls,0,none⟩=some (.pointer (some ⟨g,0,none⟩)):=by
 obtain ⟨cs,h1,h2⟩:=h.lv;exact (aAa h1).trans h2.c0
theorem LS.Get [Gd] {ls:Nat} (h:LS B p q g ls N c u l W w) {ka:Option Addr} {kn kc:Nat} {key:List Nat} (hk:BK B w ka kn kc key) (h0:0<kn) (h6:kn<=60) :
  Calls prog 102 #[.pointer (some ⟨ls,0,none⟩),.int .i64 15,.slice ka kn kc] w fun e w'=>GtT B (valL l (15::key)) w e w':=by
 have hkl:=hk.len;obtain ⟨x1,hx1⟩:∃ x,x=w.alloc (.cells #[.int .i64 15,.slice ka kn kc,.slice none 0 0,.bool false] 152):=⟨_,rfl⟩;obtain ⟨x2,hx2⟩:∃ x,x=x1.alloc (.cells #[.int .i64 15,.slice ka kn kc,.slice none 0 0,.bool false] 152):=⟨_,rfl⟩;have b1:Below w.heap.size w x1:=by rw [hx1];exact aAc w _
 have b2:Below x1.heap.size x1 x2:=by rw [hx2];exact aAc x1 _
 have HB2:Hid (Below w.heap.size w x2):=b1.trans (b2.mono b1.size);have hs1:x1.heap.size=w.heap.size+1:=by rw [hx1];exact Array.size_push _
 have hnew:x2.heap[w.heap.size+1]?=some (.cells #[.int .i64 15,.slice ka kn kc,.slice none 0 0,.bool false] 152 (0,0)):=by rw [<-hs1,hx2];exact heap_alloc_new x1 _
 have hL2:=h.later HB2.o;have HRF:=zH (hL2.refusal (CHV.one (it:=(key,[])) hnew ⟨ka,kc,by rw [hkl],by rw [hkl];exact hk.later HB2.o h.bw⟩ (kv_nil _ _)) (by simp) (by intro x hx;simp only [List.mem_singleton] at hx;subst hx;exact ⟨by rw [hkl];exact h0,by rw [hkl];exact h6,by simp⟩));have HL:=zH hL2;have HK:=zH (hk.later HB2.o h.bw);rw [hx2,hx1] at HRF;clear h hk b1 b2 hs1 hnew hL2;go_enter func102,ntmps102;go_wp2_with fail;refine HRF.o.mono ?_;rintro e w3 ⟨rfl,hb3⟩;rw [<-hx1,<-hx2] at hb3;have HL3:=zH (HL.o.later hb3);have HK3:=zH (HK.o.later hb3 HL.o.bw);have HB3:=zH (HB2.o.trans (hb3.mono HB2.o.size));clear hb3 HRF hx1 hx2 HB2;have HX0:Hid ((fun wx=>wx.cell? ⟨ls,0,none⟩=some (.pointer (some ⟨g,0,none⟩))) w3.drew):=HL3.o.cell0;have HLD:=zH (HL3.o.later (Below.refl _ _).drew);have HKD:=zH (HK3.o.later (Below.refl _ _).drew HL3.o.bw);have HBD:Hid (Below w.heap.size w w3.drew):=HB3.o.drew;go_upto_region 5 with fail;have HTK:=zH (aGf (B:=B) HKD.o.1 (by omega));refine wp_region_noPanic ?_;refine wp_region_held_drew (S:=fun wx=>wx.cell? ⟨ls,0,none⟩=some (.pointer (some ⟨g,0,none⟩))) (by kernel_rfl) HX0.o (fun hHeld=>?_);refine kT 0 22 ?_;refine kT 1 23 ?_;refine kT 2 24 ?_;refine kT 3 25 ?_;refine kT 4 26 ?_;refine kT 5 27 ?_;refine kC 6 ?_;intro K hK;go_simp;refine HTK.o.mono ?_;rintro e w5 ⟨tb,td,rfl,hk5,hb5⟩;have HL5:=zH (HLD.o.later hb5);have HB5:=zH (HBD.o.trans (hb5.mono HBD.o.size));have HGT:=zH (HL5.o.kx.Get hk5 (by omega) (by omega));have HX5:Hid ((fun wx=>wx.cell? ⟨ls,0,none⟩=some (.pointer (some ⟨g,0,none⟩))) w5):=HL5.o.cell0;clear hk5 hb5 hHeld;refine hK.out _ _ HX5.o (fun hHeld=>?_);clear hK K
 try simp only [Act.put,siT,scZ,scS]
 refine kC 7 ?_;intro K hK;go_simp;refine HGT.o.mono ?_;rintro e w6 ⟨v,isb,rfl,hv6,hb6⟩;obtain ⟨va,vn,vc,hva⟩:=hv6.form;subst hva;have HL6:=zH (HL5.o.later hb6);have HB6:=zH (HB5.o.trans (hb6.mono HB5.o.size));have HV6:=zH hv6;have HX6:Hid ((fun wx=>wx.cell? ⟨ls,0,none⟩=some (.pointer (some ⟨g,0,none⟩))) w6):=HL6.o.cell0;clear hv6 hb6 hHeld;refine hK.out _ _ HX6.o (fun hHeld=>?_);clear hK K
 try simp only [Act.put,siT,scZ,scS]
 refine kT 8 30 ?_;refine kT 9 31 ?_;refine kT 10 32 ?_;refine kT 11 6 ?_;refine kT 12 7 ?_;refine kT 13 8 ?_;refine wpAnyH_done (by kernel_rfl) ?_ _;refine NoPanic.normal ?_;clear hHeld;go_wp2;go_ret3;exact ⟨_,isb,rfl,HV6.o,HB6.o⟩
structure LyF [Gd] (B g fb:Nat) (w w':World):Prop where
 bel:Below B w w'
 stay:∀ (k:Nat) (cs:Array Value) (t:TypeId) (fz:Nat×Nat),w.heap[k]?=some (Obj.cells cs t fz)->NT t->k≠g->k≠fb->w'.heap[k]?=some (Obj.cells cs t fz)
 gd:GdK w w'
theorem LyF.refl [Gd] (B g fb:Nat) (w:World):LyF B g fb w w:=⟨Below.refl _ _,fun _ _ _ _ h _ _ _=>h,GdK.refl w⟩
theorem LyF.trans [Gd] {a b c:World} (h:LyF B g fb a b) (k:LyF B g fb b c):LyF B g fb a c:=⟨h.1.trans k.1,fun i cs t fz e n1 n2 n3=>k.2 i cs t fz (h.2 i cs t fz e n1 n2 n3) n1 n2 n3,h.gd.trans k.gd⟩
theorem LyF.ch [Gd] (h:ChF B g w w'):LyF B g fb w w':=⟨h.1,fun k cs t fz e n1 n2 _=>h.2 k cs t fz e n1 n2,h.gd⟩
theorem LyF.of [Gd] (h:Below w.heap.size w w') (hB:B<=w.heap.size):LyF B g fb w w':=⟨h.mono hB,fun i cs t fz e _ _ _=>(h.block i (lO e)).trans e,GdK.of h⟩
theorem LyF.set [Gd] {x:Value} (hB:B<=fb) {cg:Array Value} {tg:TypeId} {fz:Nat×Nat} (hg:w.heap[fb]?=some (.cells cg tg fz)) (htg:¬ DTy tg):LyF B g fb w (w.setCell ⟨fb,o,none⟩ x):=⟨(Ex.set hB).1,fun i cs t fz e h1 h2 h3=>by rw [(Ex.set (w:=w) (o:=o) (u:=x) hB).2 i (lO e) (by simpa using h3),e],(Ex.set hB).gdk hg htg⟩
theorem LS.ch [Gd] {ls c' u':Nat} {l':List It} (h:LS B p q g ls N c u l W w) (f:ChF B g w w') (hx:KX B p q g N c' u' l' W w'):LS B p q g ls N c' u' l' W w':=by
 obtain ⟨cs,h1,h2⟩:=h.lv;obtain ⟨cg,hg⟩:=h.kx.blk;refine ⟨hx,h.bl,cs,f.2 _ _ _ _ h1 (by decide) (fun q9=>?_),h2⟩;rw [q9,hg] at h1;simp only [oI,cI] at h1;exact absurd h1.2.1 (by decide)
theorem LS.putOrTake [Gd] {ls:Nat} (hg0:True) (h:LS B p q g ls N c u l W w) (hu:u+20<=N) (hu2:u<=3000) (hl:l.length<90) (it:It) (hit:ItOk it) {ka va:Option Addr} {kn kc vn vc:Nat} (hkn:it.1.length=kn) (hvn:it.2.length=vn) (hk:BK B w ka kn kc it.1) (hv:BK B w va vn vc it.2) {xa:Option Addr} {xn xc:Nat} :
  Calls prog 151 #[.pointer (some ⟨ls,0,none⟩),.slice ka kn kc,.agg #[.int .i64 15,.slice xa xn xc,.slice va vn vc,.bool false]] w fun e w'=>e=.returned (.int .i64 0)/\ChF B g w w'/\LS B p q g ls N c (u+9) (putL l it) W w':=by
 have HBX:=zH (aAc w (.cells #[.int .i64 15,.slice xa xn xc,.slice va vn vc,.bool false] 152));have HNW:Hid ((w.alloc (.cells #[.int .i64 15,.slice xa xn xc,.slice va vn vc,.bool false] 152)).heap[w.heap.size]?=some (.cells #[.int .i64 15,.slice xa xn xc,.slice va vn vc,.bool false] 152 (0,0))):=heap_alloc_new w _;have HL1:=zH (h.later HBX.o);have HK1:=zH (hk.later HBX.o h.bw);have HV1:=zH (hv.later HBX.o h.bw);have HBW:=zH h.bw;have HIT:=zH hit;clear h hk hv hit;go_enter func151,ntmps151;go_upto_region 1 with fail;generalize hcb:w.heap.size=cb at *
 generalize w.alloc (.cells #[.int .i64 15,.slice xa xn xc,.slice va vn vc,.bool false] 152)=w1 at *
 have r3:w1.cell? ⟨cb,3,none⟩=some (.bool false):=aAa HNW.o;have hd:Below w1.heap.size w1 w1.drew:=(Below.refl _ _).drew;have HLD:=zH (HL1.o.later hd);have HPU:=zH (HLD.o.kx.Put hg0 hu hu2 hl it HIT.o hkn hvn (HK1.o.later hd HL1.o.bw) (HV1.o.later hd HL1.o.bw));have HX0:Hid ((fun wx=>wx.cell? ⟨ls,0,none⟩=some (.pointer (some ⟨g,0,none⟩))/\wx.cell? ⟨cb,2,none⟩=some (.slice va vn vc)) w1.drew):=⟨HLD.o.cell0,aAa HNW.o⟩;have HBD:Hid (Below cb w w1.drew):=HBX.o.drew;have HNW2:Hid (w1.drew.heap[cb]?=some (.cells #[.int .i64 15,.slice xa xn xc,.slice va vn vc,.bool false] 152 (0,0))):=HNW.o;clear hd;go_upto_region 2 with fail;have HN2:Hid (w1.drew.heap[cb]?=some (.cells #[.int .i64 15,.slice xa xn xc,.slice va vn vc,.bool false] 152 (0,0))):=HNW2.o;have HXC:Hid (∀ w3,ChF B g w1.drew w3->w3.cell? ⟨cb,2,none⟩=some (.slice va vn vc)):=fun w3 hc=>by
  obtain ⟨cg,hg⟩:=HLD.o.kx.blk;refine aAa (hc.2 _ _ _ _ HN2.o (by decide) (fun q9=>?_));have h9:=HN2.o;rw [q9,hg] at h9;simp only [oI,cI] at h9;exact absurd h9.2.1 (by decide)
 refine wp_region_noPanic ?_;refine wp_region_held_drew (S:=fun wx=>wx.cell? ⟨ls,0,none⟩=some (.pointer (some ⟨g,0,none⟩))/\wx.cell? ⟨cb,2,none⟩=some (.slice va vn vc)) (by kernel_rfl) HX0.o (fun hHeld=>?_);refine kT 0 12 ?_;refine kT 1 13 ?_;refine kT 2 14 ?_;refine kT 3 15 ?_;refine kT 4 16 ?_;refine kT 5 17 ?_;refine kT 6 18 ?_;refine kT 7 19 ?_;refine kC 8 ?_;intro K hK;go_simp;refine HPU.o.mono ?_;rintro e w3 ⟨rfl,hc3,hx3⟩;have HL3:=zH (HLD.o.ch hc3 hx3);have HC3:=zH hc3;have HX3:Hid ((fun wx=>wx.cell? ⟨ls,0,none⟩=some (.pointer (some ⟨g,0,none⟩))/\wx.cell? ⟨cb,2,none⟩=some (.slice va vn vc)) w3):=⟨HL3.o.cell0,HXC.o w3 hc3⟩;clear hc3 hx3 hHeld;refine hK.out _ _ HX3.o (fun hHeld=>?_);clear hK K
 try simp only [Act.put,siT,scZ,scS]
 refine kT 9 6 ?_;refine wpAnyH_done (by kernel_rfl) ?_ _;refine NoPanic.normal ?_;clear hHeld;go_wp2;go_ret;refine ⟨rfl,⟨(HBD.o.mono HBW.o).trans HC3.o.1,fun k cs t fz e n1 n2=>HC3.o.2 k cs t fz ((HBD.o.block k (by have:=(lO e);omega)).trans e) n1 n2,GdK.trans (fun k _ hf=>HBD.o.block k (by have:=hf.lt;omega)) HC3.o.gd⟩,HL3.o⟩
structure FGV (cs:Array Value):Prop where
 sz:cs.size=17
 c0:cs[0]?=some (.int .i64 0)
 cp:∀ i,1<=i->i<17->∃ n:Int,cs[i]?=some (.int .i64 n)
theorem FGV.set (h:FGV cs) {o:Nat} (ho:1<=o) (n:Int):FGV (cs.setIfInBounds o (.int .i64 n)):=by
 refine ⟨by rw [Array.size_setIfInBounds];exact h.sz,by rw [Array.getElem?_setIfInBounds_ne (by omega)];exact h.c0,fun i h1 h2=>?_⟩;by_cases e:o=i
 ·subst e;exact ⟨n,Array.getElem?_setIfInBounds_self_of_lt (by rw [h.sz];exact h2)⟩
 ·rw [Array.getElem?_setIfInBounds_ne e];exact h.cp i h1 h2
theorem aAs {a:Nat} {ww:World} {ca cb:Array Value} {ta tb:TypeId} {fa:Nat×Nat} (ha:ww.heap[a]?=some (.cells ca ta fa)) (hb:ww.heap[b]?=some (.cells cb tb fz)) (ht:ta≠tb):a≠b:=fun e=>by
 rw [e,hb] at ha
 simp only [oI,cI] at ha
 exact ht ha.2.1.symm
section
variable [Gd] {B p q g ls N c u fb:Nat} {l:List It} {W w w':World}
theorem LS.fig (h:LS B p q g ls N c u l W w) {cf:Array Value} {o:Nat} {x:Value} (hf:w.heap[fb]?=some (.cells cf 126 (0,0))) (hB:B<=fb):LS B p q g ls N c u l W (w.setCell ⟨fb,o,none⟩ x):=by
 obtain ⟨cs,h1,h2⟩:=h.lv;have keep:∀ (k:Nat) (cs:Array Value) (t:TypeId) (fz:Nat×Nat),w.heap[k]?=some (Obj.cells cs t fz)->t≠126->(w.setCell ⟨fb,o,none⟩ x).heap[k]?=some (Obj.cells cs t fz):=fun k cs t fz e ht=>by
  rw [(Ex.set (w:=w) (o:=o) (u:=x) hB).2 k (lO e) (by simpa using aAs e hf ht),e]
 refine ⟨h.kx.same (Ex.set hB).1 (fun k cs t fz e ht=>keep k cs t fz e ?_),h.bl,cs,keep _ _ _ _ h1 (by decide),h2⟩;rcases ht with rfl | rfl | ht
 ·decide
 ·decide
 ·intro q9;rw [q9] at ht;exact ht (by decide)
theorem LyF.ft (h:LS B p q g ls N c u l W w) (f:LyF B g fb w w') {cf:Array Value} (hf:w.heap[fb]?=some (.cells cf 126 (0,0))):FT B w w':=by
 obtain ⟨cg,hg⟩:=h.kx.blk;exact ⟨f.1,fun k cs fz e=>f.2 k cs _ fz e (by decide) (aAs e hg (by decide)) (aAs e hf (by decide))⟩
end
theorem LS.layOne [Gd] {ls:Nat} (hg0:True) (h:LS B p q g ls N c u l W w) (hu:u+20<=N) (hu2:u<=3000) (hl:l.length<90) (it:It) (hit:ItOk (15::it.1,it.2)) {xa va:Option Addr} {xn xc vn vc:Nat} (hxn:it.1.length=xn) (hvn:it.2.length=vn) (hk:BK B w xa xn xc it.1) (hv:BK B w va vn vc it.2) {cf:Array Value} (hBf:B<=fb) (hf:w.heap[fb]?=some (.cells cf 126 (0,0))) (hF:FGV cf) :
  Calls prog 132 #[.pointer (some ⟨ls,0,none⟩),.agg #[.int .i64 15,.slice xa xn xc,.slice va vn vc,.bool false],.pointer (some ⟨fb,0,none⟩)] w fun e w'=>e=.returned (.int .i64 0)/\LyF B g fb w w'/\LS B p q g ls N c (u+9) (putL l (15::it.1,it.2)) W w'/\∃ cf',w'.heap[fb]?=some (.cells cf' 126 (0,0))/\FGV cf':=by
 have h6:xn<=63:=by
  have h9:(15::it.1).length<=64:=hit.k1;simp at h9;omega
 have HBX:=zH (aAc w (.cells #[.int .i64 15,.slice xa xn xc,.slice va vn vc,.bool false] 152));have HNW:Hid ((w.alloc (.cells #[.int .i64 15,.slice xa xn xc,.slice va vn vc,.bool false] 152)).heap[w.heap.size]?=some (.cells #[.int .i64 15,.slice xa xn xc,.slice va vn vc,.bool false] 152 (0,0))):=heap_alloc_new w _;have HL1:=zH (h.later HBX.o);have HK1:=zH (hk.later HBX.o h.bw);have HV1:=zH (hv.later HBX.o h.bw);have HF1:=zH ((HBX.o.block fb (lO hf)).trans hf);have HFV:=zH hF;have HBW:=zH h.bw;have HIT:=zH hit;clear h hk hv hit hf hF;go_enter func132,ntmps132;go_upto_region 1 with fail;generalize hcb:w.heap.size=cb at *
 generalize w.alloc (.cells #[.int .i64 15,.slice xa xn xc,.slice va vn vc,.bool false] 152)=w1 at *
 have r0:w1.cell? ⟨ls,0,none⟩=some (.pointer (some ⟨g,0,none⟩)):=HL1.o.cell0;have HLE:=zH HL1.o.kx.Len;go_wp2_with fail;refine HLE.o.mono ?_;rintro e w9 ⟨rfl,hw⟩;have hw:=hw.symm;subst hw;have hd:Below w1.heap.size w1 w1.drew:=(Below.refl _ _).drew;have HLD:=zH (HL1.o.later hd);have HNWD:Hid (w1.drew.heap[cb]?=some (.cells #[.int .i64 15,.slice xa xn xc,.slice va vn vc,.bool false] 152 (0,0))):=HNW.o;have HFD:Hid (w1.drew.heap[fb]?=some (.cells cf 126 (0,0))):=HF1.o;have HVD:=zH (HV1.o.later hd HL1.o.bw);have HTK:=zH (aGf (B:=B) (HK1.o.later hd HL1.o.bw).1 (by omega));have HX0:Hid ((fun wx=>wx.cell? ⟨ls,0,none⟩=some (.pointer (some ⟨g,0,none⟩))/\wx.cell? ⟨cb,0,none⟩=some (.int .i64 15)/\wx.cell? ⟨cb,1,none⟩=some (.slice xa xn xc)/\wx.cell? ⟨cb,2,none⟩=some (.slice va vn vc)/\wx.cell? ⟨cb,3,none⟩=some (.bool false)) w1.drew):=⟨HLD.o.cell0,aAa HNW.o,aAa HNW.o,aAa HNW.o,aAa HNW.o⟩;have HBD:Hid (Below cb w w1.drew):=HBX.o.drew;clear hd r0 HLE;go_upto_region 2 with fail;refine wp_region_noPanic ?_;refine wp_region_held_drew (S:=fun wx=>wx.cell? ⟨ls,0,none⟩=some (.pointer (some ⟨g,0,none⟩))/\wx.cell? ⟨cb,0,none⟩=some (.int .i64 15)/\wx.cell? ⟨cb,1,none⟩=some (.slice xa xn xc)/\wx.cell? ⟨cb,2,none⟩=some (.slice va vn vc)/\wx.cell? ⟨cb,3,none⟩=some (.bool false)) (by kernel_rfl) HX0.o (fun hHeld=>?_);refine kT 0 14 ?_;refine kT 1 15 ?_;refine kT 2 16 ?_;refine kT 3 17 ?_;refine kT 4 18 ?_;refine kT 5 19 ?_;refine kT 6 20 ?_;refine kT 8 22 ?_;refine kC 7 ?_;intro K hK;go_simp;refine HTK.o.mono ?_;rintro e w3 ⟨tb,td,rfl,hk3,hb3⟩;have HL3:=zH (HLD.o.later hb3);have HNW3:Hid (w3.heap[cb]?=some (.cells #[.int .i64 15,.slice xa xn xc,.slice va vn vc,.bool false] 152 (0,0))):=(hb3.block cb (lO HNWD.o)).trans HNWD.o;have HF3:Hid (w3.heap[fb]?=some (.cells cf 126 (0,0))):=(hb3.block fb (lO HFD.o)).trans HFD.o;have HB3:Hid (Below cb w w3):=HBD.o.trans (hb3.mono (by rw [<-hcb];exact HBD.o.size));have HPT:=zH (HL3.o.putOrTake hg0 hu hu2 hl (15::it.1,it.2) HIT.o (by show (15::it.1).length=xn+1;simp [hxn]) hvn hk3 (HVD.o.later hb3 HLD.o.bw) (xa:=xa) (xn:=xn) (xc:=xc));have HX3:Hid ((fun wx=>wx.cell? ⟨ls,0,none⟩=some (.pointer (some ⟨g,0,none⟩))/\wx.cell? ⟨cb,0,none⟩=some (.int .i64 15)/\wx.cell? ⟨cb,1,none⟩=some (.slice xa xn xc)/\wx.cell? ⟨cb,2,none⟩=some (.slice va vn vc)/\wx.cell? ⟨cb,3,none⟩=some (.bool false)) w3):=⟨HL3.o.cell0,aAa HNW3.o,aAa HNW3.o,aAa HNW3.o,aAa HNW3.o⟩;clear hk3 hb3 hHeld;refine hK.out _ _ HX3.o (fun hHeld=>?_);clear hK K
 try simp only [Act.put,siT,scZ,scS]
 refine kC 9 ?_;intro K hK;go_simp;refine HPT.o.mono ?_;rintro e w4 ⟨rfl,hc4,hl4⟩;obtain ⟨cg,hg⟩:=HL3.o.kx.blk;have HL4:=zH hl4;have HC4:=zH hc4;have HNW4:Hid (w4.heap[cb]?=some (.cells #[.int .i64 15,.slice xa xn xc,.slice va vn vc,.bool false] 152 (0,0))):=hc4.2 _ _ _ _ HNW3.o (by decide) (aAs HNW3.o hg (by decide));have HF4:Hid (w4.heap[fb]?=some (.cells cf 126 (0,0))):=hc4.2 _ _ _ _ HF3.o (by decide) (aAs HF3.o hg (by decide));have HX4:Hid ((fun wx=>wx.cell? ⟨ls,0,none⟩=some (.pointer (some ⟨g,0,none⟩))/\wx.cell? ⟨cb,0,none⟩=some (.int .i64 15)/\wx.cell? ⟨cb,1,none⟩=some (.slice xa xn xc)/\wx.cell? ⟨cb,2,none⟩=some (.slice va vn vc)/\wx.cell? ⟨cb,3,none⟩=some (.bool false)) w4):=⟨HL4.o.cell0,aAa HNW4.o,aAa HNW4.o,aAa HNW4.o,aAa HNW4.o⟩;clear hc4 hl4 hg hHeld;refine hK.out _ _ HX4.o (fun hHeld=>?_);clear hK K
 try simp only [Act.put,siT,scZ,scS]
 refine kT 10 8 ?_;refine wpAnyH_done (by kernel_rfl) ?_ _;refine NoPanic.normal ?_;clear hHeld HX0 HX3 HX4 HTK HPT;obtain ⟨n16,hn16⟩:=HFV.o.cp 16 (by decide) (by decide);have hd:Below w4.heap.size w4 w4.drew:=(Below.refl _ _).drew;have HLX:=zH (HL4.o.later hd);have HFX:Hid (w4.drew.heap[fb]?=some (.cells cf 126 (0,0))):=HF4.o;have HNX:Hid (w4.drew.heap[cb]?=some (.cells #[.int .i64 15,.slice xa xn xc,.slice va vn vc,.bool false] 152 (0,0))):=HNW4.o;have HLE:=zH HLX.o.kx.Len;have HX0:Hid ((fun wx=>wx.cell? ⟨ls,0,none⟩=some (.pointer (some ⟨g,0,none⟩))/\wx.cell? ⟨cb,0,none⟩=some (.int .i64 15)) w4.drew):=⟨HLX.o.cell0,aAa HNX.o⟩;have HBX4:Hid (LyF B g fb w w4.drew):=(LyF.of (by rw [hcb];exact HB3.o) (by rw [hcb];exact HBW.o)).trans ((LyF.ch HC4.o).trans (LyF.of hd HL4.o.bw));clear hd;go_upto_region 3 with fail;have y16:w4.drew.cell? ⟨fb,16,none⟩=some (.int .i64 n16):=(aAa HFX.o).trans hn16;have z16:w4.drew.frozen? ⟨fb,16,none⟩=false:=aAb HFX.o;clear hn16;generalize (putL l (15::it.1,it.2)).length=ln5 at *
 generalize l.length=ln0 at *
 refine wp_region_noPanic ?_;refine wp_region_held_drew (S:=fun wx=>wx.cell? ⟨ls,0,none⟩=some (.pointer (some ⟨g,0,none⟩))/\wx.cell? ⟨cb,0,none⟩=some (.int .i64 15)) (by kernel_rfl) HX0.o (fun hHeld=>?_);refine kT 0 24 ?_;refine kT 1 25 ?_;refine kT 2 26 ?_;refine kT 3 27 ?_;refine kT 4 28 ?_;refine kT 5 29 ?_;refine kT 6 30 ?_;refine kT 8 32 ?_;refine kT 9 33 ?_;refine kT 10 34 ?_;refine kT 11 35 ?_;refine kT 13 37 ?_;refine kT 16 40 ?_;refine kT 17 41 ?_;refine aAn (i:=7) (j:=12) (by kernel_rfl) (by kernel_rfl) (by kernel_rfl) ?ba ?bb
 case ba =>
  intro o ho K hK;simp only [List.getElem?_toArray,List.getElem?_cons_succ,List.getElem?_cons_zero,oI] at ho;subst ho;go_simp;refine hK.out _ _ hHeld (fun hHeld=>?_);clear hK K
  try simp only [Act.put,siT,scZ,scS]
  refine kC 12 ?_;intro K hK;go_simp;refine HLE.o.mono ?_;rintro e w9 ⟨rfl,hw⟩;have hw:=hw.symm;subst hw;refine hK.out _ _ hHeld (fun hHeld=>?_);clear hK K
  try simp only [Act.put,siT,scZ,scS]
  refine kT 14 38 ?_;refine kT 15 39 ?_;refine kT 18 42 ?_;refine kC 19 ?_;intro K hK;go_simp;have HXS:Hid (∀ x,(fun wx=>wx.cell? ⟨ls,0,none⟩=some (.pointer (some ⟨g,0,none⟩))/\wx.cell? ⟨cb,0,none⟩=some (.int .i64 15)) (w4.drew.setCell ⟨fb,16,none⟩ x)):=fun x=>by
   have hlx:=HLX.o.fig (o:=16) (x:=x) HFX.o hBf;refine ⟨hlx.cell0,(World.cell?_of_block (heap_setCell_other _ _ _ _ ?_)).trans HX0.o.2⟩;exact aAs HNX.o HFX.o (by decide)
  clear hHeld;refine hK.out _ _ (HXS.o _) (fun hHeld=>?_);clear hK K
  try simp only [Act.put,siT,scZ,scS]
  refine wpAnyH_done (by kernel_rfl) ?_ _;refine NoPanic.normal ?_;clear hHeld y16 z16;go_wp2;go_ret;exact ⟨rfl,HBX4.o.trans (LyF.set hBf HFX.o (by unfold DTy;decide)),HLX.o.fig HFX.o hBf,_,heap_setCell_same _ _ _ _ _ _ HFX.o,HFV.o.set (by decide) _⟩
 case bb =>
  intro o ho K hK;simp only [List.getElem?_toArray,List.getElem?_cons_succ,List.getElem?_cons_zero,oI] at ho;subst ho;go_simp;refine HLE.o.mono ?_;rintro e w9 ⟨rfl,hw⟩;have hw:=hw.symm;subst hw;refine hK.out _ _ hHeld (fun hHeld=>?_);clear hK K
  try simp only [Act.put,siT,scZ,scS]
  refine kT 14 38 ?_;refine kC 7 ?_;intro K hK;go_simp;refine hK.out _ _ hHeld (fun hHeld=>?_);clear hK K
  try simp only [Act.put,siT,scZ,scS]
  refine kT 15 39 ?_;refine kT 18 42 ?_;refine kC 19 ?_;intro K hK;go_simp;have HXS:Hid (∀ x,(fun wx=>wx.cell? ⟨ls,0,none⟩=some (.pointer (some ⟨g,0,none⟩))/\wx.cell? ⟨cb,0,none⟩=some (.int .i64 15)) (w4.drew.setCell ⟨fb,16,none⟩ x)):=fun x=>by
   have hlx:=HLX.o.fig (o:=16) (x:=x) HFX.o hBf;refine ⟨hlx.cell0,(World.cell?_of_block (heap_setCell_other _ _ _ _ ?_)).trans HX0.o.2⟩;exact aAs HNX.o HFX.o (by decide)
  clear hHeld;refine hK.out _ _ (HXS.o _) (fun hHeld=>?_);clear hK K
  try simp only [Act.put,siT,scZ,scS]
  refine wpAnyH_done (by kernel_rfl) ?_ _;refine NoPanic.normal ?_;clear hHeld y16 z16;go_wp2;go_ret;exact ⟨rfl,HBX4.o.trans (LyF.set hBf HFX.o (by unfold DTy;decide)),HLX.o.fig HFX.o hBf,_,heap_setCell_same _ _ _ _ _ _ HFX.o,HFV.o.set (by decide) _⟩
def apL (l:List It) (cl:List It):List It:=cl.foldl (fun l x=>putL l (15::x.1,x.2)) l
theorem apL_succ {x:It} (h:cl[j]?=some x):apL l (cl.take (j+1))=putL (apL l (cl.take j)) (15::x.1,x.2):=by
 unfold apL;rw [List.take_add_one,h,List.foldl_append];rfl
theorem apL_len (l:List It):∀ cl:List It,(apL l cl).length<=l.length+cl.length:=by
 intro cl
 induction cl generalizing l with
 | nil=>exact nR _
 | cons x cl ih =>
  have h1:=ih (putL l (15::x.1,x.2));have h2:=aHi l (15::x.1,x.2);show (apL (putL l (15::x.1,x.2)) cl).length<=_;rw [List.length_cons]
  split at h2<;>omega
theorem LS.lay [Gd] {ls:Nat} (hg0:True) (h:LS B p q g ls N c u l W w) (hu:u+9*cl.length+11<=N) (hu2:u<=2000) (hl:l.length+cl.length<90) (hv:CHV B w v cl) (hok:∀ x∈cl,ItOk (15::x.1,x.2)) {cf:Array Value} (hBf:B<=fb) (hf:w.heap[fb]?=some (.cells cf 126 (0,0))) (hF:FGV cf) :
  Calls prog 105 #[.pointer (some ⟨ls,0,none⟩),.int .i64 0,v,.pointer (some ⟨fb,0,none⟩)] w fun e w'=>e=.returned (.int .i64 0)/\LyF B g fb w w'/\LS B p q g ls N c (u+9*cl.length) (apL l cl) W w'/\∃ cf',w'.heap[fb]?=some (.cells cf' 126 (0,0))/\FGV cf':=by
 obtain ⟨gv,cap,hform⟩:∃ g cap,v=.slice (some ⟨g,0,none⟩) cl.length cap:=by
  obtain ⟨kv,g,cap,h1,_⟩:=hv;exact ⟨g,cap,h1⟩
 subst hform;have HL0:=zH h;have HV0:=zH hv;have HOK:=zH hok;have HF0:Hid (∃ cf',w.heap[fb]?=some (.cells cf' 126 (0,0))/\FGV cf'):=⟨cf,hf,hF⟩;clear h hv hok hf hF;generalize hM:cl.length=M at *
 go_enter func105,ntmps105;go_wp2_with fail;go_loopw [14] (fun i wx=>∃ j:Nat,j<=M/\i=.int .i64 j/\LyF B g fb w wx/\LS B p q g ls N c (u+9*j) (apL l (cl.take j)) W wx/\CHV B wx (.slice (some ⟨gv,0,none⟩) M cap) cl/\∃ cf',wx.heap[fb]?=some (.cells cf' 126 (0,0))/\FGV cf') (fun i _=>M-(intOf i).toNat)
 case atStart=>exact ⟨0,by omega,rfl,LyF.refl _ _ _ _,HL0.o,HV0.o,HF0.o⟩
 case round =>
  obtain ⟨j,hj,rfl,a1,a2,a3,cf1,a4,a5⟩:=hrel;have HA1:=zH a1;have HA2:=zH a2;have HA3:=zH a3;have HA4:=zH a4;have HA5:=zH a5;clear a1 a2 a3 a4 a5;by_cases hjn:j<M
  ·have xj:(j:Int)<(M:Int):=by omega
   obtain ⟨it,hit⟩:∃ it,cl[j]?=some it:=⟨_,gE (by omega)⟩;obtain ⟨g',cap',ka,kc,va,vc,f1,q1,q2,q3,q4,q5,q6⟩:=HA3.o.at hit;rw [hM] at f1;simp only [Value.slice.injEq,oI,Addr.mk.injEq] at f1;obtain ⟨⟨rfl,_,_⟩,_,rfl⟩:=f1;have HSU:=zH (apL_succ (l:=l) hit);have hll:=apL_len l (cl.take j);have htl:(cl.take j).length<=j:=List.length_take_le _ _;obtain ⟨x1,hx1⟩:∃ x,x=wr.alloc (.cells #[.int .i64 15,.slice ka it.1.length kc,.slice va it.2.length vc,.bool false] 152):=⟨_,rfl⟩;have hb1:Below wr.heap.size wr x1:=by rw [hx1];exact aAc wr _
   have hL1:=HA2.o.later hb1;have hf1:=(hb1.block fb (lO HA4.o)).trans HA4.o;have HLO:=zH (hL1.layOne hg0 (by omega) (by omega) (by omega) it (HOK.o it (mG hit)) rfl rfl (q5.later hb1 HA2.o.bw) (q6.later hb1 HA2.o.bw) hBf hf1 HA5.o);have HL1:=zH hL1;have HF1:=zH hf1;have HB1:=zH hb1;have HV1:=zH (HA3.o.later hb1 HA2.o.bw);rw [hx1] at HLO;generalize it.1.length=kn at *
   generalize it.2.length=vn at *
   clear hit q5 q6 hb1 hL1 hf1 hll htl;go_wp2_with fail;refine HLO.o.mono ?_;rintro e w2 ⟨rfl,b1,b2,cf2,b3,b4⟩;rw [<-hx1] at b1;have HC2:Hid (LyF B g fb w w2):=HA1.o.trans ((LyF.of HB1.o HA2.o.bw).trans b1);have HL2:Hid (LS B p q g ls N c (u+9*(j+1)) (apL l (cl.take (j+1))) W w2):=by rw [HSU.o];exact b2
   obtain ⟨cg,hg⟩:=HL1.o.kx.blk;have HV2:Hid (CHV B w2 (.slice (some ⟨gv,0,none⟩) M cap) cl):=HV1.o.stay (LyF.ft HL1.o b1 HF1.o) fun k cs e=>b1.2 k cs _ _ e (by decide) (aAs e hg (by decide)) (aAs e HF1.o (by decide))
   have HF2:Hid (∃ cf',w2.heap[fb]?=some (.cells cf' 126 (0,0))/\FGV cf'):=⟨cf2,b3,b4⟩;clear b1 b2 b3 b4 hg HLO hx1;go_wp2_with fail;go_roundw
   case rel=>exact ⟨j+1,by omega,by go_num,HC2.o,HL2.o,HV2.o,HF2.o⟩
   case measure=>simp [intOf];omega
  ·have xj:¬ (j:Int)<(M:Int):=by omega
   have r0:wr.cell? ⟨fb,0,none⟩=some (.int .i64 0):=(aAa HA4.o).trans HA5.o.c0;have hjm:j=M:=by omega
   subst hjm;have htk:cl.take cl.length=cl:=List.take_length;rw [hM] at htk;rw [htk] at HA2;clear htk;go_wp2;go_ret;exact ⟨rfl,HA1.o,HA2.o,cf1,HA4.o,HA5.o⟩
theorem LS.apply1 [Gd] {ls x1 x2 x3 t1 t2 t3:Nat} (hg0:True) (h:LS B p q g ls N c u l W w) (hu:u+9*cl.length+11<=N) (hu2:u<=2000) (hl:l.length+cl.length<90) (hv:CHV B w v cl) (hok:∀ x∈cl,ItOk (15::x.1,x.2)) {cf:Array Value} (hBf:B<=fb) (hf:w.heap[fb]?=some (.cells cf 126 (0,0))) (hF:FGV cf)
  (hx1:w.heap[x1]?=some (.cells #[.pointer (some ⟨ls,0,none⟩)] t1 (0,0))) (hx2:w.heap[x2]?=some (.cells #[.int .i64 0] t2 (0,0))) (hx3:w.heap[x3]?=some (.cells #[v] t3 (0,0))) :
  Calls prog 104 #[.pointer (some ⟨fb,0,none⟩),.pointer (some ⟨x1,0,none⟩),.pointer (some ⟨x2,0,none⟩),.pointer (some ⟨x3,0,none⟩)] w fun e w'=>e=.returned (.int .i64 0)/\LyF B g fb w w'/\LS B p q g ls N c (u+9*cl.length) (apL l cl) W w'/\∃ cf',w'.heap[fb]?=some (.cells cf' 126 (0,0))/\FGV cf':=by
 have HLY:=zH (h.lay hg0 hu hu2 hl hv hok hBf hf hF);obtain ⟨gv,cap,hform⟩:∃ g cap,v=.slice (some ⟨g,0,none⟩) cl.length cap:=by
  obtain ⟨kv,g,cap,h1,_⟩:=hv;exact ⟨g,cap,h1⟩
 subst hform;have r1:w.cell? ⟨x1,0,none⟩=some (.pointer (some ⟨ls,0,none⟩)):=aAa hx1;have r2:w.cell? ⟨x2,0,none⟩=some (.int .i64 0):=aAa hx2;have r3:w.cell? ⟨x3,0,none⟩=some (.slice (some ⟨gv,0,none⟩) cl.length cap):=aAa hx3;clear h hv hok hf hF hx1 hx2 hx3;generalize cl.length=M at *
 go_enter func104,ntmps104;go_wp2_with fail;refine HLY.o.mono ?_;rintro e w1 ⟨rfl,h1⟩;have H1:=zH h1;clear h1;go_wp2;go_ret;exact ⟨rfl,H1.o⟩
def z17:Array Value:=(List.replicate 17 (.int .i64 0)).toArray
theorem aD3:(prog.info? 126).map (·.size)=some 17:=by kernel_rfl
theorem FGV.one (h:FGV cs):∀ v∈cs.toList,v.oneCell'=true:=by
 intro v hv;obtain ⟨i,hi⟩:=List.getElem?_of_mem hv;rw [Array.getElem?_toList] at hi;have hlt:=(lO hi);rw [h.sz] at hlt;by_cases h0:i=0
 ·subst h0;rw [h.c0] at hi;cases hi;rfl
 ·obtain ⟨n,hn⟩:=h.cp i (by omega) hlt;rw [hn] at hi;cases hi;rfl
def cutF (cs:Array Value):Array Value:=(cs.toList.drop 2).toArray
theorem cutF_get (h:(cutF cs)[j]?=some v):cs[2+j]?=some v:=by
 unfold cutF at h;rw [List.getElem?_toArray,List.getElem?_drop,Array.getElem?_toList] at h;exact h
theorem LV.cut (h:LV cs g p):FGV (cutF cs):=by
 have e:∀ j,(cutF cs)[j]?=cs[2+j]?:=fun j=>by
  unfold cutF;rw [List.getElem?_toArray,List.getElem?_drop,Array.getElem?_toList]
 refine ⟨?_,by rw [e];exact h.c2,fun i h1 h2=>by rw [e];exact h.cp (2+i) (by omega) (by omega)⟩;unfold cutF;simp [h.sz]
theorem LV.put {cf:Array Value} (h:LV cs g p) (hf:FGV cf):LV (spl cs 2 cf) g p:=by
 have hz:2+cf.size<=cs.size:=by rw [hf.sz,h.sz];decide
 refine ⟨by rw [spl_size hz];exact h.sz,by rw [spl_out hz (Or.inl (by decide))];exact h.c0,by rw [spl_out hz (Or.inl (by decide))];exact h.c1,?_,fun i h1 h2=>?_⟩
 ·have:=spl_in (i:=0) hz (by rw [hf.sz];decide);rw [this];exact hf.c0
 ·obtain ⟨k,rfl⟩:∃ k,i=2+k:=⟨i-2,by omega⟩;rw [spl_in hz (by rw [hf.sz];omega)];exact hf.cp k (by omega) (by omega)
theorem LS.row [Gd] {ls:Nat} (h:LS B p q g ls N c u l W w) {cs cs':Array Value} (h1:w.heap[ls]?=some (.cells cs 130 (0,0))) (hV:LV cs' g p):LS B p q g ls N c u l W (w.setRow ls cs'):=by
 have hx:Ex B [ls] w (w.setRow ls cs'):=Ex.row h.bl cs';have keep:∀ (k:Nat) (c0:Array Value) (t:TypeId) (fz:Nat×Nat),w.heap[k]?=some (Obj.cells c0 t fz)->t≠130->(w.setRow ls cs').heap[k]?=some (Obj.cells c0 t fz):=fun k c0 t fz e ht=>by
  rw [hx.2 k (lO e) (by simpa using aAs e h1 ht),e]
 refine ⟨h.kx.same hx.1 (fun k c0 t fz e ht=>keep k c0 t fz e ?_),h.bl,cs',setRow_heap _ _ _ cs' _ _ h1,hV⟩;rcases ht with rfl | rfl | ht
 ·decide
 ·decide
 ·intro q9;rw [q9] at ht;exact ht (by decide)
theorem LS.atOnce [Gd] {ls x1 x2 x3 t1 t2 t3:Nat} (hg0:True) (h:LS B p q g ls N c u l W w) (hN:3<=N) (hc9:c<900) (hu:u+9*cl.length+11<=N) (hu2:u<=2000) (hl:l.length+cl.length<90) (hv:CHV B w v cl) (hok:∀ x∈cl,ItOk (15::x.1,x.2))
  (hx1:w.heap[x1]?=some (.cells #[.pointer (some ⟨ls,0,none⟩)] t1 (0,0))) (hx2:w.heap[x2]?=some (.cells #[.int .i64 0] t2 (0,0))) (hx3:w.heap[x3]?=some (.cells #[v] t3 (0,0))) :
  Calls prog 103 #[.pointer (some ⟨ls,0,none⟩),.func (Fn.func 104) #[] #[.pointer (some ⟨x1,0,none⟩),.pointer (some ⟨x2,0,none⟩),.pointer (some ⟨x3,0,none⟩)]] w fun e w'=>e=.returned (.int .i64 0)/\LyF B g ls w w'/\LS B p q g ls N (c+1) (apL l cl).length (apL l cl) W w':=by
 have hz:∀ ww,(zeroValue 126).run prog ww=.ok (.agg z17) ww:=fun ww=>by kernel_rfl
 obtain ⟨cs,h1,h2⟩:=h.lv;have hcut:=h2.cut;have hst:=fun (ww:World) (o:Nat) (hh:ww.heap[o]?=some (.cells z17 126 (0,0)))=>by
  have:=aA6 (o:=0) hh (show 0+(cutF cs).size<=17 by rw [hcut.sz];decide) hcut.one;rw [aB9 (show (cutF cs).size=17 from hcut.sz)] at this;exact this
 have HLD:=zH (aHq (w:=w) (g:=ls) (o:=2) (ty:=126) (cs:=cutF cs) (fun j v hv=>(aAa h1).trans (cutF_get hv)) underlying126 rfl (by rw [hcut.sz];exact aD3));have xa:(w.alloc (.cells z17 126)).heap[w.heap.size]?=some (.cells z17 126 (0,0)):=heap_alloc_new w _;have hst1:=hst _ _ xa;have HY:=zH (setRow_heap _ _ _ (cutF cs) _ _ xa);have HB1:Hid (Below w.heap.size w ((w.alloc (.cells z17 126)).setRow w.heap.size (cutF cs))):=below_setRow (aAc w _) (nR _) (cutF cs);have HCU:=zH hcut;have hzs:(cutF cs).size=17:=hcut.sz;have H0:=zH h;have HV0:=zH hv;have HOK:=zH hok;have HX1:=zH hx1;have HX2:=zH hx2;have HX3:=zH hx3;clear h h1 h2 hcut hst xa hv hok hx1 hx2 hx3;go_enter func103,ntmps103;go_upto_region 2 with (refine wpList_load_row rfl (.tmp 9) 126 rfl rfl HLD.o ?_);generalize ((w.alloc (.cells z17 126)).setRow w.heap.size (cutF cs))=w1 at *
 have HN0:Hid (B<=w.heap.size):=H0.o.bw;generalize hfb:w.heap.size=fb at *
 clear hst1 HLD;have HL1:=zH (H0.o.later (by rw [hfb];exact HB1.o));have HV1:=zH (HV0.o.later (by rw [hfb];exact HB1.o) (by rw [hfb];exact HN0.o));have bl:∀ {k:Nat} {o:Obj},w.heap[k]?=some o->w1.heap[k]?=some o:=fun e=>(HB1.o.block _ (by have:=lO e;omega)).trans e
 have HAP:=zH (HL1.o.apply1 hg0 hu hu2 hl HV1.o HOK.o HN0.o HY.o HCU.o (bl HX1.o) (bl HX2.o) (bl HX3.o));have hcf:(callFunc 104 #[.pointer (some ⟨fb,0,none⟩),.pointer (some ⟨x1,0,none⟩),.pointer (some ⟨x2,0,none⟩),.pointer (some ⟨x3,0,none⟩)]).run prog w1=.ok (.enter 104 #[.pointer (some ⟨fb,0,none⟩),.pointer (some ⟨x1,0,none⟩),.pointer (some ⟨x2,0,none⟩),.pointer (some ⟨x3,0,none⟩)]) w1:=by rfl
 clear bl;go_wp2_with fail;refine HAP.o.mono ?_;rintro e w2 ⟨rfl,b1,b2,cf2,b3,b4⟩;have HC2:=zH b1;have HL2:=zH b2;have HF2:=zH b3;have HG2:=zH b4;have r0:w2.cell? ⟨ls,0,none⟩=some (.pointer (some ⟨g,0,none⟩)):=b2.cell0;have HCM:=zH (b2.kx.commit hN hc9);clear b1 b2 b3 b4 HAP hcf;go_wp2_with fail;refine HCM.o.mono ?_;rintro e w3 ⟨rfl,hc3,hx3⟩;obtain ⟨cg,hg⟩:=HL2.o.kx.blk;have HL3:=zH (HL2.o.ch hc3 hx3);have HF3:=zH (hc3.2 _ _ _ _ HF2.o (by decide) (aAs HF2.o hg (by decide)));have HC3:=zH hc3;obtain ⟨cs3,k1,k2⟩:=HL3.o.lv;have HK1:=zH k1;have HK2:=zH k2;have HLD3:=zH (run_loadVar_row (P:=prog) w3 fb 126 126 cf2 (0,0) _ HF3.o underlying126 rfl (by rw [HG2.o.sz];exact aD3));have hst3:=aA6 (o:=2) k1 (show 2+cf2.size<=cs3.size by rw [HG2.o.sz,k2.sz];decide) HG2.o.one;have hzc:cf2.size=17:=HG2.o.sz;have HLF:=zH (HL3.o.row k1 (k2.put HG2.o));have HCF:Hid (LyF B g ls w (w3.setRow ls (spl cs3 2 cf2))):=by
  have hxr:Ex B [ls] w3 (w3.setRow ls (spl cs3 2 cf2)):=Ex.row HL3.o.bl _;refine ⟨(HB1.o.mono HN0.o).trans (HC2.o.1.trans (HC3.o.1.trans hxr.1)),fun k c0 t fz e n1 n2 n3=>?_,((GdK.trans (fun k _ hf=>HB1.o.block k (by have:=hf.lt;omega)) HC2.o.gd).trans HC3.o.gd).trans (hxr.gdk k1 (by unfold DTy;decide))⟩;have hkl:=lO e;have e1:=(HB1.o.block k (by omega)).trans e;have e2:=HC2.o.2 k c0 t fz e1 n1 n2 (by omega);have e3:=HC3.o.2 k c0 t fz e2 n1 n2;rw [hxr.2 k (lO e3) (by simpa using n3),e3]
 clear hc3 hx3 hg k1 k2 r0 HCM;go_wp2_with (refine wpList_load_row rfl (.tmp 5) 126 rfl rfl HLD3.o ?_);go_ret;exact ⟨rfl,HCF.o,HLF.o⟩
theorem ItOk.of15 {x:It} (h1:x.1.length<=60) (h2:x.2.length<=1800) (h3:∀ n∈x.1,n<256) (h4:∀ n∈x.2,n<256):ItOk (15::x.1,x.2):=by
 refine ⟨(fun q=>by cases q),?_,h2,fun n hn=>?_,h4⟩
 ·show (15::x.1).length<=64;rw [List.length_cons];omega
 ·rcases List.mem_cons.1 hn with rfl | q
  ·decide
  ·exact h3 n q
theorem LS.Apply [Gd] {ls:Nat} (hg0:True) (h:LS B p q g ls N c u l W w) (hN:3<=N) (hc9:c<900) (hu:u+9*cl.length+11<=N) (hu2:u<=2000) (hl:l.length+cl.length<90) (hv:CHV B w v cl) (hok:∀ x∈cl,0<x.1.length/\x.1.length<=60/\x.2.length<=1800/\(∀ n∈x.1,n<256)/\∀ n∈x.2,n<256) :
  Calls prog 74 #[.pointer (some ⟨ls,0,none⟩),.int .i64 0,v] w fun e w'=>e=.returned (.int .i64 0)/\LyF B g ls w w'/\LS B p q g ls N (c+1) (apL l cl).length (apL l cl) W w':=by
 have hmf:∀ (fn:Fn) (first cap:Array Value) (w:World),(Instr.makeFunc fn first cap).run prog w=.ok (.func fn first cap) w:=fun _ _ _ _=>rfl
 have HIT:Hid (∀ x∈cl,ItOk (15::x.1,x.2)):=fun x hx=>ItOk.of15 (hok x hx).2.1 (hok x hx).2.2.1 (hok x hx).2.2.2.1 (hok x hx).2.2.2.2
 have HRK:Hid (∀ x∈cl,0<x.1.length/\x.1.length<=60/\x.2.length<=1800):=fun x hx=>⟨(hok x hx).1,(hok x hx).2.1,(hok x hx).2.2.1⟩
 obtain ⟨gv,cap,hform⟩:∃ g cap,v=.slice (some ⟨g,0,none⟩) cl.length cap:=by
  obtain ⟨kv,g,cap,h1,_⟩:=hv;exact ⟨g,cap,h1⟩
 subst hform;generalize hM:cl.length=M at *
 have q0:=aAf [Obj.cells #[.pointer (some ⟨ls,0,none⟩)] 102,Obj.cells #[.int .i64 0] 3,Obj.cells #[.slice (some ⟨gv,0,none⟩) M cap] 161] w 0 _ rfl;have q1:=aAf [Obj.cells #[.pointer (some ⟨ls,0,none⟩)] 102,Obj.cells #[.int .i64 0] 3,Obj.cells #[.slice (some ⟨gv,0,none⟩) M cap] 161] w 1 _ rfl;have q2:=aAf [Obj.cells #[.pointer (some ⟨ls,0,none⟩)] 102,Obj.cells #[.int .i64 0] 3,Obj.cells #[.slice (some ⟨gv,0,none⟩) M cap] 161] w 2 _ rfl;have qb:=(aAo [Obj.cells #[.pointer (some ⟨ls,0,none⟩)] 102,Obj.cells #[.int .i64 0] 3,Obj.cells #[.slice (some ⟨gv,0,none⟩) M cap] 161] w).1;have HQ:Hid ((((w.alloc (.cells #[.pointer (some ⟨ls,0,none⟩)] 102)).alloc (.cells #[.int .i64 0] 3)).alloc (.cells #[.slice (some ⟨gv,0,none⟩) M cap] 161)).heap[w.heap.size]?=some (.cells #[.pointer (some ⟨ls,0,none⟩)] 102 (0,0))/\(((w.alloc (.cells #[.pointer (some ⟨ls,0,none⟩)] 102)).alloc (.cells #[.int .i64 0] 3)).alloc (.cells #[.slice (some ⟨gv,0,none⟩) M cap] 161)).heap[w.heap.size+1]?=some (.cells #[.int .i64 0] 3 (0,0))/\(((w.alloc (.cells #[.pointer (some ⟨ls,0,none⟩)] 102)).alloc (.cells #[.int .i64 0] 3)).alloc (.cells #[.slice (some ⟨gv,0,none⟩) M cap] 161)).heap[w.heap.size+2]?=some (.cells #[.slice (some ⟨gv,0,none⟩) M cap] 161 (0,0))/\Below w.heap.size w (((w.alloc (.cells #[.pointer (some ⟨ls,0,none⟩)] 102)).alloc (.cells #[.int .i64 0] 3)).alloc (.cells #[.slice (some ⟨gv,0,none⟩) M cap] 161))):=⟨q0,q1,q2,qb⟩;have H0:=zH h;have HV0:=zH hv;have HN0:Hid (B<=w.heap.size):=h.bw;clear h hv hok q0 q1 q2 qb;go_enter func74,ntmps74;go_upto_region 1 with fail;generalize (((w.alloc (.cells #[.pointer (some ⟨ls,0,none⟩)] 102)).alloc (.cells #[.int .i64 0] 3)).alloc (.cells #[.slice (some ⟨gv,0,none⟩) M cap] 161))=w1 at *
 obtain ⟨hx1,hx2,hx3,hb1⟩:=HQ.o;generalize hx1n:w.heap.size=x1 at *
 generalize hx2n:x1+1=x2 at *
 have e3:x1+2=x2+1:=by omega
 rw [e3] at hx3;clear e3;generalize hx3n:x2+1=x3 at *
 have hd:Below x1 w w1.drew:=hb1.drew;have HLD:=zH (H0.o.later (by rw [hx1n];exact hd));have HVD:=zH (HV0.o.later (by rw [hx1n];exact hd) (by rw [hx1n];exact HN0.o));have HRF:=zH (HLD.o.refusal HVD.o (by omega) HRK.o);obtain ⟨cs,k1,k2⟩:=HLD.o.lv;have HX0:Hid ((fun wx=>wx.cell? ⟨x1,0,none⟩=some (.pointer (some ⟨ls,0,none⟩))/\wx.cell? ⟨x2,0,none⟩=some (.int .i64 0)/\wx.cell? ⟨x3,0,none⟩=some (.slice (some ⟨gv,0,none⟩) M cap)/\wx.cell? ⟨ls,2,none⟩=some (.int .i64 0)) w1.drew):=⟨aAa hx1,aAa hx2,aAa hx3,(aAa k1).trans k2.c2⟩;have HY1:Hid (w1.drew.heap[x1]?=some (.cells #[.pointer (some ⟨ls,0,none⟩)] 102 (0,0))):=hx1;have HY2:Hid (w1.drew.heap[x2]?=some (.cells #[.int .i64 0] 3 (0,0))):=hx2;have HY3:Hid (w1.drew.heap[x3]?=some (.cells #[.slice (some ⟨gv,0,none⟩) M cap] 161 (0,0))):=hx3;have HBD:=zH hd;clear hx1 hx2 hx3 hb1 hd k1 k2 HQ;refine wp_region_noPanic ?_;refine wp_region_held_drew (S:=fun wx=>wx.cell? ⟨x1,0,none⟩=some (.pointer (some ⟨ls,0,none⟩))/\wx.cell? ⟨x2,0,none⟩=some (.int .i64 0)/\wx.cell? ⟨x3,0,none⟩=some (.slice (some ⟨gv,0,none⟩) M cap)/\wx.cell? ⟨ls,2,none⟩=some (.int .i64 0)) (by kernel_rfl) HX0.o (fun hHeld=>?_);refine kT 0 8 ?_;refine kT 1 9 ?_;refine kT 2 10 ?_;refine kT 3 11 ?_;refine kT 4 12 ?_;refine kT 5 13 ?_;refine kT 6 14 ?_;refine kT 7 15 ?_;refine kT 8 16 ?_;refine kC 9 ?_;intro K hK;go_simp;refine HRF.o.mono ?_;rintro e w3 ⟨rfl,hb3⟩;have HL3:=zH (HLD.o.later hb3);have HV3:=zH (HVD.o.later hb3 HLD.o.bw);have HZ1:=zH ((hb3.block x1 (lO HY1.o)).trans HY1.o);have HZ2:=zH ((hb3.block x2 (lO HY2.o)).trans HY2.o);have HZ3:=zH ((hb3.block x3 (lO HY3.o)).trans HY3.o);have HB3:Hid (Below x1 w w3):=HBD.o.trans (hb3.mono (by have:=HBD.o.size;omega));obtain ⟨cs3,k1,k2⟩:=HL3.o.lv;have HX3:Hid ((fun wx=>wx.cell? ⟨x1,0,none⟩=some (.pointer (some ⟨ls,0,none⟩))/\wx.cell? ⟨x2,0,none⟩=some (.int .i64 0)/\wx.cell? ⟨x3,0,none⟩=some (.slice (some ⟨gv,0,none⟩) M cap)/\wx.cell? ⟨ls,2,none⟩=some (.int .i64 0)) w3):=⟨aAa HZ1.o,aAa HZ2.o,aAa HZ3.o,(aAa k1).trans k2.c2⟩;clear hb3 k1 k2 hHeld;refine hK.out _ _ HX3.o (fun hHeld=>?_);clear hK K
 try simp only [Act.put,siT,scZ,scS]
 refine kT 10 7 ?_;refine wpAnyH_done (by kernel_rfl) ?_ _;refine NoPanic.normal ?_;clear hHeld HX0 HRF;have r1:w3.cell? ⟨x1,0,none⟩=some (.pointer (some ⟨ls,0,none⟩)):=HX3.o.1;have HAO:=zH (HL3.o.atOnce hg0 hN hc9 (by rw [hM];exact hu) hu2 (by rw [hM];exact hl) HV3.o HIT.o HZ1.o HZ2.o HZ3.o);go_wp2_with fail;refine HAO.o.mono ?_;rintro e w4 ⟨rfl,b1,b2⟩;have HF4:=zH b1;have HL4:=zH b2;clear b1 b2 HAO r1;go_wp2;go_ret;refine ⟨rfl,⟨(HB3.o.mono HN0.o).trans HF4.o.1,fun k c0 t fz e n1 n2 n3=>?_,GdK.trans (fun k _ hf=>HB3.o.block k (by have:=hf.lt;omega)) HF4.o.gd⟩,HL4.o⟩;have hkl:=lO e;exact HF4.o.2 k c0 t fz ((HB3.o.block k (by omega)).trans e) n1 n2 n3
theorem set4 {a0 a1 a2 a3:Value} {t:TypeId} (h:w.heap[g]?=some (.cells #[a0,a1,a2,a3] t (0,0))):((((w.setCell ⟨g,0,none⟩ b0).setCell ⟨g,1,none⟩ b1).setCell ⟨g,2,none⟩ b2).setCell ⟨g,3,none⟩ b3).heap[g]?=some (.cells #[b0,b1,b2,b3] t (0,0)):=(heap_setCell_same _ _ _ _ _ _ (heap_setCell_same _ _ _ _ _ _ (heap_setCell_same _ _ _ _ _ _ (heap_setCell_same _ _ _ _ _ _ h))))
theorem set6 {a0 a1 a2 a3 a4 a5:Value} {t:TypeId} (h:w.heap[g]?=some (.cells #[a0,a1,a2,a3,a4,a5] t (0,0))):((((((w.setCell ⟨g,0,none⟩ b0).setCell ⟨g,1,none⟩ b1).setCell ⟨g,2,none⟩ b2).setCell ⟨g,3,none⟩ b3).setCell ⟨g,4,none⟩ b4).setCell ⟨g,5,none⟩ b5).heap[g]?=some (.cells #[b0,b1,b2,b3,b4,b5] t (0,0)):=(heap_setCell_same _ _ _ _ _ _ (heap_setCell_same _ _ _ _ _ _ (heap_setCell_same _ _ _ _ _ _ (heap_setCell_same _ _ _ _ _ _ (heap_setCell_same _ _ _ _ _ _ (heap_setCell_same _ _ _ _ _ _ h))))))
theorem bel4 (hb:Below B w0 w) (hg:B<=g):Below B w0 ((((w.setCell ⟨g,0,none⟩ b0).setCell ⟨g,1,none⟩ b1).setCell ⟨g,2,none⟩ b2).setCell ⟨g,3,none⟩ b3):=((((hb.setCell (p:=⟨g,0,none⟩) hg _).setCell (p:=⟨g,1,none⟩) hg _).setCell (p:=⟨g,2,none⟩) hg _).setCell (p:=⟨g,3,none⟩) hg _)
theorem bel6 (hb:Below B w0 w) (hg:B<=g):Below B w0 ((((((w.setCell ⟨g,0,none⟩ b0).setCell ⟨g,1,none⟩ b1).setCell ⟨g,2,none⟩ b2).setCell ⟨g,3,none⟩ b3).setCell ⟨g,4,none⟩ b4).setCell ⟨g,5,none⟩ b5):=((((((hb.setCell (p:=⟨g,0,none⟩) hg _).setCell (p:=⟨g,1,none⟩) hg _).setCell (p:=⟨g,2,none⟩) hg _).setCell (p:=⟨g,3,none⟩) hg _).setCell (p:=⟨g,4,none⟩) hg _).setCell (p:=⟨g,5,none⟩) hg _)
theorem aC8:(prog.info? 152).map (·.size)=some 4:=by kernel_rfl
theorem aA4:(prog.info? 75).map (·.size)=some 6:=by kernel_rfl
theorem aDv {v b:Int} (h0:0<=v) (h1:v<=16) (h2:1<=b) (w:World):Calls prog 65 #[.int .i64 v,.int .i64 b] w fun e w'=>e=.returned (.bool true)/\w'=w:=by
 go_enter func65,ntmps65;go_wp2;go_ret;refine ⟨?_,rfl⟩
 first | rfl | (show Ending.returned (.bool (decide (1<=b)))=_;rw [decide_eq_true h2])
theorem aCa {v:Nat} (hv:v<256) (w:World):Calls prog 100 #[.int .i64 (v:Int)] w fun e w'=>∃ a c,e=.returned (.slice a 1 c)/\BK B w' a 1 c [v]/\Below w.heap.size w w':=by
 have ew:IntKind.u8.wrap (v:Int)=(v:Int):=by rw [IntKind.wrap_u8];omega
 obtain ⟨a,c,e1,hk⟩:=BK.owned (B:=B) (xs:=[v]) (own_one w v) (by simp) (by intro n hn;simp at hn;omega);simp only [Value.slice.injEq] at e1;obtain ⟨rfl,hz,rfl⟩:=e1;clear hz;have HK:=zH hk;have HBX:=zH (aAc w (.cells #[.int .u8 (v:Int)] 5));clear hk;go_enter func100,ntmps100;go_wp2;go_ret;exact ⟨_,_,rfl,HK.o,HBX.o⟩
theorem own_two (w:World) (x y:Nat):(w.alloc (.cells #[.int .u8 (x:Int),.int .u8 (y:Int)] 5)).ownsRow w.heap.size 5 1 (.slice (some ⟨w.heap.size,0,none⟩) 2 2) 2 (cellsOf [x,y]) :=
 ⟨rfl,Or.inr ⟨w.heap.size,2,#[.int .u8 (x:Int),.int .u8 (y:Int)],rfl,nR _,heap_alloc_new w _,nR _,by unfold maxLen;omega,rfl,rfl⟩⟩
theorem aEp {v:Nat} (hv:v<256) (w:World):Calls prog 101 #[.int .i64 (v:Int)] w fun e w'=>∃ a c,e=.returned (.slice a 2 c)/\BK B w' a 2 c [v,0]/\Below w.heap.size w w':=by
 have ew:IntKind.u8.wrap (v:Int)=(v:Int):=by rw [IntKind.wrap_u8];omega
 obtain ⟨a,c,e1,hk⟩:=BK.owned (B:=B) (xs:=[v,0]) (own_two w v 0) (by simp) (by intro n hn;simp at hn;omega);simp only [Value.slice.injEq] at e1;obtain ⟨rfl,hz,rfl⟩:=e1;clear hz;have HK:=zH hk;have HBX:=zH (aAc w (.cells #[.int .u8 (v:Int),.int .u8 ((0:Nat):Int)] 5));clear hk;go_enter func101,ntmps101;go_wp2;go_ret;exact ⟨_,_,rfl,HK.o,HBX.o⟩
abbrev Rec:=Nat×Nat×List Nat
def RcV (B:Nat) (w:World) (v:Value) (r:Rec):Prop :=
 (r.2.1=0/\v=.iface 154 (.int .i64 (r.1:Int)))\/(r.2.1≠0/\∃ a c,v=.iface 156 (.agg #[.int .i64 (r.1:Int),.int .i64 (r.2.1:Int),.slice a r.2.2.length c])/\BK B w a r.2.2.length c r.2.2)
theorem RcV.ft {r:Rec} (h:RcV B w v r) (f:FT B w w'):RcV B w' v r:=by
 rcases h with h | ⟨h1,a,c,h2,h3⟩
 ·exact Or.inl h
 ·exact Or.inr ⟨h1,a,c,h2,h3.ft f⟩
theorem RcV.later {r:Rec} (h:RcV B w v r) (hb:Below w.heap.size w w') (hB:B<=w.heap.size):RcV B w' v r:=h.ft (FT.of hb hB)
theorem aDc (v:Value) (w:World):(Instr.typeAssert (.iface 156 v) 132 156 true).run prog w=.ok (.tuple #[v,.bool true]) w:=by
 simp [Instr.typeAssert,run_underlying underlying156,go_sem,Result.andThen]
theorem aEm (v:Value) (w:World):(Instr.typeAssert (.iface 154 v) 132 156 true).run prog w=.ok (.tuple #[.agg #[.int .i64 0,.int .i64 0,.slice none 0 0],.bool false]) w:=by
 simp [Instr.typeAssert,run_underlying underlying156,Result.andThen]
theorem aA3 (n:Int) (w:World):Calls prog 255 #[.int .i64 n] w fun e w'=>e=.returned (.int .i64 n)/\w'=w:=by
 go_enter func255,ntmps255;go_wp2;go_ret;exact ⟨rfl,rfl⟩
theorem mt_pr (n:Int) (ww:World):(method 457 154 (.int .i64 n) "headland/register.promised").run prog ww=.ok (255,.int .i64 n) ww:=by kernel_rfl
theorem mt_ac (n:Int) (x y:Value) (ww:World):(method 457 156 (.agg #[.int .i64 n,x,y]) "headland/register.promised").run prog ww=.ok (255,.int .i64 n) ww:=by kernel_rfl
theorem cf_pr (v:Value) (ww:World):(callFunc 255 #[v]).run prog ww=.ok (.enter 255 #[v]) ww:=by kernel_rfl
theorem aBc (w:World) (o1 o2:Obj):Below w.heap.size w ((w.alloc o1).alloc o2):=(aAo [o1,o2] w).1
theorem isSpace_0 (w:World):Calls prog 92 #[.int .i64 0] w fun e w'=>e=.returned (.bool true)/\w'=w:=by
 go_enter func92,ntmps92;go_wp2;go_ret;exact ⟨rfl,rfl⟩
end Go.Proofs.YtdfjjhlhnfindaaGreat
