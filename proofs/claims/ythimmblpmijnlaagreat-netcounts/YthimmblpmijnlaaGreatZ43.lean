import Derived.Test.YthimmblpmijnlaaGreatZ42
import Derived.Test.YthimmblpmijnlaaGreatZ41
set_option maxRecDepth 100000
set_option maxHeartbeats 16000000
set_option linter.unusedVariables false
namespace Go.Proofs.YthimmblpmijnlaaGreat
open Go.RowKit
theorem cnt_bsum:∀ (l:List Nat),cntF l=bsum (fun i=>decide (l.getD i 0=1)) l.length
 | []=>rfl
 | a::l=>by
  have ih:=cnt_bsum l
  unfold cntF at ih ⊢
  rw [List.length_cons,Nat.add_comm l.length 1,bsum_add,List.count_cons,ih]
  have e1:bsum (fun i=>decide ((a::l).getD i 0=1)) 1=if a == 1 then 1 else 0:=by
   show 0+(decide (a=1)).toNat=_
   by_cases c:a=1
   ·simp [c]
   ·simp [c]
  have e2:bsum (fun i=>decide ((a::l).getD (1+i) 0=1)) l.length=bsum (fun i=>decide (l.getD i 0=1)) l.length:=aF4 fun i _=>by
   show decide ((a::l).getD (1+i) 0=1)=_
   rw [Nat.add_comm 1 i]
   rfl
  rw [e1,e2,Nat.add_comm]
theorem aF3 {f g k:Nat→Bool}:∀ {n:Nat},(∀ i,i<n→(f i).toNat+(g i).toNat+(k i).toNat=1)→bsum f n+bsum g n+bsum k n=n
 | 0,_=>rfl
 | n+1,h=>by
  have ih:=aF3 (n:=n) fun i hi=>h i (by omega)
  have h1:=h n (by omega)
  show bsum f n+(f n).toNat+(bsum g n+(g n).toNat)+(bsum k n+(k n).toNat)=n+1
  omega
theorem Cmt.count {s s':DS} {t t':PS} {nd L:List Nat} {root:Nat} (c:Cmt s t nd root s' t') (h:Full3 t) (hn:PgS nd L) (hL:∀ x∈L,t.st.getD x 0=2∧x<t.st.length) (hd0:t.st.getD 0 0=0∧t.st.getD 1 0=0) (hd:t'.st.getD 0 0=0∧t'.st.getD 1 0=0) (h2:2≤t.st.length):cntF t'.st+L.length+2=t.st.length:=by
 have b1:bsum (fun j=>decide (j∈L)) t.st.length=L.length:=bsum_list hn.2.1 fun x hx=>(hL x hx).2
 have b2:bsum (fun j=>decide (j∈[0,1])) t.st.length=2:=bsum_list (l:=[0,1]) (by decide) fun x hx=>by
  simp at hx
  omega
 have b3:=cnt_bsum t'.st
 rw [c.len] at b3
 rw [b3,←b1,←b2]
 conv=>lhs;arg 2;rw [b2]
 have:=aF3 (f:=fun i=>decide (t'.st.getD i 0=1)) (g:=fun j=>decide (j∈L)) (k:=fun j=>decide (j∈[0,1])) (n:=t.st.length) fun i hi=>?_
 ·rw [b2] at this
  rw [this]
 ·have e:=c.st i hi
  show (decide (t'.st.getD i 0=1)).toNat+(decide (i∈L)).toNat+(decide (i∈[0,1])).toNat=1
  by_cases q2:i<2
  ·have hi0:t'.st.getD i 0=0∧t.st.getD i 0=0:=by
    rcases (show i=0∨i=1 by omega) with rfl | rfl
    ·exact ⟨hd.1,hd0.1⟩
    ·exact ⟨hd.2,hd0.2⟩
   have m1:i∉L:=fun q=>by have:=(hL i q).1;omega
   have m2:i∈[0,1]:=by simp;omega
   rw [hi0.1,decide_eq_false m1,decide_eq_true m2]
   rfl
  ·have m2:i∉[0,1]:=by simp;omega
   rw [decide_eq_false m2]
   by_cases q:i∈L
   ·have h9:=(hL i q).1
    have hh:hsP nd i=true:=by rw [hn.2.2.2 i];exact decide_eq_true q
    rw [if_neg (by rintro (q9 | ⟨_,q9,_⟩)<;>simp_all)] at e
    rw [e,h9,decide_eq_true q]
    rfl
   ·have hh:hsP nd i=false:=by rw [hn.2.2.2 i];exact decide_eq_false q
    have e1:t'.st.getD i 0=1:=by
     rw [e]
     rcases h i (by omega) hi with q9 | q9 | q9
     ·rw [if_neg (by rintro (q8 | q8)<;>omega),q9]
     ·rw [if_pos (Or.inr ⟨by omega,hh,q9⟩)]
     ·rw [if_pos (Or.inl q9)]
    rw [e1,decide_eq_false q]
    rfl
theorem pg_le:∀ {h:Nat} {b:BT h},ShB h b→1≤(BT.it b).length→(pgB h b).length≤(flB h b).length
 | 0,b,hs,h2=>h2
 | h+1,b,⟨s1,s2,s3⟩,h2=>by
  have h2:1≤b.2.1.length:=h2
  have hw:(flB (h+1) b).length=b.2.1.length+((b.2.2.map (flB h)).map List.length).sum:=aBm _ _ (by rw [List.length_map];exact s2)
  have key:∀ (c:List (BT h)),(∀ k∈c,ShB h k∧2≤(BT.it k).length)→(c.map (pgB h)).flatten.length≤((c.map (flB h)).map List.length).sum:=by
   intro c
   induction c with
   | nil=>intro _;simp
   | cons k c ih =>
    intro hc
    have i1:=ih fun x hx=>hc x (List.mem_cons_of_mem _ hx)
    obtain ⟨a1,a2⟩:=hc k List.mem_cons_self
    have i2:=pg_le a1 (by omega)
    simp only [List.map_cons,List.flatten_cons,lA,List.sum_cons]
    omega
  have hk:=key b.2.2 s3
  show (b.1::(b.2.2.map (pgB h)).flatten).length≤_
  rw [List.length_cons,hw]
  omega
structure Shp (n:Nat) (d:Nat) (P:Nat) (F:Nat) (M:Nat):Prop where
 pn:P≤n
 ls:0<d→2*3 ^ (d-1)≤n+1
 all:F+P+2=M
theorem Tr.shp {s s':DS} {t t':PS} {st:StT} {l:List It} (h:Tr s t st l) (hsn:t.st.length=s.n) (c:Cmt s t st.pgs st.root.toNat s' t') (f:Full3 t) (hd0:t.st.getD 0 0=0∧t.st.getD 1 0=0) (hd:t'.st.getD 0 0=0∧t'.st.getD 1 0=0) (h2:2≤t.st.length) :
  ∃ (d:Nat) (L:List Nat),st.depth=(d:Int)∧st.keys=((l.length:Nat):Int)∧PgS st.pgs L∧Shp l.length d L.length (cntF t'.st) t.st.length:=by
 have hk:=h.keys
 rcases h with ⟨_,h1,_,rfl,h5⟩ | ⟨h,b,e1,e2,e3,e4,e5,e6,e7,e8,e9⟩
 ·exact ⟨0,[],h1,hk,h5,by simp,fun q=>absurd q (by decide),c.count f h5 (fun x hx=>by simp at hx) hd0 hd h2⟩
 ·refine ⟨h+1,pgB h b,e2,hk,e9,?_,fun _=>?_,c.count f e9 (fun x hx=>?_) hd0 hd h2⟩
  ·rw [←e4];exact pg_le e7 e8
  ·rw [←e4];exact deepR e7 e8
  ·have:=e6.held x hx
   exact ⟨this.1,by rw [hsn];exact this.2⟩
def KX [Gd] (B p q g N c u:Nat) (l:List It) (W w:World):Prop:=∃ last s t now left,TI B p q g N c u last l s t now left W w
section
variable [Gd] {B p q g N c u:Nat} {l:List It} {W w w':World}
theorem KX.later (h:KX B p q g N c u l W w) (hb:Below w.heap.size w w'):KX B p q g N c u l W w':=by
 obtain ⟨last,s,t,now,left,h⟩:=h
 exact ⟨last,s,t,now,left,h.later hb⟩
theorem KX.bw (h:KX B p q g N c u l W w):B≤w.heap.size:=by
 obtain ⟨last,s,t,now,left,h⟩:=h
 exact h.tm.bw
theorem KX.blk (h:KX B p q g N c u l W w):∃ cs,w.heap[g]?=some (.cells cs 155 (0,0)):=by
 obtain ⟨last,s,t,now,left,h⟩:=h
 obtain ⟨cs,h1,_⟩:=h.tm.tv
 exact ⟨cs,h1⟩
theorem KX.same (h:KX B p q g N c u l W w) (hb:Below B w w') (f:∀ (k:Nat) (cs:Array Value) (t:TypeId) (fz:Nat×Nat),w.heap[k]?=some (Obj.cells cs t fz)→(t=155∨t=5∨¬ NT t)→w'.heap[k]?=some (Obj.cells cs t fz)):KX B p q g N c u l W w':=by
 obtain ⟨last,s,t,now,left,h⟩:=h
 obtain ⟨cg,hg,hT⟩:=h.tm.tv
 have hst:ST B p q s t w':=by
  obtain ⟨h1,gs,h2⟩:=h.tm.st
  refine ⟨?_,gs,f _ _ _ _ h2.hq (Or.inr (Or.inr (by decide))),f _ _ _ _ h2.hs (Or.inr (Or.inr (by decide))),h2.qB,h2.gB,h2.ok,h2.hG⟩
  exact h1.of_stay (fun k cs t e ht=>f k cs t _ e (by rcases ht with rfl | rfl | rfl | rfl | rfl | rfl | rfl<;>decide))
 exact ⟨last,s,t,now,left,⟨hst,nT h.tm.bw hb.size,h.tm.bg,⟨cg,f _ _ _ _ hg (Or.inl rfl),hT⟩,h.tm.lf,h.tm.dn,h.tm.af,h.tm.l1,h.tm.sn,h.tm.hd⟩,h.tr,h.ln,h.sn,h.mu,h.cu,h.nm,h.f3,h.be.trans hb⟩
theorem KX.Put (hg0:True) (h:KX B p q g N c u l W w) (hu:u+20≤N) (hu2:u≤3000) (hl:l.length<90) (it:It) (hit:ItOk it) {ka va:Option Addr} {kn kc vn vc:Nat} (hkn:it.1.length=kn) (hvn:it.2.length=vn) (hk:BK B w ka kn kc it.1) (hv:BK B w va vn vc it.2) :
  Calls Tryz.prog 116 #[.pointer (some ⟨g,0,none⟩),.slice ka kn kc,.slice va vn vc] w fun e w'=>e=.returned (.int .i64 0)∧ChF B g w w'∧KX B p q g N c (u+9) (putL l it) W w':=by
 obtain ⟨last,s,t,now,left,h⟩:=h
 have hd:=h.dep
 have h8:=h.mu
 have h9:=h.cu
 have h7:=h.ln
 refine (Put_ok hg0 h.tm h.tr (by omega) it hit hkn hvn hk hv (by omega) (by omega) (by omega)).mono ?_
 rintro e w' ⟨rfl,hp⟩
 have hc:ChF B g w w':=by
  obtain ⟨s',t',now',L,k1,k2,k3,k4,k5⟩:=hp
  exact k5
 obtain ⟨s',t',now',left',h'⟩:=h.put hl hp
 exact ⟨rfl,hc,last,s',t',now',left',h'⟩
theorem KX.commit (h:KX B p q g N c u l W w) (hN:3≤N) (hc:c<900) :
  Calls Tryz.prog 113 #[.pointer (some ⟨g,0,none⟩)] w fun e w'=>e=.returned (.int .i64 0)∧ChF B g w w'∧KX B p q g N (c+1) l.length l W w':=by
 obtain ⟨last,s,t,now,left,h⟩:=h
 refine (Commit_ok h.tm h.tr (SnV.nil w) (by rw [h.sn];omega) (by rw [h.nm];omega)).mono ?_
 rintro e w' ⟨rfl,s',t',k1,k2,k3⟩
 have k1:Cmt s t now.pgs now.root.toNat s' t':=k1
 have hlen:t.st.length=N:=by rw [h.tm.sn];exact h.sn
 obtain ⟨d,L,e1,e2,e3,e4⟩:=h.tr.shp h.tm.sn k1 h.f3 h.tm.hd k2.hd (by omega)
 have a1:=e4.all
 have a2:=e4.pn
 exact ⟨rfl,k3,now,s',t',now,_,k2,h.tr.cmt k1 h.tm.hd (fun i _ hi=>hi),h.ln,by rw [k1.n];exact h.sn,by rw [k1.m];exact Nat.zero_le _,by omega,by rw [k1.num,h.nm],h.f3.cmt k1,h.be.trans k3.1⟩
theorem KX.Get (h:KX B p q g N c u l W w) {ka:Option Addr} {kn kc:Nat} {key:List Nat} (hk:BK B w ka kn kc key) (hk0:0<kn) (hk6:kn≤64) :
  Calls Tryz.prog 112 #[.pointer (some ⟨g,0,none⟩),.slice ka kn kc] w fun e w'=>∃ v isb,e=.returned (.tuple #[v,.bool isb,.int .i64 0])∧VlV B w' (valL l key) v isb∧Below w.heap.size w w':=by
 obtain ⟨last,s,t,now,left,h⟩:=h
 have hd:=h.dep
 exact Get_ok h.tm h.tr (by omega) hk hk0 hk6
theorem KX.Len (h:KX B p q g N c u l W w):Calls Tryz.prog 68 #[.pointer (some ⟨g,0,none⟩)] w fun e w'=>e=.returned (.int .i64 (l.length:Int))∧w'=w:=by
 obtain ⟨last,s,t,now,left,h⟩:=h
 have:=Len_any h.tm
 rwa [h.tr.keys] at this
theorem KX.dead (h:KX B p q g N c u l W w):Calls Tryz.prog 71 #[.pointer (some ⟨g,0,none⟩)] w fun e w'=>e=.returned (.bool false)∧Below w.heap.size w w':=by
 obtain ⟨last,s,t,now,left,h⟩:=h
 obtain ⟨cs,h1,h2⟩:=h.tm.tv
 exact aGa h.tm.st h.tm.lf h1 h2
end
theorem wp_cat {o:Oper} {a:Act} {K:Act→World→Prop} {Q:Exit→Act→World→Prop} {wr:World} (s x:Operand)
  (ho:o.op=.call { callee:=.builtin .append,args:=#[s,x],argTypes:=#[28,28] })
  {B B1 n m cap:Nat} {v:Value} {ys xs:List Nat} {ax:Option Addr} (hs:a.eval s=v) (hx:a.eval x=.slice ax m cap) (hown:wr.ownsRow B1 5 1 v n (cellsOf ys)) (hn:ys.length=n) (hX:BS wr ax m cap xs) (hb:∀ z∈ys,z<256) (hl:n+m≤100000) (hB1:B1≤wr.heap.size)
  (h:∀ b c w',BK B w' b (n+m) c (ys++xs)→Below B1 wr w'→K (a.put o.dst (.slice b (n+m) c)) w'):Oper.wp Tryz.prog o a wr K Q:=by
 obtain ⟨i0,hi,hz0,hz1,hz2⟩:=info_parts aEa
 have hxl:=hX.hlen
 have hbb:∀ z∈ys++xs,z<256:=fun z hz=>by
  rcases List.mem_append.1 hz with q | q
  ·exact hb z q
  ·exact hX.hbyte z q
 have e2:n+m=(ys++xs).length:=by rw [lA];omega
 cases ax with
 | none =>
  have hc0:=hX.hnil rfl
  have hcc:=hX.hcap
  have e0:m=0:=by omega
  subst e0 hc0
  have ex:xs=[]:=List.eq_nil_of_length_eq_zero hxl
  subst ex
  have hrun:=run_append_owned_none (P:=Tryz.prog) (w:=wr) B1 28 o.type 5 i0 1 Tryz.underlying28 hi v n (cellsOf ys) hown
  obtain ⟨b,c,rfl,hk⟩:=BK.owned (B:=B) (xs:=ys) (by rw [hn];exact hown) (by omega) hb
  have hK:=h b c wr (by rw [List.append_nil,Nat.add_zero,←hn];exact hk) (Below.refl _ _)
  rw [Nat.add_zero,←hn] at hK
  unfold Oper.wp
  simp [execOp,ho,resolve,invoke,builtin,hs,hx,hrun,Result.andThen]
  exact hK
 | some ad =>
  refine wp_append_own wr s x _ ho B1 5 i0 (.int .u8 0) 1 1 Tryz.underlying28 hi hz0 hz1 hz2 rfl (by omega) v n (cellsOf ys) hs hown ad m cap (cellsOf xs) hx (by rw [aAe,hxl,Nat.mul_one]) hX.news (aAy xs) (by unfold maxLen;omega) (by omega) hB1 ?_
  intro v' w' h1 h2 _
  rw [←aAq,e2] at h1
  obtain ⟨b,c,rfl,hk⟩:=BK.owned (B:=B) h1 (by omega) hbb
  rw [←e2] at hk
  have h9:=h b c w' hk ((Below.refl B1 _).grown h2 hB1 (fun k hk=>(hown.lt k hk).1))
  rw [←e2]
  exact h9
theorem wpList_cat {ops:Array Oper} {rest:List Oper} {o:Oper} {a:Act} {Q:Exit→Act→World→Prop} {wr:World} (hw:Region.wanted o (yielded ops a.tmps)=true) (s x:Operand)
  (ho:o.op=.call { callee:=.builtin .append,args:=#[s,x],argTypes:=#[28,28] })
  {B B1 n m cap:Nat} {v:Value} {ys xs:List Nat} {ax:Option Addr} (hs:a.eval s=v) (hx:a.eval x=.slice ax m cap) (hown:wr.ownsRow B1 5 1 v n (cellsOf ys)) (hn:ys.length=n) (hX:BS wr ax m cap xs) (hb:∀ z∈ys,z<256) (hl:n+m≤100000) (hB1:B1≤wr.heap.size)
  (h:∀ b c w',BK B w' b (n+m) c (ys++xs)→Below B1 wr w'→wpList Tryz.prog ops Q rest (a.put o.dst (.slice b (n+m) c)) w'):wpList Tryz.prog ops Q (o::rest) a wr :=
 wpList_step fun K hK=>by
  rw [if_pos hw]
  exact wp_cat (B:=B) s x ho hs hx hown hn hX hb hl hB1 fun b c w' p1 p2=>hK _ _ (h b c w' p1 p2)
theorem aGi (w:World) (x:Nat):(w.alloc (.cells #[.int .u8 (x:Int)] 5)).ownsRow w.heap.size 5 1 (.slice (some ⟨w.heap.size,0,none⟩) 1 1) 1 (cellsOf [x]) :=
 ⟨rfl,Or.inr ⟨w.heap.size,1,#[.int .u8 (x:Int)],rfl,nR _,heap_alloc_new w _,nR _,by unfold maxLen;omega,rfl,rfl⟩⟩
theorem aB8 {B sp:Nat} {w:World} {a:Option Addr} {n c:Nat} {xs:List Nat} (hsp:sp<256) (h:BS w a n c xs) (hn:n≤10000) :
  Calls Tryz.prog 76 #[.int .i64 (sp:Int),.slice a n c] w fun e w'=>∃ b d,e=.returned (.slice b (n+1) d)∧BK B w' b (n+1) d (sp::xs)∧Below w.heap.size w w':=by
 have ew:IntKind.u8.wrap (sp:Int)=(sp:Int):=by rw [IntKind.wrap_u8];omega
 have HO:=hide (aGi w sp)
 have HBX:=hide (aAc w (.cells #[.int .u8 (sp:Int)] 5))
 have HX:=hide (h.later HBX.out (nR _))
 clear h
 go_enter Tryz.func76,Tryz.ntmps76
 go_wp2_with (at_builtin;refine wpList_cat (B:=B) (by rfl) (.tmp 7) (.tmp 8) rfl rfl rfl HO.out rfl HX.out (by intro z hz;simp at hz;omega) (by omega) HBX.out.size ?_;intro b d w2 hk2 hb2;have HK2:=hide hk2;have HB2:=hide hb2;clear hk2 hb2)
 go_ret
 refine ⟨b,d,?_,?_,HBX.out.trans HB2.out⟩
 ·rw [Nat.add_comm n 1]
  rfl
 ·have h9:=HK2.out
  rw [Nat.add_comm 1 n] at h9
  exact h9
structure LV (cs:Array Value) (g p:Nat):Prop where
 sz:cs.size=19
 c0:cs[0]?=some (.pointer (some ⟨g,0,none⟩))
 c1:cs[1]?=some (.pointer (some ⟨p,0,none⟩))
 c2:cs[2]?=some (.int .i64 0)
 cp:∀ i,3≤i→i<19→∃ n:Int,cs[i]?=some (.int .i64 n)
structure LS [Gd] (B p q g ls N c u:Nat) (l:List It) (W w:World):Prop where
 kx:KX B p q g N c u l W w
 bl:B≤ls
 lv:∃ cs,w.heap[ls]?=some (.cells cs 104 (0,0))∧LV cs g p
section
variable [Gd] {B p q g ls N c u:Nat} {l:List It} {W w w':World}
theorem LS.later (h:LS B p q g ls N c u l W w) (hb:Below w.heap.size w w'):LS B p q g ls N c u l W w':=by
 obtain ⟨cs,h1,h2⟩:=h.lv
 exact ⟨h.kx.later hb,h.bl,cs,(hb.block ls (lO h1)).trans h1,h2⟩
theorem LS.bw (h:LS B p q g ls N c u l W w):B≤w.heap.size:=h.kx.bw
theorem LS.dead (h:LS B p q g ls N c u l W w):Calls Tryz.prog 42 #[.pointer (some ⟨ls,0,none⟩)] w fun e w'=>e=.returned (.bool false)∧Below w.heap.size w w':=by
 obtain ⟨cs,h1,h2⟩:=h.lv
 have r0:w.cell? ⟨ls,0,none⟩=some (.pointer (some ⟨g,0,none⟩)):=(aAa h1).trans h2.c0
 have HD:=hide h.kx.dead
 clear h h1 h2
 go_enter Tryz.func42,Tryz.ntmps42
 go_wp2_with fail
 refine HD.out.mono ?_
 rintro e w1 ⟨rfl,hb1⟩
 have HB1:=hide hb1
 clear hb1
 go_wp2
 go_ret
 exact ⟨rfl,HB1.out⟩
theorem LS.pos (h:LS B p q g ls N c u l W w):Calls Tryz.prog 57 #[.pointer (some ⟨ls,0,none⟩)] w fun e w'=>e=.returned (.int .i64 0)∧w'=w:=by
 obtain ⟨cs,h1,h2⟩:=h.lv
 have r0:w.cell? ⟨ls,2,none⟩=some (.int .i64 0):=(aAa h1).trans h2.c2
 clear h h1 h2
 go_enter Tryz.func57,Tryz.ntmps57
 go_wp2
 go_ret
 exact ⟨rfl,rfl⟩
end
def chC (kv:List (Value×Value)):List Value:=kv.flatMap fun x=>[.int .i64 15,x.1,x.2,.bool false]
theorem chC_get:∀ {kv:List (Value×Value)} {i:Nat} {x:Value×Value},kv[i]?=some x→(chC kv)[i*4]?=some (.int .i64 15)∧(chC kv)[i*4+1]?=some x.1∧(chC kv)[i*4+2]?=some x.2∧(chC kv)[i*4+3]?=some (.bool false)
 | [],i,x,h=>by simp at h
 | y::kv,0,x,h=>by
  simp only [List.getElem?_cons_zero,oI] at h
  subst h
  exact ⟨rfl,rfl,rfl,rfl⟩
 | y::kv,i+1,x,h=>by
  have e:=chC_get (kv:=kv) (i:=i) (x:=x) (by simpa using h)
  have f:∀ j,(chC (y::kv))[j+4]?=(chC kv)[j]?:=fun j=>rfl
  refine ⟨?_,?_,?_,?_⟩
  ·rw [show (i+1)*4=i*4+4 by omega,f];exact e.1
  ·rw [show (i+1)*4+1=i*4+1+4 by omega,f];exact e.2.1
  ·rw [show (i+1)*4+2=i*4+2+4 by omega,f];exact e.2.2.1
  ·rw [show (i+1)*4+3=i*4+3+4 by omega,f];exact e.2.2.2
def CHV (B:Nat) (w:World) (v:Value) (cl:List It):Prop:=∃ (kv:List (Value×Value)) (g cap:Nat),v=.slice (some ⟨g,0,none⟩) cl.length cap∧kv.length=cl.length∧w.heap[g]?=some (.cells (chC kv).toArray 124 (0,0))∧∀ (i:Nat) it x,cl[i]?=some it→kv[i]?=some x→KV B w x.1 it.1∧KV B w x.2 it.2
theorem CHV.stay {B:Nat} {w w':World} {v:Value} {cl:List It} (h:CHV B w v cl) (f:FT B w w') (hk:∀ (k:Nat) (cs:Array Value),w.heap[k]?=some (.cells cs 124 (0,0))→w'.heap[k]?=some (.cells cs 124 (0,0))):CHV B w' v cl:=by
 obtain ⟨kv,g,cap,h1,h2,h3,h4⟩:=h
 exact ⟨kv,g,cap,h1,h2,hk g _ h3,fun i it x e1 e2=>⟨(h4 i it x e1 e2).1.ft f,(h4 i it x e1 e2).2.ft f⟩⟩
theorem CHV.later {B:Nat} {w w':World} {v:Value} {cl:List It} (h:CHV B w v cl) (hb:Below w.heap.size w w') (hB:B≤w.heap.size):CHV B w' v cl :=
 h.stay (FT.of hb hB) fun k cs e=>(hb.block k (lO e)).trans e
theorem CHV.at {B:Nat} {w:World} {v:Value} {cl:List It} (h:CHV B w v cl) {j:Nat} {it:It} (hj:cl[j]?=some it):∃ g cap ka kc va vc,v=.slice (some ⟨g,0,none⟩) cl.length cap∧w.cell? ⟨g,j*4,none⟩=some (.int .i64 15)∧w.cell? ⟨g,j*4+1,none⟩=some (.slice ka it.1.length kc)∧w.cell? ⟨g,j*4+2,none⟩=some (.slice va it.2.length vc)∧w.cell? ⟨g,j*4+3,none⟩=some (.bool false)∧BK B w ka it.1.length kc it.1∧BK B w va it.2.length vc it.2:=by
 obtain ⟨kv,g,cap,h1,h2,h3,h4⟩:=h
 have hlt:=(lL hj)
 obtain ⟨x,hx⟩:∃ x,kv[j]?=some x:=⟨_,gE (by omega)⟩
 obtain ⟨⟨ka,kc,e1,b1⟩,⟨va,vc,e2,b2⟩⟩:=h4 j it x hj hx
 obtain ⟨p0,p1,p2,p3⟩:=chC_get hx
 have get:∀ i u,(chC kv)[i]?=some u→w.cell? ⟨g,i,none⟩=some u:=fun i u hi=>by
  rw [aAa h3,List.getElem?_toArray]
  exact hi
 exact ⟨g,cap,ka,kc,va,vc,h1,get _ _ p0,by rw [←e1];exact get _ _ p1,by rw [←e2];exact get _ _ p2,get _ _ p3,b1,b2⟩
theorem isSpace_15 (w:World):Calls Tryz.prog 74 #[.int .i64 15] w fun e w'=>e=.returned (.bool true)∧w'=w:=by
 go_enter Tryz.func74,Tryz.ntmps74
 go_wp2
 go_ret
 exact ⟨rfl,rfl⟩
theorem isWrong_no {ka va:Option Addr} {kn kc vn vc:Nat} (w:World) (h0:0<kn) :
  Calls Tryz.prog 109 #[.agg #[.int .i64 15,.slice ka kn kc,.slice va vn vc,.bool false]] w fun e w'=>e=.returned (.bool false)∧Below w.heap.size w w':=by
 have zb:((kn:Int) == 0)=false:=by simp;omega
 have HBX:=hide (aAc w (.cells #[.int .i64 15,.slice ka kn kc,.slice va vn vc,.bool false] 124))
 have HIS:=hide (fun w=>isSpace_15 w)
 go_enter Tryz.func109,Tryz.ntmps109
 go_wp2_with fail
 refine (HIS.out _).mono ?_
 rintro e w1 ⟨rfl,hw⟩
 have hw:=hw.symm
 subst hw
 go_wp2
 go_ret
 refine ⟨?_,HBX.out⟩
 first | rfl | (show Ending.returned (.bool ((kn:Int) == 0))=_;rw [zb])
theorem isLong_no {ka va:Option Addr} {kn kc vn vc:Nat} (w:World) (h0:kn≤60) (h1:vn≤1800) :
  Calls Tryz.prog 110 #[.agg #[.int .i64 15,.slice ka kn kc,.slice va vn vc,.bool false]] w fun e w'=>e=.returned (.bool false)∧Below w.heap.size w w':=by
 have z0:¬ (60:Int)<(kn:Int):=by omega
 have z1:¬ (1800:Int)<(vn:Int):=by omega
 have HBX:=hide (aAc w (.cells #[.int .i64 15,.slice ka kn kc,.slice va vn vc,.bool false] 124))
 go_enter Tryz.func110,Tryz.ntmps110
 go_wp2
 go_ret
 exact ⟨rfl,HBX.out⟩
theorem indexFunc_no {B K:Nat} {w:World} {v:Value} {cl:List It} (hv:CHV B w v cl) (hB:B≤w.heap.size) (hl:cl.length≤1000) (hcf:∀ (a:Value) (ww:World),(callFunc K #[a]).run Tryz.prog ww=.ok (.enter K #[a]) ww)
  (hK:∀ (it:It) (ka va:Option Addr) (kc vc:Nat) (ww:World),it∈cl→Calls Tryz.prog K #[.agg #[.int .i64 15,.slice ka it.1.length kc,.slice va it.2.length vc,.bool false]] ww fun e w'=>e=.returned (.bool false)∧Below ww.heap.size ww w') :
  Calls Tryz.prog 129 #[v,.func (Fn.func K) #[] #[]] w fun e w'=>e=.returned (.int .i64 (-1))∧Below w.heap.size w w':=by
 obtain ⟨g,cap,hform⟩:∃ g cap,v=.slice (some ⟨g,0,none⟩) cl.length cap:=by
  obtain ⟨kv,g,cap,h1,_⟩:=hv
  exact ⟨g,cap,h1⟩
 subst hform
 have HV:=hide hv
 have HK:=hide hK
 have HCF:=hide hcf
 clear hv hK hcf
 generalize hN:cl.length=M at *
 go_enter Tryz.func129,Tryz.ntmps129
 go_wp2_with fail
 go_loopw [8] (fun i wx=>∃ j:Nat,j≤M∧i=.int .i64 j∧Below w.heap.size w wx) (fun i _=>M-(intOf i).toNat)
 case atStart=>exact ⟨0,by omega,rfl,Below.refl _ _⟩
 case round =>
  obtain ⟨j,hj,rfl,hb⟩:=hrel
  have HB:=hide hb
  by_cases hjn:j<M
  ·have xj:(j:Int)<(M:Int):=by omega
   obtain ⟨it,hit⟩:∃ it,cl[j]?=some it:=⟨_,gE (by omega)⟩
   obtain ⟨g',cap',ka,kc,va,vc,f1,q1,q2,q3,q4,q5,q6⟩:=(HV.out.later hb hB).at hit
   rw [hN] at f1
   simp only [Value.slice.injEq,oI,Addr.mk.injEq] at f1
   obtain ⟨⟨rfl,_,_⟩,_,rfl⟩:=f1
   have HC:=hide (HK.out it ka va kc vc wr (mG hit))
   have hcf1:=HCF.out (.agg #[.int .i64 15,.slice ka it.1.length kc,.slice va it.2.length vc,.bool false]) wr
   generalize it.1.length=kn at *
   generalize it.2.length=vn at *
   clear hb hit q5 q6
   go_wp2_with fail
   refine HC.out.mono ?_
   rintro e w1 ⟨rfl,hb1⟩
   have HB1:=hide (HB.out.trans (hb1.mono HB.out.size))
   clear hb1 HC
   go_wp2_with fail
   go_roundw
   case rel=>exact ⟨j+1,by omega,by go_num,HB1.out⟩
   case measure=>simp [intOf];omega
  ·have xj:¬ (j:Int)<(M:Int):=by omega
   clear hb
   go_wp2
   go_ret
   exact ⟨rfl,HB.out⟩
theorem aCl {B K:Nat} {w:World} {v:Value} {cl:List It} (hv:CHV B w v cl) (hB:B≤w.heap.size) (hl:cl.length≤1000) (hcf:∀ (a:Value) (ww:World),(callFunc K #[a]).run Tryz.prog ww=.ok (.enter K #[a]) ww)
  (hK:∀ (it:It) (ka va:Option Addr) (kc vc:Nat) (ww:World),it∈cl→Calls Tryz.prog K #[.agg #[.int .i64 15,.slice ka it.1.length kc,.slice va it.2.length vc,.bool false]] ww fun e w'=>e=.returned (.bool false)∧Below ww.heap.size ww w') :
  Calls Tryz.prog 108 #[v,.func (Fn.func K) #[] #[]] w fun e w'=>e=.returned (.bool false)∧Below w.heap.size w w':=by
 have HI:=hide (indexFunc_no hv hB hl hcf hK)
 obtain ⟨g,cap,hform⟩:∃ g cap,v=.slice (some ⟨g,0,none⟩) cl.length cap:=by
  obtain ⟨kv,g,cap,h1,_⟩:=hv
  exact ⟨g,cap,h1⟩
 subst hform
 clear hv hcf hK
 go_enter Tryz.func108,Tryz.ntmps108
 go_wp2_with fail
 refine HI.out.mono ?_
 rintro e w1 ⟨rfl,hb1⟩
 have HB1:=hide hb1
 clear hb1
 go_wp2
 go_ret
 exact ⟨rfl,HB1.out⟩
theorem LS.refusal [Gd] {B p q g ls N c u:Nat} {l:List It} {W w:World} {v:Value} {cl:List It} (h:LS B p q g ls N c u l W w) (hv:CHV B w v cl) (hl:cl.length≤1000) (hok:∀ x∈cl,0<x.1.length∧x.1.length≤60∧x.2.length≤1800) :
  Calls Tryz.prog 73 #[.pointer (some ⟨ls,0,none⟩),.bool true,v] w fun e w'=>e=.returned (.int .i64 0)∧Below w.heap.size w w':=by
 have HD:=hide h.dead
 have HBW:=hide h.bw
 have HV:=hide hv
 have HOK:=hide hok
 obtain ⟨gv,cap,hform⟩:∃ g cap,v=.slice (some ⟨g,0,none⟩) cl.length cap:=by
  obtain ⟨kv,g,cap,h1,_⟩:=hv
  exact ⟨g,cap,h1⟩
 subst hform
 clear h hv hok
 go_enter Tryz.func73,Tryz.ntmps73
 go_wp2_with fail
 refine HD.out.mono ?_
 rintro e w1 ⟨rfl,hb1⟩
 have HB1:=hide hb1
 have HV1:=hide (HV.out.later hb1 HBW.out)
 have HBW1:Hid (B≤w1.heap.size):=nT HBW.out hb1.size
 have HC1:=hide (aCl (K:=109) HV1.out HBW1.out hl (fun a ww=>by rfl) (fun it ka va kc vc ww hm=>isWrong_no ww (HOK.out it hm).1))
 clear hb1
 go_wp2_with fail
 refine HC1.out.mono ?_
 rintro e w2 ⟨rfl,hb2⟩
 have HB2:=hide (HB1.out.trans (hb2.mono HB1.out.size))
 have HV2:=hide (HV1.out.later hb2 HBW1.out)
 have HBW2:Hid (B≤w2.heap.size):=nT HBW1.out hb2.size
 have HC2:=hide (aCl (K:=110) HV2.out HBW2.out hl (fun a ww=>by rfl) (fun it ka va kc vc ww hm=>isLong_no ww (HOK.out it hm).2.1 (HOK.out it hm).2.2))
 clear hb2 HC1
 go_wp2_with fail
 refine HC2.out.mono ?_
 rintro e w3 ⟨rfl,hb3⟩
 have HB3:=hide (HB2.out.trans (hb3.mono HB2.out.size))
 clear hb3 HC2
 go_wp2
 go_ret
 exact ⟨rfl,HB3.out⟩
def ByK (w w':World):Prop:=∀ (k:Nat) (cs:Array Value) (fz:Nat×Nat),w.heap[k]?=some (Obj.cells cs 5 fz)→w'.heap[k]?=some (Obj.cells cs 5 fz)
theorem ST.fp [Gd] {B p q:Nat} {s:DS} {t:PS} {w:World} (h:ST B p q s t w):∃ F:Nat→Prop,(∀ k,F k→FBk w k)∧(∀ k,Gd.s k→¬ F k)∧∀ (w':World) (S':Nat→Prop),(∀ k,F k→w'.heap[k]?=w.heap[k]?)→ByK w w'→(∀ k,S' k→FBk w' k∧¬ F k)→@ST ⟨S'⟩ B p q s t w':=by
 obtain ⟨⟨gb,vo,kv,ov,wv,⟨dp,dg,dw,dk,db,do_,da,dpB,dgB,dok,dG⟩⟩,gs,⟨vq,vs,vqB,vgB,vok,vG⟩⟩:=h
 refine ⟨fun k=>k=p∨k=gb∨vo.ownBlock=some k∨(∃ i,i<s.n∧(ov i).ownBlock=some k)∨k=q∨k=gs,?_,?_,?_⟩
 ·intro k hk
  rcases hk with rfl | rfl | hk | ⟨i,hi,hk⟩ | rfl | rfl
  ·exact ⟨_,_,dp,by unfold DTy;decide⟩
  ·exact ⟨_,_,dg,by unfold DTy;decide⟩
  ·obtain ⟨_,cur,hc⟩:=aAl dw hk
   exact ⟨_,_,hc,by unfold DTy;decide⟩
  ·obtain ⟨_,cur,hc⟩:=aAl (do_ i hi) hk
   exact ⟨_,_,hc,by unfold DTy;decide⟩
  ·exact ⟨_,_,vq,by unfold DTy;decide⟩
  ·exact ⟨_,_,vs,by unfold DTy;decide⟩
 ·intro k hs hk
  obtain ⟨_,a1,a2,a3,a4⟩:=dG k hs
  obtain ⟨a5,a6⟩:=vG k hs
  rcases hk with e | e | e | ⟨i,hi,e⟩ | e | e
  ·exact a1 e
  ·exact a2 e
  ·exact a3 e
  ·exact a4 i hi e
  ·exact a5 e
  ·exact a6 e
 ·intro w' S' hF hB hS
  letI:Gd:=⟨S'⟩
  refine ⟨⟨gb,vo,kv,ov,wv,?_⟩,gs,?_⟩
  ·exact ⟨(hF p (Or.inl rfl)).trans dp,(hF gb (Or.inr (Or.inl rfl))).trans dg,aAj dw fun k cs hk e=>(hF k (Or.inr (Or.inr (Or.inl hk)))).trans e,fun i hi=>aAj (dk i hi) fun k cs _ e=>hB k cs _ e,fun i hi=>aAj (db i hi) fun k cs _ e=>hB k cs _ e,
    fun i hi=>aAj (do_ i hi) fun k cs hk e=>(hF k (Or.inr (Or.inr (Or.inr (Or.inl ⟨i,hi,hk⟩))))).trans e,da,dpB,dgB,dok,fun k hk=>⟨(hS k hk).1,fun e=>(hS k hk).2 (Or.inl e),fun e=>(hS k hk).2 (Or.inr (Or.inl e)),fun e=>(hS k hk).2 (Or.inr (Or.inr (Or.inl e))),fun i hi e=>(hS k hk).2 (Or.inr (Or.inr (Or.inr (Or.inl ⟨i,hi,e⟩))))⟩⟩
  ·exact ⟨(hF q (Or.inr (Or.inr (Or.inr (Or.inr (Or.inl rfl)))))).trans vq,(hF gs (Or.inr (Or.inr (Or.inr (Or.inr (Or.inr rfl)))))).trans vs,vqB,vgB,vok,fun k hk=>⟨fun e=>(hS k hk).2 (Or.inr (Or.inr (Or.inr (Or.inr (Or.inl e))))),fun e=>(hS k hk).2 (Or.inr (Or.inr (Or.inr (Or.inr (Or.inr e)))))⟩⟩
theorem KX.fp [Gd] {B p q g N c u:Nat} {l:List It} {W w:World} (h:KX B p q g N c u l W w):∃ F:Nat→Prop,(∀ k,F k→FBk w k)∧(∀ k,Gd.s k→¬ F k)∧∀ (w':World) (S':Nat→Prop),(∀ k,F k→w'.heap[k]?=w.heap[k]?)→ByK w w'→w'.heap[g]?=w.heap[g]?→Below B w w'→(∀ k,S' k→FBk w' k∧¬ F k)→@KX ⟨S'⟩ B p q g N c u l W w':=by
 obtain ⟨last,s,t,now,left,⟨⟨m1,m2,m3,⟨cg,k1,k2⟩,m5,m6,m7,m8,m9,m10⟩,t1,t2,t3,t4,t5,t6,t7,t8⟩⟩:=h
 obtain ⟨F,h1,h2,h3⟩:=m1.fp
 refine ⟨F,h1,h2,fun w' S' hF hB hg hb hS=>⟨last,s,t,now,left,?_⟩⟩
 have h4:=h3 w' S' hF hB hS
 letI:Gd:=⟨S'⟩
 exact ⟨⟨h4,nT m2 hb.size,m3,⟨cg,hg.trans k1,k2⟩,m5,m6,m7,m8,m9,m10⟩,t1,t2,t3,t4,t5,t6,t7,t8.trans hb⟩
theorem treeKey_15 {B:Nat} {w:World} {a:Option Addr} {n c:Nat} {xs:List Nat} (h:BS w a n c xs) (hn:n≤10000) :
  Calls Tryz.prog 76 #[.int .i64 15,.slice a n c] w fun e w'=>∃ b d,e=.returned (.slice b (n+1) d)∧BK B w' b (n+1) d (15::xs)∧Below w.heap.size w w':=aB8 (sp:=15) (by decide) h hn
def GtT (B:Nat) (o:Option (List Nat)) (w:World) (e:Ending) (w':World):Prop:=∃ v isb,e=.returned (.tuple #[v,.bool isb,.int .i64 0])∧VlV B w' o v isb∧Below w.heap.size w w'
theorem kv_nil (B:Nat) (w:World):KV B w (.slice none 0 0) []:=⟨none,0,rfl,BK.nil _ _⟩
theorem CHV.one {B g:Nat} {w:World} {kv vv:Value} {it:It} (h:w.heap[g]?=some (.cells #[.int .i64 15,kv,vv,.bool false] 124 (0,0))) (hk:KV B w kv it.1) (hv:KV B w vv it.2):CHV B w (.slice (some ⟨g,0,none⟩) 1 1) [it]:=by
 refine ⟨[(kv,vv)],g,1,rfl,rfl,h,fun i it' x h1 h2=>?_⟩
 have:i=0:=by
  have:=(lL h1)
  simp at this
  omega
 subst this
 simp at h1 h2
 subst h1 h2
 exact ⟨hk,hv⟩
theorem LS.cell0 [Gd] {B p q g ls N c u:Nat} {l:List It} {W w:World} (h:LS B p q g ls N c u l W w):w.cell? ⟨ls,0,none⟩=some (.pointer (some ⟨g,0,none⟩)):=by
 obtain ⟨cs,h1,h2⟩:=h.lv
 exact (aAa h1).trans h2.c0
theorem LS.Get [Gd] {B p q g ls N c u:Nat} {l:List It} {W w:World} (h:LS B p q g ls N c u l W w) {ka:Option Addr} {kn kc:Nat} {key:List Nat} (hk:BK B w ka kn kc key) (h0:0<kn) (h6:kn≤60) :
  Calls Tryz.prog 83 #[.pointer (some ⟨ls,0,none⟩),.int .i64 15,.slice ka kn kc] w fun e w'=>GtT B (valL l (15::key)) w e w':=by
 have hkl:=hk.len
 obtain ⟨x1,hx1⟩:∃ x,x=w.alloc (.cells #[.int .i64 15,.slice ka kn kc,.slice none 0 0,.bool false] 124):=⟨_,rfl⟩
 obtain ⟨x2,hx2⟩:∃ x,x=x1.alloc (.cells #[.int .i64 15,.slice ka kn kc,.slice none 0 0,.bool false] 124):=⟨_,rfl⟩
 have b1:Below w.heap.size w x1:=by rw [hx1];exact aAc w _
 have b2:Below x1.heap.size x1 x2:=by rw [hx2];exact aAc x1 _
 have HB2:Hid (Below w.heap.size w x2):=b1.trans (b2.mono b1.size)
 have hs1:x1.heap.size=w.heap.size+1:=by rw [hx1];exact Array.size_push _
 have hnew:x2.heap[w.heap.size+1]?=some (.cells #[.int .i64 15,.slice ka kn kc,.slice none 0 0,.bool false] 124 (0,0)):=by rw [←hs1,hx2];exact heap_alloc_new x1 _
 have hL2:=h.later HB2.out
 have HRF:=hide (hL2.refusal (CHV.one (it:=(key,[])) hnew ⟨ka,kc,by rw [hkl],by rw [hkl];exact hk.later HB2.out h.bw⟩ (kv_nil _ _)) (by simp) (by intro x hx;simp only [List.mem_singleton] at hx;subst hx;exact ⟨by rw [hkl];exact h0,by rw [hkl];exact h6,by simp⟩))
 have HL:=hide hL2
 have HK:=hide (hk.later HB2.out h.bw)
 rw [hx2,hx1] at HRF
 clear h hk b1 b2 hs1 hnew hL2
 go_enter Tryz.func83,Tryz.ntmps83
 go_wp2_with fail
 refine HRF.out.mono ?_
 rintro e w3 ⟨rfl,hb3⟩
 rw [←hx1,←hx2] at hb3
 have HL3:=hide (HL.out.later hb3)
 have HK3:=hide (HK.out.later hb3 HL.out.bw)
 have HB3:=hide (HB2.out.trans (hb3.mono HB2.out.size))
 clear hb3 HRF hx1 hx2 HB2
 have HX0:Hid ((fun wx=>wx.cell? ⟨ls,0,none⟩=some (.pointer (some ⟨g,0,none⟩))) w3.drew):=HL3.out.cell0
 have HLD:=hide (HL3.out.later (Below.refl _ _).drew)
 have HKD:=hide (HK3.out.later (Below.refl _ _).drew HL3.out.bw)
 have HBD:Hid (Below w.heap.size w w3.drew):=HB3.out.drew
 go_upto_region 5 with fail
 have HTK:=hide (treeKey_15 (B:=B) HKD.out.1 (by omega))
 refine wp_region_noPanic ?_
 refine wp_region_held_drew (S:=fun wx=>wx.cell? ⟨ls,0,none⟩=some (.pointer (some ⟨g,0,none⟩))) (by kernel_rfl) HX0.out (fun hHeld=>?_)
 refine wpAnyH_tk 0 22 ?_
 refine wpAnyH_tk 1 23 ?_
 refine wpAnyH_tk 2 24 ?_
 refine wpAnyH_tk 3 25 ?_
 refine wpAnyH_tk 4 26 ?_
 refine wpAnyH_tk 5 27 ?_
 refine wpAnyH_cm 6 ?_;intro K hK
 go_simp
 refine HTK.out.mono ?_
 rintro e w5 ⟨tb,td,rfl,hk5,hb5⟩
 have HL5:=hide (HLD.out.later hb5)
 have HB5:=hide (HBD.out.trans (hb5.mono HBD.out.size))
 have HGT:=hide (HL5.out.kx.Get hk5 (by omega) (by omega))
 have HX5:Hid ((fun wx=>wx.cell? ⟨ls,0,none⟩=some (.pointer (some ⟨g,0,none⟩))) w5):=HL5.out.cell0
 clear hk5 hb5 hHeld
 refine hK.out _ _ HX5.out (fun hHeld=>?_)
 clear hK K
 try simp only [Act.put,siT,scZ,scS]
 refine wpAnyH_cm 7 ?_;intro K hK
 go_simp
 refine HGT.out.mono ?_
 rintro e w6 ⟨v,isb,rfl,hv6,hb6⟩
 obtain ⟨va,vn,vc,hva⟩:=hv6.form
 subst hva
 have HL6:=hide (HL5.out.later hb6)
 have HB6:=hide (HB5.out.trans (hb6.mono HB5.out.size))
 have HV6:=hide hv6
 have HX6:Hid ((fun wx=>wx.cell? ⟨ls,0,none⟩=some (.pointer (some ⟨g,0,none⟩))) w6):=HL6.out.cell0
 clear hv6 hb6 hHeld
 refine hK.out _ _ HX6.out (fun hHeld=>?_)
 clear hK K
 try simp only [Act.put,siT,scZ,scS]
 refine wpAnyH_tk 8 30 ?_
 refine wpAnyH_tk 9 31 ?_
 refine wpAnyH_tk 10 32 ?_
 refine wpAnyH_tk 11 6 ?_
 refine wpAnyH_tk 12 7 ?_
 refine wpAnyH_tk 13 8 ?_
 refine wpAnyH_done (by kernel_rfl) ?_ _
 refine NoPanic.normal ?_
 clear hHeld
 go_wp2
 go_ret3
 exact ⟨_,isb,rfl,HV6.out,HB6.out⟩
structure LyF [Gd] (B g fb:Nat) (w w':World):Prop where
 bel:Below B w w'
 stay:∀ (k:Nat) (cs:Array Value) (t:TypeId) (fz:Nat×Nat),w.heap[k]?=some (Obj.cells cs t fz)→NT t→k≠g→k≠fb→w'.heap[k]?=some (Obj.cells cs t fz)
 gd:GdK w w'
theorem LyF.refl [Gd] (B g fb:Nat) (w:World):LyF B g fb w w:=⟨Below.refl _ _,fun _ _ _ _ h _ _ _=>h,GdK.refl w⟩
theorem LyF.trans [Gd] {B g fb:Nat} {a b c:World} (h:LyF B g fb a b) (k:LyF B g fb b c):LyF B g fb a c:=⟨h.1.trans k.1,fun i cs t fz e n1 n2 n3=>k.2 i cs t fz (h.2 i cs t fz e n1 n2 n3) n1 n2 n3,h.gd.trans k.gd⟩
theorem LyF.ch [Gd] {B g fb:Nat} {w w':World} (h:ChF B g w w'):LyF B g fb w w':=⟨h.1,fun k cs t fz e n1 n2 _=>h.2 k cs t fz e n1 n2,h.gd⟩
theorem LyF.of [Gd] {B g fb:Nat} {w w':World} (h:Below w.heap.size w w') (hB:B≤w.heap.size):LyF B g fb w w':=⟨h.mono hB,fun i cs t fz e _ _ _=>(h.block i (lO e)).trans e,GdK.of h⟩
theorem LyF.set [Gd] {B g fb o:Nat} {w:World} {x:Value} (hB:B≤fb) {cg:Array Value} {tg:TypeId} {fz:Nat×Nat} (hg:w.heap[fb]?=some (.cells cg tg fz)) (htg:¬ DTy tg):LyF B g fb w (w.setCell ⟨fb,o,none⟩ x):=⟨(Ex.set hB).1,fun i cs t fz e h1 h2 h3=>by rw [(Ex.set (w:=w) (o:=o) (u:=x) hB).2 i (lO e) (by simpa using h3),e],(Ex.set hB).gdk hg htg⟩
theorem LS.ch [Gd] {B p q g ls N c u c' u':Nat} {l l':List It} {W w w':World} (h:LS B p q g ls N c u l W w) (f:ChF B g w w') (hx:KX B p q g N c' u' l' W w'):LS B p q g ls N c' u' l' W w':=by
 obtain ⟨cs,h1,h2⟩:=h.lv
 obtain ⟨cg,hg⟩:=h.kx.blk
 refine ⟨hx,h.bl,cs,f.2 _ _ _ _ h1 (by decide) (fun q9=>?_),h2⟩
 rw [q9,hg] at h1
 simp only [oI,cI] at h1
 exact absurd h1.2.1 (by decide)
structure FGV (cs:Array Value):Prop where
 sz:cs.size=17
 c0:cs[0]?=some (.int .i64 0)
 cp:∀ i,1≤i→i<17→∃ n:Int,cs[i]?=some (.int .i64 n)
theorem FGV.set {cs:Array Value} (h:FGV cs) {o:Nat} (ho:1≤o) (n:Int):FGV (cs.setIfInBounds o (.int .i64 n)):=by
 refine ⟨by rw [Array.size_setIfInBounds];exact h.sz,by rw [Array.getElem?_setIfInBounds_ne (by omega)];exact h.c0,fun i h1 h2=>?_⟩
 by_cases e:o=i
 ·subst e
  exact ⟨n,Array.getElem?_setIfInBounds_self_of_lt (by rw [h.sz];exact h2)⟩
 ·rw [Array.getElem?_setIfInBounds_ne e]
  exact h.cp i h1 h2
theorem aA0 {a b:Nat} {ww:World} {ca cb:Array Value} {ta tb:TypeId} {fa fz:Nat×Nat} (ha:ww.heap[a]?=some (.cells ca ta fa)) (hb:ww.heap[b]?=some (.cells cb tb fz)) (ht:ta≠tb):a≠b:=fun e=>by
 rw [e,hb] at ha
 simp only [oI,cI] at ha
 exact ht ha.2.1.symm
section
variable [Gd] {B p q g ls N c u fb:Nat} {l:List It} {W w w':World}
theorem LS.fig (h:LS B p q g ls N c u l W w) {cf:Array Value} {o:Nat} {x:Value} (hf:w.heap[fb]?=some (.cells cf 100 (0,0))) (hB:B≤fb):LS B p q g ls N c u l W (w.setCell ⟨fb,o,none⟩ x):=by
 obtain ⟨cs,h1,h2⟩:=h.lv
 have keep:∀ (k:Nat) (cs:Array Value) (t:TypeId) (fz:Nat×Nat),w.heap[k]?=some (Obj.cells cs t fz)→t≠100→(w.setCell ⟨fb,o,none⟩ x).heap[k]?=some (Obj.cells cs t fz):=fun k cs t fz e ht=>by
  rw [(Ex.set (w:=w) (o:=o) (u:=x) hB).2 k (lO e) (by simpa using aA0 e hf ht),e]
 refine ⟨h.kx.same (Ex.set hB).1 (fun k cs t fz e ht=>keep k cs t fz e ?_),h.bl,cs,keep _ _ _ _ h1 (by decide),h2⟩
 rcases ht with rfl | rfl | ht
 ·decide
 ·decide
 ·intro q9
  rw [q9] at ht
  exact ht (by decide)
theorem LyF.ft (h:LS B p q g ls N c u l W w) (f:LyF B g fb w w') {cf:Array Value} (hf:w.heap[fb]?=some (.cells cf 100 (0,0))):FT B w w':=by
 obtain ⟨cg,hg⟩:=h.kx.blk
 exact ⟨f.1,fun k cs fz e=>f.2 k cs _ fz e (by decide) (aA0 e hg (by decide)) (aA0 e hf (by decide))⟩
end
def z17:Array Value:=(List.replicate 17 (.int .i64 0)).toArray
theorem aDl:(Tryz.prog.info? 100).map (·.size)=some 17:=by kernel_rfl
theorem FGV.one {cs:Array Value} (h:FGV cs):∀ v∈cs.toList,v.oneCell'=true:=by
 intro v hv
 obtain ⟨i,hi⟩:=List.getElem?_of_mem hv
 rw [Array.getElem?_toList] at hi
 have hlt:=(lO hi)
 rw [h.sz] at hlt
 by_cases h0:i=0
 ·subst h0
  rw [h.c0] at hi
  cases hi
  rfl
 ·obtain ⟨n,hn⟩:=h.cp i (by omega) hlt
  rw [hn] at hi
  cases hi
  rfl
def cutF (cs:Array Value):Array Value:=(cs.toList.drop 2).toArray
theorem cutF_get {cs:Array Value} {j:Nat} {v:Value} (h:(cutF cs)[j]?=some v):cs[2+j]?=some v:=by
 unfold cutF at h
 rw [List.getElem?_toArray,List.getElem?_drop,Array.getElem?_toList] at h
 exact h
theorem LV.cut {cs:Array Value} {g p:Nat} (h:LV cs g p):FGV (cutF cs):=by
 have e:∀ j,(cutF cs)[j]?=cs[2+j]?:=fun j=>by
  unfold cutF
  rw [List.getElem?_toArray,List.getElem?_drop,Array.getElem?_toList]
 refine ⟨?_,by rw [e];exact h.c2,fun i h1 h2=>by rw [e];exact h.cp (2+i) (by omega) (by omega)⟩
 unfold cutF
 simp [h.sz]
theorem LV.put {cs cf:Array Value} {g p:Nat} (h:LV cs g p) (hf:FGV cf):LV (spl cs 2 cf) g p:=by
 have hz:2+cf.size≤cs.size:=by rw [hf.sz,h.sz];decide
 refine ⟨by rw [spl_size hz];exact h.sz,by rw [spl_out hz (Or.inl (by decide))];exact h.c0,by rw [spl_out hz (Or.inl (by decide))];exact h.c1,?_,fun i h1 h2=>?_⟩
 ·have:=spl_in (i:=0) hz (by rw [hf.sz];decide)
  rw [this]
  exact hf.c0
 ·obtain ⟨k,rfl⟩:∃ k,i=2+k:=⟨i-2,by omega⟩
  rw [spl_in hz (by rw [hf.sz];omega)]
  exact hf.cp k (by omega) (by omega)
theorem LS.row [Gd] {B p q g ls N c u:Nat} {l:List It} {W w:World} (h:LS B p q g ls N c u l W w) {cs cs':Array Value} (h1:w.heap[ls]?=some (.cells cs 104 (0,0))) (hV:LV cs' g p):LS B p q g ls N c u l W (w.setRow ls cs'):=by
 have hx:Ex B [ls] w (w.setRow ls cs'):=Ex.row h.bl cs'
 have keep:∀ (k:Nat) (c0:Array Value) (t:TypeId) (fz:Nat×Nat),w.heap[k]?=some (Obj.cells c0 t fz)→t≠104→(w.setRow ls cs').heap[k]?=some (Obj.cells c0 t fz):=fun k c0 t fz e ht=>by
  rw [hx.2 k (lO e) (by simpa using aA0 e h1 ht),e]
 refine ⟨h.kx.same hx.1 (fun k c0 t fz e ht=>keep k c0 t fz e ?_),h.bl,cs',setRow_heap _ _ _ cs' _ _ h1,hV⟩
 rcases ht with rfl | rfl | ht
 ·decide
 ·decide
 ·intro q9
  rw [q9] at ht
  exact ht (by decide)
theorem set3 {w:World} {g:Nat} {a0 a1 a2 b0 b1 b2:Value} {t:TypeId} (h:w.heap[g]?=some (.cells #[a0,a1,a2] t (0,0))):(((w.setCell ⟨g,0,none⟩ b0).setCell ⟨g,1,none⟩ b1).setCell ⟨g,2,none⟩ b2).heap[g]?=some (.cells #[b0,b1,b2] t (0,0)):=(heap_setCell_same _ _ _ _ _ _ (heap_setCell_same _ _ _ _ _ _ (heap_setCell_same _ _ _ _ _ _ h)))
theorem set4 {w:World} {g:Nat} {a0 a1 a2 a3 b0 b1 b2 b3:Value} {t:TypeId} (h:w.heap[g]?=some (.cells #[a0,a1,a2,a3] t (0,0))):((((w.setCell ⟨g,0,none⟩ b0).setCell ⟨g,1,none⟩ b1).setCell ⟨g,2,none⟩ b2).setCell ⟨g,3,none⟩ b3).heap[g]?=some (.cells #[b0,b1,b2,b3] t (0,0)):=(heap_setCell_same _ _ _ _ _ _ (heap_setCell_same _ _ _ _ _ _ (heap_setCell_same _ _ _ _ _ _ (heap_setCell_same _ _ _ _ _ _ h))))
theorem set6 {w:World} {g:Nat} {a0 a1 a2 a3 a4 a5 b0 b1 b2 b3 b4 b5:Value} {t:TypeId} (h:w.heap[g]?=some (.cells #[a0,a1,a2,a3,a4,a5] t (0,0))):((((((w.setCell ⟨g,0,none⟩ b0).setCell ⟨g,1,none⟩ b1).setCell ⟨g,2,none⟩ b2).setCell ⟨g,3,none⟩ b3).setCell ⟨g,4,none⟩ b4).setCell ⟨g,5,none⟩ b5).heap[g]?=some (.cells #[b0,b1,b2,b3,b4,b5] t (0,0)):=(heap_setCell_same _ _ _ _ _ _ (heap_setCell_same _ _ _ _ _ _ (heap_setCell_same _ _ _ _ _ _ (heap_setCell_same _ _ _ _ _ _ (heap_setCell_same _ _ _ _ _ _ (heap_setCell_same _ _ _ _ _ _ h))))))
theorem bel3 {w0 w:World} {B g:Nat} {b0 b1 b2:Value} (hb:Below B w0 w) (hg:B≤g):Below B w0 (((w.setCell ⟨g,0,none⟩ b0).setCell ⟨g,1,none⟩ b1).setCell ⟨g,2,none⟩ b2):=(((hb.setCell (p:=⟨g,0,none⟩) hg _).setCell (p:=⟨g,1,none⟩) hg _).setCell (p:=⟨g,2,none⟩) hg _)
theorem bel4 {w0 w:World} {B g:Nat} {b0 b1 b2 b3:Value} (hb:Below B w0 w) (hg:B≤g):Below B w0 ((((w.setCell ⟨g,0,none⟩ b0).setCell ⟨g,1,none⟩ b1).setCell ⟨g,2,none⟩ b2).setCell ⟨g,3,none⟩ b3):=((((hb.setCell (p:=⟨g,0,none⟩) hg _).setCell (p:=⟨g,1,none⟩) hg _).setCell (p:=⟨g,2,none⟩) hg _).setCell (p:=⟨g,3,none⟩) hg _)
theorem bel6 {w0 w:World} {B g:Nat} {b0 b1 b2 b3 b4 b5:Value} (hb:Below B w0 w) (hg:B≤g):Below B w0 ((((((w.setCell ⟨g,0,none⟩ b0).setCell ⟨g,1,none⟩ b1).setCell ⟨g,2,none⟩ b2).setCell ⟨g,3,none⟩ b3).setCell ⟨g,4,none⟩ b4).setCell ⟨g,5,none⟩ b5):=((((((hb.setCell (p:=⟨g,0,none⟩) hg _).setCell (p:=⟨g,1,none⟩) hg _).setCell (p:=⟨g,2,none⟩) hg _).setCell (p:=⟨g,3,none⟩) hg _).setCell (p:=⟨g,4,none⟩) hg _).setCell (p:=⟨g,5,none⟩) hg _)
theorem info_change:(Tryz.prog.info? 124).map (·.size)=some 4:=by kernel_rfl
theorem aE6:(Tryz.prog.info? 30).map (·.size)=some 6:=by kernel_rfl
theorem aFl {B v:Nat} (hv:v<256) (w:World):Calls Tryz.prog 81 #[.int .i64 (v:Int)] w fun e w'=>∃ a c,e=.returned (.slice a 1 c)∧BK B w' a 1 c [v]∧Below w.heap.size w w':=by
 have ew:IntKind.u8.wrap (v:Int)=(v:Int):=by rw [IntKind.wrap_u8];omega
 obtain ⟨a,c,e1,hk⟩:=BK.owned (B:=B) (xs:=[v]) (aGi w v) (by simp) (by intro n hn;simp at hn;omega)
 simp only [Value.slice.injEq] at e1
 obtain ⟨rfl,hz,rfl⟩:=e1
 clear hz
 have HK:=hide hk
 have HBX:=hide (aAc w (.cells #[.int .u8 (v:Int)] 5))
 clear hk
 go_enter Tryz.func81,Tryz.ntmps81
 go_wp2
 go_ret
 exact ⟨_,_,rfl,HK.out,HBX.out⟩
theorem own_two (w:World) (x y:Nat):(w.alloc (.cells #[.int .u8 (x:Int),.int .u8 (y:Int)] 5)).ownsRow w.heap.size 5 1 (.slice (some ⟨w.heap.size,0,none⟩) 2 2) 2 (cellsOf [x,y]) :=
 ⟨rfl,Or.inr ⟨w.heap.size,2,#[.int .u8 (x:Int),.int .u8 (y:Int)],rfl,nR _,heap_alloc_new w _,nR _,by unfold maxLen;omega,rfl,rfl⟩⟩
theorem valueKey_any {B v:Nat} (hv:v<256) (w:World):Calls Tryz.prog 82 #[.int .i64 (v:Int)] w fun e w'=>∃ a c,e=.returned (.slice a 2 c)∧BK B w' a 2 c [v,0]∧Below w.heap.size w w':=by
 have ew:IntKind.u8.wrap (v:Int)=(v:Int):=by rw [IntKind.wrap_u8];omega
 obtain ⟨a,c,e1,hk⟩:=BK.owned (B:=B) (xs:=[v,0]) (own_two w v 0) (by simp) (by intro n hn;simp at hn;omega)
 simp only [Value.slice.injEq] at e1
 obtain ⟨rfl,hz,rfl⟩:=e1
 clear hz
 have HK:=hide hk
 have HBX:=hide (aAc w (.cells #[.int .u8 (v:Int),.int .u8 ((0:Nat):Int)] 5))
 clear hk
 go_enter Tryz.func82,Tryz.ntmps82
 go_wp2
 go_ret
 exact ⟨_,_,rfl,HK.out,HBX.out⟩
abbrev Rec:=Nat×Nat×List Nat
def RcV (B:Nat) (w:World) (v:Value) (r:Rec):Prop :=
 (r.2.1=0∧v=.iface 126 (.int .i64 (r.1:Int)))∨(r.2.1≠0∧∃ a c,v=.iface 128 (.agg #[.int .i64 (r.1:Int),.int .i64 (r.2.1:Int),.slice a r.2.2.length c])∧BK B w a r.2.2.length c r.2.2)
theorem RcV.ft {B:Nat} {w w':World} {v:Value} {r:Rec} (h:RcV B w v r) (f:FT B w w'):RcV B w' v r:=by
 rcases h with h | ⟨h1,a,c,h2,h3⟩
 ·exact Or.inl h
 ·exact Or.inr ⟨h1,a,c,h2,h3.ft f⟩
theorem mt_pr (n:Int) (ww:World):(method 435 126 (.int .i64 n) "headland/register.promised").run Tryz.prog ww=.ok (241,.int .i64 n) ww:=by kernel_rfl
theorem mt_ac (n:Int) (x y:Value) (ww:World):(method 435 128 (.agg #[.int .i64 n,x,y]) "headland/register.promised").run Tryz.prog ww=.ok (241,.int .i64 n) ww:=by kernel_rfl
theorem aAr (w:World) (o1 o2:Obj):Below w.heap.size w ((w.alloc o1).alloc o2):=(aAn [o1,o2] w).1
theorem lgr_w {tl tr lg at_ n c:Nat} {sl:Bool} {va:Option Addr} (w:World) (h:at_<256) :
  Calls Tryz.prog 53 #[.agg #[.int .i64 (tl:Int),.int .i64 (tr:Int),.bool false],.agg #[.int .i64 1,.int .i64 (lg:Int),.int .i64 (at_:Int),.slice va n c]] w fun e w'=>e=.returned (.int .i64 0)∧Below w.heap.size w w':=by
 have i1:¬ (256:Int)≤(at_:Int):=by omega
 have HBX:=hide (aAr w (.cells #[.int .i64 (tl:Int),.int .i64 (tr:Int),.bool false] 83) (.cells #[.int .i64 1,.int .i64 (lg:Int),.int .i64 (at_:Int),.slice va n c] 34))
 go_enter Tryz.func53,Tryz.ntmps53
 go_wp2
 go_ret
 exact ⟨rfl,HBX.out⟩
theorem lgr_f {tl tr lg at_ n c:Nat} {sl:Bool} {va:Option Addr} (w:World) (h:at_<256) :
  Calls Tryz.prog 53 #[.agg #[.int .i64 (tl:Int),.int .i64 (tr:Int),.bool true],.agg #[.int .i64 2,.int .i64 (lg:Int),.int .i64 (at_:Int),.slice va n c]] w fun e w'=>e=.returned (.int .i64 0)∧Below w.heap.size w w':=by
 have i1:¬ (256:Int)≤(at_:Int):=by omega
 have HBX:=hide (aAr w (.cells #[.int .i64 (tl:Int),.int .i64 (tr:Int),.bool true] 83) (.cells #[.int .i64 2,.int .i64 (lg:Int),.int .i64 (at_:Int),.slice va n c] 34))
 go_enter Tryz.func53,Tryz.ntmps53
 go_wp2
 go_ret
 exact ⟨rfl,HBX.out⟩
theorem lgr_t {tl tr lg at_ n c:Nat} {sl:Bool} {va:Option Addr} (w:World)  :
  Calls Tryz.prog 53 #[.agg #[.int .i64 (tl:Int),.int .i64 (tr:Int),.bool sl],.agg #[.int .i64 4,.int .i64 (lg:Int),.int .i64 (at_:Int),.slice va n c]] w fun e w'=>e=.returned (.int .i64 0)∧Below w.heap.size w w':=by
 have HBX:=hide (aAr w (.cells #[.int .i64 (tl:Int),.int .i64 (tr:Int),.bool sl] 83) (.cells #[.int .i64 4,.int .i64 (lg:Int),.int .i64 (at_:Int),.slice va n c] 34))
 go_enter Tryz.func53,Tryz.ntmps53
 go_wp2
 go_ret
 exact ⟨rfl,HBX.out⟩
theorem lgr_r {tl tr lg at_ n c:Nat} {sl:Bool} {va:Option Addr} (w:World) (h:tr≤at_) (h2:at_<tl) :
  Calls Tryz.prog 53 #[.agg #[.int .i64 (tl:Int),.int .i64 (tr:Int),.bool sl],.agg #[.int .i64 5,.int .i64 (lg:Int),.int .i64 (at_:Int),.slice va n c]] w fun e w'=>e=.returned (.int .i64 0)∧Below w.heap.size w w':=by
 have i1:¬ (at_:Int)<(tr:Int):=by omega
 have i2:¬ (at_:Int)=(tl:Int):=by omega
 have i3:¬ (tl:Int)<(at_:Int):=by omega
 have HBX:=hide (aAr w (.cells #[.int .i64 (tl:Int),.int .i64 (tr:Int),.bool sl] 83) (.cells #[.int .i64 5,.int .i64 (lg:Int),.int .i64 (at_:Int),.slice va n c] 34))
 go_enter Tryz.func53,Tryz.ntmps53
 go_wp2
 go_ret
 exact ⟨rfl,HBX.out⟩
theorem aE5:(Tryz.prog.info? 83).map (·.size)=some 3:=by kernel_rfl
theorem lgb_w {tl tr lg at_ n c:Nat} {sl:Bool} {va:Option Addr} (w:World) (h:at_=tl) (h63:tl≤1000) :
  Calls Tryz.prog 55 #[.agg #[.int .i64 (tl:Int),.int .i64 (tr:Int),.bool sl],.agg #[.int .i64 1,.int .i64 (lg:Int),.int .i64 (at_:Int),.slice va n c]] w fun e w'=>e=.returned (.agg #[.int .i64 ((tl:Int)+1),.int .i64 (tr:Int),.bool sl])∧Below w.heap.size w w':=by
 have d2:decide ((at_:Int)=(tl:Int))=true:=by rw [decide_eq_true_eq];omega
 have d3:((at_:Int) == (tl:Int))=true:=by rw [beq_iff_eq];omega
 clear h
 have q0:=aAd [Obj.cells #[.int .i64 (tl:Int),.int .i64 (tr:Int),.bool sl] 83,Obj.cells #[.int .i64 1,.int .i64 (lg:Int),.int .i64 (at_:Int),.slice va n c] 34,Obj.cells #[.int .i64 0,.int .i64 0,.bool false] 83] w 0 _ rfl
 have q1:=aAd [Obj.cells #[.int .i64 (tl:Int),.int .i64 (tr:Int),.bool sl] 83,Obj.cells #[.int .i64 1,.int .i64 (lg:Int),.int .i64 (at_:Int),.slice va n c] 34,Obj.cells #[.int .i64 0,.int .i64 0,.bool false] 83] w 1 _ rfl
 have q2:=aAd [Obj.cells #[.int .i64 (tl:Int),.int .i64 (tr:Int),.bool sl] 83,Obj.cells #[.int .i64 1,.int .i64 (lg:Int),.int .i64 (at_:Int),.slice va n c] 34,Obj.cells #[.int .i64 0,.int .i64 0,.bool false] 83] w 2 _ rfl
 have qb:=(aAn [Obj.cells #[.int .i64 (tl:Int),.int .i64 (tr:Int),.bool sl] 83,Obj.cells #[.int .i64 1,.int .i64 (lg:Int),.int .i64 (at_:Int),.slice va n c] 34,Obj.cells #[.int .i64 0,.int .i64 0,.bool false] 83] w).1
 have HQ0:Hid ((((w.alloc (.cells #[.int .i64 (tl:Int),.int .i64 (tr:Int),.bool sl] 83)).alloc (.cells #[.int .i64 1,.int .i64 (lg:Int),.int .i64 (at_:Int),.slice va n c] 34)).alloc (.cells #[.int .i64 0,.int .i64 0,.bool false] 83)).heap[w.heap.size]?=some (.cells #[.int .i64 (tl:Int),.int .i64 (tr:Int),.bool sl] 83 (0,0))):=q0
 have HQ1:Hid ((((w.alloc (.cells #[.int .i64 (tl:Int),.int .i64 (tr:Int),.bool sl] 83)).alloc (.cells #[.int .i64 1,.int .i64 (lg:Int),.int .i64 (at_:Int),.slice va n c] 34)).alloc (.cells #[.int .i64 0,.int .i64 0,.bool false] 83)).heap[w.heap.size+1]?=some (.cells #[.int .i64 1,.int .i64 (lg:Int),.int .i64 (at_:Int),.slice va n c] 34 (0,0))):=q1
 have HQ2:Hid ((((w.alloc (.cells #[.int .i64 (tl:Int),.int .i64 (tr:Int),.bool sl] 83)).alloc (.cells #[.int .i64 1,.int .i64 (lg:Int),.int .i64 (at_:Int),.slice va n c] 34)).alloc (.cells #[.int .i64 0,.int .i64 0,.bool false] 83)).heap[w.heap.size+1+1]?=some (.cells #[.int .i64 0,.int .i64 0,.bool false] 83 (0,0))):=q2
 have HB1:Hid (Below w.heap.size w (((w.alloc (.cells #[.int .i64 (tl:Int),.int .i64 (tr:Int),.bool sl] 83)).alloc (.cells #[.int .i64 1,.int .i64 (lg:Int),.int .i64 (at_:Int),.slice va n c] 34)).alloc (.cells #[.int .i64 0,.int .i64 0,.bool false] 83))):=qb
 clear q0 q1 q2 qb
 go_enter Tryz.func55,Tryz.ntmps55
 go_upto_region 1 with fail
 generalize (((w.alloc (.cells #[.int .i64 (tl:Int),.int .i64 (tr:Int),.bool sl] 83)).alloc (.cells #[.int .i64 1,.int .i64 (lg:Int),.int .i64 (at_:Int),.slice va n c] 34)).alloc (.cells #[.int .i64 0,.int .i64 0,.bool false] 83))=w1 at *
 generalize hn0:w.heap.size=n0 at *
 generalize hn1:n0+1=n1 at *
 generalize hn2:n1+1=n2 at *
 have x0:w1.cell? ⟨n0,0,none⟩=some (.int .i64 (tl:Int)):=aAa HQ0.out
 have xf0:w1.frozen? ⟨n0,0,none⟩=false:=aAb HQ0.out
 have x1:w1.cell? ⟨n0,1,none⟩=some (.int .i64 (tr:Int)):=aAa HQ0.out
 have xf1:w1.frozen? ⟨n0,1,none⟩=false:=aAb HQ0.out
 have x2:w1.cell? ⟨n0,2,none⟩=some (.bool sl):=aAa HQ0.out
 have xf2:w1.frozen? ⟨n0,2,none⟩=false:=aAb HQ0.out
 have y0:w1.cell? ⟨n1,0,none⟩=some (.int .i64 1):=aAa HQ1.out
 have yf0:w1.frozen? ⟨n1,0,none⟩=false:=aAb HQ1.out
 have y1:w1.cell? ⟨n1,1,none⟩=some (.int .i64 (lg:Int)):=aAa HQ1.out
 have yf1:w1.frozen? ⟨n1,1,none⟩=false:=aAb HQ1.out
 have y2:w1.cell? ⟨n1,2,none⟩=some (.int .i64 (at_:Int)):=aAa HQ1.out
 have yf2:w1.frozen? ⟨n1,2,none⟩=false:=aAb HQ1.out
 have y3:w1.cell? ⟨n1,3,none⟩=some (.slice va n c):=aAa HQ1.out
 have yf3:w1.frozen? ⟨n1,3,none⟩=false:=aAb HQ1.out
 go_upto_region 10 with fail
 have HR0:Hid ((w1.setCell ⟨n0,0,none⟩ (.int .i64 ((tl:Int)+1))).heap[n0]?=some (.cells #[.int .i64 ((tl:Int)+1),.int .i64 (tr:Int),.bool sl] 83 (0,0))):=heap_setCell_same _ _ _ _ _ _ HQ0.out
 have HR2:Hid ((w1.setCell ⟨n0,0,none⟩ (.int .i64 ((tl:Int)+1))).heap[n2]?=some (.cells #[.int .i64 0,.int .i64 0,.bool false] 83 (0,0))):=by show _=_;rw [heap_setCell_other _ _ _ _ (by show n2≠n0;omega)];exact HQ2.out
 have HB2:Hid (Below n0 w (w1.setCell ⟨n0,0,none⟩ (.int .i64 ((tl:Int)+1)))):=HB1.out.setCell (p:=⟨n0,0,none⟩) (nR _) _
 clear x0 x1 x2 xf0 xf1 xf2 y0 y1 y2 y3 yf0 yf1 yf2 yf3
 generalize w1.setCell ⟨n0,0,none⟩ (.int .i64 ((tl:Int)+1))=w2 at *
 have x0:w2.cell? ⟨n0,0,none⟩=some (.int .i64 ((tl:Int)+1)):=aAa HR0.out
 have xf0:w2.frozen? ⟨n0,0,none⟩=false:=aAb HR0.out
 have x1:w2.cell? ⟨n0,1,none⟩=some (.int .i64 (tr:Int)):=aAa HR0.out
 have xf1:w2.frozen? ⟨n0,1,none⟩=false:=aAb HR0.out
 have x2:w2.cell? ⟨n0,2,none⟩=some (.bool sl):=aAa HR0.out
 have xf2:w2.frozen? ⟨n0,2,none⟩=false:=aAb HR0.out
 have z0:w2.cell? ⟨n2,0,none⟩=some (.int .i64 0):=aAa HR2.out
 have zf0:w2.frozen? ⟨n2,0,none⟩=false:=aAb HR2.out
 have z1:w2.cell? ⟨n2,1,none⟩=some (.int .i64 0):=aAa HR2.out
 have zf1:w2.frozen? ⟨n2,1,none⟩=false:=aAb HR2.out
 have z2:w2.cell? ⟨n2,2,none⟩=some (.bool false):=aAa HR2.out
 have zf2:w2.frozen? ⟨n2,2,none⟩=false:=aAb HR2.out
 go_wp2
 (try simp only [Exit.inBlock,Exit.then])
 have HBF:=hide (bel3 (b0:=(.int .i64 ((tl:Int)+1))) (b1:=(.int .i64 (tr:Int))) (b2:=(.bool sl)) HB2.out (show n0≤n2 by omega))
 refine bodyPost_ret (results_cell_row Tryz.results55 _ _ n2 _ _ _ _ rfl (set3 HR2.out) Tryz.underlying83 rfl aE5) rfl ?_
 exact ⟨by rfl,by rw [hn0];exact HBF.out⟩
theorem lgb_wn {tl tr lg at_ n c:Nat} {sl:Bool} {va:Option Addr} (w:World) (h:at_≠tl) :
  Calls Tryz.prog 55 #[.agg #[.int .i64 (tl:Int),.int .i64 (tr:Int),.bool sl],.agg #[.int .i64 1,.int .i64 (lg:Int),.int .i64 (at_:Int),.slice va n c]] w fun e w'=>e=.returned (.agg #[.int .i64 (tl:Int),.int .i64 (tr:Int),.bool sl])∧Below w.heap.size w w':=by
 have i1:¬ (at_:Int)=(tl:Int):=by omega
 have q0:=aAd [Obj.cells #[.int .i64 (tl:Int),.int .i64 (tr:Int),.bool sl] 83,Obj.cells #[.int .i64 1,.int .i64 (lg:Int),.int .i64 (at_:Int),.slice va n c] 34,Obj.cells #[.int .i64 0,.int .i64 0,.bool false] 83] w 0 _ rfl
 have q1:=aAd [Obj.cells #[.int .i64 (tl:Int),.int .i64 (tr:Int),.bool sl] 83,Obj.cells #[.int .i64 1,.int .i64 (lg:Int),.int .i64 (at_:Int),.slice va n c] 34,Obj.cells #[.int .i64 0,.int .i64 0,.bool false] 83] w 1 _ rfl
 have q2:=aAd [Obj.cells #[.int .i64 (tl:Int),.int .i64 (tr:Int),.bool sl] 83,Obj.cells #[.int .i64 1,.int .i64 (lg:Int),.int .i64 (at_:Int),.slice va n c] 34,Obj.cells #[.int .i64 0,.int .i64 0,.bool false] 83] w 2 _ rfl
 have qb:=(aAn [Obj.cells #[.int .i64 (tl:Int),.int .i64 (tr:Int),.bool sl] 83,Obj.cells #[.int .i64 1,.int .i64 (lg:Int),.int .i64 (at_:Int),.slice va n c] 34,Obj.cells #[.int .i64 0,.int .i64 0,.bool false] 83] w).1
 have HQ0:Hid ((((w.alloc (.cells #[.int .i64 (tl:Int),.int .i64 (tr:Int),.bool sl] 83)).alloc (.cells #[.int .i64 1,.int .i64 (lg:Int),.int .i64 (at_:Int),.slice va n c] 34)).alloc (.cells #[.int .i64 0,.int .i64 0,.bool false] 83)).heap[w.heap.size]?=some (.cells #[.int .i64 (tl:Int),.int .i64 (tr:Int),.bool sl] 83 (0,0))):=q0
 have HQ1:Hid ((((w.alloc (.cells #[.int .i64 (tl:Int),.int .i64 (tr:Int),.bool sl] 83)).alloc (.cells #[.int .i64 1,.int .i64 (lg:Int),.int .i64 (at_:Int),.slice va n c] 34)).alloc (.cells #[.int .i64 0,.int .i64 0,.bool false] 83)).heap[w.heap.size+1]?=some (.cells #[.int .i64 1,.int .i64 (lg:Int),.int .i64 (at_:Int),.slice va n c] 34 (0,0))):=q1
 have HQ2:Hid ((((w.alloc (.cells #[.int .i64 (tl:Int),.int .i64 (tr:Int),.bool sl] 83)).alloc (.cells #[.int .i64 1,.int .i64 (lg:Int),.int .i64 (at_:Int),.slice va n c] 34)).alloc (.cells #[.int .i64 0,.int .i64 0,.bool false] 83)).heap[w.heap.size+1+1]?=some (.cells #[.int .i64 0,.int .i64 0,.bool false] 83 (0,0))):=q2
 have HB1:Hid (Below w.heap.size w (((w.alloc (.cells #[.int .i64 (tl:Int),.int .i64 (tr:Int),.bool sl] 83)).alloc (.cells #[.int .i64 1,.int .i64 (lg:Int),.int .i64 (at_:Int),.slice va n c] 34)).alloc (.cells #[.int .i64 0,.int .i64 0,.bool false] 83))):=qb
 clear q0 q1 q2 qb
 go_enter Tryz.func55,Tryz.ntmps55
 go_upto_region 1 with fail
 generalize (((w.alloc (.cells #[.int .i64 (tl:Int),.int .i64 (tr:Int),.bool sl] 83)).alloc (.cells #[.int .i64 1,.int .i64 (lg:Int),.int .i64 (at_:Int),.slice va n c] 34)).alloc (.cells #[.int .i64 0,.int .i64 0,.bool false] 83))=w1 at *
 generalize hn0:w.heap.size=n0 at *
 generalize hn1:n0+1=n1 at *
 generalize hn2:n1+1=n2 at *
 have x0:w1.cell? ⟨n0,0,none⟩=some (.int .i64 (tl:Int)):=aAa HQ0.out
 have xf0:w1.frozen? ⟨n0,0,none⟩=false:=aAb HQ0.out
 have x1:w1.cell? ⟨n0,1,none⟩=some (.int .i64 (tr:Int)):=aAa HQ0.out
 have xf1:w1.frozen? ⟨n0,1,none⟩=false:=aAb HQ0.out
 have x2:w1.cell? ⟨n0,2,none⟩=some (.bool sl):=aAa HQ0.out
 have xf2:w1.frozen? ⟨n0,2,none⟩=false:=aAb HQ0.out
 have y0:w1.cell? ⟨n1,0,none⟩=some (.int .i64 1):=aAa HQ1.out
 have yf0:w1.frozen? ⟨n1,0,none⟩=false:=aAb HQ1.out
 have y1:w1.cell? ⟨n1,1,none⟩=some (.int .i64 (lg:Int)):=aAa HQ1.out
 have yf1:w1.frozen? ⟨n1,1,none⟩=false:=aAb HQ1.out
 have y2:w1.cell? ⟨n1,2,none⟩=some (.int .i64 (at_:Int)):=aAa HQ1.out
 have yf2:w1.frozen? ⟨n1,2,none⟩=false:=aAb HQ1.out
 have y3:w1.cell? ⟨n1,3,none⟩=some (.slice va n c):=aAa HQ1.out
 have yf3:w1.frozen? ⟨n1,3,none⟩=false:=aAb HQ1.out
 go_upto_region 10 with fail
 have HR0:=HQ0
 have HR2:=HQ2
 have HB2:=HB1
 clear x0 x1 x2 xf0 xf1 xf2 y0 y1 y2 y3 yf0 yf1 yf2 yf3
 generalize w1=w2 at *
 have x0:w2.cell? ⟨n0,0,none⟩=some (.int .i64 (tl:Int)):=aAa HR0.out
 have xf0:w2.frozen? ⟨n0,0,none⟩=false:=aAb HR0.out
 have x1:w2.cell? ⟨n0,1,none⟩=some (.int .i64 (tr:Int)):=aAa HR0.out
 have xf1:w2.frozen? ⟨n0,1,none⟩=false:=aAb HR0.out
 have x2:w2.cell? ⟨n0,2,none⟩=some (.bool sl):=aAa HR0.out
 have xf2:w2.frozen? ⟨n0,2,none⟩=false:=aAb HR0.out
 have z0:w2.cell? ⟨n2,0,none⟩=some (.int .i64 0):=aAa HR2.out
 have zf0:w2.frozen? ⟨n2,0,none⟩=false:=aAb HR2.out
 have z1:w2.cell? ⟨n2,1,none⟩=some (.int .i64 0):=aAa HR2.out
 have zf1:w2.frozen? ⟨n2,1,none⟩=false:=aAb HR2.out
 have z2:w2.cell? ⟨n2,2,none⟩=some (.bool false):=aAa HR2.out
 have zf2:w2.frozen? ⟨n2,2,none⟩=false:=aAb HR2.out
 go_wp2
 (try simp only [Exit.inBlock,Exit.then])
 have HBF:=hide (bel3 (b0:=(.int .i64 (tl:Int))) (b1:=(.int .i64 (tr:Int))) (b2:=(.bool sl)) HB2.out (show n0≤n2 by omega))
 refine bodyPost_ret (results_cell_row Tryz.results55 _ _ n2 _ _ _ _ rfl (set3 HR2.out) Tryz.underlying83 rfl aE5) rfl ?_
 exact ⟨by rfl,by rw [hn0];exact HBF.out⟩
theorem lgb_f {tl tr lg at_ n c:Nat} {sl:Bool} {va:Option Addr} (w:World) (h:at_=tl) (h63:tl≤1000) :
  Calls Tryz.prog 55 #[.agg #[.int .i64 (tl:Int),.int .i64 (tr:Int),.bool sl],.agg #[.int .i64 2,.int .i64 (lg:Int),.int .i64 (at_:Int),.slice va n c]] w fun e w'=>e=.returned (.agg #[.int .i64 ((tl:Int)+1),.int .i64 (tr:Int),.bool sl])∧Below w.heap.size w w':=by
 have d2:decide ((at_:Int)=(tl:Int))=true:=by rw [decide_eq_true_eq];omega
 have d3:((at_:Int) == (tl:Int))=true:=by rw [beq_iff_eq];omega
 clear h
 have q0:=aAd [Obj.cells #[.int .i64 (tl:Int),.int .i64 (tr:Int),.bool sl] 83,Obj.cells #[.int .i64 2,.int .i64 (lg:Int),.int .i64 (at_:Int),.slice va n c] 34,Obj.cells #[.int .i64 0,.int .i64 0,.bool false] 83] w 0 _ rfl
 have q1:=aAd [Obj.cells #[.int .i64 (tl:Int),.int .i64 (tr:Int),.bool sl] 83,Obj.cells #[.int .i64 2,.int .i64 (lg:Int),.int .i64 (at_:Int),.slice va n c] 34,Obj.cells #[.int .i64 0,.int .i64 0,.bool false] 83] w 1 _ rfl
 have q2:=aAd [Obj.cells #[.int .i64 (tl:Int),.int .i64 (tr:Int),.bool sl] 83,Obj.cells #[.int .i64 2,.int .i64 (lg:Int),.int .i64 (at_:Int),.slice va n c] 34,Obj.cells #[.int .i64 0,.int .i64 0,.bool false] 83] w 2 _ rfl
 have qb:=(aAn [Obj.cells #[.int .i64 (tl:Int),.int .i64 (tr:Int),.bool sl] 83,Obj.cells #[.int .i64 2,.int .i64 (lg:Int),.int .i64 (at_:Int),.slice va n c] 34,Obj.cells #[.int .i64 0,.int .i64 0,.bool false] 83] w).1
 have HQ0:Hid ((((w.alloc (.cells #[.int .i64 (tl:Int),.int .i64 (tr:Int),.bool sl] 83)).alloc (.cells #[.int .i64 2,.int .i64 (lg:Int),.int .i64 (at_:Int),.slice va n c] 34)).alloc (.cells #[.int .i64 0,.int .i64 0,.bool false] 83)).heap[w.heap.size]?=some (.cells #[.int .i64 (tl:Int),.int .i64 (tr:Int),.bool sl] 83 (0,0))):=q0
 have HQ1:Hid ((((w.alloc (.cells #[.int .i64 (tl:Int),.int .i64 (tr:Int),.bool sl] 83)).alloc (.cells #[.int .i64 2,.int .i64 (lg:Int),.int .i64 (at_:Int),.slice va n c] 34)).alloc (.cells #[.int .i64 0,.int .i64 0,.bool false] 83)).heap[w.heap.size+1]?=some (.cells #[.int .i64 2,.int .i64 (lg:Int),.int .i64 (at_:Int),.slice va n c] 34 (0,0))):=q1
 have HQ2:Hid ((((w.alloc (.cells #[.int .i64 (tl:Int),.int .i64 (tr:Int),.bool sl] 83)).alloc (.cells #[.int .i64 2,.int .i64 (lg:Int),.int .i64 (at_:Int),.slice va n c] 34)).alloc (.cells #[.int .i64 0,.int .i64 0,.bool false] 83)).heap[w.heap.size+1+1]?=some (.cells #[.int .i64 0,.int .i64 0,.bool false] 83 (0,0))):=q2
 have HB1:Hid (Below w.heap.size w (((w.alloc (.cells #[.int .i64 (tl:Int),.int .i64 (tr:Int),.bool sl] 83)).alloc (.cells #[.int .i64 2,.int .i64 (lg:Int),.int .i64 (at_:Int),.slice va n c] 34)).alloc (.cells #[.int .i64 0,.int .i64 0,.bool false] 83))):=qb
 clear q0 q1 q2 qb
 go_enter Tryz.func55,Tryz.ntmps55
 go_upto_region 1 with fail
 generalize (((w.alloc (.cells #[.int .i64 (tl:Int),.int .i64 (tr:Int),.bool sl] 83)).alloc (.cells #[.int .i64 2,.int .i64 (lg:Int),.int .i64 (at_:Int),.slice va n c] 34)).alloc (.cells #[.int .i64 0,.int .i64 0,.bool false] 83))=w1 at *
 generalize hn0:w.heap.size=n0 at *
 generalize hn1:n0+1=n1 at *
 generalize hn2:n1+1=n2 at *
 have x0:w1.cell? ⟨n0,0,none⟩=some (.int .i64 (tl:Int)):=aAa HQ0.out
 have xf0:w1.frozen? ⟨n0,0,none⟩=false:=aAb HQ0.out
 have x1:w1.cell? ⟨n0,1,none⟩=some (.int .i64 (tr:Int)):=aAa HQ0.out
 have xf1:w1.frozen? ⟨n0,1,none⟩=false:=aAb HQ0.out
 have x2:w1.cell? ⟨n0,2,none⟩=some (.bool sl):=aAa HQ0.out
 have xf2:w1.frozen? ⟨n0,2,none⟩=false:=aAb HQ0.out
 have y0:w1.cell? ⟨n1,0,none⟩=some (.int .i64 2):=aAa HQ1.out
 have yf0:w1.frozen? ⟨n1,0,none⟩=false:=aAb HQ1.out
 have y1:w1.cell? ⟨n1,1,none⟩=some (.int .i64 (lg:Int)):=aAa HQ1.out
 have yf1:w1.frozen? ⟨n1,1,none⟩=false:=aAb HQ1.out
 have y2:w1.cell? ⟨n1,2,none⟩=some (.int .i64 (at_:Int)):=aAa HQ1.out
 have yf2:w1.frozen? ⟨n1,2,none⟩=false:=aAb HQ1.out
 have y3:w1.cell? ⟨n1,3,none⟩=some (.slice va n c):=aAa HQ1.out
 have yf3:w1.frozen? ⟨n1,3,none⟩=false:=aAb HQ1.out
 go_upto_region 10 with fail
 have HR0:Hid ((w1.setCell ⟨n0,0,none⟩ (.int .i64 ((tl:Int)+1))).heap[n0]?=some (.cells #[.int .i64 ((tl:Int)+1),.int .i64 (tr:Int),.bool sl] 83 (0,0))):=heap_setCell_same _ _ _ _ _ _ HQ0.out
 have HR2:Hid ((w1.setCell ⟨n0,0,none⟩ (.int .i64 ((tl:Int)+1))).heap[n2]?=some (.cells #[.int .i64 0,.int .i64 0,.bool false] 83 (0,0))):=by show _=_;rw [heap_setCell_other _ _ _ _ (by show n2≠n0;omega)];exact HQ2.out
 have HB2:Hid (Below n0 w (w1.setCell ⟨n0,0,none⟩ (.int .i64 ((tl:Int)+1)))):=HB1.out.setCell (p:=⟨n0,0,none⟩) (nR _) _
 clear x0 x1 x2 xf0 xf1 xf2 y0 y1 y2 y3 yf0 yf1 yf2 yf3
 generalize w1.setCell ⟨n0,0,none⟩ (.int .i64 ((tl:Int)+1))=w2 at *
 have x0:w2.cell? ⟨n0,0,none⟩=some (.int .i64 ((tl:Int)+1)):=aAa HR0.out
 have xf0:w2.frozen? ⟨n0,0,none⟩=false:=aAb HR0.out
 have x1:w2.cell? ⟨n0,1,none⟩=some (.int .i64 (tr:Int)):=aAa HR0.out
 have xf1:w2.frozen? ⟨n0,1,none⟩=false:=aAb HR0.out
 have x2:w2.cell? ⟨n0,2,none⟩=some (.bool sl):=aAa HR0.out
 have xf2:w2.frozen? ⟨n0,2,none⟩=false:=aAb HR0.out
 have z0:w2.cell? ⟨n2,0,none⟩=some (.int .i64 0):=aAa HR2.out
 have zf0:w2.frozen? ⟨n2,0,none⟩=false:=aAb HR2.out
 have z1:w2.cell? ⟨n2,1,none⟩=some (.int .i64 0):=aAa HR2.out
 have zf1:w2.frozen? ⟨n2,1,none⟩=false:=aAb HR2.out
 have z2:w2.cell? ⟨n2,2,none⟩=some (.bool false):=aAa HR2.out
 have zf2:w2.frozen? ⟨n2,2,none⟩=false:=aAb HR2.out
 go_wp2
 (try simp only [Exit.inBlock,Exit.then])
 have HBF:=hide (bel3 (b0:=(.int .i64 ((tl:Int)+1))) (b1:=(.int .i64 (tr:Int))) (b2:=(.bool sl)) HB2.out (show n0≤n2 by omega))
 refine bodyPost_ret (results_cell_row Tryz.results55 _ _ n2 _ _ _ _ rfl (set3 HR2.out) Tryz.underlying83 rfl aE5) rfl ?_
 exact ⟨by rfl,by rw [hn0];exact HBF.out⟩
theorem lgb_fn {tl tr lg at_ n c:Nat} {sl:Bool} {va:Option Addr} (w:World) (h:at_≠tl) :
  Calls Tryz.prog 55 #[.agg #[.int .i64 (tl:Int),.int .i64 (tr:Int),.bool sl],.agg #[.int .i64 2,.int .i64 (lg:Int),.int .i64 (at_:Int),.slice va n c]] w fun e w'=>e=.returned (.agg #[.int .i64 (tl:Int),.int .i64 (tr:Int),.bool sl])∧Below w.heap.size w w':=by
 have i1:¬ (at_:Int)=(tl:Int):=by omega
 have q0:=aAd [Obj.cells #[.int .i64 (tl:Int),.int .i64 (tr:Int),.bool sl] 83,Obj.cells #[.int .i64 2,.int .i64 (lg:Int),.int .i64 (at_:Int),.slice va n c] 34,Obj.cells #[.int .i64 0,.int .i64 0,.bool false] 83] w 0 _ rfl
 have q1:=aAd [Obj.cells #[.int .i64 (tl:Int),.int .i64 (tr:Int),.bool sl] 83,Obj.cells #[.int .i64 2,.int .i64 (lg:Int),.int .i64 (at_:Int),.slice va n c] 34,Obj.cells #[.int .i64 0,.int .i64 0,.bool false] 83] w 1 _ rfl
 have q2:=aAd [Obj.cells #[.int .i64 (tl:Int),.int .i64 (tr:Int),.bool sl] 83,Obj.cells #[.int .i64 2,.int .i64 (lg:Int),.int .i64 (at_:Int),.slice va n c] 34,Obj.cells #[.int .i64 0,.int .i64 0,.bool false] 83] w 2 _ rfl
 have qb:=(aAn [Obj.cells #[.int .i64 (tl:Int),.int .i64 (tr:Int),.bool sl] 83,Obj.cells #[.int .i64 2,.int .i64 (lg:Int),.int .i64 (at_:Int),.slice va n c] 34,Obj.cells #[.int .i64 0,.int .i64 0,.bool false] 83] w).1
 have HQ0:Hid ((((w.alloc (.cells #[.int .i64 (tl:Int),.int .i64 (tr:Int),.bool sl] 83)).alloc (.cells #[.int .i64 2,.int .i64 (lg:Int),.int .i64 (at_:Int),.slice va n c] 34)).alloc (.cells #[.int .i64 0,.int .i64 0,.bool false] 83)).heap[w.heap.size]?=some (.cells #[.int .i64 (tl:Int),.int .i64 (tr:Int),.bool sl] 83 (0,0))):=q0
 have HQ1:Hid ((((w.alloc (.cells #[.int .i64 (tl:Int),.int .i64 (tr:Int),.bool sl] 83)).alloc (.cells #[.int .i64 2,.int .i64 (lg:Int),.int .i64 (at_:Int),.slice va n c] 34)).alloc (.cells #[.int .i64 0,.int .i64 0,.bool false] 83)).heap[w.heap.size+1]?=some (.cells #[.int .i64 2,.int .i64 (lg:Int),.int .i64 (at_:Int),.slice va n c] 34 (0,0))):=q1
 have HQ2:Hid ((((w.alloc (.cells #[.int .i64 (tl:Int),.int .i64 (tr:Int),.bool sl] 83)).alloc (.cells #[.int .i64 2,.int .i64 (lg:Int),.int .i64 (at_:Int),.slice va n c] 34)).alloc (.cells #[.int .i64 0,.int .i64 0,.bool false] 83)).heap[w.heap.size+1+1]?=some (.cells #[.int .i64 0,.int .i64 0,.bool false] 83 (0,0))):=q2
 have HB1:Hid (Below w.heap.size w (((w.alloc (.cells #[.int .i64 (tl:Int),.int .i64 (tr:Int),.bool sl] 83)).alloc (.cells #[.int .i64 2,.int .i64 (lg:Int),.int .i64 (at_:Int),.slice va n c] 34)).alloc (.cells #[.int .i64 0,.int .i64 0,.bool false] 83))):=qb
 clear q0 q1 q2 qb
 go_enter Tryz.func55,Tryz.ntmps55
 go_upto_region 1 with fail
 generalize (((w.alloc (.cells #[.int .i64 (tl:Int),.int .i64 (tr:Int),.bool sl] 83)).alloc (.cells #[.int .i64 2,.int .i64 (lg:Int),.int .i64 (at_:Int),.slice va n c] 34)).alloc (.cells #[.int .i64 0,.int .i64 0,.bool false] 83))=w1 at *
 generalize hn0:w.heap.size=n0 at *
 generalize hn1:n0+1=n1 at *
 generalize hn2:n1+1=n2 at *
 have x0:w1.cell? ⟨n0,0,none⟩=some (.int .i64 (tl:Int)):=aAa HQ0.out
 have xf0:w1.frozen? ⟨n0,0,none⟩=false:=aAb HQ0.out
 have x1:w1.cell? ⟨n0,1,none⟩=some (.int .i64 (tr:Int)):=aAa HQ0.out
 have xf1:w1.frozen? ⟨n0,1,none⟩=false:=aAb HQ0.out
 have x2:w1.cell? ⟨n0,2,none⟩=some (.bool sl):=aAa HQ0.out
 have xf2:w1.frozen? ⟨n0,2,none⟩=false:=aAb HQ0.out
 have y0:w1.cell? ⟨n1,0,none⟩=some (.int .i64 2):=aAa HQ1.out
 have yf0:w1.frozen? ⟨n1,0,none⟩=false:=aAb HQ1.out
 have y1:w1.cell? ⟨n1,1,none⟩=some (.int .i64 (lg:Int)):=aAa HQ1.out
 have yf1:w1.frozen? ⟨n1,1,none⟩=false:=aAb HQ1.out
 have y2:w1.cell? ⟨n1,2,none⟩=some (.int .i64 (at_:Int)):=aAa HQ1.out
 have yf2:w1.frozen? ⟨n1,2,none⟩=false:=aAb HQ1.out
 have y3:w1.cell? ⟨n1,3,none⟩=some (.slice va n c):=aAa HQ1.out
 have yf3:w1.frozen? ⟨n1,3,none⟩=false:=aAb HQ1.out
 go_upto_region 10 with fail
 have HR0:=HQ0
 have HR2:=HQ2
 have HB2:=HB1
 clear x0 x1 x2 xf0 xf1 xf2 y0 y1 y2 y3 yf0 yf1 yf2 yf3
 generalize w1=w2 at *
 have x0:w2.cell? ⟨n0,0,none⟩=some (.int .i64 (tl:Int)):=aAa HR0.out
 have xf0:w2.frozen? ⟨n0,0,none⟩=false:=aAb HR0.out
 have x1:w2.cell? ⟨n0,1,none⟩=some (.int .i64 (tr:Int)):=aAa HR0.out
 have xf1:w2.frozen? ⟨n0,1,none⟩=false:=aAb HR0.out
 have x2:w2.cell? ⟨n0,2,none⟩=some (.bool sl):=aAa HR0.out
 have xf2:w2.frozen? ⟨n0,2,none⟩=false:=aAb HR0.out
 have z0:w2.cell? ⟨n2,0,none⟩=some (.int .i64 0):=aAa HR2.out
 have zf0:w2.frozen? ⟨n2,0,none⟩=false:=aAb HR2.out
 have z1:w2.cell? ⟨n2,1,none⟩=some (.int .i64 0):=aAa HR2.out
 have zf1:w2.frozen? ⟨n2,1,none⟩=false:=aAb HR2.out
 have z2:w2.cell? ⟨n2,2,none⟩=some (.bool false):=aAa HR2.out
 have zf2:w2.frozen? ⟨n2,2,none⟩=false:=aAb HR2.out
 go_wp2
 (try simp only [Exit.inBlock,Exit.then])
 have HBF:=hide (bel3 (b0:=(.int .i64 (tl:Int))) (b1:=(.int .i64 (tr:Int))) (b2:=(.bool sl)) HB2.out (show n0≤n2 by omega))
 refine bodyPost_ret (results_cell_row Tryz.results55 _ _ n2 _ _ _ _ rfl (set3 HR2.out) Tryz.underlying83 rfl aE5) rfl ?_
 exact ⟨by rfl,by rw [hn0];exact HBF.out⟩
theorem lgb_t {tl tr lg at_ n c:Nat} {sl:Bool} {va:Option Addr} (w:World)  :
  Calls Tryz.prog 55 #[.agg #[.int .i64 (tl:Int),.int .i64 (tr:Int),.bool sl],.agg #[.int .i64 4,.int .i64 (lg:Int),.int .i64 (at_:Int),.slice va n c]] w fun e w'=>e=.returned (.agg #[.int .i64 (tl:Int),.int .i64 (tr:Int),.bool sl])∧Below w.heap.size w w':=by
 have q0:=aAd [Obj.cells #[.int .i64 (tl:Int),.int .i64 (tr:Int),.bool sl] 83,Obj.cells #[.int .i64 4,.int .i64 (lg:Int),.int .i64 (at_:Int),.slice va n c] 34,Obj.cells #[.int .i64 0,.int .i64 0,.bool false] 83] w 0 _ rfl
 have q1:=aAd [Obj.cells #[.int .i64 (tl:Int),.int .i64 (tr:Int),.bool sl] 83,Obj.cells #[.int .i64 4,.int .i64 (lg:Int),.int .i64 (at_:Int),.slice va n c] 34,Obj.cells #[.int .i64 0,.int .i64 0,.bool false] 83] w 1 _ rfl
 have q2:=aAd [Obj.cells #[.int .i64 (tl:Int),.int .i64 (tr:Int),.bool sl] 83,Obj.cells #[.int .i64 4,.int .i64 (lg:Int),.int .i64 (at_:Int),.slice va n c] 34,Obj.cells #[.int .i64 0,.int .i64 0,.bool false] 83] w 2 _ rfl
 have qb:=(aAn [Obj.cells #[.int .i64 (tl:Int),.int .i64 (tr:Int),.bool sl] 83,Obj.cells #[.int .i64 4,.int .i64 (lg:Int),.int .i64 (at_:Int),.slice va n c] 34,Obj.cells #[.int .i64 0,.int .i64 0,.bool false] 83] w).1
 have HQ0:Hid ((((w.alloc (.cells #[.int .i64 (tl:Int),.int .i64 (tr:Int),.bool sl] 83)).alloc (.cells #[.int .i64 4,.int .i64 (lg:Int),.int .i64 (at_:Int),.slice va n c] 34)).alloc (.cells #[.int .i64 0,.int .i64 0,.bool false] 83)).heap[w.heap.size]?=some (.cells #[.int .i64 (tl:Int),.int .i64 (tr:Int),.bool sl] 83 (0,0))):=q0
 have HQ1:Hid ((((w.alloc (.cells #[.int .i64 (tl:Int),.int .i64 (tr:Int),.bool sl] 83)).alloc (.cells #[.int .i64 4,.int .i64 (lg:Int),.int .i64 (at_:Int),.slice va n c] 34)).alloc (.cells #[.int .i64 0,.int .i64 0,.bool false] 83)).heap[w.heap.size+1]?=some (.cells #[.int .i64 4,.int .i64 (lg:Int),.int .i64 (at_:Int),.slice va n c] 34 (0,0))):=q1
 have HQ2:Hid ((((w.alloc (.cells #[.int .i64 (tl:Int),.int .i64 (tr:Int),.bool sl] 83)).alloc (.cells #[.int .i64 4,.int .i64 (lg:Int),.int .i64 (at_:Int),.slice va n c] 34)).alloc (.cells #[.int .i64 0,.int .i64 0,.bool false] 83)).heap[w.heap.size+1+1]?=some (.cells #[.int .i64 0,.int .i64 0,.bool false] 83 (0,0))):=q2
 have HB1:Hid (Below w.heap.size w (((w.alloc (.cells #[.int .i64 (tl:Int),.int .i64 (tr:Int),.bool sl] 83)).alloc (.cells #[.int .i64 4,.int .i64 (lg:Int),.int .i64 (at_:Int),.slice va n c] 34)).alloc (.cells #[.int .i64 0,.int .i64 0,.bool false] 83))):=qb
 clear q0 q1 q2 qb
 go_enter Tryz.func55,Tryz.ntmps55
 go_upto_region 1 with fail
 generalize (((w.alloc (.cells #[.int .i64 (tl:Int),.int .i64 (tr:Int),.bool sl] 83)).alloc (.cells #[.int .i64 4,.int .i64 (lg:Int),.int .i64 (at_:Int),.slice va n c] 34)).alloc (.cells #[.int .i64 0,.int .i64 0,.bool false] 83))=w1 at *
 generalize hn0:w.heap.size=n0 at *
 generalize hn1:n0+1=n1 at *
 generalize hn2:n1+1=n2 at *
 have x0:w1.cell? ⟨n0,0,none⟩=some (.int .i64 (tl:Int)):=aAa HQ0.out
 have xf0:w1.frozen? ⟨n0,0,none⟩=false:=aAb HQ0.out
 have x1:w1.cell? ⟨n0,1,none⟩=some (.int .i64 (tr:Int)):=aAa HQ0.out
 have xf1:w1.frozen? ⟨n0,1,none⟩=false:=aAb HQ0.out
 have x2:w1.cell? ⟨n0,2,none⟩=some (.bool sl):=aAa HQ0.out
 have xf2:w1.frozen? ⟨n0,2,none⟩=false:=aAb HQ0.out
 have y0:w1.cell? ⟨n1,0,none⟩=some (.int .i64 4):=aAa HQ1.out
 have yf0:w1.frozen? ⟨n1,0,none⟩=false:=aAb HQ1.out
 have y1:w1.cell? ⟨n1,1,none⟩=some (.int .i64 (lg:Int)):=aAa HQ1.out
 have yf1:w1.frozen? ⟨n1,1,none⟩=false:=aAb HQ1.out
 have y2:w1.cell? ⟨n1,2,none⟩=some (.int .i64 (at_:Int)):=aAa HQ1.out
 have yf2:w1.frozen? ⟨n1,2,none⟩=false:=aAb HQ1.out
 have y3:w1.cell? ⟨n1,3,none⟩=some (.slice va n c):=aAa HQ1.out
 have yf3:w1.frozen? ⟨n1,3,none⟩=false:=aAb HQ1.out
 go_upto_region 10 with fail
 have HR0:=HQ0
 have HR2:=HQ2
 have HB2:=HB1
 clear x0 x1 x2 xf0 xf1 xf2 y0 y1 y2 y3 yf0 yf1 yf2 yf3
 generalize w1=w2 at *
 have x0:w2.cell? ⟨n0,0,none⟩=some (.int .i64 (tl:Int)):=aAa HR0.out
 have xf0:w2.frozen? ⟨n0,0,none⟩=false:=aAb HR0.out
 have x1:w2.cell? ⟨n0,1,none⟩=some (.int .i64 (tr:Int)):=aAa HR0.out
 have xf1:w2.frozen? ⟨n0,1,none⟩=false:=aAb HR0.out
 have x2:w2.cell? ⟨n0,2,none⟩=some (.bool sl):=aAa HR0.out
 have xf2:w2.frozen? ⟨n0,2,none⟩=false:=aAb HR0.out
 have z0:w2.cell? ⟨n2,0,none⟩=some (.int .i64 0):=aAa HR2.out
 have zf0:w2.frozen? ⟨n2,0,none⟩=false:=aAb HR2.out
 have z1:w2.cell? ⟨n2,1,none⟩=some (.int .i64 0):=aAa HR2.out
 have zf1:w2.frozen? ⟨n2,1,none⟩=false:=aAb HR2.out
 have z2:w2.cell? ⟨n2,2,none⟩=some (.bool false):=aAa HR2.out
 have zf2:w2.frozen? ⟨n2,2,none⟩=false:=aAb HR2.out
 go_wp2
 (try simp only [Exit.inBlock,Exit.then])
 have HBF:=hide (bel3 (b0:=(.int .i64 (tl:Int))) (b1:=(.int .i64 (tr:Int))) (b2:=(.bool sl)) HB2.out (show n0≤n2 by omega))
 refine bodyPost_ret (results_cell_row Tryz.results55 _ _ n2 _ _ _ _ rfl (set3 HR2.out) Tryz.underlying83 rfl aE5) rfl ?_
 exact ⟨by rfl,by rw [hn0];exact HBF.out⟩
theorem aEr {B lg at_:Nat} (hv:lg<256) (ha:at_<256) (w:World):Calls Tryz.prog 79 #[.int .i64 (lg:Int),.int .i64 (at_:Int)] w fun e w'=>∃ a c,e=.returned (.slice a 2 c)∧BK B w' a 2 c [lg,at_]∧Below w.heap.size w w':=by
 have ew:IntKind.u8.wrap (lg:Int)=(lg:Int):=by rw [IntKind.wrap_u8];omega
 have ea:IntKind.u8.wrap (at_:Int)=(at_:Int):=by rw [IntKind.wrap_u8];omega
 obtain ⟨a,c,e1,hk⟩:=BK.owned (B:=B) (xs:=[lg,at_]) (own_two w lg at_) (by simp) (by intro n hn;simp at hn;omega)
 simp only [Value.slice.injEq] at e1
 obtain ⟨rfl,hz,rfl⟩:=e1
 clear hz
 have HK:=hide hk
 have HBX:=hide (aAc w (.cells #[.int .u8 (lg:Int),.int .u8 (at_:Int)] 5))
 clear hk
 go_enter Tryz.func79,Tryz.ntmps79
 go_wp2
 go_ret
 exact ⟨_,_,rfl,HK.out,HBX.out⟩
theorem nlaid_any {ka va:Option Addr} {kn kc vn vc:Nat} (w:World):Calls Tryz.prog 87 #[.slice ka kn kc,.slice va vn vc] w fun e w'=>e=.returned (.agg #[.int .i64 0,.slice ka kn kc,.slice va vn vc,.bool false])∧Below w.heap.size w w':=by
 have HN1:Hid ((w.alloc (.cells #[.int .i64 0,.slice none 0 0,.slice none 0 0,.bool false] 124)).heap[w.heap.size]?=some (.cells #[.int .i64 0,.slice none 0 0,.slice none 0 0,.bool false] 124 (0,0))):=heap_alloc_new w _
 have HB1:=hide (aAc w (.cells #[.int .i64 0,.slice none 0 0,.slice none 0 0,.bool false] 124))
 go_enter Tryz.func87,Tryz.ntmps87
 go_upto_region 1 with fail
 generalize w.alloc (.cells #[.int .i64 0,.slice none 0 0,.slice none 0 0,.bool false] 124)=w1 at *
 generalize hn0:w.heap.size=n0 at *
 have z0:w1.cell? ⟨n0,0,none⟩=some (.int .i64 0):=aAa HN1.out
 have zf0:w1.frozen? ⟨n0,0,none⟩=false:=aAb HN1.out
 have z1:w1.cell? ⟨n0,1,none⟩=some (.slice none 0 0):=aAa HN1.out
 have zf1:w1.frozen? ⟨n0,1,none⟩=false:=aAb HN1.out
 have z2:w1.cell? ⟨n0,2,none⟩=some (.slice none 0 0):=aAa HN1.out
 have zf2:w1.frozen? ⟨n0,2,none⟩=false:=aAb HN1.out
 have z3:w1.cell? ⟨n0,3,none⟩=some (.bool false):=aAa HN1.out
 have zf3:w1.frozen? ⟨n0,3,none⟩=false:=aAb HN1.out
 go_wp2
 (try simp only [Exit.inBlock,Exit.then])
 have HBF:=hide (bel4 (b0:=.int .i64 0) (b1:=.slice ka kn kc) (b2:=.slice va vn vc) (b3:=.bool false) HB1.out (nR n0))
 refine bodyPost_ret (results_cell_row Tryz.results87 _ _ n0 _ _ _ _ rfl (set4 HN1.out) Tryz.underlying124 rfl info_change) rfl ?_
 exact ⟨rfl,by rw [hn0];exact HBF.out⟩
def chC0 (kv:List (Value×Value)):List Value:=kv.flatMap fun x=>[.int .i64 0,x.1,x.2,.bool false]
theorem chC0_get:∀ {kv:List (Value×Value)} {i:Nat} {x:Value×Value},kv[i]?=some x→(chC0 kv)[i*4]?=some (.int .i64 0)∧(chC0 kv)[i*4+1]?=some x.1∧(chC0 kv)[i*4+2]?=some x.2∧(chC0 kv)[i*4+3]?=some (.bool false)
 | [],i,x,h=>by simp at h
 | y::kv,0,x,h=>by
  simp only [List.getElem?_cons_zero,oI] at h
  subst h
  exact ⟨rfl,rfl,rfl,rfl⟩
 | y::kv,i+1,x,h=>by
  have e:=chC0_get (kv:=kv) (i:=i) (x:=x) (by simpa using h)
  have f:∀ j,(chC0 (y::kv))[j+4]?=(chC0 kv)[j]?:=fun j=>rfl
  refine ⟨?_,?_,?_,?_⟩
  ·rw [show (i+1)*4=i*4+4 by omega,f];exact e.1
  ·rw [show (i+1)*4+1=i*4+1+4 by omega,f];exact e.2.1
  ·rw [show (i+1)*4+2=i*4+2+4 by omega,f];exact e.2.2.1
  ·rw [show (i+1)*4+3=i*4+3+4 by omega,f];exact e.2.2.2
def CHV0 (B:Nat) (w:World) (v:Value) (cl:List It):Prop:=∃ (kv:List (Value×Value)) (g cap:Nat),v=.slice (some ⟨g,0,none⟩) cl.length cap∧kv.length=cl.length∧w.heap[g]?=some (.cells (chC0 kv).toArray 124 (0,0))∧∀ (i:Nat) it x,cl[i]?=some it→kv[i]?=some x→KV B w x.1 it.1∧KV B w x.2 it.2
theorem CHV0.stay {B:Nat} {w w':World} {v:Value} {cl:List It} (h:CHV0 B w v cl) (f:FT B w w') (hk:∀ (k:Nat) (cs:Array Value),w.heap[k]?=some (.cells cs 124 (0,0))→w'.heap[k]?=some (.cells cs 124 (0,0))):CHV0 B w' v cl:=by
 obtain ⟨kv,g,cap,h1,h2,h3,h4⟩:=h
 exact ⟨kv,g,cap,h1,h2,hk g _ h3,fun i it x e1 e2=>⟨(h4 i it x e1 e2).1.ft f,(h4 i it x e1 e2).2.ft f⟩⟩
theorem CHV0.later {B:Nat} {w w':World} {v:Value} {cl:List It} (h:CHV0 B w v cl) (hb:Below w.heap.size w w') (hB:B≤w.heap.size):CHV0 B w' v cl :=
 h.stay (FT.of hb hB) fun k cs e=>(hb.block k (lO e)).trans e
theorem CHV0.at {B:Nat} {w:World} {v:Value} {cl:List It} (h:CHV0 B w v cl) {j:Nat} {it:It} (hj:cl[j]?=some it):∃ g cap ka kc va vc,v=.slice (some ⟨g,0,none⟩) cl.length cap∧w.cell? ⟨g,j*4,none⟩=some (.int .i64 0)∧w.cell? ⟨g,j*4+1,none⟩=some (.slice ka it.1.length kc)∧w.cell? ⟨g,j*4+2,none⟩=some (.slice va it.2.length vc)∧w.cell? ⟨g,j*4+3,none⟩=some (.bool false)∧BK B w ka it.1.length kc it.1∧BK B w va it.2.length vc it.2:=by
 obtain ⟨kv,g,cap,h1,h2,h3,h4⟩:=h
 have hlt:=(lL hj)
 obtain ⟨x,hx⟩:∃ x,kv[j]?=some x:=⟨_,gE (by omega)⟩
 obtain ⟨⟨ka,kc,e1,b1⟩,⟨va,vc,e2,b2⟩⟩:=h4 j it x hj hx
 obtain ⟨p0,p1,p2,p3⟩:=chC0_get hx
 have get:∀ i u,(chC0 kv)[i]?=some u→w.cell? ⟨g,i,none⟩=some u:=fun i u hi=>by
  rw [aAa h3,List.getElem?_toArray]
  exact hi
 exact ⟨g,cap,ka,kc,va,vc,h1,get _ _ p0,by rw [←e1];exact get _ _ p1,by rw [←e2];exact get _ _ p2,get _ _ p3,b1,b2⟩
theorem aE2 (w:World):Calls Tryz.prog 74 #[.int .i64 0] w fun e w'=>e=.returned (.bool true)∧w'=w:=by
 go_enter Tryz.func74,Tryz.ntmps74
 go_wp2
 go_ret
 exact ⟨rfl,rfl⟩
theorem isWrong_no0 {ka va:Option Addr} {kn kc vn vc:Nat} (w:World) (h0:0<kn) :
  Calls Tryz.prog 109 #[.agg #[.int .i64 0,.slice ka kn kc,.slice va vn vc,.bool false]] w fun e w'=>e=.returned (.bool false)∧Below w.heap.size w w':=by
 have zb:((kn:Int) == 0)=false:=by simp;omega
 have HBX:=hide (aAc w (.cells #[.int .i64 0,.slice ka kn kc,.slice va vn vc,.bool false] 124))
 have HIS:=hide (fun w=>aE2 w)
 go_enter Tryz.func109,Tryz.ntmps109
 go_wp2_with fail
 refine (HIS.out _).mono ?_
 rintro e w1 ⟨rfl,hw⟩
 have hw:=hw.symm
 subst hw
 go_wp2
 go_ret
 refine ⟨?_,HBX.out⟩
 first | rfl | (show Ending.returned (.bool ((kn:Int) == 0))=_;rw [zb])
theorem isLong_no0 {ka va:Option Addr} {kn kc vn vc:Nat} (w:World) (h0:kn≤60) (h1:vn≤1800) :
  Calls Tryz.prog 110 #[.agg #[.int .i64 0,.slice ka kn kc,.slice va vn vc,.bool false]] w fun e w'=>e=.returned (.bool false)∧Below w.heap.size w w':=by
 have z0:¬ (60:Int)<(kn:Int):=by omega
 have z1:¬ (1800:Int)<(vn:Int):=by omega
 have HBX:=hide (aAc w (.cells #[.int .i64 0,.slice ka kn kc,.slice va vn vc,.bool false] 124))
 go_enter Tryz.func110,Tryz.ntmps110
 go_wp2
 go_ret
 exact ⟨rfl,HBX.out⟩
theorem aGq {B K:Nat} {w:World} {v:Value} {cl:List It} (hv:CHV0 B w v cl) (hB:B≤w.heap.size) (hl:cl.length≤1000) (hcf:∀ (a:Value) (ww:World),(callFunc K #[a]).run Tryz.prog ww=.ok (.enter K #[a]) ww)
  (hK:∀ (it:It) (ka va:Option Addr) (kc vc:Nat) (ww:World),it∈cl→Calls Tryz.prog K #[.agg #[.int .i64 0,.slice ka it.1.length kc,.slice va it.2.length vc,.bool false]] ww fun e w'=>e=.returned (.bool false)∧Below ww.heap.size ww w') :
  Calls Tryz.prog 129 #[v,.func (Fn.func K) #[] #[]] w fun e w'=>e=.returned (.int .i64 (-1))∧Below w.heap.size w w':=by
 obtain ⟨g,cap,hform⟩:∃ g cap,v=.slice (some ⟨g,0,none⟩) cl.length cap:=by
  obtain ⟨kv,g,cap,h1,_⟩:=hv
  exact ⟨g,cap,h1⟩
 subst hform
 have HV:=hide hv
 have HK:=hide hK
 have HCF:=hide hcf
 clear hv hK hcf
 generalize hN:cl.length=M at *
 go_enter Tryz.func129,Tryz.ntmps129
 go_wp2_with fail
 go_loopw [8] (fun i wx=>∃ j:Nat,j≤M∧i=.int .i64 j∧Below w.heap.size w wx) (fun i _=>M-(intOf i).toNat)
 case atStart=>exact ⟨0,by omega,rfl,Below.refl _ _⟩
 case round =>
  obtain ⟨j,hj,rfl,hb⟩:=hrel
  have HB:=hide hb
  by_cases hjn:j<M
  ·have xj:(j:Int)<(M:Int):=by omega
   obtain ⟨it,hit⟩:∃ it,cl[j]?=some it:=⟨_,gE (by omega)⟩
   obtain ⟨g',cap',ka,kc,va,vc,f1,q1,q2,q3,q4,q5,q6⟩:=(HV.out.later hb hB).at hit
   rw [hN] at f1
   simp only [Value.slice.injEq,oI,Addr.mk.injEq] at f1
   obtain ⟨⟨rfl,_,_⟩,_,rfl⟩:=f1
   have HC:=hide (HK.out it ka va kc vc wr (mG hit))
   have hcf1:=HCF.out (.agg #[.int .i64 0,.slice ka it.1.length kc,.slice va it.2.length vc,.bool false]) wr
   generalize it.1.length=kn at *
   generalize it.2.length=vn at *
   clear hb hit q5 q6
   go_wp2_with fail
   refine HC.out.mono ?_
   rintro e w1 ⟨rfl,hb1⟩
   have HB1:=hide (HB.out.trans (hb1.mono HB.out.size))
   clear hb1 HC
   go_wp2_with fail
   go_roundw
   case rel=>exact ⟨j+1,by omega,by go_num,HB1.out⟩
   case measure=>simp [intOf];omega
  ·have xj:¬ (j:Int)<(M:Int):=by omega
   clear hb
   go_wp2
   go_ret
   exact ⟨rfl,HB.out⟩
theorem aCe {B K:Nat} {w:World} {v:Value} {cl:List It} (hv:CHV0 B w v cl) (hB:B≤w.heap.size) (hl:cl.length≤1000) (hcf:∀ (a:Value) (ww:World),(callFunc K #[a]).run Tryz.prog ww=.ok (.enter K #[a]) ww)
  (hK:∀ (it:It) (ka va:Option Addr) (kc vc:Nat) (ww:World),it∈cl→Calls Tryz.prog K #[.agg #[.int .i64 0,.slice ka it.1.length kc,.slice va it.2.length vc,.bool false]] ww fun e w'=>e=.returned (.bool false)∧Below ww.heap.size ww w') :
  Calls Tryz.prog 108 #[v,.func (Fn.func K) #[] #[]] w fun e w'=>e=.returned (.bool false)∧Below w.heap.size w w':=by
 have HI:=hide (aGq hv hB hl hcf hK)
 obtain ⟨g,cap,hform⟩:∃ g cap,v=.slice (some ⟨g,0,none⟩) cl.length cap:=by
  obtain ⟨kv,g,cap,h1,_⟩:=hv
  exact ⟨g,cap,h1⟩
 subst hform
 clear hv hcf hK
 go_enter Tryz.func108,Tryz.ntmps108
 go_wp2_with fail
 refine HI.out.mono ?_
 rintro e w1 ⟨rfl,hb1⟩
 have HB1:=hide hb1
 clear hb1
 go_wp2
 go_ret
 exact ⟨rfl,HB1.out⟩
theorem LS.refusal0 [Gd] {B p q g ls N c u:Nat} {l:List It} {W w:World} {v:Value} {cl:List It} (h:LS B p q g ls N c u l W w) (hv:CHV0 B w v cl) (hl:cl.length≤1000) (hok:∀ x∈cl,0<x.1.length∧x.1.length≤60∧x.2.length≤1800) :
  Calls Tryz.prog 73 #[.pointer (some ⟨ls,0,none⟩),.bool true,v] w fun e w'=>e=.returned (.int .i64 0)∧Below w.heap.size w w':=by
 have HD:=hide h.dead
 have HBW:=hide h.bw
 have HV:=hide hv
 have HOK:=hide hok
 obtain ⟨gv,cap,hform⟩:∃ g cap,v=.slice (some ⟨g,0,none⟩) cl.length cap:=by
  obtain ⟨kv,g,cap,h1,_⟩:=hv
  exact ⟨g,cap,h1⟩
 subst hform
 clear h hv hok
 go_enter Tryz.func73,Tryz.ntmps73
 go_wp2_with fail
 refine HD.out.mono ?_
 rintro e w1 ⟨rfl,hb1⟩
 have HB1:=hide hb1
 have HV1:=hide (HV.out.later hb1 HBW.out)
 have HBW1:Hid (B≤w1.heap.size):=nT HBW.out hb1.size
 have HC1:=hide (aCe (K:=109) HV1.out HBW1.out hl (fun a ww=>by rfl) (fun it ka va kc vc ww hm=>isWrong_no0 ww (HOK.out it hm).1))
 clear hb1
 go_wp2_with fail
 refine HC1.out.mono ?_
 rintro e w2 ⟨rfl,hb2⟩
 have HB2:=hide (HB1.out.trans (hb2.mono HB1.out.size))
 have HV2:=hide (HV1.out.later hb2 HBW1.out)
 have HBW2:Hid (B≤w2.heap.size):=nT HBW1.out hb2.size
 have HC2:=hide (aCe (K:=110) HV2.out HBW2.out hl (fun a ww=>by rfl) (fun it ka va kc vc ww hm=>isLong_no0 ww (HOK.out it hm).2.1 (HOK.out it hm).2.2))
 clear hb2 HC1
 go_wp2_with fail
 refine HC2.out.mono ?_
 rintro e w3 ⟨rfl,hb3⟩
 have HB3:=hide (HB2.out.trans (hb3.mono HB2.out.size))
 clear hb3 HC2
 go_wp2
 go_ret
 exact ⟨rfl,HB3.out⟩
end Go.Proofs.YthimmblpmijnlaaGreat
