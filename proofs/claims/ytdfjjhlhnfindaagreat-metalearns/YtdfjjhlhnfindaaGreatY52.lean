import Derived.Test.YtdfjjhlhnfindaaGreatY51
set_option maxRecDepth 100000
set_option maxHeartbeats 16000000
set_option linter.unusedVariables false
namespace Go.Proofs.YtdfjjhlhnfindaaGreat
open Go.RowKit Tryz
variable {B K N gh i m nt who:Nat} {F:List Int} {P:Nat->NdP} {W w w':World} {ov:List Nat} {v:Value}
theorem SGV.ns {l:List Sg} (h:SGV w v l) (hf:NsF B w w'):SGV w' v l:=h.stay fun k cs e=>hf.2 k cs _ _ e (by decide) (by decide) (by decide) (by decide) (by decide)
def R0:Nat->Rec:=fun _=>(0,0,[])
def mt0 (F:List Int):Mt:=⟨F,R0,[],fun _=>0⟩
theorem HN.new {v:Nat} (h:NSw B N 3 nt gh P nd0 (.slice none 0 0) [] [] W w):HN B N nt gh v P (mt0 []) W w:=⟨nd0,_,h,fun i hi=>⟨⟨R0,RL.nil,rfl⟩,nR _⟩⟩
theorem mt0_ok [WF] (h:F.length<=64) (hk:WF.ok F):MtOk 0 0 (mt0 F):=⟨fun i hi=>⟨nR _,Nat.zero_le _⟩,by show 0+F.length<=64;omega,fun i hi=>nR _,hk⟩
theorem akS_mf {v b:Nat} {k:Bool} {val:List Nat} {s:Mt} (hF:s.F=[]):∀ j i,(akS v k b val s j).m i<=s.m i+cs1 k/\(j<=i->(akS v k b val s j).m i=s.m i)
 | 0,i=>⟨Nat.le_add_right _ _,fun _=>rfl⟩
 | j+1,i=>by
  obtain ⟨c,_,h1,h2⟩:=stp_m v k b val j (akS v k b val s j)
  have h:(akS v k b val s (j+1)).m=upS (akS v k b val s j).m j ((akS v k b val s j).m j+c):=h2
  obtain ⟨k1,k2⟩:=akS_mf (v:=v) (b:=b) (k:=k) (val:=val) hF j i
  rw [h,h1 (aBd hF j).1]
  unfold upS
  by_cases e:i=j
  ·subst e
   rw [if_pos rfl,k2 (nR _)]
   exact ⟨nR _,fun h=>absurd h (by omega)⟩
  ·rw [if_neg e]
   exact ⟨k1,fun h=>k2 (by omega)⟩
theorem fair_m {v:Nat} {s:Mt} (hF:s.F=[]):(∀ i,(dec v who ov 3 s 0).2.m i<=s.m i+4)/\((dec v who ov 3 s 0).1=some none->∀ i,(dec v who ov 3 s 0).2.m i<=s.m i+2)/\(dec v who ov 3 s 0).2.F=[]:=by
 obtain ⟨p,t,t1,t2,t3,tm,t4,t5⟩:=aD5 (v:=v) (who:=who) (ov:=ov) hF;have c1:cs1 false=1:=rfl;have c2:cs1 true=2:=rfl;rw [t5];split
 ·refine ⟨fun i=>?_,fun _ i=>?_,(aBd t1 3).1⟩<;>(have h1:=(akS_mf (v:=v) (k:=false) (b:=bal p who) (val:=[]) t1 3 i).1;have h2:=tm i;show (akS v false (bal p who) [] t 3).m i<=_;omega)
 ·refine ⟨fun i=>?_,(fun h=>nomatch h),(aBd (aBd t1 3).1 3).1⟩;have h1:=(akS_mf (v:=v) (k:=false) (b:=bal p who) (val:=[]) t1 3 i).1;have h2:=tm i;have h3:=(akS_mf (v:=v) (k:=true) (b:=bal p who) (val:=(bst (akA v false (bal p who) [] t) ov 3).2) (aBd (v:=v) (k:=false) (b:=bal p who) (val:=[]) t1 3).1 3 i).1;show (akS v true (bal p who) _ (akS v false (bal p who) [] t 3) 3).m i<=_;omega
theorem fair_none {v:Nat} {s:Mt} (hF:s.F=[]) (h0:∀ i,i<3->(s.R i).2.1=0):(dec v who [] 3 s 0).1=some none/\∀ i,i<3->((dec v who [] 3 s 0).2.R i).2.1=0:=by
 obtain ⟨p,t,t1,t2,t3,_,t4,t5⟩:=aD5 (v:=v) (who:=who) (ov:=[]) hF;have hb:bst (akA v false (bal p who) [] t) [] 3=(0,[]):=bst_own fun i hi he=>by
  rw [aB8 t1,(aF7 _ _).1,(t3 i hi).1];exact h0 i hi
 rw [t5,hb,if_pos ⟨rfl,rfl⟩];refine ⟨rfl,fun i hi=>?_⟩;show ((akS v false (bal p who) [] t 3).R i).2.1=0;rw [ask_f2 v _ [] t i hi,(t3 i hi).1];exact h0 i hi
def TS0 [WF] (B nt gh:Nat) (P:Nat->NdP) (K m:Nat) (W w:World):Prop:=∃ s,HN B 60 nt gh 1 P s W w/\s.F=[]/\(∀ i,i<3->(s.R i).2.1=0)/\MtOk K m s
def TS1 [WF] (B nt gh:Nat) (P:Nat->NdP) (av:List Nat) (K m:Nat) (W w:World):Prop:=∃ s,HN B 60 nt gh 1 P s W w/\s.F=[]/\JQ av s/\(((s.R 0).2.1≠0/\(s.R 1).2.1≠0)\/((s.R 0).2.1≠0/\(s.R 2).2.1≠0)\/((s.R 1).2.1≠0/\(s.R 2).2.1≠0))/\MtOk K m s
def TS2 [WF] (B nt gh:Nat) (P:Nat->NdP) (av:List Nat) (K m:Nat) (W w:World):Prop:=∃ s b,HN B 60 nt gh 1 P s W w/\s.F=[]/\DQ b av s/\MtOk K m s
section
variable [WF] {B nt gh who K m:Nat} {P:Nat->NdP} {av:List Nat} {W w w':World}
theorem TS0.later (h:TS0 B nt gh P K m W w) (hb:Below w.heap.size w w'):TS0 B nt gh P K m W w':=by
 obtain ⟨s,h1,h2⟩:=h;exact ⟨s,h1.later hb,h2⟩
theorem TS0.bw (h:TS0 B nt gh P K m W w):B<=w.heap.size:=by
 obtain ⟨s,h1,h2⟩:=h;exact h1.bw
theorem TS1.later (h:TS1 B nt gh P av K m W w) (hb:Below w.heap.size w w'):TS1 B nt gh P av K m W w':=by
 obtain ⟨s,h1,h2⟩:=h;exact ⟨s,h1.later hb,h2⟩
theorem TS1.bw (h:TS1 B nt gh P av K m W w):B<=w.heap.size:=by
 obtain ⟨s,h1,h2⟩:=h;exact h1.bw
theorem TS0.learn0 [WC] (h:TS0 B nt gh P K m W w) (h3:who<=3) (hK:K<=100000) (hm:m<=11) :
  Calls prog 11 #[.pointer (some ⟨nt,0,none⟩),.int .i64 1,.int .i64 (who:Int)] w fun e w'=>e=.returned (.tuple #[.slice none 0 0,.bool false,.int .i64 0])/\TS0 B nt gh P (K+48) (m+2) W w'/\NsF B w w':=by
 obtain ⟨s,k1,k2,k3,k4⟩:=h;obtain ⟨q1,q2⟩:=fair_none (v:=1) (who:=who) k2 k3;obtain ⟨_,q3,q4⟩:=fair_m (v:=1) (who:=who) (ov:=[]) k2;refine (k1.learn (who:=who) (Lx:=ch1) k4 ch1_ok (Or.inr (Or.inl q1)) (by decide) (by decide) h3 (by omega) (by omega) (by omega)).mono ?_;rintro e w' ⟨r1,r2,r3⟩;have h9:=dec_ok (v:=1) (ov:=[]) h3 (Nat.zero_le _) 3 K m 0 s k4 (Nat.zero_le _);refine ⟨?_,⟨_,r2,q4,q2,⟨h9.r,h9.f,fun i hi=>nT (q3 q1 i) (by have:=k4.m i hi;omega),h9.k⟩⟩,r3⟩;rcases r1 with r | r | r
 ·rw [q1] at r;exact nomatch r.1
 ·exact r.2
 ·rw [q1] at r;exact nomatch r.1
theorem TS0.prop0 [WC] {L:List Sg} (h:TS0 B nt gh P K m W w) (hl:SGV w v L) (hc:CH L) (h3:who<=3) (hK:K<=100000) (hm:m<=11) :
  Calls prog 8 #[.pointer (some ⟨nt,0,none⟩),.int .i64 1,.int .i64 (who:Int),v] w fun e w'=>(∃ v',e=.returned (.tuple #[v',.int .i64 0])/\SGV w' v' L)/\TS1 B nt gh P (enC L) (K+48) (m+4) W w'/\NsF B w w':=by
 obtain ⟨s,k1,k2,k3,k4⟩:=h;have hn:(enC L).length≠0:=by have:=enC_pos hc;omega
 have hj:JQ (enC L) s:=⟨fun i hi h=>absurd (k3 i hi) h,fun i hi h=>absurd (k3 i hi) h⟩;have q1:=fair_own (v:=1) (who:=who) (ov:=enC L) k2 k3 hn;obtain ⟨q3,_,q4⟩:=fair_m (v:=1) (who:=who) (ov:=enC L) k2;obtain ⟨j1,j2⟩:=hj.bid (v:=1) (who:=who) hn 3 0;refine (k1.propose (who:=who) (Lx:=L) k4 hl hc hc (Or.inr q1) (by decide) (by decide) h3 (by omega) (by omega) (by omega)).mono ?_;rintro e w' ⟨r1,r2,r3⟩;have h9:=dec_ok (v:=1) (ov:=enC L) h3 (by have:=hc.all;omega) 3 K m 0 s k4 (Nat.zero_le _);refine ⟨?_,⟨_,r2,q4,j1,?_,⟨h9.r,h9.f,fun i hi=>nT (q3 i) (by have:=k4.m i hi;omega),h9.k⟩⟩,r3⟩
 ·rcases r1 with r | r
  ·rw [q1] at r;exact nomatch r.1
  ·exact r.2
 ·rcases j2 with r | r
  ·rw [q1] at r;exact nomatch r
  ·exact r.2
theorem TS1.prop1 [WC] {L Lx:List Sg} (h:TS1 B nt gh P (enC Lx) K m W w) (hl:SGV w v L) (hc:CH L) (hx:CH Lx) (h3:who<=3) (hK:K<=100000) (hm:m<=11) :
  Calls prog 8 #[.pointer (some ⟨nt,0,none⟩),.int .i64 1,.int .i64 (who:Int),v] w fun e w'=>(∃ v',e=.returned (.tuple #[v',.int .i64 0])/\SGV w' v' Lx)/\TS2 B nt gh P (enC Lx) (K+48) (m+4) W w'/\NsF B w w':=by
 obtain ⟨s,k1,k2,k3,k5,k4⟩:=h;have hn:(enC L).length≠0:=by have:=enC_pos hc;omega
 obtain ⟨b,y,q1,q2,q4,_,q5⟩:=k3.second (v:=1) (who:=who) (bv:=enC L) k2 hn;obtain rfl:=q5 k5;obtain ⟨q3,_,_⟩:=fair_m (v:=1) (who:=who) (ov:=enC L) k2;refine (k1.propose (who:=who) (Lx:=Lx) k4 hl hc hx (Or.inr q1) (by decide) (by decide) h3 (by omega) (by omega) (by omega)).mono ?_;rintro e w' ⟨r1,r2,r3⟩;have h9:=dec_ok (v:=1) (ov:=enC L) h3 (by have:=hc.all;omega) 3 K m 0 s k4 (Nat.zero_le _);refine ⟨?_,⟨_,b,r2,q4,q2,⟨h9.r,h9.f,fun i hi=>nT (q3 i) (by have:=k4.m i hi;omega),h9.k⟩⟩,r3⟩;rcases r1 with r | r
 ·rw [q1] at r;exact nomatch r.1
 ·exact r.2
theorem TS2.learn1 [WC] {Lx:List Sg} (h:TS2 B nt gh P (enC Lx) K m W w) (hx:CH Lx) (h3:who<=3) (hK:K<=100000) (hm:m<=11) :
  Calls prog 11 #[.pointer (some ⟨nt,0,none⟩),.int .i64 1,.int .i64 (who:Int)] w fun e w'=>(∃ v',e=.returned (.tuple #[v',.bool true,.int .i64 0])/\SGV w' v' Lx)/\B<=w'.heap.size/\NsF B w w':=by
 obtain ⟨s,b,k1,k2,k3,k4⟩:=h;have q1:=k3.learn (v:=1) (who:=who) k2;refine (k1.learn (who:=who) (Lx:=Lx) k4 hx (Or.inr (Or.inr q1)) (by decide) (by decide) h3 (by omega) (by omega) (by omega)).mono ?_;rintro e w' ⟨r1,r2,r3⟩;refine ⟨?_,r2.bw,r3⟩;rcases r1 with r | r | r
 ·rw [q1] at r;exact nomatch r.1
 ·rw [q1] at r;exact nomatch r.1
 ·exact r.2
end
theorem told11h [WF] [WC] (hk0:WF.ok []) (w:World):Calls prog 13 #[] w fun e w'=>e=.returned (.bool true)/\Below w.heap.size w w':=by
 generalize hB:w.heap.size=B;have HNN:Hid (Calls prog 5 #[.int .i64 3,.int .i64 60] w fun e w'=>∃ nt gh P,e=.returned (.tuple #[.pointer (some ⟨nt,0,none⟩),.int .i64 0])/\NSw B 60 3 nt gh P nd0 (.slice none 0 0) [] [] w w'/\NsF B w w'):=net_new (n:=60) (M:=3) (by omega) (Below.refl _ _) (by decide) (by decide) (by decide) (by decide);go_enter func13,ntmps13;go_wp2_with fail;refine HNN.o.mono ?_;rintro e x1 ⟨nt,gh,P,rfl,h1,hf1⟩;have H1:Hid (TS0 B nt gh P 0 0 w x1):=⟨_,HN.new h1,rfl,fun _ _=>rfl,mt0_ok (by decide) hk0⟩;have HF1:=zH hf1.1;have C1:Hid (Calls prog 11 #[.pointer (some ⟨nt,0,none⟩),.int .i64 1,.int .i64 0] x1 fun e w'=>e=.returned (.tuple #[.slice none 0 0,.bool false,.int .i64 0])/\TS0 B nt gh P (0+48) (0+2) w w'/\NsF B x1 w'):=H1.o.learn0 (who:=0) (by decide) (by decide) (by decide);clear h1 hf1 HNN;go_wp2_with fail;refine C1.out.mono ?_;rintro e x2 ⟨rfl,h2,hf2⟩;have H2:=zH h2;have HF2:=zH (HF1.o.trans hf2.1);have C2:=zH (aD8 5 2 x2);clear h2 hf2 C1 H1 HF1;go_wp2_with fail;refine C2.out.mono ?_;rintro e x3 ⟨rfl,hs3,hb3⟩;have H3:=zH (H2.o.later hb3);have HF3:=zH (HF2.o.trans (hb3.mono H2.o.bw));have CK:Hid (CH (ch2 5 2)):=ch2_ok (by decide) (by decide) (by decide) (by decide);have C3:Hid (Calls prog 8 #[.pointer (some ⟨nt,0,none⟩),.int .i64 1,.int .i64 2,.slice (some ⟨x2.heap.size,0,none⟩) 2 2] x3 fun e w'=>(∃ v',e=.returned (.tuple #[v',.int .i64 0])/\SGV w' v' (ch2 5 2))/\TS1 B nt gh P (enC (ch2 5 2)) (0+48+48) (0+2+4) w w'/\NsF B x3 w'):=H3.o.prop0 (who:=2) hs3 CK.out (by decide) (by decide) (by decide);clear hs3 hb3 C2 H2 HF2;generalize x2.heap.size=n2 at *
 go_wp2_with fail;refine C3.out.mono ?_;rintro e x4 ⟨⟨v4,rfl,hs4⟩,h4,hf4⟩;have H4:=zH h4;have HS4:=zH hs4;have HF4:=zH (HF3.o.trans hf4.1);have C4:=zH (aD8 6 0 x4);clear hs4 h4 hf4 C3 H3 HF3;go_wp2_with fail;refine C4.out.mono ?_;rintro e x5 ⟨rfl,hs5,hb5⟩;have H5:=zH (H4.o.later hb5);have HS5:=zH (HS4.o.later hb5);have HF5:=zH (HF4.o.trans (hb5.mono H4.o.bw));have C5:Hid (Calls prog 8 #[.pointer (some ⟨nt,0,none⟩),.int .i64 1,.int .i64 0,.slice (some ⟨x4.heap.size,0,none⟩) 2 2] x5 fun e w'=>(∃ v',e=.returned (.tuple #[v',.int .i64 0])/\SGV w' v' (ch2 5 2))/\TS2 B nt gh P (enC (ch2 5 2)) (0+48+48+48) (0+2+4+4) w w'/\NsF B x5 w'):=H5.o.prop1 (who:=0) hs5 (ch2_ok (by decide) (by decide) (by decide) (by decide)) CK.out (by decide) (by decide) (by decide);clear hs5 hb5 C4 H4 HF4 HS4;generalize x4.heap.size=n4 at *
 go_wp2_with fail;refine C5.out.mono ?_;rintro e x6 ⟨⟨v6,rfl,hs6⟩,h6,hf6⟩;have HS6:=zH hs6;have HT6:=zH (HS5.o.ns hf6);have HF6:=zH (HF5.o.trans hf6.1);have C6:Hid (Calls prog 11 #[.pointer (some ⟨nt,0,none⟩),.int .i64 1,.int .i64 1] x6 fun e w'=>(∃ v',e=.returned (.tuple #[v',.bool true,.int .i64 0])/\SGV w' v' (ch2 5 2))/\B<=w'.heap.size/\NsF B x6 w'):=h6.learn1 (who:=1) CK.out (by decide) (by decide) (by decide);clear hs6 h6 hf6 C5 H5 HF5 HS5;go_wp2_with fail;refine C6.out.mono ?_;rintro e x7 ⟨⟨v7,rfl,hs7⟩,h7,hf7⟩;have HS7:=zH hs7;have HT7:=zH (HT6.o.ns hf7);have HU7:=zH (HS6.o.ns hf7);have HF7:=zH (HF6.o.trans hf7.1);have HBW:=zH h7;have C7:=zH (aD8 5 2 x7);clear hs7 h7 hf7 C6 HT6 HF6 HS6;go_wp2_with fail;refine C7.out.mono ?_;rintro e x8 ⟨rfl,hs8,hb8⟩;have HS8:=zH (HS7.o.later hb8);have HT8:=zH (HT7.o.later hb8);have HU8:=zH (HU7.o.later hb8);have HF8:=zH (HF7.o.trans (hb8.mono HBW.o));have HBW8:Hid (B<=x8.heap.size):=nT HBW.o hb8.size;have C8:=zH (aDn HT8.o hs8 (by decide));clear hs8 hb8 C7 HS7 HT7 HU7 HF7 HBW;generalize x7.heap.size=n7 at *
 go_wp2_with fail;refine C8.out.mono ?_;rintro e x9 ⟨rfl,hb9⟩;have HS9:=zH (HS8.o.later hb9);have HT9:=zH (HT8.o.later hb9);have HU9:=zH (HU8.o.later hb9);have HF9:=zH (HF8.o.trans (hb9.mono HBW8.o));have HBW9:Hid (B<=x9.heap.size):=nT HBW8.o hb9.size;have C9:=zH (aDn HU9.o HT9.o (by decide));clear hb9 C8 HS8 HT8 HU8 HF8 HBW8;go_wp2_with fail;refine C9.out.mono ?_;rintro e y1 ⟨rfl,hb1⟩;have HS1:=zH (HS9.o.later hb1);have HT1:=zH (HT9.o.later hb1);have HF1:=zH (HF9.o.trans (hb1.mono HBW9.o));have HBW1:Hid (B<=y1.heap.size):=nT HBW9.o hb1.size;have D1:=zH (aDn HS1.o HT1.o (by decide));clear hb1 C9 HS9 HT9 HU9 HF9 HBW9;go_wp2_with fail;refine D1.out.mono ?_;rintro e y2 ⟨rfl,hb2⟩;have HF2:=zH (HF1.o.trans (hb2.mono HBW1.o));have HBW2:Hid (B<=y2.heap.size):=nT HBW1.o hb2.size;have D2:=zH (first_any y2);clear hb2 D1 HS1 HT1 HF1 HBW1;go_wp2_with fail;refine D2.out.mono ?_;rintro e y3 ⟨rfl,hs3,hb3⟩;have HF3:=zH (HF2.o.trans (hb3.mono HBW2.o));have HBW3:Hid (B<=y3.heap.size):=nT HBW2.o hb3.size;have D3:=zH (first_any y3);clear hs3 hb3 D2 HF2 HBW2;go_wp2_with fail;refine D3.out.mono ?_;rintro e y4 ⟨rfl,hs4,hb4⟩;have HF4:=zH (HF3.o.trans (hb4.mono HBW3.o));have HBW4:Hid (B<=y4.heap.size):=nT HBW3.o hb4.size;have D4:=zH (aHg hs4 ch1_ok);clear hs4 hb4 D3 HF3 HBW3;go_wp2_with fail;refine D4.out.mono ?_;rintro e y5 ⟨rfl,hb5⟩;have HF5:=zH (HF4.o.trans (hb5.mono HBW4.o));clear hb5 D4;go_wp2;go_ret;exact ⟨by simp,HF5.o⟩
theorem and15L (z:Int):∃ v:Nat,v<=15/\bits BinOp.and IntKind.i64 z 15=(v:Int):=⟨(z % 16).toNat,by omega,by rw [aHu z 4 (by omega) 15 (by decide)];omega⟩
theorem and3L (z:Int):∃ v:Nat,v<=3/\bits BinOp.and IntKind.i64 z 3=(v:Int):=⟨(z % 4).toNat,by omega,by rw [aHu z 2 (by omega) 3 (by decide)];omega⟩
def IRc (W:World) (a:Option Addr) (n c:Nat) (Z:Nat->Int):Prop:=n<=c/\c<=9223372036854775807/\(0<n->∃ b o,a=some ⟨b,o,none⟩/\∀ i,i<n->W.cell? ⟨b,o+i,none⟩=some (.int .i64 (Z i)))
theorem aH3 (h:Below B W w) {a:Addr} {v:Value} (hc:W.cell? a=some v) (hB:W.heap.size<=B):w.cell? a=some v:=by
 rw [h.cell (Nat.lt_of_lt_of_le (World.block_lt_of_cell? W a hc) hB)];exact hc
structure LNI (B nt gh i:Nat) (P:Nat->NdP) (s:Mt) (W w:World):Prop where
 h:HN B 200 nt gh 1 P s W w
 l:LI (24*i) s
 k:MtOk (24*i) (4*i) s
 f:s.l.length+s.F.length<=5*i
 b:Below B W w
theorem mtw {s:Mt} {zs:List Int} (h:MtOk K m s) (hf:s.l.length+(s.F.length+zs.length)<=64):MtOk K m ⟨s.F++zs,s.R,s.l,s.m⟩:=⟨h.r,by show s.l.length+(s.F++zs).length<=64;rw [lA];exact hf,h.m,trivial⟩
theorem mtd {b:Nat} {s:Mt} {l':List LR} (h:MtOk K m s) (hl:l'.length<=s.l.length) (hb:b<=K):MtOk K (m+1) ⟨s.F,upS s.R i (rK false b [] (s.R i)),l',upS s.m i (s.m i+1)⟩:=by
 refine ⟨?_,by show l'.length+s.F.length<=64;have:=h.f;omega,fun j hj=>?_,trivial⟩
 ·intro j hj;show (upS s.R i _ j).1<=K/\(upS s.R i _ j).2.2.length<=1800;unfold upS;split
  ·rename_i e
   subst e;exact rK_le (h.r j hj) hb (Nat.zero_le _)
  ·exact h.r j hj
 ·have h9:=h.m j hj;show upS s.m i _ j<=m+1;unfold upS;split
  ·rename_i e
   subst e;omega
  ·omega
theorem lid {b:Nat} {s:Mt} {x:LR} {l':List LR} (h:LI K s) (hl:s.l=x::l'):LI K ⟨s.F,upS s.R i (rK false b [] (s.R i)),l',upS s.m i (s.m i+1)⟩:=by
 refine ⟨fun j hj=>?_,fun y hy=>h.la y (by rw [hl];exact List.mem_cons_of_mem _ hy)⟩;show (upS s.R i _ j).2.1=0/\(upS s.R i _ j).2.2=[];unfold upS;split
 ·rename_i e
  subst e;rw [rK_f2];exact h.z j hj
 ·exact h.z j hj
theorem LI.up {K':Nat} {s:Mt} (h:LI K s) (hk:K<=K'):LI K' s:=⟨h.z,fun x hx=>by
 obtain ⟨i,b,h1,h2,h3,h4⟩:=h.la x hx
 exact ⟨i,b,h1,h2,by omega,h4⟩⟩
theorem aFo {aa aw:Option Addr} {la ca lw cw:Nat} {Za Zw:Nat->Int} (owner:Int) (hA:IRc W aa la ca Za) (hZ:IRc W aw lw cw Zw):Calls prog 4 #[.slice aa la ca,.slice aw lw cw,.int .i64 owner] W fun e w'=>e=.returned (.bool true)/\Below W.heap.size W w':=by
 have HA:=zH hA.2.2;have HZ:=zH hZ.2.2;have hla:(la:Int)<=9223372036854775807:=by have:=hA.1;have:=hA.2.1;omega
 have hlw:lw<=cw:=hZ.1;have hcw:(cw:Int)<=9223372036854775807:=by have:=hZ.2.1;omega
 clear hA hZ;have HSZ:Hid (W.heap.size=W.heap.size):=rfl;generalize hB:W.heap.size=B at HSZ ⊢;have HBE:Hid (W.heap.size<=B):=Nat.le_of_eq hB;have HNN:Hid (Calls prog 5 #[.int .i64 3,.int .i64 200] W fun e w'=>∃ nt gh P,e=.returned (.tuple #[.pointer (some ⟨nt,0,none⟩),.int .i64 0])/\NSw B 200 3 nt gh P nd0 (.slice none 0 0) [] [] W w'/\NsF B W w'):=net_new (n:=200) (M:=3) (by omega) (Below.refl _ _) (by decide) (by decide) (by decide) (by decide);obtain ⟨ov,hov,hob⟩:=and15L owner;obtain ⟨wv,hwv,hwb⟩:=and3L owner;have HT:=zH (fun ww=>told11h trivial ww);clear hB HSZ;go_enter func4,ntmps4;go_wp2_with fail;refine HNN.o.mono ?_;rintro e w1 ⟨nt,gh,P,rfl,hs1,hf1⟩;have HS1:Hid (LNI B nt gh 0 P (mt0 []) W w1):=⟨HN.new hs1,⟨fun _ _=>⟨rfl,rfl⟩,fun x hx=>nomatch hx⟩,mt0_ok (by decide) trivial,nR _,hf1.1⟩;clear hs1 hf1 HNN;go_wp2_with fail;go_loopw [9] (fun i wx=>∃ (j:Nat) (s:Mt),j<=la/\j<=12/\i=.int .i64 (j:Int)/\LNI B nt gh j P s W wx) (fun i _=>12-(intOf i).toNat)
 case atStart=>exact ⟨0,_,by omega,by omega,rfl,HS1.o⟩
 case round =>
  obtain ⟨j,s,hj,hj2,rfl,hI⟩:=hrel;have HI:=zH hI;clear hI HS1;obtain ⟨go,HGO⟩:∃ go:Bool,Hid (go=decide (j<la/\j<12)):=⟨_,rfl⟩;go_upto_region 5 with fail;go_cut [9,33] from 26 to 89 (fun i c wx=>i=.int .i64 (j:Int)/\c=.bool go/\wx=wr)
  case first =>
   by_cases c1:j<la
   ·have i1:(j:Int)<(la:Int):=by omega
    by_cases c2:j<12
    ·have i2:(j:Int)<12:=by omega
     go_wp2;go_meet
     case rel=>exact ⟨rfl,by rw [HGO.o,decide_eq_true ⟨c1,c2⟩],rfl⟩
    ·have i2:¬ (j:Int)<12:=by omega
     go_wp2;go_meet
     case rel=>exact ⟨rfl,by rw [HGO.o,decide_eq_false (fun h=>c2 h.2)],rfl⟩
   ·have i1:¬ (j:Int)<(la:Int):=by omega
    go_wp2;go_meet
    case rel=>exact ⟨rfl,by rw [HGO.o,decide_eq_false (fun h=>c1 h.1)],rfl⟩
  case rest =>
   obtain ⟨rfl,rfl,rfl⟩:=hcut;by_cases hgo:j<la/\j<12
   ·have hg1:go=true:=by rw [HGO.o];exact decide_eq_true hgo
    subst hg1;obtain ⟨hjl,hj12⟩:=hgo;clear HGO;obtain ⟨ba,oa,haa,hca⟩:=HA.o (by omega);have HCA:Hid (W.cell? ⟨ba,oa+j,none⟩=some (.int .i64 (Za j))):=hca j hjl;subst haa;clear hca;have i1:(j:Int)<1000:=by omega
    have i2:(j:Int)<(la:Int):=by omega
    have i3:(0:Int)<=(j:Int):=by omega
    go_upto_region 7 with fail;go_cut [9] from 26 to 89 (fun i wx=>i=.int .i64 (j:Int)/\∃ zs:List Int,zs.length<=5/\HN B 200 nt gh 1 P ⟨s.F++zs,s.R,s.l,s.m⟩ W wx/\Below B W wx)
    case first =>
     obtain ⟨lo,hlo⟩:∃ lo:Nat,lo=min (j*5) lw:=⟨_,rfl⟩;obtain ⟨hi,hhi⟩:∃ hi:Nat,hi=min (j*5+5) lw:=⟨_,rfl⟩;have w1:IntKind.i64.wrap ((j:Int)*5)=(j:Int)*5:=wrap_small _ (by omega) (by omega);have w2:IntKind.i64.wrap ((j:Int)*5+5)=(j:Int)*5+5:=wrap_small _ (by omega) (by omega);have m1:min ((j:Int)*5) (lw:Int)=(lo:Int):=by omega
     have m2:min ((j:Int)*5+5) (lw:Int)=(hi:Int):=by omega
     have n1:(lo:Int)<=(hi:Int):=by omega
     have n2:(hi:Int)<=(cw:Int):=by omega
     have n3:lo<=hi:=by omega
     have n4:hi<=cw:=by omega
     have n5:hi<=lo+5:=by omega
     have n6:hi<=lw:=by omega
     have HH:=zH (And.intro n3 (And.intro n5 n6));clear hlo hhi;by_cases hk:lo=hi
     ·subst hk;have HW:Hid (∀ sa sc,Calls prog 6 #[.pointer (some ⟨nt,0,none⟩),.slice sa 0 sc] wc fun e w'=>e=.returned (.tuple #[])/\HN B 200 nt gh 1 P ⟨s.F++[],s.R,s.l,s.m⟩ W w'/\Below B W w'):=fun sa sc=>by
       refine (HI.o.h.weather0 (sa:=sa) (sc:=sc)).mono ?_;rintro e w' ⟨rfl,q1,q2⟩;rw [List.append_nil];exact ⟨rfl,q1,HI.o.b.trans q2.1⟩
      cases aw with
      | none =>
       go_wp2_with fail;refine (HW.o _ _).mono ?_;rintro e w2 ⟨rfl,q1,q2⟩;have HQ:=zH (And.intro q1 q2);clear q1 q2 HW;go_wp2_with fail;go_meet
       case rel=>exact ⟨rfl,[],Nat.zero_le _,HQ.o.1,HQ.o.2⟩
      | some x =>
       by_cases hcw:cw=lo
       ·subst hcw;go_wp2_with fail;refine (HW.o _ _).mono ?_;rintro e w2 ⟨rfl,q1,q2⟩;have HQ:=zH (And.intro q1 q2);clear q1 q2 HW;go_wp2_with fail;go_meet
        case rel=>exact ⟨rfl,[],Nat.zero_le _,HQ.o.1,HQ.o.2⟩
       ·have hcw2:¬ lo=cw:=fun h=>hcw h.symm
        go_wp2_with fail;refine (HW.o _ _).mono ?_;rintro e w2 ⟨rfl,q1,q2⟩;have HQ:=zH (And.intro q1 q2);clear q1 q2 HW;go_wp2_with fail;go_meet
        case rel=>exact ⟨rfl,[],Nat.zero_le _,HQ.o.1,HQ.o.2⟩
     ·have n7:lo<hi:=by omega
      have n8:¬ cw=lo:=by omega
      have n9:¬ (cw:Int)=(lo:Int):=by omega
      obtain ⟨b,o,hab,hcl⟩:=HZ.o (by omega);have HW:Hid (Calls prog 6 #[.pointer (some ⟨nt,0,none⟩),.slice (some ⟨b,o+lo,none⟩) (hi-lo) (cw-lo)] wc fun e w'=>e=.returned (.tuple #[])/\HN B 200 nt gh 1 P ⟨s.F++(List.range (hi-lo)).map (fun i=>Zw (lo+i)),s.R,s.l,s.m⟩ W w'/\Below B W w'):=by
       have h9:=HI.o.h.weatherZ (ga:=b) (oa:=o+lo) (cz:=cw-lo) (zs:=(List.range (hi-lo)).map (fun i=>Zw (lo+i))) (fun i z hz=>by
        rw [List.getElem?_map] at hz;have hil:i<hi-lo:=by
         cases h8:(List.range (hi-lo))[i]? with
         | none=>rw [h8] at hz;cases hz
         | some y=>have:=(lL h8);rwa [List.length_range] at this
        rw [List.getElem?_range hil] at hz;obtain rfl:=Option.some.inj hz;rw [show o+lo+i=o+(lo+i) by omega]
        exact aH3 HI.o.b (hcl (lo+i) (by omega)) HBE.o) (by rw [List.length_map,List.length_range];omega) (by rw [List.length_map,List.length_range];have:=HI.o.f;omega)
       rw [List.length_map,List.length_range] at h9;refine h9.mono ?_;rintro e w' ⟨rfl,q1,q2⟩;exact ⟨rfl,q1,HI.o.b.trans q2.1⟩
      have HLZ:Hid (((List.range (hi-lo)).map (fun i=>Zw (lo+i))).length<=5):=by show _<=_;rw [List.length_map,List.length_range];omega
      subst hab;clear hcl;go_wp2_with fail;refine HW.o.mono ?_;rintro e w2 ⟨rfl,q1,q2⟩;have HQ:=zH (And.intro q1 q2);clear q1 q2 HW;go_wp2_with fail;go_meet
      case rel=>exact ⟨rfl,_,HLZ.o,HQ.o.1,HQ.o.2⟩
    case rest =>
     obtain ⟨rfl,zs,hzs,hs1,hb1⟩:=hcut;obtain ⟨s1,HS1⟩:∃ s1:Mt,Hid (s1=⟨s.F++zs,s.R,s.l,s.m⟩):=⟨_,rfl⟩;rw [<-HS1.o] at hs1;have HI1:=zH hs1;have HB1:=zH hb1;have HL1:Hid (LI (24*j) s1):=by show LI _ _;rw [HS1.o];exact ⟨HI.o.l.z,HI.o.l.la⟩
     have HK1:Hid (MtOk (24*j) (4*j) s1):=by show MtOk _ _ _;rw [HS1.o];exact mtw HI.o.k (by have:=HI.o.f;omega)
     have HLF1:Hid (s1.l.length+s1.F.length<=5*j+5):=by show _<=_;rw [HS1.o];show s.l.length+(s.F++zs).length<=_;rw [lA];have:=HI.o.f;omega
     clear hs1 hb1 hzs HS1 HI;obtain ⟨wj,hwj,hwjb⟩:=and3L (Za j);have HWJ:=zH hwj;obtain ⟨d,HD⟩:∃ d,Hid (d=dec 1 wj [] 3 s1 0):=⟨_,rfl⟩;have HLL:=zH (LI.learn hwj 3 (24*j) (4*j) 0 s1 HL1.o HK1.o (Nat.zero_le _));have HLC:Hid (Calls prog 11 #[.pointer (some ⟨nt,0,none⟩),.int .i64 1,.int .i64 (wj:Int)] wc fun e w'=>(∃ fe:Int,e=.returned (.tuple #[.slice none 0 0,.bool false,.int .i64 fe])/\(fe=0\/fe=40))/\HN B 200 nt gh 1 P d.2 W w'/\NsF B wc w'):=by
      have h9:=HI1.o.learn (who:=wj) (Lx:=ch1) HK1.o ch1_ok (by
       rcases HLL.o.1 with q | q
       ·exact Or.inl q
       ·exact Or.inr (Or.inl q)) (by decide) (by decide) hwj (by omega) (by omega) (by omega)
      rw [<-HD.o] at h9;refine h9.mono ?_;rintro e w' ⟨q1,q2,q3⟩;refine ⟨?_,q2,q3⟩;rcases q1 with ⟨_,q⟩ | ⟨_,q⟩ | ⟨q,_⟩
      ·exact ⟨40,q,Or.inr rfl⟩
      ·exact ⟨0,q,Or.inl rfl⟩
      ·rcases HLL.o.1 with r | r<;>rw [<-HD.o,q] at r<;>exact nomatch r
     have hcc:wc.cell? ⟨ba,oa+j,none⟩=some (.int .i64 (Za j)):=aH3 HB1.o HCA.o HBE.o;go_wp2_with fail;refine HLC.o.mono ?_;rintro e w3 ⟨⟨fe,rfl,hfe⟩,hi3,hf3⟩;have HFE:=zH hfe;have HI3:=zH hi3;have HB3:=zH (HB1.o.trans hf3.1);have HL3:Hid (LI (24*j+24) d.2):=by show LI _ _;rw [HD.o];exact HLL.o.2.1
     have HK3:Hid (MtOk (24*j+24) (4*j+3) d.2):=by show MtOk _ _ _;rw [HD.o];exact HLL.o.2.2
     have HLF3:Hid (d.2.l.length+d.2.F.length<=5*j+5):=by show _<=_;rw [HD.o];exact nT (dec_lf 3 0 s1) HLF1.o
     clear hfe hi3 hf3 HLC HLL HL1 HK1 HLF1 HI1 HB1 hcc hwj hwjb;go_upto_region 9 with fail;go_cut [9,75] from 26 to 89 (fun i c wx=>i=.int .i64 (j:Int)/\c=.bool false/\wx=w3)
     case first =>
      rcases HFE.o with hf | hf
      ·subst hf;go_wp2;go_meet
       case rel=>exact ⟨rfl,rfl,rfl⟩
      ·subst hf;go_wp2;go_meet
       case rel=>exact ⟨rfl,rfl,rfl⟩
     case rest =>
      obtain ⟨rfl,rfl,rfl⟩:=hcut;clear HFE;have hcc:wc.cell? ⟨ba,oa+j,none⟩=some (.int .i64 (Za j)):=aH3 HB3.o HCA.o HBE.o
      have HLT:=zH (HI3.o.late (by have:=HK3.o.f;omega) (fun x hx=>by
       obtain ⟨i,b,_,_,_,h4⟩:=HL3.o.la x hx;rw [h4]
       exact Nat.zero_le _))
      go_upto_region 11 with fail;go_cut [9,87] from 26 to 89 (fun i c wx=>i=.int .i64 (j:Int)/\∃ cb:Bool,c=.bool cb/\(cb=true->d.2.l.length≠0)/\Below wc.heap.size wc wx)
      case first =>
       obtain ⟨z4,hz4⟩:∃ z4,bits BinOp.and IntKind.i64 (Za j) 4=z4:=⟨_,rfl⟩;by_cases h4:z4=4
       ·subst h4;by_cases hl0:d.2.l.length=0
        ·rw [hl0] at HLT;go_wp2_with fail;refine HLT.o.mono ?_;rintro e w4 ⟨⟨g,rfl⟩,hb4⟩;have HB4:=zH hb4;clear hb4 HLT;go_wp2_with fail;go_meet
         case rel=>exact ⟨rfl,false,by first | rfl | simp,(fun h=>nomatch h),HB4.o⟩
        ·have hl1:(0:Int)<(d.2.l.length:Int):=by omega
         have hl2:0<d.2.l.length:=by omega
         have HL0:=zH hl0;clear hl0;generalize d.2.l.length=dl at *
         go_wp2_with fail;refine HLT.o.mono ?_;rintro e w4 ⟨⟨g,rfl⟩,hb4⟩;have HB4:=zH hb4;clear hb4 HLT;go_wp2_with fail;go_meet
         case rel=>exact ⟨rfl,true,by first | rfl | simp [hl2],fun _=>HL0.o,HB4.o⟩
       ·go_wp2_with fail;go_meet
        case rel=>exact ⟨rfl,false,by first | rfl | simp [h4],(fun h=>nomatch h),Below.refl _ _⟩
      case rest =>
       obtain ⟨rfl,cb,rfl,hcb,hb4⟩:=hcut;have HB5:=zH (HB3.o.trans (hb4.mono HI3.o.bw));have HI5:=zH (HI3.o.later hb4);clear hb4 HLT hcc HI3 HB3
       cases cb with
       | false =>
        have HFIN:Hid (LNI B nt gh (j+1) P d.2 W wc):=⟨HI5.o,HL3.o.up (by omega),HK3.o.up (by omega) (by omega),HLF3.o,HB5.o⟩;clear HI5 HB5 hcb;go_wp2_with fail;go_roundw
        case rel=>exact ⟨j+1,_,by omega,by omega,by go_num,HFIN.o⟩
        case measure=>simp [intOf];omega
       | true =>
        have hn:=hcb rfl;obtain ⟨x,l',hxl⟩:∃ x l',d.2.l=x::l':=by
         cases h8:d.2.l with
         | nil=>rw [h8] at hn;exact absurd rfl hn
         | cons x l'=>exact ⟨x,l',rfl⟩
        obtain ⟨i,b,q1,q2,q3,q4⟩:=HL3.o.la x (by rw [hxl];exact List.mem_cons_self ..);subst q4;have HDV:=zH (HI5.o.deliver0 hxl q1 q2 (by omega) (by have:=HK3.o.m i q1;omega) (by have:=HK3.o.m i q1;omega) (by have:=HK3.o.f;omega));have HFK:Hid (MtOk (24*(j+1)) (4*(j+1)) ⟨d.2.F,upS d.2.R i (rK false b [] (d.2.R i)),l',upS d.2.m i (d.2.m i+1)⟩):=(mtd HK3.o (by rw [hxl];exact Nat.le_succ _) q3).up (by omega) (by omega);have HFL:Hid (LI (24*(j+1)) ⟨d.2.F,upS d.2.R i (rK false b [] (d.2.R i)),l',upS d.2.m i (d.2.m i+1)⟩):=(lid HL3.o hxl).up (by omega);have HFF:Hid (l'.length+d.2.F.length<=5*(j+1)):=by
         have h9:=HLF3.o;rw [hxl,List.length_cons] at h9;show _<=_;omega
        clear hcb hn hxl q1 q2 q3;go_wp2_with fail;refine HDV.o.mono ?_;rintro e w6 ⟨rfl,q1,q2⟩;have HFIN:Hid (LNI B nt gh (j+1) P _ W w6):=⟨q1,HFL.o,HFK.o,HFF.o,HB5.o.trans q2.1⟩;clear q1 q2 HDV HI5 HB5;go_wp2_with fail;go_roundw
        case rel=>exact ⟨j+1,_,by omega,by omega,by go_num,HFIN.o⟩
        case measure=>simp [intOf];omega
   ·have hg1:go=false:=by rw [HGO.o];exact decide_eq_false hgo
    subst hg1;clear HGO hgo;obtain ⟨Lo,HLO⟩:∃ Lo,Hid (Lo=ch2 (ov:Int) (wv:Int)):=⟨_,rfl⟩;have HCO:Hid (CH Lo):=by show CH Lo;rw [HLO.o];exact ch2_ok (by omega) (by omega) (by omega) (by omega)
    have HNO:Hid ((enC Lo).length≠0):=by show _≠_;have:=enC_pos HCO.o;omega
    have HK12:Hid (MtOk 288 48 s):=HI.o.k.up (by omega) (by omega);have HLS:=zH HI.o.l;have HIH:=zH HI.o.h;have HIB:=zH HI.o.b;have HCH:=zH (fun ww (e o:Int)=>aD8 e o ww);clear HI;go_wp2_with fail;go_loopg [] 64 (fun q wx=>∃ F:List Int,F.length<=q/\HN B 200 nt gh 1 P ⟨F,s.R,s.l,s.m⟩ W wx/\Below B W wx)
    case atStart=>exact ⟨s.F,by have:=HK12.o.f;omega,HIH.o,HIB.o⟩
    case round =>
     obtain ⟨F,hFq,hI,hb⟩:=hrel;clear HIH HIB;have HI3:=zH hI;have HB3:=zH hb;have HFQ:=zH hFq;have HAH:=zH hI.ahead;clear hI hb hFq;by_cases hF0:F.length=0
     ·have hF1:F=[]:=List.eq_nil_of_length_eq_zero hF0;subst hF1;clear hF0;go_wp2_with fail;refine HAH.o.mono ?_;rintro e w9 ⟨rfl,hw9⟩;have hw9:=hw9.symm;subst hw9;clear HAH;go_wp2_with fail;refine (HCH.o _ _ _).mono ?_;rintro e x1 ⟨rfl,hva,hb1⟩;rw [<-HLO.o] at hva;have HI4:=zH (HI3.o.later hb1);have HB4:=zH (HB3.o.trans (hb1.mono HI3.o.bw));have HVA:=zH hva;clear hva hb1 HI3 HB3 HCH;generalize wr.heap.size=g1 at *
      obtain ⟨s2,HS2⟩:∃ s2:Mt,Hid (s2=⟨[],s.R,s.l,s.m⟩):=⟨_,rfl⟩;have HOK2:Hid (MtOk 288 48 s2):=by show MtOk _ _ _;rw [HS2.o];exact ⟨HK12.o.r,by show s.l.length+0<=64;have:=HK12.o.f;omega,HK12.o.m,trivial⟩
      have HR2:Hid ((dec 1 wv (enC Lo) 3 s2 0).1=some (some (enC Lo))):=fair_own (by rw [HS2.o]) (fun i hi=>by rw [HS2.o];exact (HLS.o.z i hi).1) HNO.o;have HP2:Hid (Calls prog 8 #[.pointer (some ⟨nt,0,none⟩),.int .i64 1,.int .i64 (wv:Int),.slice (some ⟨g1,0,none⟩) 2 2] x1 fun e w'=>(∃ v',e=.returned (.tuple #[v',.int .i64 0])/\SGV w' v' Lo)/\B<=w'.heap.size/\NsF B x1 w'):=by
       have hi4:HN B 200 nt gh 1 P s2 W x1:=by rw [HS2.o];exact HI4.o
       have h9:=hi4.propose (who:=wv) (Lx:=Lo) HOK2.o HVA.o HCO.o HCO.o (Or.inr HR2.o) (by decide) (by decide) hwv (by decide) (by decide) (by decide);refine h9.mono ?_;rintro e w' ⟨q1,q2,q3⟩;refine ⟨?_,q2.bw,q3⟩;rcases q1 with ⟨q4,_⟩ | ⟨_,q5⟩
       ·rw [HR2.o] at q4;exact nomatch q4
       ·exact q5
      go_wp2_with fail;refine HP2.o.mono ?_;rintro e x5 ⟨⟨yv,rfl,hyv⟩,hbw5,hf5⟩;obtain ⟨yg,yc,ycs,rfl,hyv9⟩:=hyv;have HYV:Hid (SGV x5 (.slice (some ⟨yg,0,none⟩) Lo.length yc) Lo):=⟨yg,yc,ycs,rfl,hyv9⟩;have HB5:=zH (HB4.o.trans hf5.1);have HVA5:=zH (HVA.o.ns hf5);have HBW5:=zH hbw5;clear hyv9 hf5 HP2 HI4 HB4 HVA hbw5;have HT8:=zH (HT.o x5);generalize Lo.length=ly at *
      go_wp2_with fail;refine HT8.o.mono ?_;rintro e x9 ⟨rfl,hb⟩;have HB9:=zH (HB5.o.trans (hb.mono HBW5.o));have HYV9:=zH (HYV.o.later hb);have HVA9:=zH (HVA5.o.later hb);have HBW9:Hid (B<=x9.heap.size):=nT HBW5.o hb.size;have HSA:=zH (aDn HYV9.o HVA9.o (by rw [HLO.o];show 2<=17;decide));clear hb HT8 HYV HVA5 HB5 HBW5;go_wp2_with fail;refine HSA.o.mono ?_;rintro e y9 ⟨rfl,hb⟩;have HBA:=zH (HB9.o.trans (hb.mono HBW9.o));clear hb HSA;go_wp2;go_ret;exact ⟨rfl,HBA.o⟩
     ·cases gk with
      | zero=>exact absurd (Nat.le_zero.1 HFQ.o) hF0
      | succ q =>
       have i7:(0:Int)<(F.length:Int):=by omega
       have HFT:=zH HI3.o.fate;have HTL:Hid (F.tail.length<=q):=by show F.tail.length<=q;rw [List.length_tail];have:=HFQ.o;omega
       clear hF0;generalize F.length=fl at *
       go_wp2_with fail;refine HAH.o.mono ?_;rintro e w9 ⟨rfl,hw9⟩;have hw9:=hw9.symm;subst hw9;clear HAH;go_wp2_with fail;refine HFT.o.mono ?_;rintro e w9 ⟨⟨xx,rfl⟩,hs9,hf9⟩;have HS9:=zH hs9;have HB9:=zH (HB3.o.trans hf9.1);clear hs9 hf9 HFT HI3 HB3;go_wp2_with fail;go_roundg q
       case measure=>omega
       case rel=>exact ⟨F.tail,HTL.o,HS9.o,HB9.o⟩
end Go.Proofs.YtdfjjhlhnfindaaGreat
