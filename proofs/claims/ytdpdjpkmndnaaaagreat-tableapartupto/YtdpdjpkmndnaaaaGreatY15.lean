import Derived.Test.YtdpdjpkmndnaaaaGreatY1
import Derived.Test.YtdpdjpkmndnaaaaGreatY7
import Derived.Deep.QuietTactic
import Derived.BigQuiet
set_option maxRecDepth 100000
set_option maxHeartbeats 16000000
namespace Go.Proofs.YtdpdjpkmndnaaaaGreat
open Go.RowKit Tryz
theorem aBu (x:Int) (h0:0<=x) (h1:x<4294967296):bits .and .u32 x 15=x % 16:=by
 obtain ⟨n,rfl⟩:=Int.eq_ofNat_of_zero_le h0;have:=u32_and_nat n 15 (by omega) (by decide);rw [nat_mask4] at this;simpa using this
theorem word_any (b o len cap:Nat) (c0 c1 c2 c3:Nat) (w:World) (h4:4<=len)
  (k0:w.cell? ⟨b,o,none⟩=some (.int .u8 (c0:Nat))) (k1:w.cell? ⟨b,o+1,none⟩=some (.int .u8 (c1:Nat))) (k2:w.cell? ⟨b,o+2,none⟩=some (.int .u8 (c2:Nat))) (k3:w.cell? ⟨b,o+3,none⟩=some (.int .u8 (c3:Nat)))
  (b0:c0<256) (b1:c1<256) (b2:c2<256) (b3:c3<256) :
  Calls prog 247 #[.slice (some ⟨b,o,none⟩) len cap] w fun e w'=>e=.returned (.int .u32 (c0 ^^^ (256*c1) ^^^ (65536*c2) ^^^ (16777216*c3):Nat))/\∃ n,w'=w.drewN n:=by
 have l0:(0:Int)<(len:Int):=by omega
 have l1:(1:Int)<(len:Int):=by omega
 have l2:(2:Int)<(len:Int):=by omega
 have l3:(3:Int)<(len:Int):=by omega
 go_enter func247,ntmps247;go_wp2;go_quiet (fail);go_wp2;go_ret;refine ⟨aD0 ?_,nq,rfl⟩;have e1:=u32_or_nat c0 (2 ^ 8*c1) (by omega) (by omega);rw [aJl 8 c0 c1 (by omega)] at e1;have l1:c0 ^^^ 2 ^ 8*c1<2 ^ 16:=Nat.xor_lt_two_pow (by omega) (by omega);have e2:=u32_or_nat (c0 ^^^ 2 ^ 8*c1) (2 ^ 16*c2) (by omega) (by omega);rw [aJl 16 _ c2 l1] at e2;have l2:c0 ^^^ 2 ^ 8*c1 ^^^ 2 ^ 16*c2<2 ^ 24:=Nat.xor_lt_two_pow (by omega) (by omega);have e3:=u32_or_nat (c0 ^^^ 2 ^ 8*c1 ^^^ 2 ^ 16*c2) (2 ^ 24*c3) (by omega) (by omega);rw [aJl 24 _ c3 l2] at e3;show bits BinOp.or IntKind.u32 (bits BinOp.or IntKind.u32 (bits BinOp.or IntKind.u32 (↑c0) (↑c1*256)) (↑c2*65536)) (↑c3*16777216)=_;rw [show (c1:Int)*256=((2 ^ 8*c1:Nat):Int) by omega,e1,show (c2:Int)*65536=((2 ^ 16*c2:Nat):Int) by omega,e2,show (c3:Int)*16777216=((2 ^ 24*c3:Nat):Int) by omega,e3]
theorem xor8 (t0 t1 t2 t3 t4 t5 t6 t7:Nat) (h0:t0<2 ^ 32) (h1:t1<2 ^ 32) (h2:t2<2 ^ 32) (h3:t3<2 ^ 32) (h4:t4<2 ^ 32) (h5:t5<2 ^ 32) (h6:t6<2 ^ 32) (h7:t7<2 ^ 32) :
  bits .xor .u32 (bits .xor .u32 (bits .xor .u32 (bits .xor .u32 (bits .xor .u32 (bits .xor .u32 (bits .xor .u32 (t0:Int) (t1:Int)) (t2:Int)) (t3:Int)) (t4:Int)) (t5:Int)) (t6:Int)) (t7:Int) =
   ((t0 ^^^ t1 ^^^ t2 ^^^ t3 ^^^ t4 ^^^ t5 ^^^ t6 ^^^ t7:Nat):Int):=by
 have l1:=Nat.xor_lt_two_pow h0 h1;have l2:=Nat.xor_lt_two_pow l1 h2;have l3:=Nat.xor_lt_two_pow l2 h3;have l4:=Nat.xor_lt_two_pow l3 h4;have l5:=Nat.xor_lt_two_pow l4 h5;have l6:=Nat.xor_lt_two_pow l5 h6;rw [u32_xor_nat _ _ h0 h1,u32_xor_nat _ _ l1 h2,u32_xor_nat _ _ l2 h3,u32_xor_nat _ _ l3 h4,u32_xor_nat _ _ l4 h5,u32_xor_nat _ _ l5 h6,u32_xor_nat _ _ l6 h7]
theorem past_any (g:Nat) (r:Nat) (w:World) (hr:r<4294967296) (T:Nat->Nat) (hT:∀ j,j<128->w.cell? ⟨g,j,none⟩=some (.int .u32 (T j:Nat))/\T j<2 ^ 32) :
  Calls prog 246 #[.pointer (some ⟨g,0,none⟩),.int .u32 r] w fun e w' =>
   e=.returned (.int .u32 (T (r % 16) ^^^ T (16+r / 16 % 16) ^^^ T (32+r / 256 % 16) ^^^ T (48+r / 4096 % 16) ^^^ T (64+r / 65536 % 16) ^^^ T (80+r / 1048576 % 16) ^^^ T (96+r / 16777216 % 16) ^^^ T (112+r / 268435456):Nat))/\∃ n,w'=w.drewN n:=by
 have m0:=aBu (r:Int) (by omega) (by omega);have m1:=aBu ((r:Int) / 16) (by omega) (by omega);have m2:=aBu ((r:Int) / 256) (by omega) (by omega);have m3:=aBu ((r:Int) / 4096) (by omega) (by omega);have m4:=aBu ((r:Int) / 65536) (by omega) (by omega);have m5:=aBu ((r:Int) / 1048576) (by omega) (by omega);have m6:=aBu ((r:Int) / 16777216) (by omega) (by omega);have p0:(0:Int)<=(r:Int) % 16:=by omega
 have q0:(r:Int) % 16<16:=by omega
 have p1:(0:Int)<=(r:Int) / 16 % 16:=by omega
 have q1:(r:Int) / 16 % 16<16:=by omega
 have p2:(0:Int)<=(r:Int) / 256 % 16:=by omega
 have q2:(r:Int) / 256 % 16<16:=by omega
 have p3:(0:Int)<=(r:Int) / 4096 % 16:=by omega
 have q3:(r:Int) / 4096 % 16<16:=by omega
 have p4:(0:Int)<=(r:Int) / 65536 % 16:=by omega
 have q4:(r:Int) / 65536 % 16<16:=by omega
 have p5:(0:Int)<=(r:Int) / 1048576 % 16:=by omega
 have q5:(r:Int) / 1048576 % 16<16:=by omega
 have p6:(0:Int)<=(r:Int) / 16777216 % 16:=by omega
 have q6:(r:Int) / 16777216 % 16<16:=by omega
 have p7:(0:Int)<=(r:Int) / 268435456:=by omega
 have q7:(r:Int) / 268435456<16:=by omega
 obtain ⟨t0,HT0⟩:∃ t,Hid (T (r % 16)=t):=⟨_,rfl⟩;have c0:w.cell? ⟨g,((r:Int) % 16).toNat,none⟩=some (.int .u32 (t0:Nat)):=by
  have e:=(hT (r % 16) (by omega)).1;rw [HT0.o] at e;rw [<-e]
  congr 2
 have b0:t0<2 ^ 32:=by rw [<-HT0.o];exact (hT _ (by omega)).2
 obtain ⟨t1,HT1⟩:∃ t,Hid (T (16+r / 16 % 16)=t):=⟨_,rfl⟩;have c1:w.cell? ⟨g,16+((r:Int) / 16 % 16).toNat,none⟩=some (.int .u32 (t1:Nat)):=by
  have e:=(hT (16+r / 16 % 16) (by omega)).1;rw [HT1.o] at e;rw [<-e]
  congr 2
 have b1:t1<2 ^ 32:=by rw [<-HT1.o];exact (hT _ (by omega)).2
 obtain ⟨t2,HT2⟩:∃ t,Hid (T (32+r / 256 % 16)=t):=⟨_,rfl⟩;have c2:w.cell? ⟨g,32+((r:Int) / 256 % 16).toNat,none⟩=some (.int .u32 (t2:Nat)):=by
  have e:=(hT (32+r / 256 % 16) (by omega)).1;rw [HT2.o] at e;rw [<-e]
  congr 2
 have b2:t2<2 ^ 32:=by rw [<-HT2.o];exact (hT _ (by omega)).2
 obtain ⟨t3,HT3⟩:∃ t,Hid (T (48+r / 4096 % 16)=t):=⟨_,rfl⟩;have c3:w.cell? ⟨g,48+((r:Int) / 4096 % 16).toNat,none⟩=some (.int .u32 (t3:Nat)):=by
  have e:=(hT (48+r / 4096 % 16) (by omega)).1;rw [HT3.o] at e;rw [<-e]
  congr 2
 have b3:t3<2 ^ 32:=by rw [<-HT3.o];exact (hT _ (by omega)).2
 obtain ⟨t4,HT4⟩:∃ t,Hid (T (64+r / 65536 % 16)=t):=⟨_,rfl⟩;have c4:w.cell? ⟨g,64+((r:Int) / 65536 % 16).toNat,none⟩=some (.int .u32 (t4:Nat)):=by
  have e:=(hT (64+r / 65536 % 16) (by omega)).1;rw [HT4.o] at e;rw [<-e]
  congr 2
 have b4:t4<2 ^ 32:=by rw [<-HT4.o];exact (hT _ (by omega)).2
 obtain ⟨t5,HT5⟩:∃ t,Hid (T (80+r / 1048576 % 16)=t):=⟨_,rfl⟩;have c5:w.cell? ⟨g,80+((r:Int) / 1048576 % 16).toNat,none⟩=some (.int .u32 (t5:Nat)):=by
  have e:=(hT (80+r / 1048576 % 16) (by omega)).1;rw [HT5.o] at e;rw [<-e]
  congr 2
 have b5:t5<2 ^ 32:=by rw [<-HT5.o];exact (hT _ (by omega)).2
 obtain ⟨t6,HT6⟩:∃ t,Hid (T (96+r / 16777216 % 16)=t):=⟨_,rfl⟩;have c6:w.cell? ⟨g,96+((r:Int) / 16777216 % 16).toNat,none⟩=some (.int .u32 (t6:Nat)):=by
  have e:=(hT (96+r / 16777216 % 16) (by omega)).1;rw [HT6.o] at e;rw [<-e]
  congr 2
 have b6:t6<2 ^ 32:=by rw [<-HT6.o];exact (hT _ (by omega)).2
 obtain ⟨t7,HT7⟩:∃ t,Hid (T (112+r / 268435456)=t):=⟨_,rfl⟩;have c7:w.cell? ⟨g,112+((r:Int) / 268435456).toNat,none⟩=some (.int .u32 (t7:Nat)):=by
  have e:=(hT (112+r / 268435456) (by omega)).1;rw [HT7.o] at e;rw [<-e]
  congr 2
 have b7:t7<2 ^ 32:=by rw [<-HT7.o];exact (hT _ (by omega)).2
 have HX:=xor8 t0 t1 t2 t3 t4 t5 t6 t7 b0 b1 b2 b3 b4 b5 b6 b7;rw [HT0.o,HT1.o,HT2.o,HT3.o,HT4.o,HT5.o,HT6.o,HT7.o];clear hT b0 b1 b2 b3 b4 b5 b6 b7;go_enter func246,ntmps246;go_wp2;go_quiet (fail);go_wp2;go_ret;exact ⟨rfl,nq,rfl⟩
end Go.Proofs.YtdpdjpkmndnaaaaGreat
