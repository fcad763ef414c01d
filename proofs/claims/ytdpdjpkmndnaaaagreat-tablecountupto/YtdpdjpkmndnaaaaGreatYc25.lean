import Derived.Test.YtdpdjpkmndnaaaaGreatYc19
import Derived.Test.YtdpdjpkmndnaaaaGreatYc13
import Derived.ArgAppend
import Derived.Lib.SlBytesConst
set_option maxRecDepth 100000
set_option maxHeartbeats 16000000
set_option linter.unusedVariables false
namespace Go.Proofs.YtdpdjpkmndnaaaaGreat
open Go.RowKit _root_.Go.Proofs.Tryz
def headB (num root:Nat):List Nat:=(([104,101,97,100]++ord num 8)++ord root 4)++(ord num 8).drop 4
theorem headB_len (num root:Nat):(headB num root).length=20:=by simp [headB,aDt]
theorem headB_lt (num root:Nat):∀ c∈headB num root,c<256:=by
 intro c hc;simp only [headB,List.mem_append,List.mem_cons,List.not_mem_nil,or_false] at hc;rcases hc with ((h | h) | h) | h
 ·omega
 ·exact aGj _ _ c h
 ·exact aGj _ _ c h
 ·exact aGj _ _ c (List.mem_of_mem_drop h)
theorem aBo (num root:Nat) (w:World) (hn:num<=4611686018427387904) :
  Calls prog 185 #[.agg #[.int .i64 (num:Int),.int .i64 (root:Int)]] w fun e w'=>e=.returned (.int .i64 ((num % 2:Nat):Int))/\Below w.heap.size w w':=by
 have HB1:=zH (aAh w (.cells #[.int .i64 (num:Int),.int .i64 (root:Int)] 246));go_enter func185,ntmps185;go_wp2;go_ret;exact ⟨rfl,HB1.o⟩
theorem aJ1 (num root:Nat) (w:World) (hn:num<=4611686018427387904) (hr:root<4294967296) :
  Calls prog 215 #[.agg #[.int .i64 (num:Int),.int .i64 (root:Int)]] w fun e w'=>∃ v,e=.returned v/\w'.ownsRow w.heap.size 5 1 v 20 (cellsOf (headB num root))/\Below w.heap.size w w':=by
 have HB0:=zH (aAh w (.cells #[.int .i64 (num:Int),.int .i64 (root:Int)] 246));have HE:Hid (headB num root=(([104,101,97,100]++ord num 8)++ord root 4)++(ord num 8).drop 4):=rfl;have c0:(w.alloc (.cells #[.int .i64 (num:Int),.int .i64 (root:Int)] 246)).cell? ⟨w.heap.size,1,none⟩=some (.int .i64 (root:Int)):=aAc (heap_alloc_new w _);have HC0:=zH c0;have HZ:=zH (heap_alloc_new w (.cells #[.int .i64 (num:Int),.int .i64 (root:Int)] 246));clear c0;generalize headB num root=P at *
 go_enter func215,ntmps215;go_wp2_with fail;refine (aC6 num 8 _ (by omega) (by omega)).mono ?_;rintro e w1 ⟨rfl,ho1,hb1⟩;have c1:w1.cell? ⟨w.heap.size,1,none⟩=some (.int .i64 (root:Int)):=(hb1.cell (by simp)).trans HC0.o;have HC1:=zH c1;have HB1:=zH (HB0.o.trans (hb1.mono HB0.o.size));have HO1:=zH ho1;have HLT:=zH (aFa ho1);clear ho1 hb1 c1;generalize (w.alloc (.cells #[.int .i64 (num:Int),.int .i64 (root:Int)] 246)).heap.size=g at *
 have kc:=fun (w:World) (C:Array Value) (n c:Nat)=>Lib.run_convert_bytes_const (P:=prog) w 97 5 C n c underlying97 underlying5
 have HBX:=zH ((Below.refl w1.heap.size w1).alloc (nR _) (.cells #[.int .u8 104,.int .u8 101,.int .u8 97,.int .u8 100] 5 (4,5)));have HLC:Hid (∀ j u,(cellsOf [104,101,97,100])[j]?=some u->(w1.alloc (.cells #[.int .u8 104,.int .u8 101,.int .u8 97,.int .u8 100] 5 (4,5))).cell? ((⟨w1.heap.size,0,none⟩:Addr).add j)=some u):=by
  intro j u hu;rw [add_plain,Nat.zero_add,cell_of_row _ _ _ _ _ _ (heap_alloc_new w1 _)];simpa [cellsOf] using hu
 have HB2:=zH (HB1.o.trans (HBX.o.mono HB1.o.size));have HN2:=zH (BS.ofOwns (aBg HO1.o HBX.o) (by omega) (aGj num 8));have HC2:Hid ((w1.alloc (.cells #[.int .u8 104,.int .u8 101,.int .u8 97,.int .u8 100] 5 (4,5))).cell? ⟨w.heap.size,1,none⟩=some (.int .i64 (root:Int))):=(HBX.o.cell (aAm HC1.o)).trans HC1.o;obtain ⟨i0,hi,hz0,hz1,hz2⟩:=info_parts aFn;go_wp2_with (refine wpList_append_grows _ rfl (.tmp 10) (.tmp 11) 97 rfl 5 i0 (.int .u8 0) 1 1 underlying97 hi hz0 hz1 hz2 rfl (by omega) (some ⟨w1.heap.size,0,none⟩) 4 4 (cellsOf [104,101,97,100]) rfl (by simp) rfl (fun b hb=>by cases hb;exact HLC.o) ⟨g,0,none⟩ 8 8 (cellsOf (ord num 8)) rfl (by rw [aAi,aDt]) HN2.o.news (aA0 _) (by omega) (by unfold maxLen;omega) (by omega) ?_;intro v3 w3 ho3 hg3;rw [<-aAt] at ho3;have HB3:=zH ((Below.refl _ _).grown hg3 (nR _) (fun k hk=>by cases hk));have HO3:=zH ho3;have c3:=(HB3.o.cell (aAm HC2.o)).trans HC2.o;clear ho3 hg3);generalize w1.alloc (.cells #[.int .u8 104,.int .u8 101,.int .u8 97,.int .u8 100] 5 (4,5))=w2 at *
 refine (aC6 root 4 w3 (by omega) (by omega)).mono ?_;rintro e w4 ⟨rfl,ho4,hb4⟩;have HO4:=zH (aBg HO3.o hb4);have HB4:=zH (HB3.o.trans (hb4.mono HB3.o.size));have HR4:=zH (BS.ofOwns ho4 (by omega) (aGj root 4));clear ho4 hb4 c3
 go_wp2_with (first
  | (refine aBd rfl (.tmp 13) (.tmp 17) rfl w2.heap.size _ 12 ([104,101,97,100]++ord num 8) rfl HO4.o _ 4 4 (ord root 4) rfl HR4.o (by omega) w2 HB4.o HB4.o.size ?_;intro v5 w5 ho5 hb5 hs5;have HO5:=zH ho5;have HB5:=zH hb5;have HN5:=zH (bs_sub (HN2.o.later hb5 (nR _)) 4 4 (by omega));clear ho5 hb5)
  | (refine aBd rfl (.tmp 19) (.tmp 21) rfl w2.heap.size _ 16 (([104,101,97,100]++ord num 8)++ord root 4) rfl HO5.o _ 4 4 ((ord num 8).drop 4) rfl (by have h:=HN5.o;rw [List.take_of_length_le (by rw [List.length_drop,aDt];omega)] at h;exact h) (by omega) w2 HB5.o HB5.o.size ?_;intro v6 w6 ho6 hb6 hs6;rw [<-HE.o] at ho6;have HO6:=zH ho6;have HB6:=zH hb6;clear ho6 hb6))
 go_ret;exact ⟨_,rfl,aFc HO6.o HB2.o.size,HB2.o.trans (HB6.o.mono HB2.o.size)⟩
end Go.Proofs.YtdpdjpkmndnaaaaGreat
