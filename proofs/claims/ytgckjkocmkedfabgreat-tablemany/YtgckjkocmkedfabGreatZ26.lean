import Derived.Test.YtgckjkocmkedfabGreatZ20
import Derived.Test.YtgckjkocmkedfabGreatZ12
import Derived.ArgAppend
import Derived.Lib.SlBytesConst
set_option maxRecDepth 100000
set_option maxHeartbeats 16000000
set_option linter.unusedVariables false
namespace Go.Proofs.YtgckjkocmkedfabGreat
open Go.RowKit
def headB (num root:Nat):List Nat:=(([104,101,97,100]++ord num 8)++ord root 4)++(ord num 8).drop 4
theorem headB_len (num root:Nat):(headB num root).length=20:=by simp [headB,aDl]
theorem headB_lt (num root:Nat):∀ c∈headB num root,c<256:=by
 intro c hc
 simp only [headB,List.mem_append,List.mem_cons,List.not_mem_nil,or_false] at hc
 rcases hc with ((h | h) | h) | h
 ·omega
 ·exact aFv _ _ c h
 ·exact aFv _ _ c h
 ·exact aFv _ _ c (List.mem_of_mem_drop h)
theorem aBj (num root:Nat) (w:World) (hn:num≤4611686018427387904) :
  Calls Tryz.prog 233 #[.agg #[.int .i64 (num:Int),.int .i64 (root:Int)]] w fun e w'=>e=.returned (.int .i64 ((num % 2:Nat):Int))∧Below w.heap.size w w':=by
 have HB1:=hide (aAh w (.cells #[.int .i64 (num:Int),.int .i64 (root:Int)] 274))
 go_enter Tryz.func233,Tryz.ntmps233
 go_wp2
 go_ret
 exact ⟨rfl,HB1.out⟩
theorem aJb (num root:Nat) (w:World) (hn:num≤4611686018427387904) (hr:root<4294967296) :
  Calls Tryz.prog 263 #[.agg #[.int .i64 (num:Int),.int .i64 (root:Int)]] w fun e w'=>∃ v,e=.returned v∧w'.ownsRow w.heap.size 5 1 v 20 (cellsOf (headB num root))∧Below w.heap.size w w':=by
 have HB0:=hide (aAh w (.cells #[.int .i64 (num:Int),.int .i64 (root:Int)] 274))
 have HE:Hid (headB num root=(([104,101,97,100]++ord num 8)++ord root 4)++(ord num 8).drop 4):=rfl
 have c0:(w.alloc (.cells #[.int .i64 (num:Int),.int .i64 (root:Int)] 274)).cell? ⟨w.heap.size,1,none⟩=some (.int .i64 (root:Int)):=aAc (heap_alloc_new w _)
 have HC0:=hide c0
 have HZ:=hide (heap_alloc_new w (.cells #[.int .i64 (num:Int),.int .i64 (root:Int)] 274))
 clear c0
 generalize headB num root=P at *
 go_enter Tryz.func263,Tryz.ntmps263
 go_wp2_with fail
 refine (aCw num 8 _ (by omega) (by omega)).mono ?_
 rintro e w1 ⟨rfl,ho1,hb1⟩
 have c1:w1.cell? ⟨w.heap.size,1,none⟩=some (.int .i64 (root:Int)):=(hb1.cell (by simp)).trans HC0.out
 have HC1:=hide c1
 have HB1:=hide (HB0.out.trans (hb1.mono HB0.out.size))
 have HO1:=hide ho1
 have HLT:=hide (aEt ho1)
 clear ho1 hb1 c1
 generalize (w.alloc (.cells #[.int .i64 (num:Int),.int .i64 (root:Int)] 274)).heap.size=g at *
 have kc:=fun (w:World) (C:Array Value) (n c:Nat)=>Lib.run_convert_bytes_const (P:=Tryz.prog) w 82 5 C n c Tryz.underlying82 Tryz.underlying5
 have HBX:=hide ((Below.refl w1.heap.size w1).alloc (nR _) (.cells #[.int .u8 104,.int .u8 101,.int .u8 97,.int .u8 100] 5 (4,5)))
 have HLC:Hid (∀ j u,(cellsOf [104,101,97,100])[j]?=some u→(w1.alloc (.cells #[.int .u8 104,.int .u8 101,.int .u8 97,.int .u8 100] 5 (4,5))).cell? ((⟨w1.heap.size,0,none⟩:Addr).add j)=some u):=by
  intro j u hu
  rw [add_plain,Nat.zero_add,cell_of_row _ _ _ _ _ _ (heap_alloc_new w1 _)]
  simpa [cellsOf] using hu
 have HB2:=hide (HB1.out.trans (HBX.out.mono HB1.out.size))
 have HN2:=hide (BS.ofOwns (aBb HO1.out HBX.out) (by omega) (aFv num 8))
 have HC2:Hid ((w1.alloc (.cells #[.int .u8 104,.int .u8 101,.int .u8 97,.int .u8 100] 5 (4,5))).cell? ⟨w.heap.size,1,none⟩=some (.int .i64 (root:Int))):=(HBX.out.cell (aAk HC1.out)).trans HC1.out
 obtain ⟨i0,hi,hz0,hz1,hz2⟩:=info_parts aE2
 go_wp2_with (refine wpList_append_grows _ rfl (.tmp 10) (.tmp 11) 82 rfl 5 i0 (.int .u8 0) 1 1 Tryz.underlying82 hi hz0 hz1 hz2 rfl (by omega) (some ⟨w1.heap.size,0,none⟩) 4 4 (cellsOf [104,101,97,100]) rfl (by simp) rfl (fun b hb=>by cases hb;exact HLC.out) ⟨g,0,none⟩ 8 8 (cellsOf (ord num 8)) rfl (by rw [aAi,aDl]) HN2.out.news (aAy _) (by omega) (by unfold maxLen;omega) (by omega) ?_;intro v3 w3 ho3 hg3;rw [←aAt] at ho3;have HB3:=hide ((Below.refl _ _).grown hg3 (nR _) (fun k hk=>by cases hk));have HO3:=hide ho3;have c3:=(HB3.out.cell (aAk HC2.out)).trans HC2.out;clear ho3 hg3)
 generalize w1.alloc (.cells #[.int .u8 104,.int .u8 101,.int .u8 97,.int .u8 100] 5 (4,5))=w2 at *
 refine (aCw root 4 w3 (by omega) (by omega)).mono ?_
 rintro e w4 ⟨rfl,ho4,hb4⟩
 have HO4:=hide (aBb HO3.out hb4)
 have HB4:=hide (HB3.out.trans (hb4.mono HB3.out.size))
 have HR4:=hide (BS.ofOwns ho4 (by omega) (aFv root 4))
 clear ho4 hb4 c3
 go_wp2_with (first
  | (refine aA9 rfl (.tmp 13) (.tmp 17) rfl w2.heap.size _ 12 ([104,101,97,100]++ord num 8) rfl HO4.out _ 4 4 (ord root 4) rfl HR4.out (by omega) w2 HB4.out HB4.out.size ?_;intro v5 w5 ho5 hb5 hs5;have HO5:=hide ho5;have HB5:=hide hb5;have HN5:=hide (bs_sub (HN2.out.later hb5 (nR _)) 4 4 (by omega));clear ho5 hb5)
  | (refine aA9 rfl (.tmp 19) (.tmp 21) rfl w2.heap.size _ 16 (([104,101,97,100]++ord num 8)++ord root 4) rfl HO5.out _ 4 4 ((ord num 8).drop 4) rfl (by have h:=HN5.out;rw [List.take_of_length_le (by rw [List.length_drop,aDl];omega)] at h;exact h) (by omega) w2 HB5.out HB5.out.size ?_;intro v6 w6 ho6 hb6 hs6;rw [←HE.out] at ho6;have HO6:=hide ho6;have HB6:=hide hb6;clear ho6 hb6))
 go_ret
 exact ⟨_,rfl,aEv HO6.out HB2.out.size,HB2.out.trans (HB6.out.mono HB2.out.size)⟩
end Go.Proofs.YtgckjkocmkedfabGreat
