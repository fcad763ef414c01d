import Derived.Test.YtmmcebojbbdfmaaGreatY18
import Derived.Test.YtmmcebojbbdfmaaGreatY21
set_option maxRecDepth 100000
set_option maxHeartbeats 16000000
set_option linter.unusedVariables false
namespace Go.Proofs.YtmmcebojbbdfmaaGreat
open Go.RowKit _root_.Go.Proofs.Tryz
variable {B b cap k len o pos:Nat} {s:ByteArray} {v:Value} {w w1 wr:World} {xs ys:List Nat}
def runeB (rs:List Nat):List Nat:=rs.flatMap fun r=>hiB (r+1) 3
def numB (n:Int):Nat:=(n+9223372036854775808).toNat
def H.bytes (h:H) (rs:List Nat):List Nat:=match h with
 | .nothing=>[1]
 | .number n=>2::hiB (numB n) 8
 | .text _=>3::(runeB rs++hiB 0 3)
 | .truth b=>[4,(bi b).toNat]
 | .none=>[1]
theorem aBr (k:Nat) (w:World) (hk:k<255):Calls prog 91 #[.int .i64 k] w fun e w'=>e=.returned (.int .u8 (k+1:Nat))/\w'=w:=by
 go_enter func91,ntmps91;go_wp2;go_ret;exact ⟨by congr 2,rfl⟩
theorem aEq (x:Nat) (h:x<2 ^ 63):x ^^^ 2 ^ 63=x+2 ^ 63:=by
 apply Nat.eq_of_testBit_eq;intro i;rw [Nat.testBit_xor,Nat.testBit_two_pow,Nat.add_comm];by_cases h1:i=63
 ·subst h1;rw [Nat.testBit_two_pow_add_eq,Nat.testBit_lt_two_pow h];rfl
 ·by_cases h2:i<63
  ·rw [Nat.testBit_two_pow_add_gt h2];have:decide (63=i)=false:=by simp;omega
   rw [this];simp
  ·have h3:2 ^ 64<=2 ^ i:=Nat.pow_le_pow_right (by decide) (by omega);rw [Nat.testBit_lt_two_pow (x:=x) (by omega),Nat.testBit_lt_two_pow (x:=2 ^ 63+x) (by omega)];have:decide (63=i)=false:=by simp;omega
   rw [this];rfl
theorem numB_lt (n:Int) (h0:-9223372036854775808<=n) (h1:n<=9223372036854775807):numB n<18446744073709551616:=by unfold numB;omega
theorem xor_num (n:Int) (h0:-9223372036854775808<=n) (h1:n<=9223372036854775807):bits .xor .u64 (IntKind.u64.wrap n) 9223372036854775808=((numB n:Nat):Int):=by
 have key:∀ x:Nat,x<18446744073709551616->bits .xor .u64 (x:Int) 9223372036854775808=((x ^^^ 2 ^ 63:Nat):Int):=fun x hx=>by
  have:=u64_xor_nat x (2 ^ 63) (by omega) (by decide);simpa using this
 by_cases h:0<=n
 ·obtain ⟨x,rfl⟩:∃ x:Nat,n=(x:Int):=⟨n.toNat,by omega⟩;have e:IntKind.u64.wrap (x:Int)=(x:Int):=by rw [IntKind.wrap_u64];omega
  rw [e,key x (by omega),aEq x (by omega)];unfold numB;omega
 ·obtain ⟨x,hx⟩:∃ x:Nat,n+9223372036854775808=(x:Int):=⟨(n+9223372036854775808).toNat,by omega⟩;have e:IntKind.u64.wrap n=((x+2 ^ 63:Nat):Int):=by rw [IntKind.wrap_u64];omega
  rw [e,key _ (by omega),<-aEq x (by omega),Nat.xor_assoc,Nat.xor_self,Nat.xor_zero];unfold numB;omega
theorem aC7 (a b c:Value) (w:World):(Instr.field 73 (.agg #[a,b,c]) 0).run prog w=.ok a w:=by kernel_rfl
theorem aDz (B:Nat) (v:Value) (xs:List Nat) (w:World) (ho:w.ownsRow B 5 1 v xs.length (cellsOf xs)) (hB:B<=w.heap.size) (hl:xs.length<=549755813888) :
  Calls prog 70 #[v,H.nothing.val] w fun e w'=>∃ v',e=.returned v'/\GR B w v w' v' (xs++H.nothing.bytes []):=by
 have HS:=(GR.start ho hB).hid;clear ho;have a0:=fun w=>aB7 w
 have a1:=fun w=>aBq w
 have a2:=fun w=>aCi w
 have af:=aC7;have cr:=aAz H.nothing;unfold H.val H.out av at cr;have ck:=fun w=>aBr 0 w (by omega)
 unfold H.val;go_enter func70,ntmps70;go_wp2_with fail;refine (cr _).mono ?_;rintro e w1 ⟨rfl,hb1⟩;have HS1:=(HS.out.later hb1).hid;have hsz1:=hb1.size;clear hb1;go_wp2_with fail;refine (ck _).mono ?_;rintro e w2 ⟨rfl,hw2⟩;have hw2:=hw2.symm;subst hw2;go_wp2_with (at_builtin;refine aAv rfl (.tmp 13) (.tmp 18) rfl B w v _ _ rfl (HS1.out.alloc _) w1.heap.size 1 1 [0+1] rfl rfl (news1 _ _ _) (by omega) ?_);intro v2 w2 hR2;have HR2:=hR2.hid;clear hR2;go_wp2;go_ret;exact ⟨_,rfl,HR2.out⟩
theorem aEd (B:Nat) (v:Value) (xs:List Nat) (b:Bool) (w:World) (ho:w.ownsRow B 5 1 v xs.length (cellsOf xs)) (hB:B<=w.heap.size) (hl:xs.length<=549755813888) :
  Calls prog 70 #[v,(H.truth b).val] w fun e w'=>∃ v',e=.returned v'/\GR B w v w' v' (xs++(H.truth b).bytes []):=by
 have HS:=(GR.start ho hB).hid;clear ho;have a0:=fun w=>aCw b w
 have a1:=fun w=>aCg b w
 have a2:=fun w=>aDe b w
 have af:=aC7;have cr:=aAz (H.truth b);unfold H.val H.out av at cr;have ck:=fun w=>aBr 3 w (by omega)
 unfold H.val;go_enter func70,ntmps70;go_wp2_with fail;refine (cr _).mono ?_;rintro e w1 ⟨rfl,hb1⟩;have HS1:=(HS.out.later hb1).hid;have hsz1:=hb1.size;clear hb1;go_wp2_with fail;refine (ck _).mono ?_;rintro e w2 ⟨rfl,hw2⟩;have hw2:=hw2.symm;subst hw2;go_wp2_with (at_builtin;refine aAv rfl (.tmp 13) (.tmp 18) rfl B w v _ _ rfl (HS1.out.alloc _) w1.heap.size 1 1 [3+1] rfl rfl (news1 _ _ _) (by omega) ?_);intro v2 w2 hR2;have HR2:=hR2.hid;clear hR2;have cb:=aFj b;obtain ⟨x,hx,HX⟩:∃ x:Nat,bi b=(x:Int)/\Hid (x=(bi b).toNat/\x<=1):=by cases b<;>first | exact ⟨0,rfl,hidc (by decide)⟩ | exact ⟨1,rfl,hidc (by decide)⟩
 go_wp2_with fail;refine (cb _).mono ?_;rintro e w3 ⟨rfl,hw3⟩;have hw3:=hw3.symm;subst hw3;have hx2:(x:Int) % 256=(x:Int):=by have:=HX.out.2;omega
 go_wp2_with (at_builtin;refine aAv rfl (.tmp 37) (.tmp 41) rfl B w v _ _ rfl (HR2.out.alloc _) w2.heap.size 1 1 [x] rfl rfl (news1 _ _ _) (by simp;omega) ?_);intro v3 w3 hR3;have HR3:=hR3.hid;clear hR3;go_wp2;go_ret;refine ⟨_,rfl,?_⟩;have:=HR3.out;rw [HX.out.1] at this;simpa [H.bytes] using this
theorem aD5 (B:Nat) (v:Value) (xs:List Nat) (n:Int) (w:World) (ho:w.ownsRow B 5 1 v xs.length (cellsOf xs)) (hB:B<=w.heap.size) (hl:xs.length<=549755813888) (hn0:-9223372036854775808<=n) (hn1:n<=9223372036854775807) :
  Calls prog 70 #[v,(H.number n).val] w fun e w'=>∃ v',e=.returned v'/\GR B w v w' v' (xs++(H.number n).bytes []):=by
 have HS:=(GR.start ho hB).hid;clear ho;have a0:=fun w=>aCh n w
 have a1:=fun w=>aBv n w
 have a2:=fun w=>aCy n w
 have af:=aC7;have cr:=aAz (H.number n);unfold H.val H.out av at cr;have ck:=fun w=>aBr 1 w (by omega)
 unfold H.val;go_enter func70,ntmps70;go_wp2_with fail;refine (cr _).mono ?_;rintro e w1 ⟨rfl,hb1⟩;have HS1:=(HS.out.later hb1).hid;have hsz1:=hb1.size;clear hb1;go_wp2_with fail;refine (ck _).mono ?_;rintro e w2 ⟨rfl,hw2⟩;have hw2:=hw2.symm;subst hw2;go_wp2_with (at_builtin;refine aAv rfl (.tmp 13) (.tmp 18) rfl B w v _ _ rfl (HS1.out.alloc _) w1.heap.size 1 1 [1+1] rfl rfl (news1 _ _ _) (by omega) ?_);intro v2 w2 hR2;have HR2:=hR2.hid;clear hR2;have hxn:=xor_num n hn0 hn1;have hlen:(xs++[1+1]).length<=1099511627776:=by simp;omega
 have hB2:=nT HR2.out.base HR2.out.size;go_wp2_with fail;refine (aBw B v2 (xs++[1+1]) (numB n) 8 w2 HR2.out.own hB2 (numB_lt n hn0 hn1) (by omega) hlen).mono ?_;rintro e w3 ⟨v3,rfl,hR3⟩;have HR3:=(HR2.out.trans hR3).hid;clear hR3;go_wp2;go_ret;refine ⟨_,rfl,?_⟩;have:=HR3.out;simpa [H.bytes] using this
theorem runeB_append (a b:List Nat):runeB (a++b)=runeB a++runeB b:=by simp [runeB]
theorem aCm (rs:List Nat):(runeB rs).length=3*rs.length:=by
 induction rs with
 | nil=>rfl
 | cons r rs ih =>
  have e:runeB (r::rs)=hiB (r+1) 3++runeB rs:=by simp [runeB]
  rw [e,lA,aCp,ih];simp;omega
theorem GR.other {w0:World} {v0 v1:Value} (h:GR B w0 v0 w1 v1 xs) {k:Nat} (hk:k<w0.heap.size) (hne:some k≠v0.ownBlock):some k≠v1.ownBlock:=by
 rcases h.lies with e | ⟨j,e,hj⟩
 ·rw [e];exact hne
 ·rw [e];intro h2;cases h2;omega
structure TX (B:Nat) (w:World) (v:Value) (wr:World) (b:Value) (K:Nat) (s:ByteArray) (pos:Nat) (ys:List Nat):Prop where
 gr:GR B w v wr b ys
 it:wr.heap[K]?=some (.stringIter s pos)
 ne:some K≠b.ownBlock
theorem TX.hid {b:Value} {K:Nat} (h:TX B w v wr b K s pos ys):Hid (TX B w v wr b K s pos ys):=h
theorem TX.moved {b:Value} {K:Nat} (h:TX B w v wr b K s pos ys) (hK:w.heap.size<=K) (p:Nat):TX B w v (wr.iterAt K s p) b K s p ys:=by
 have hsz:K<wr.heap.size:=(lO h.it);have hg:wr.grownBy (wr.iterAt K s p) (some K):=by
  refine ⟨rfl,rfl,rfl,by rw [Lib.iterAt_size];exact nR _,fun k hk hne=>?_⟩;exact Lib.iterAt_other wr K k s p (fun e=>hne (by rw [e]))
 refine ⟨⟨h.gr.own.kept hg ?_,h.gr.grown.andThen hg ?_,h.gr.lies,h.gr.base,h.gr.old⟩,Lib.iterAt_heap wr K s pos p h.it,h.ne⟩
 ·exact Or.inr fun e=>h.ne e.symm
 ·intro j hj;cases hj;exact Or.inl hK
theorem TX.grow {b b1:Value} {K:Nat} {zs:List Nat} (h:TX B w v wr b K s pos ys) (hg:GR B wr b w1 b1 zs):TX B w v w1 b1 K s pos zs:=by
 have hsz:K<wr.heap.size:=(lO h.it);exact ⟨h.gr.trans hg,by rw [hg.kept hsz h.ne];exact h.it,hg.other hsz h.ne⟩
theorem aE7 (B:Nat) (v:Value) (xs:List Nat) (s:ByteArray) (rs:List Nat) (w:World) (ho:w.ownsRow B 5 1 v xs.length (cellsOf xs)) (hB:B<=w.heap.size) (hl:xs.length<=549755813888) (hs:s.size<=16777216) (hr:runes (bl s)=some rs) :
  Calls prog 70 #[v,(H.text s).val] w fun e w'=>∃ v',e=.returned v'/\GR B w v w' v' (xs++(H.text s).bytes rs):=by
 have HS:=(GR.start ho hB).hid;clear ho;have a0:=fun w=>aDf s w
 have a1:=fun w=>aCx s w
 have a2:=fun w=>aDy s w
 have af:=aC7;have cr:=aAz (H.text s);unfold H.val H.out av at cr;have ck:=fun w=>aBr 2 w (by omega)
 unfold H.val;go_enter func70,ntmps70;go_wp2_with fail;refine (cr _).mono ?_;rintro e w1 ⟨rfl,hb1⟩;have HS1:=(HS.out.later hb1).hid;have hsz1:=hb1.size;clear hb1;go_wp2_with fail;refine (ck _).mono ?_;rintro e w2 ⟨rfl,hw2⟩;have hw2:=hw2.symm;subst hw2;go_wp2_with (at_builtin;refine aAv rfl (.tmp 13) (.tmp 18) rfl B w v _ _ rfl (HS1.out.alloc _) w1.heap.size 1 1 [2+1] rfl rfl (news1 _ _ _) (by omega) ?_);intro v2 w2 hR2;have HR2:=hR2.hid;clear hR2;go_wp2_with fail;go_loopw [0] (fun b wr=>∃ (pos:Nat) (pre:List Nat),TX B w v wr b w2.heap.size s pos (xs++3::runeB pre)/\Met s pos pre/\pos<=s.size) (fun _ wr=>s.size-wr.iterPos w2.heap.size)
 case atStart =>
  refine ⟨0,[],⟨?_,?_,?_⟩,Met.start s,by omega⟩
  ·have:=HR2.out.alloc (.stringIter s 0);simpa [runeB,World.iter] using this
  ·exact World.iter_heap w2 s 0
  ·intro e;have:=(HR2.out.own.lt _ e.symm).2;omega
 case round =>
  obtain ⟨pos,pre,hT,hm,hps⟩:=hrel;have hpl:=hm.2;have HM:=hidc hm;have HT:=hT.hid;clear hm hT;by_cases hp:pos<s.size
  ·obtain ⟨R,W,hd⟩:∃ R W,dl ((bl s).drop pos)=(R,W):=⟨_,_,rfl⟩;have hw:=aCe (aCd hp);rw [hd,List.length_drop,aDc] at hw;have hnx:∀ ty,(Instr.next (.pointer (some ⟨w2.heap.size,0,none⟩)) true ty).run prog wr=.ok (.tuple #[.bool true,.int .i64 pos,.int .i32 R]) (wr.iterAt w2.heap.size s (pos+W)):=fun ty=>by
    rw [Lib.run_next_any_at wr w2.heap.size s pos ty HT.out.it hp,dec_at,hd]
   have hgood:(R,W)≠(65533,1):=by
    intro e;rw [e] at hd;rw [HM.out.bad hp hd] at hr;cases hr
   have hR:R<=1114111:=by
    obtain ⟨r,rest,g1,g2,_⟩:=dl_ok (aCd hp) (by rw [hd];exact hgood);rw [hd] at g1;simp only [Prod.mk.injEq] at g1;unfold vr at g2;omega
   have HD:=hidc hd;have HG:=hidc hgood;clear hd hgood;have HT2:=(HT.out.moved (nT HS.out.size (nT HR2.out.size (nR _))) (pos+W)).hid;have hB2:=nT HT2.out.gr.base HT2.out.gr.size;have hlen:(xs++3::runeB pre).length<=1099511627776:=by simp only [lA,List.length_cons,aCm];omega
   have HL:=hidc hlen;have HB2:=hidc hB2;clear hlen hB2;go_wp2_with (go_at_call 92;refine (aBw B _ (xs++3::runeB pre) (R+1) 3 _ HT2.out.gr.own HB2.out (by omega) (by omega) HL.out).mono ?_;rintro e w3 ⟨v3,rfl,hR3⟩;have HT3:=(HT2.out.grow hR3).hid;clear hR3);go_roundw
   case rel =>
    refine ⟨pos+W,pre++[R],?_,HM.out.step hp HD.out HG.out,by omega⟩;have:=HT3.out;rw [runeB_append];simpa [runeB] using this
   case measure =>
    simp only [World.iterPos,HT3.out.it,HT.out.it];omega
  ·have hnx:∀ ty,(Instr.next (.pointer (some ⟨w2.heap.size,0,none⟩)) true ty).run prog wr=_:=fun ty=>Lib.run_next_end_at wr w2.heap.size s pos ty HT.out.it hp
   have e:pre=rs:=by have:=HM.out.fin hp;rw [hr] at this;cases this;rfl
   have HE:=hidc e;clear e;have hB2:=nT HT.out.gr.base HT.out.gr.size;have hlen:(xs++3::runeB pre).length<=1099511627776:=by simp only [lA,List.length_cons,aCm];omega
   have HL:=hidc hlen;have HB2:=hidc hB2;clear hlen hB2;go_wp2_with (go_at_call 92;refine (aBw B _ (xs++3::runeB pre) 0 3 _ HT.out.gr.own HB2.out (by omega) (by omega) HL.out).mono ?_;rintro e w3 ⟨v3,rfl,hR3⟩;have HR3:=(HT.out.gr.trans hR3).hid;clear hR3);go_ret;refine ⟨_,rfl,?_⟩;have:=HR3.out;rw [HE.out] at this;simpa [H.bytes] using this
abbrev Val:=Int×Int×ByteArray
def Val.ok (x:Val):Prop:=-9223372036854775808<=x.1/\x.1<=9223372036854775807/\-9223372036854775808<=x.2.1/\x.2.1<=9223372036854775807/\x.2.2.size<=16777216
def Val.err (x:Val):Int:=rightOf x.1 x.2.1 x.2.2
def Val.bytes (x:Val):List Nat:=(holdOf x.1 x.2.1 x.2.2).bytes ((runes (bl x.2.2)).getD [])
structure VS (w:World) (a:Option Addr) (len cap:Nat) (vs:List Val):Prop where
 hlen:vs.length=len
 hcap:len<=cap
 hmax:len<=1099511627776
 hroom:cap<=9223372036854775807
 hok:∀ x∈vs,x.ok
 hcell:∀ b o,a=some ⟨b,o,none⟩->∀ i,i<len->w.cell? ⟨b,o+i*3,none⟩=some (.int .i64 (vs.getD i (0,0,⟨#[]⟩)).1)/\w.cell? ⟨b,o+i*3+1,none⟩=some (.int .i64 (vs.getD i (0,0,⟨#[]⟩)).2.1)/\w.cell? ⟨b,o+i*3+2,none⟩=some (.string (vs.getD i (0,0,⟨#[]⟩)).2.2)
 hform:0<len->∃ b o,a=some ⟨b,o,none⟩
def keyErr:List Val->Int
 | []=>0
 | x::r=>if x.err=0 then keyErr r else x.err
def keyBytes (vs:List Val):List Nat:=vs.flatMap Val.bytes
theorem aFh {k n:Int} (h:rightOf k n s=0):(k=0\/k=1\/k=2\/k=3)/\(k=2->∃ rs,runes (bl s)=some rs):=by
 unfold rightOf at h
 split at h
 ·rename_i h1
  refine ⟨?_,?_⟩
  ·refine Classical.byContradiction fun hn=>?_
   have e:holdOf k n s=.none:=by unfold holdOf;rw [if_neg (by omega),if_neg (by omega),if_neg (by omega),if_neg (by omega)]
   rw [e] at h1;simp only [H.eqv,eqv,Bool.and_eq_true,beq_iff_eq] at h1;omega
  ·intro h2
   cases hr:runes (bl s) with
   | none=>rw [if_pos ⟨h2,hr⟩] at h;cases h
   | some rs=>exact ⟨rs,rfl⟩
 ·cases h
theorem aEe (B:Nat) (v:Value) (xs:List Nat) (x:Val) (w:World) (ho:w.ownsRow B 5 1 v xs.length (cellsOf xs)) (hB:B<=w.heap.size) (hl:xs.length<=549755813888) (hx:x.ok) (he:x.err=0) :
  Calls prog 70 #[v,heldRight x.1 x.2.1 x.2.2] w fun e w'=>∃ v',e=.returned v'/\GR B w v w' v' (xs++x.bytes):=by
 obtain ⟨k,n,s⟩:=x;obtain ⟨o1,o2,o3,o4,o5⟩:=hx;simp only at o1 o2 o3 o4 o5;unfold Val.err at he;simp only at he;unfold Val.bytes heldRight;simp only [he,if_true];obtain ⟨hk,h2⟩:=aFh he;rcases hk with rfl | rfl | rfl | rfl
 ·have e:holdOf 0 n s=.nothing:=by simp [holdOf]
  rw [e];exact aDz B v xs w ho hB hl
 ·have e:holdOf 1 n s=.number n:=by simp [holdOf]
  rw [e];exact aD5 B v xs n w ho hB hl o3 o4
 ·have e:holdOf 2 n s=.text s:=by simp [holdOf]
  obtain ⟨rs,hr⟩:=h2 rfl;rw [e,hr];exact aE7 B v xs s rs w ho hB hl o5 hr
 ·have e:holdOf 3 n s=.truth (n == 1):=by simp [holdOf]
  rw [e];exact aEd B v xs (n == 1) w ho hB hl
theorem aEr (vs:List Val) (k:Nat) (h:∀ i,i<k->i<vs.length->(vs.getD i (0,0,⟨#[]⟩)).err=0):keyErr vs=keyErr (vs.drop k):=by
 induction k generalizing vs with
 | zero=>rfl
 | succ k ih =>
  cases vs with
  | nil=>rfl
  | cons x r =>
   have h0:=h 0 (by omega) (by simp);simp only [List.getD_cons_zero] at h0;have:keyErr r=keyErr (r.drop k):=ih r fun i hi hl=>by
    have:=h (i+1) (by omega) (by simp;omega);simpa using this
   simp only [keyErr,h0,if_true,List.drop_succ_cons];exact this
theorem keyErr_at {vs:List Val} (hk:k<vs.length) (h:∀ i,i<k->i<vs.length->(vs.getD i (0,0,⟨#[]⟩)).err=0) (he:(vs.getD k (0,0,⟨#[]⟩)).err≠0):keyErr vs=(vs.getD k (0,0,⟨#[]⟩)).err:=by
 rw [aEr vs k h,List.drop_eq_getElem_cons hk];have e:vs.getD k (0,0,⟨#[]⟩)=vs[k]:=by simp [List.getD,hk]
 rw [e] at he ⊢;simp only [keyErr,if_neg he]
theorem keyErr_all {vs:List Val} (h:∀ i,i<vs.length->(vs.getD i (0,0,⟨#[]⟩)).err=0):keyErr vs=0:=by
 rw [aEr vs vs.length fun i _ hl=>h i hl,List.drop_length];rfl
theorem aFy {vs:List Val} (hk:k<vs.length):keyBytes (vs.take (k+1))=keyBytes (vs.take k)++(vs.getD k (0,0,⟨#[]⟩)).bytes:=by
 rw [List.take_add_one];unfold keyBytes;rw [List.flatMap_append]
 congr 1
 simp [List.getD,hk]
theorem keyBytes_le (vs:List Val) (k:Nat):(keyBytes (vs.take k)).length<=(keyBytes vs).length:=by
 have:keyBytes vs=keyBytes (vs.take k)++keyBytes (vs.drop k):=by unfold keyBytes;rw [<-List.flatMap_append,List.take_append_drop]
 rw [this,lA];omega
theorem ok_getD {vs:List Val} (h:∀ x∈vs,x.ok) (k:Nat) (hk:k<vs.length):(vs.getD k (0,0,⟨#[]⟩)).ok:=by
 have e:vs.getD k (0,0,⟨#[]⟩)=vs[k]:=by simp [List.getD,hk]
 rw [e];exact h _ (List.getElem_mem hk)
def KeyR (vs:List Val) (B:Nat) (e:Ending) (w':World):Prop:=if keyErr vs=0 then ∃ v,e=.returned (.tuple #[v,.int .i64 0])/\w'.ownsRow B 5 1 v (keyBytes vs).length (cellsOf (keyBytes vs)) else e=.returned (.tuple #[.slice none 0 0,.int .i64 (keyErr vs)])
theorem VS.lt {vs:List Val} (h:VS w (some ⟨b,o,none⟩) len cap vs) (h0:0<len):b<w.heap.size:=by
 have:=(h.hcell b o rfl 0 h0).1;unfold World.cell? at this;refine Classical.byContradiction fun hn=>?_
 have e:w.heap[b]?=none:=Array.getElem?_eq_none (by omega);simp [e] at this
theorem key_any (a:Option Addr) (len cap:Nat) (vs:List Val) (w:World) (h:VS w a len cap vs) (ht:(keyBytes vs).length<=549755813888) :
  Calls prog 51 #[.slice a len cap] w fun e w'=>KeyR vs w.heap.size e w'/\Below w.heap.size w w':=by
 have hm:=h.hmax;have hc:=h.hcap;have hm2:=h.hroom;have HV:=hidc h;have HT:=hidc ht;clear ht h;go_enter func51,ntmps51;go_wp2;go_loopw [4,11] (fun v i wr=>∃ k:Nat,k<=len/\i=.int .i64 k/\GR w.heap.size w (.slice none 0 0) wr v (keyBytes (vs.take k))/\∀ i,i<k->i<vs.length->(vs.getD i (0,0,⟨#[]⟩)).err=0) (fun _ i _=>len-(intOf i).toNat)
 case atStart=>exact ⟨0,by omega,rfl,GR.start (World.ownsRow_nil _ _ _ _) (nR _),fun i hi=>absurd hi (by omega)⟩
 case round =>
  obtain ⟨k,hk,rfl,hG,hE⟩:=hrel;have HG:=hG.hid;have HE:=hidc hE;clear hG hE;by_cases hlt:k<len
  ·obtain ⟨b,o,ha⟩:=HV.out.hform (by omega);subst ha;have hvl:k<vs.length:=by rw [HV.out.hlen];exact hlt
   obtain ⟨x,HX⟩:∃ x,Hid (vs.getD k (0,0,⟨#[]⟩)=x):=⟨_,rfl⟩;have HOK:=hidc (ok_getD HV.out.hok k hvl);have hbw:=HV.out.lt (by omega);have hcs:=HV.out.hcell b o rfl k hlt;rw [HX.out] at hcs HOK;obtain ⟨c0,c1,c2⟩:=hcs;have hbel:=HG.out.below;rw [<-hbel.cell (p:=⟨b,o+k*3,none⟩) hbw] at c0;rw [<-hbel.cell (p:=⟨b,o+k*3+1,none⟩) hbw] at c1;rw [<-hbel.cell (p:=⟨b,o+k*3+2,none⟩) hbw] at c2;clear hbel;obtain ⟨xk,xn,xs⟩:=x;simp only at c0 c1 c2;obtain ⟨-,-,o3,o4,o5⟩:=HOK.out;simp only at o3 o4 o5;have HL:=hidc (nT (keyBytes_le vs k) HT.out);by_cases he:rightOf xk xn xs=0
   ·go_wp2_with (first
     | (go_at_call 69;refine (aCb xk xn xs _ o5).mono ?_;rintro e w1 ⟨rfl,hb1⟩;have HG1:=((HG.out.alloc _).later hb1).hid;have HB1:=hidc (nT HG1.out.base HG1.out.size);clear hb1)
     | (go_at_call 70;refine (aEe w.heap.size _ _ (xk,xn,xs) _ HG1.out.own HB1.out HL.out HOK.out he).mono ?_;rintro e w2 ⟨v2,rfl,hG2⟩;have HG2:=(HG1.out.trans hG2).hid;clear hG2))
    go_roundw
    case rel =>
     refine ⟨k+1,by omega,by go_num,?_,?_⟩
     ·rw [aFy hvl,HX.out];exact HG2.out
     ·intro i hi hil;by_cases hik:i=k
      ·subst hik;rw [HX.out];exact he
      ·exact HE.out i (by omega) hil
    case measure=>simp [intOf];omega
   ·have he2:(rightOf xk xn xs != 0)=true:=by simp [he]
    go_wp2_with (go_at_call 69;refine (aCb xk xn xs _ o5).mono ?_;rintro e w1 ⟨rfl,hb1⟩;have HG1:=((HG.out.alloc _).later hb1).hid;clear hb1);go_ret2;have e:keyErr vs=rightOf xk xn xs:=by
     have:=keyErr_at hvl HE.out (by rw [HX.out];exact he);rw [HX.out] at this;exact this
    unfold KeyR;rw [e,if_neg he];exact ⟨rfl,HG1.out.below⟩
  ·go_wp2;go_ret2;have e:k=vs.length:=by rw [HV.out.hlen];omega
   have e0:keyErr vs=0:=keyErr_all fun i hi=>HE.out i (by omega) hi
   unfold KeyR;rw [e0,if_pos rfl];have hG:=HG.out;rw [List.take_of_length_le (by omega)] at hG;exact ⟨⟨_,rfl,hG.own⟩,hG.below⟩
def rh (xs:List Nat):Option (H×Nat) :=
 if xs.getD 0 0=1 then some (.nothing,1)
 else if xs.getD 0 0=2 then (if 8<=(xs.drop 1).length then some (.number ((valHi ((xs.drop 1).take 8):Int)-9223372036854775808),9) else none)
 else if xs.getD 0 0=4 then (if 1<=(xs.drop 1).length/\valHi ((xs.drop 1).take 1)<=1 then some (.truth (decide (valHi ((xs.drop 1).take 1)=1)),2) else none)
 else if xs.getD 0 0=3 then (rt (xs.drop 1)).map (fun p=>(.text ⟨(encs p.1).toArray⟩,p.2+1))
 else none
def RHR (o:Option (H×Nat)) (e:Ending):Prop:=match o with
 | none=>∃ h k,e=.returned (.tuple #[h,k,.bool false])
 | some (h,k)=>e=.returned (.tuple #[h.val,.int .i64 (k:Nat),.bool true])
theorem xor_back (n:Nat) (h:n<18446744073709551616):IntKind.i64.wrap (bits .xor .u64 (n:Int) 9223372036854775808)=(n:Int)-9223372036854775808:=by
 have key:bits .xor .u64 (n:Int) 9223372036854775808=((n ^^^ 2 ^ 63:Nat):Int):=by
  have:=u64_xor_nat n (2 ^ 63) (by omega) (by decide);simpa using this
 rw [key,IntKind.wrap_i64];by_cases h1:n<2 ^ 63
 ·rw [aEq n h1];omega
 ·obtain ⟨m,rfl⟩:∃ m,n=m+2 ^ 63:=⟨n-2 ^ 63,by omega⟩;rw [<-aEq m (by omega),Nat.xor_assoc,Nat.xor_self,Nat.xor_zero,aEq m (by omega)];omega
theorem rt_le:∀ (xs:List Nat) (rs:List Nat) (k:Nat),rt xs=some (rs,k)->k<=xs.length:=by
 intro xs;generalize hn:xs.length=n
 induction n using Nat.strongRecOn generalizing xs with
 | _ n ih =>
  intro rs k h;rw [rt_eq] at h
  split at h
  ·cases h
  ·rename_i hl
   split at h
   ·cases h;omega
   ·split at h
    ·cases hr:rt (xs.drop 3) with
     | none=>rw [hr] at h;cases h
     | some q =>
      rw [hr] at h;simp only [Option.map_some,oI,Prod.mk.injEq] at h;have:=ih (n-3) (by omega) (xs.drop 3) (by rw [List.length_drop];omega) q.1 q.2 hr;omega
    ·cases h
theorem aD6 (b o len cap:Nat) (xs:List Nat) (w:World) (h:BS w (some ⟨b,o,none⟩) len cap xs) (h0:0<len) (hl:len<=33554432) :
  Calls prog 107 #[.slice (some ⟨b,o,none⟩) len cap] w fun e w'=>RHR (rh xs) e/\Below w.heap.size w w':=by
 have hcap:=h.hcap;have hmax:=h.hmax;obtain ⟨b',o',hbo,hbl,hc⟩:=h.place h0;cases hbo;have hc0:=hc 0 h0;rw [Nat.add_zero] at hc0;obtain ⟨x,Hx⟩:∃ x,Hid (xs.getD 0 0=x):=⟨_,rfl⟩;have hxb:x<256:=by rw [<-Hx.out];exact byteAt h.hbyte 0
 rw [Hx.out] at hc0;have hbz:(x:Int)<256:=by omega
 have hD:=bs_drop h 1 h0 hc;have HD:=hidr hD;have hlen:=h.hlen;have HL:=hidr hlen;have HBY:=hidr h.hbyte;have p1:(1:Int)<=(len:Int):=by omega
 clear h hc hD hlen;by_cases c1:x=1
 ·subst c1;have e:rh xs=some (.nothing,1):=by unfold rh;rw [Hx.out,if_pos rfl]
  rw [e];unfold RHR;go_enter func107,ntmps107;go_wp2
  all_goals go_ret3
  all_goals exact ⟨rfl,Below.refl _ _⟩
 ·by_cases c2:x=2
  ·subst c2;by_cases hcp:1<cap
   ·have hcp':(1:Int)<(cap:Int):=by omega
    have cH:=fun ww (hh:BS ww (some ⟨b,o+1,none⟩) (len-1) (cap-1) (xs.drop 1))=>aAw (some ⟨b,o+1,none⟩) (len-1) (cap-1) (xs.drop 1) 8 ww hh (by omega) (by omega)
    have hld:(xs.drop 1).length=len-1:=by rw [List.length_drop,HL.out]
    by_cases h8:8<=len-1
    ·obtain ⟨n,Hn⟩:∃ n,Hid (valHi ((xs.drop 1).take 8)=n):=⟨_,rfl⟩;have e1:hiN (xs.drop 1) 8=n:=by rw [<-Hn.out];exact if_neg (by rw [hld];omega)
     have e2:hiOk (xs.drop 1) 8=true:=by unfold hiOk;rw [hld];simp;omega
     rw [e1,e2] at cH;have hn:n<18446744073709551616:=by
      rw [<-Hn.out];have h1:=aDp ((xs.drop 1).take 8) fun m hm=>HBY.out m (List.mem_of_mem_drop (List.mem_of_mem_take hm))
      have h2:((xs.drop 1).take 8).length<=8:=by rw [List.length_take];omega
      exact Nat.lt_of_lt_of_le h1 (nT (Nat.pow_le_pow_right (by decide) h2) (by decide))
     have hx2:=xor_back n hn;have e:rh xs=some (.number ((n:Int)-9223372036854775808),9):=by unfold rh;rw [Hx.out,if_neg (by omega),if_pos rfl,if_pos (by rw [hld];exact h8),Hn.out]
     have HE:=hidr e;clear e e1 e2 hn hld;go_enter func107,ntmps107;go_wp2_with (first | (go_at_call 116;refine (cH _ HD.out).mono ?_;rintro e w1 ⟨rfl,hw1⟩;have hw1:=hw1.symm;subst hw1) | go_in);go_ret3;rw [HE.out];exact ⟨rfl,Below.refl _ _⟩
    ·have e1:hiN (xs.drop 1) 8=0:=if_pos (by rw [hld];omega);have e2:hiOk (xs.drop 1) 8=false:=by unfold hiOk;rw [hld];simp;omega
     rw [e1,e2] at cH;have e:rh xs=none:=by unfold rh;rw [Hx.out,if_neg (by omega),if_pos rfl,if_neg (by rw [hld];exact h8)]
     have HE:=hidr e;clear e e1 e2 hld;go_enter func107,ntmps107;go_wp2_with (first | (go_at_call 116;refine (cH _ HD.out).mono ?_;rintro e w1 ⟨rfl,hw1⟩;have hw1:=hw1.symm;subst hw1) | go_in);go_ret3;rw [HE.out];exact ⟨⟨_,_,rfl⟩,Below.refl _ _⟩
   ·have e3:cap=1:=by omega
    have e4:len=1:=by omega
    subst e3 e4;have hld:(xs.drop 1).length=0:=by rw [List.length_drop,HL.out]
    have cN:=fun ww=>aAw (some ⟨b,o,none⟩) 0 0 [] 8 ww (BS.none ww (some ⟨b,o,none⟩) 0 (by omega) (fun h=>by cases h)) (by omega) (by omega)
    have e5:hiN [] 8=0:=by decide
    have e6:hiOk [] 8=false:=by decide
    rw [e5,e6] at cN;have e:rh xs=none:=by unfold rh;rw [Hx.out,if_neg (by omega),if_pos rfl,if_neg (by rw [hld];omega)]
    have HE:=hidr e;clear e e5 e6 hld;go_enter func107,ntmps107;go_wp2_with (first | (go_at_call 116;refine (cN _).mono ?_;rintro e w1 ⟨rfl,hw1⟩;have hw1:=hw1.symm;subst hw1) | go_in);go_ret3;rw [HE.out];exact ⟨⟨_,_,rfl⟩,Below.refl _ _⟩
  ·by_cases c4:x=4
   ·subst c4;by_cases hcp:1<cap
    ·have hcp':(1:Int)<(cap:Int):=by omega
     have cH:=fun ww (hh:BS ww (some ⟨b,o+1,none⟩) (len-1) (cap-1) (xs.drop 1))=>aAw (some ⟨b,o+1,none⟩) (len-1) (cap-1) (xs.drop 1) 1 ww hh (by omega) (by omega)
     have hld:(xs.drop 1).length=len-1:=by rw [List.length_drop,HL.out]
     by_cases h8:1<=len-1
     ·obtain ⟨n,Hn⟩:∃ n,Hid (valHi ((xs.drop 1).take 1)=n):=⟨_,rfl⟩;have e1:hiN (xs.drop 1) 1=n:=by rw [<-Hn.out];exact if_neg (by rw [hld];omega)
      have e2:hiOk (xs.drop 1) 1=true:=by unfold hiOk;rw [hld];simp;omega
      rw [e1,e2] at cH;have hn:n<256:=by
       rw [<-Hn.out];have h1:=aDp ((xs.drop 1).take 1) fun m hm=>HBY.out m (List.mem_of_mem_drop (List.mem_of_mem_take hm))
       have h2:((xs.drop 1).take 1).length<=1:=by rw [List.length_take];omega
       exact Nat.lt_of_lt_of_le h1 (nT (Nat.pow_le_pow_right (by decide) h2) (by decide))
      by_cases n0:n=0
      ·subst n0;have e:rh xs=some (.truth false,2):=by unfold rh;rw [Hx.out,if_neg (by omega),if_neg (by omega),if_pos rfl,if_pos (by rw [hld,Hn.out];omega),Hn.out];rfl
       have HE:=hidr e;clear e e1 e2 hn hld;go_enter func107,ntmps107;go_wp2_with (first | (go_at_call 116;refine (cH _ HD.out).mono ?_;rintro e w1 ⟨rfl,hw1⟩;have hw1:=hw1.symm;subst hw1) | go_in);go_ret3;rw [HE.out];exact ⟨rfl,Below.refl _ _⟩
      ·by_cases n1:n=1
       ·subst n1;have e:rh xs=some (.truth true,2):=by unfold rh;rw [Hx.out,if_neg (by omega),if_neg (by omega),if_pos rfl,if_pos (by rw [hld,Hn.out];omega),Hn.out];rfl
        have HE:=hidr e;clear e e1 e2 hn hld;go_enter func107,ntmps107;go_wp2_with (first | (go_at_call 116;refine (cH _ HD.out).mono ?_;rintro e w1 ⟨rfl,hw1⟩;have hw1:=hw1.symm;subst hw1) | go_in);go_ret3;rw [HE.out];exact ⟨rfl,Below.refl _ _⟩
       ·have e:rh xs=none:=by unfold rh;rw [Hx.out,if_neg (by omega),if_neg (by omega),if_pos rfl,if_neg (by rw [hld,Hn.out];omega)]
        have HE:=hidr e;have hn9:decide ((n:Int)<=1)=false:=decide_eq_false (by omega);have hn8:(n:Int)<256:=by omega
        clear e e1 e2 hn hld n0 n1;go_enter func107,ntmps107;go_wp2_with (first | (go_at_call 116;refine (cH _ HD.out).mono ?_;rintro e w1 ⟨rfl,hw1⟩;have hw1:=hw1.symm;subst hw1) | go_in);go_ret3;rw [HE.out];exact ⟨⟨_,_,rfl⟩,Below.refl _ _⟩
     ·have e1:hiN (xs.drop 1) 1=0:=if_pos (by rw [hld];omega);have e2:hiOk (xs.drop 1) 1=false:=by unfold hiOk;rw [hld];simp;omega
      rw [e1,e2] at cH;have e:rh xs=none:=by unfold rh;rw [Hx.out,if_neg (by omega),if_neg (by omega),if_pos rfl,if_neg (by rw [hld];omega)]
      have HE:=hidr e;clear e e1 e2 hld;go_enter func107,ntmps107;go_wp2_with (first | (go_at_call 116;refine (cH _ HD.out).mono ?_;rintro e w1 ⟨rfl,hw1⟩;have hw1:=hw1.symm;subst hw1) | go_in);go_ret3;rw [HE.out];exact ⟨⟨_,_,rfl⟩,Below.refl _ _⟩
    ·have e3:cap=1:=by omega
     have e4:len=1:=by omega
     subst e3 e4;have hld:(xs.drop 1).length=0:=by rw [List.length_drop,HL.out]
     have cN:=fun ww=>aAw (some ⟨b,o,none⟩) 0 0 [] 1 ww (BS.none ww (some ⟨b,o,none⟩) 0 (by omega) (fun h=>by cases h)) (by omega) (by omega)
     have e5:hiN [] 1=0:=by decide
     have e6:hiOk [] 1=false:=by decide
     rw [e5,e6] at cN;have e:rh xs=none:=by unfold rh;rw [Hx.out,if_neg (by omega),if_neg (by omega),if_pos rfl,if_neg (by rw [hld];omega)]
     have HE:=hidr e;clear e e5 e6 hld;go_enter func107,ntmps107;go_wp2_with (first | (go_at_call 116;refine (cN _).mono ?_;rintro e w1 ⟨rfl,hw1⟩;have hw1:=hw1.symm;subst hw1) | go_in);go_ret3;rw [HE.out];exact ⟨⟨_,_,rfl⟩,Below.refl _ _⟩
   ·by_cases c3:x=3
    ·subst c3;have e:rh xs=(rt (xs.drop 1)).map (fun p=>(.text ⟨(encs p.1).toArray⟩,p.2+1)):=by unfold rh;rw [Hx.out,if_neg (by omega),if_neg (by omega),if_neg (by omega),if_pos rfl]
     by_cases hcp:1<cap
     ·have hcp':(1:Int)<(cap:Int):=by omega
      have cH:=fun ww (hh:BS ww (some ⟨b,o+1,none⟩) (len-1) (cap-1) (xs.drop 1))=>readText_any (some ⟨b,o+1,none⟩) (len-1) (cap-1) (xs.drop 1) ww hh (by omega)
      have hrl:=rt_le (xs.drop 1);have hld:(xs.drop 1).length=len-1:=by rw [List.length_drop,HL.out]
      rw [hld] at hrl
      cases hR:rt (xs.drop 1) with
      | none =>
       rw [hR] at cH e;have HE:=hidr e;clear e hld;unfold RTR at cH;go_enter func107,ntmps107;go_wp2_with (first | (go_at_call 117;refine (cH _ HD.out).mono ?_;rintro e w1 ⟨rfl,hb1⟩;have HB1:=hidr hb1;clear hb1) | go_in);go_ret3;rw [HE.out];exact ⟨⟨_,_,rfl⟩,HB1.out⟩
      | some q =>
       obtain ⟨rs,k⟩:=q;rw [hR] at cH e hrl;have hk:=hrl rs k rfl;have HE:=hidr e;clear e hrl hld;unfold RTR at cH;simp only at cH;go_enter func107,ntmps107;go_wp2_with (first | (go_at_call 117;refine (cH _ HD.out).mono ?_;rintro e w1 ⟨rfl,hb1⟩;have HB1:=hidr hb1;clear hb1) | go_in);go_ret3;rw [HE.out];refine ⟨?_,HB1.out⟩;show _=_;simp [H.val];omega
     ·have e3:cap=1:=by omega
      have e4:len=1:=by omega
      subst e3 e4;have hd:xs.drop 1=[]:=List.eq_nil_of_length_eq_zero (by rw [List.length_drop,HL.out]);have cN:=fun ww=>aDx (some ⟨b,o,none⟩) 0 ww (by omega) (fun h=>by cases h)
      have e7:rt []=none:=by decide
      rw [e7] at cN;rw [hd,e7] at e;have HE:=hidr e;clear e hd e7;unfold RTR at cN;go_enter func107,ntmps107;go_wp2_with (first | (go_at_call 117;refine (cN _).mono ?_;rintro e w1 ⟨rfl,hb1⟩;have HB1:=hidr hb1;clear hb1) | go_in);go_ret3;rw [HE.out];exact ⟨⟨_,_,rfl⟩,HB1.out⟩
    ·have e:rh xs=none:=by unfold rh;rw [Hx.out,if_neg c1,if_neg c2,if_neg c4,if_neg c3]
     have g1:((x:Int) == 1)=false:=by simp;omega
     have g2:((x:Int) == 2)=false:=by simp;omega
     have g3:((x:Int) == 3)=false:=by simp;omega
     have g4:((x:Int) == 4)=false:=by simp;omega
     have HE:=hidr e;clear e c1 c2 c3 c4;go_enter func107,ntmps107;go_wp2
     all_goals go_ret3
     all_goals rw [HE.out]
     all_goals exact ⟨⟨_,_,rfl⟩,Below.refl _ _⟩
abbrev v0:Val:=(0,0,⟨#[]⟩)
def H.ov:H->Val
 | .nothing=>(0,0,⟨#[]⟩)
 | .number n=>(1,n,⟨#[]⟩)
 | .text s=>(2,0,s)
 | .truth b=>(3,bi b,⟨#[]⟩)
 | .none=>(0,0,⟨#[]⟩)
def vc (x:Val):List Value:=[.int .i64 x.1,.int .i64 x.2.1,.string x.2.2]
def vcells (vs:List Val):List Value:=vs.flatMap vc
theorem out_ov (h:H):h.out=av h.ov.1 h.ov.2.1 h.ov.2.2:=by cases h<;>rfl
theorem vcells_snoc (vs:List Val) (x:Val):vcells (vs++[x])=vcells vs++vc x:=by simp [vcells]
def rdF:Nat->List Nat->Option (List Val)
 | 0,_=>some []
 | f+1,xs=>if xs=[] then some [] else match rh xs with
  | none=>none
  | some (h,k)=>(rdF f (xs.drop k)).map (h.ov::·)
def rd (xs:List Nat):Option (List Val):=rdF xs.length xs
theorem aFu {h:H} (hx:xs≠[]) (e:rh xs=some (h,k)):1<=k/\k<=xs.length:=by
 have h0:0<xs.length:=List.length_pos_iff.2 hx;have hd:(xs.drop 1).length=xs.length-1:=by rw [List.length_drop]
 unfold rh at e
 split at e
 ·cases e;omega
 ·split at e
  ·split at e
   ·cases e;omega
   ·cases e
  ·split at e
   ·split at e
    ·cases e;omega
    ·cases e
   ·split at e
    ·cases hr:rt (xs.drop 1) with
     | none=>rw [hr] at e;cases e
     | some q =>
      have:=rt_le (xs.drop 1) q.1 q.2 hr;rw [hr] at e;simp only [Option.map_some,oI,Prod.mk.injEq] at e;omega
    ·cases e
theorem aFx:∀ (f:Nat) (xs:List Nat),xs.length<=f->rdF f xs=rd xs
 | 0,xs,h=>by
  have:xs=[]:=List.eq_nil_of_length_eq_zero (by omega)
  subst this;rfl
 | f+1,xs,h=>by
  by_cases hx:xs=[]
  ·subst hx;rfl
  ·have h0:0<xs.length:=List.length_pos_iff.2 hx
   obtain ⟨n,hn⟩:∃ n,xs.length=n+1:=⟨xs.length-1,by omega⟩
   unfold rd
   rw [hn]
   simp only [rdF,if_neg hx]
   cases e:rh xs with
   | none=>rfl
   | some q =>
    obtain ⟨hh,k⟩:=q
    have:=aFu hx e
    simp only
    rw [aFx f _ (by rw [List.length_drop];omega),aFx n _ (by rw [List.length_drop];omega)]
 termination_by f=>f
theorem rd_nil:rd []=some []:=rfl
theorem rd_none (hx:xs≠[]) (e:rh xs=none):rd xs=none:=by
 obtain ⟨n,hn⟩:∃ n,xs.length=n+1:=⟨xs.length-1,by have:=List.length_pos_iff.2 hx;omega⟩;unfold rd;rw [hn];simp only [rdF,if_neg hx,e]
theorem rd_some {h:H} (hx:xs≠[]) (e:rh xs=some (h,k)):rd xs=(rd (xs.drop k)).map (h.ov::·):=by
 obtain ⟨n,hn⟩:∃ n,xs.length=n+1:=⟨xs.length-1,by have:=List.length_pos_iff.2 hx;omega⟩;have:=aFu hx e
 conv=>lhs;unfold rd
 rw [hn];simp only [rdF,if_neg hx,e];rw [aFx n _ (by rw [List.length_drop];omega)]
theorem info_av:(prog.info? 73).map (fun i=>(i.zero,i.size,i.bytes))=some (some (.agg #[.int .i64 0,.int .i64 0,.string ⟨#[]⟩]),3,32):=by kernel_rfl
structure VW (w:World) (wr:World) (v:Value) (vs:List Val):Prop where
 own:wr.ownsRow w.heap.size 73 3 v vs.length (vcells vs)
 bel:Below w.heap.size w wr
theorem VW.hid {vs:List Val} (h:VW w wr v vs):Hid (VW w wr v vs):=h
theorem VW.later {vs:List Val} (h:VW w wr v vs) (hb:Below wr.heap.size wr w1):VW w w1 v vs:=⟨aAm h.own hb,h.bel.trans (hb.mono h.bel.size)⟩
theorem VW.alloc {vs:List Val} (h:VW w wr v vs) (o:Obj):VW w (wr.alloc o) v vs:=h.later ((Below.refl _ _).alloc (nR _) _)
theorem news_av (wr:World) (k n:Int) (s:ByteArray) (t:TypeId):∀ j u,(vc (k,n,s))[j]?=some u->(wr.alloc (.cells #[.int .i64 k,.int .i64 n,.string s] t)).cell? ((⟨wr.heap.size,0,none⟩:Addr).add j)=some u:=by
 intro j u hj
 match j,hj with
 | 0,hj=>simp [vc] at hj;subst hj;simp [Addr.add]
 | 1,hj=>simp [vc] at hj;subst hj;simp [Addr.add]
 | 2,hj=>simp [vc] at hj;subst hj;simp [Addr.add]
theorem one_av (k n:Int) (s:ByteArray):∀ u∈vc (k,n,s),u.oneCell'=true:=by
 intro u hu;simp only [vc,List.mem_cons,List.mem_nil_iff,or_false] at hu;rcases hu with rfl | rfl | rfl<;>rfl
theorem aCj {ops:Array Oper} {rest:List Oper} {o:Oper} {a:Act} {Q:Exit->Act->World->Prop} (hgd:o.guard=none) (s x:Operand)
  (ho:o.op=.call { callee:=.builtin .append,args:=#[s,x],argTypes:=#[62,62] })
  (w:World) (v:Value) (vs:List Val) (hs:a.eval s=v) (k n:Int) (t:ByteArray) (hR:VW w wr v vs) (hx:a.eval x=.slice (some ⟨wr.heap.size,0,none⟩) 1 1) (hsize:vs.length<=33554432)
  (h:∀ v' w',VW w w' v' (vs++[(k,n,t)])->wpList prog ops Q rest (a.put o.dst v') w'):wpList prog ops Q (o::rest) a (wr.alloc (.cells #[.int .i64 k,.int .i64 n,.string t] 73)):=by
 obtain ⟨i0,hi,hz0,hz1,hz2⟩:=info_parts info_av;refine wpList_append_own_at _ hgd s x _ ho w.heap.size 73 i0 (.agg #[.int .i64 0,.int .i64 0,.string ⟨#[]⟩]) 3 32 underlying62 hi hz0 hz1 hz2 rfl (by omega) v vs.length (vcells vs) hs (hR.alloc _).own ⟨wr.heap.size,0,none⟩ 1 1 (vc (k,n,t)) hx rfl (news_av _ _ _ _ _) (one_av _ _ _) (by unfold maxLen;omega) (by omega) (by have:=hR.bel.size;simp;omega) ?_;intro v' w' h2 h3 _ h5;refine h v' w' ⟨?_,(hR.alloc _).bel.grown h3 (by have:=hR.bel.size;simp;omega) (fun j hj=>(hR.own.lt j hj).1)⟩;rw [lA,vcells_snoc];exact h2
def RdR (o:Option (List Val)) (B:Nat) (e:Ending) (w':World):Prop:=match o with
 | none=>e=.returned (.tuple #[.slice none 0 0,.int .i64 11])
 | some vs=>∃ v,e=.returned (.tuple #[v,.int .i64 0])/\w'.ownsRow B 73 3 v vs.length (vcells vs)
theorem aEb (h:BS w (some ⟨b,o,none⟩) len cap xs) (p:Nat) (hp:p<=len):BS w (some ⟨b,o+p,none⟩) (len-p) (cap-p) (xs.drop p):=by
 rcases Nat.eq_zero_or_pos len with h0 | h0
 ·have e:p=0:=by omega
  subst e;simpa using h
 ·obtain ⟨b',o',e,_,hc⟩:=h.place h0;cases e;exact bs_drop h p hp hc
theorem aCo {α:Type} (o:Option (List α)) (p:List α) (x:α):(o.map (x::·)).map (p++·)=o.map ((p++[x])++·):=by
 cases o<;>simp
theorem read_any (a:Option Addr) (len cap:Nat) (xs:List Nat) (w:World) (h:BS w a len cap xs) (hl:len<=33554432) :
  Calls prog 95 #[.slice a len cap] w fun e w'=>RdR (rd xs) w.heap.size e w'/\Below w.heap.size w w':=by
 have HX:=hidr h;clear h;go_enter func95,ntmps95;go_wp2;go_loopw [0,4] (fun s v wr=>∃ (a':Option Addr) (l' c':Nat) (ys:List Nat) (pre:List Val),s=.slice a' l' c'/\l'<=len/\pre.length+l'<=len/\BS w a' l' c' ys/\VW w wr v pre/\rd xs=(rd ys).map (pre++·)) (fun s _ _=>match s with | .slice _ l _=>l | _=>0)
 case atStart =>
  refine ⟨a,len,cap,xs,[],rfl,by omega,by simp,HX.out,⟨World.ownsRow_nil _ _ _ _,Below.refl _ _⟩,?_⟩
  cases rd xs<;>simp
 case round =>
  obtain ⟨a',l',c',ys,pre,rfl,hl1,hl2,hB,hV,hR⟩:=hrel;have HB:=hidr hB;have HV:=hV.hid;have HR:=hidr hR;have hcap:=hB.hcap;have hmax:=hB.hmax;clear hB hV hR;by_cases h0:0<l'
  ·obtain ⟨b,o,rfl,hbl,_⟩:=HB.out.place h0;have h0':(0:Int)<(l':Int):=by omega
   have hne:ys≠[]:=by
    intro e;have:=HB.out.hlen;rw [e] at this;simp at this;omega
   have HBr:=hidr (HB.out.later HV.out.bel (nR _))
   cases hq:rh ys with
   | none =>
    have HQ:=hidr (rd_none hne hq);have cR:=fun ww (hh:BS ww (some ⟨b,o,none⟩) l' c' ys)=>aD6 b o l' c' ys ww hh h0 (by omega)
    rw [hq] at cR;unfold RHR at cR;simp only at cR;go_wp2_with (go_at_call 107;refine (cR _ HBr.out).mono ?_;rintro e w1 ⟨⟨hh,kk,rfl⟩,hb1⟩;have HB1:=hidr (HV.out.bel.trans (hb1.mono HV.out.bel.size));clear hb1);go_ret2;rw [HR.out,HQ.out];exact ⟨rfl,HB1.out⟩
   | some q =>
    obtain ⟨hh,k⟩:=q;have HQ:=hidr (rd_some hne hq);have hks:=aFu hne hq;rw [HB.out.hlen] at hks;obtain ⟨hk1,hk2⟩:=hks;have cR:=fun ww (hh:BS ww (some ⟨b,o,none⟩) l' c' ys)=>aD6 b o l' c' ys ww hh h0 (by omega)
    rw [hq] at cR;unfold RHR at cR;simp only at cR;have cL:=aAz hh;rw [out_ov] at cL;unfold av at cL;have k0:(0:Int)<=(k:Int):=by omega
    have k1:(k:Int)<=(l':Int):=by omega
    by_cases hkc:k<c'
    ·have hkc':(k:Int)<(c':Int):=by omega
     go_wp2_with (first
      | (go_at_call 107;refine (cR _ HBr.out).mono ?_;rintro e w1 ⟨rfl,hb1⟩;have HV1:=(HV.out.later hb1).hid;clear hb1)
      | (go_at_call 89;refine (cL _).mono ?_;rintro e w2 ⟨rfl,hb2⟩;have HV2:=(HV1.out.later hb2).hid;clear hb2)
      | (at_builtin;refine aCj rfl (.tmp 19) (.tmp 22) rfl w _ pre rfl hh.ov.1 hh.ov.2.1 hh.ov.2.2 HV2.out rfl (by omega) ?_;intro v3 w3 hV3;have HV3:=hV3.hid;clear hV3))
     go_roundw
     case rel =>
      refine ⟨_,_,_,ys.drop k,pre++[hh.ov],rfl,by omega,by simp;omega,aEb HB.out k hk2,HV3.out,?_⟩;rw [HR.out,HQ.out];exact aCo _ _ _
     case measure=>simp;omega
    ·have e1:l'=c':=by omega
     have e2:k=c':=by omega
     have HD:Hid (ys.drop k=[]):=List.drop_eq_nil_of_le (by rw [HB.out.hlen];omega);subst e1 e2
     go_wp2_with (first
      | (go_at_call 107;refine (cR _ HBr.out).mono ?_;rintro e w1 ⟨rfl,hb1⟩;have HV1:=(HV.out.later hb1).hid;clear hb1)
      | (go_at_call 89;refine (cL _).mono ?_;rintro e w2 ⟨rfl,hb2⟩;have HV2:=(HV1.out.later hb2).hid;clear hb2)
      | (at_builtin;refine aCj rfl (.tmp 19) (.tmp 22) rfl w _ pre rfl hh.ov.1 hh.ov.2.1 hh.ov.2.2 HV2.out rfl (by omega) ?_;intro v3 w3 hV3;have HV3:=hV3.hid;clear hV3))
     go_roundw
     case rel =>
      refine ⟨_,_,_,[],pre++[hh.ov],rfl,by omega,by simp;omega,BS.none w _ 0 (by omega) (fun h=>by cases h),HV3.out,?_⟩;rw [HR.out,HQ.out,HD.out];exact aCo _ _ _
     case measure=>simp;omega
  ·go_wp2;go_ret2;have e:ys=[]:=List.eq_nil_of_length_eq_zero (by rw [HB.out.hlen];omega);rw [HR.out,e,rd_nil];refine ⟨?_,HV.out.bel⟩;simp only [Option.map_some,List.append_nil,RdR];exact ⟨_,rfl,HV.out.own⟩
end Go.Proofs.YtmmcebojbbdfmaaGreat
