import Derived.Test.YtdpdjpkmndnaaaaGreatYb28
import Derived.Test.YtdpdjpkmndnaaaaGreatYb25
import Derived.Test.YtdpdjpkmndnaaaaGreatYb17
import Derived.Test.YtdpdjpkmndnaaaaGreatYb23
set_option maxRecDepth 100000
set_option maxHeartbeats 16000000
set_option linter.unusedVariables false
namespace Go.Proofs.YtdpdjpkmndnaaaaGreat
open Go.RowKit _root_.Go.Proofs.Tryz
variable {B c gi kc kn n:Nat} {a ka:Option Addr} {key xs ys:List Nat} {l:List It} {w:World}
theorem bGq (v:Value) (w:World):(Instr.typeAssert (.iface 331 v) 294 331 false).run prog w=.ok v w:=by
 simp [Instr.typeAssert,run_underlying underlying331,go_sem,Result.andThen]
theorem bHs (v:Value) (w:World):(Instr.typeAssert (.iface 302 v) 294 302 false).run prog w=.ok v w:=by
 simp [Instr.typeAssert,run_underlying underlying302,go_sem,Result.andThen]
theorem bDj (v:Value) (w:World):(Instr.typeAssert (.iface 257 v) 294 257 false).run prog w=.ok v w:=by
 simp [Instr.typeAssert,run_underlying underlying257,go_sem,Result.andThen]
theorem aC2 (v:Value) (w:World):(Instr.typeAssert (.iface 302 v) 294 302 true).run prog w=.ok (.tuple #[v,.bool true]) w:=by
 simp [Instr.typeAssert,run_underlying underlying302,go_sem,Result.andThen]
theorem aDt (v:Value) (w:World):(Instr.typeAssert (.iface 331 v) 294 302 true).run prog w=.ok (.tuple #[.pointer none,.bool false]) w:=by
 simp [Instr.typeAssert,run_underlying underlying302,Result.andThen]
section
variable [Gd] {B p q:Nat} {s:DS} {t:PS} {w:World}
theorem aIf (i:Nat) (h:ST B p q s t w) (hB:B<=w.heap.size) (hl:s.life=t.life) (hi:i<s.n) (ho:t.of (i:Int)≠0) (hd:s.down=false) (l:List It) (hpg:bA0 (pad (s.show i))=some (bBf l)) (h1:1<=l.length) (h4:l.length<=4) (hok:∀ x∈l,ItOk x) (hs:Srt l) (hlb:(bBf l).length<=8192) (hbb:∀ c∈bBf l,c<256) :
  Calls prog 187 #[.pointer (some ⟨q,0,none⟩),.int .i64 (i:Int)] w fun e w'=>∃ v,e=.returned v/\LfN B w.heap.size w' v l/\Below w.heap.size w w':=by
 have HG:=zH (bK5 i h hB hl hi ho hd);rw [hpg] at HG;have HNO:=zH (fun (w1:World) (a:Option Addr) (c:Nat) (hb:BK B w1 a (bBf l).length c (bBf l)) (hB1:B<=w1.heap.size)=>bD8 hb hB1 l rfl h1 h4 hok hs);have HLB:=zH hlb;have HBB:=zH hbb;clear h hl ho hpg hok hs hlb hbb hd hi;generalize hxs:bBf l=xs at *
 generalize hn:xs.length=n at *;have HNN:=zH hn;clear hxs hn;go_enter func187,ntmps187;go_wp2_with fail;refine HG.o.mono ?_;rintro e w1 ⟨⟨v,rfl,hv⟩,hb1⟩;rw [HNN.o] at hv;have hv':=hv;rw [<-HNN.o] at hv';obtain ⟨a1,c1,rfl,hk1⟩:=BK.owned (B:=B) hv' (by rw [HNN.o];have:=HLB.o;omega) HBB.o;rw [HNN.o] at hk1 ⊢;have HK1:=zH hk1;have HB1:=zH hb1;clear hv hv' hk1 hb1 HG;go_wp2_with fail;refine (aA2 w1).mono ?_;rintro e w2 ⟨rfl,hw⟩;have hw:=hw.symm;subst hw;go_wp2_with fail;refine (HNO.o w1 a1 c1 HK1.o (nT hB HB1.o.size)).mono ?_;rintro e w3 ⟨v3,rfl,⟨gl,gi,rfl,z1,z2,z3,z4⟩,hb3⟩;have HZ:Hid (LfN B w.heap.size w3 (.iface 331 (.pointer (some ⟨gl,0,none⟩))) l):=⟨gl,gi,rfl,nT HB1.o.size z1,nT HB1.o.size z2,z3,z4⟩;have HB3:=zH (HB1.o.trans (hb3.mono HB1.o.size));clear z1 z2 z3 z4 hb3;go_wp2;go_ret;exact ⟨_,rfl,HZ.o,HB3.o⟩
theorem aKi (i:Nat) (h:ST B p q s t w) (hB:B<=w.heap.size) (hl:s.life=t.life) (hi:i<s.n) (ho:t.of (i:Int)≠0) (hd:s.down=false) (l:List It) (hpg:bA0 (pad (s.show i))=some (bBf l)) (h1:1<=l.length) (h4:l.length<=4) (hok:∀ x∈l,ItOk x) (hs:Srt l) (hlb:(bBf l).length<=8192) (hbb:∀ c∈bBf l,c<256) :
  Calls prog 218 #[.pointer (some ⟨q,0,none⟩),.int .i64 (i:Int),.int .i64 1] w fun e w'=>∃ v,e=.returned v/\LfN B w.heap.size w' v l/\Below w.heap.size w w':=by
 have HG:=zH (aIf i h hB hl hi ho hd l hpg h1 h4 hok hs hlb hbb);clear h hl ho hpg hok hs hlb hbb hd hi;go_enter func218,ntmps218;go_wp2_with fail;refine HG.o.mono ?_;rintro e w3 ⟨v3,rfl,⟨gl,gi,rfl,z1,z2,z3,z4⟩,hb3⟩;have HZ:Hid (LfN B w.heap.size w3 (.iface 331 (.pointer (some ⟨gl,0,none⟩))) l):=⟨gl,gi,rfl,z1,z2,z3,z4⟩;have HB3:=zH hb3;clear z1 z2 z3 z4 hb3;have ta:=bGq (.pointer (some ⟨gl,0,none⟩)) w3;go_wp2;go_ret;exact ⟨_,rfl,HZ.o,HB3.o⟩
theorem aF4 (i:Nat) (h:ST B p q s t w) (hB:B<=w.heap.size) (hl:s.life=t.life) (hi:i<s.n) (ho:t.of (i:Int)≠0) (hd:s.down=false) (l:List It) (ids:List Nat) (hpg:bA0 (pad (s.show i))=some (bA3 l ids)) (hids:ids.length=l.length+1) (hid:∀ x∈ids,x<9223372036854775808) (h1:1<=l.length) (h4:l.length<=4) (hok:∀ x∈l,ItOk x) (hs:Srt l) (hlb:(bA3 l ids).length<=8192) (hbb:∀ c∈bA3 l ids,c<256) :
  Calls prog 187 #[.pointer (some ⟨q,0,none⟩),.int .i64 (i:Int)] w fun e w'=>∃ v,e=.returned v/\BrN B w.heap.size w' v l ids/\Below w.heap.size w w':=by
 have HG:=zH (bK5 i h hB hl hi ho hd);rw [hpg] at HG;have HNO:=zH (fun (w1:World) (a:Option Addr) (c:Nat) (hb:BK B w1 a (bA3 l ids).length c (bA3 l ids)) (hB1:B<=w1.heap.size)=>aKf hb hB1 l ids rfl hids hid h1 h4 hok hs);have HLB:=zH hlb;have HBB:=zH hbb;clear h hl ho hpg hok hs hlb hbb hd hi hids hid;generalize hxs:bA3 l ids=xs at *
 generalize hn:xs.length=n at *;have HNN:=zH hn;clear hxs hn;go_enter func187,ntmps187;go_wp2_with fail;refine HG.o.mono ?_;rintro e w1 ⟨⟨v,rfl,hv⟩,hb1⟩;rw [HNN.o] at hv;have hv':=hv;rw [<-HNN.o] at hv';obtain ⟨a1,c1,rfl,hk1⟩:=BK.owned (B:=B) hv' (by rw [HNN.o];have:=HLB.o;omega) HBB.o;rw [HNN.o] at hk1 ⊢;have HK1:=zH hk1;have HB1:=zH hb1;clear hv hv' hk1 hb1 HG;go_wp2_with fail;refine (aA2 w1).mono ?_;rintro e w2 ⟨rfl,hw⟩;have hw:=hw.symm;subst hw;go_wp2_with fail;refine (HNO.o w1 a1 c1 HK1.o (nT hB HB1.o.size)).mono ?_;rintro e w3 ⟨v3,rfl,⟨gl,gi,gc,rfl,z1,z2,z5,z3,z4,z6⟩,hb3⟩;have HZ:Hid (BrN B w.heap.size w3 (.iface 302 (.pointer (some ⟨gl,0,none⟩))) l ids):=⟨gl,gi,gc,rfl,nT HB1.o.size z1,nT HB1.o.size z2,nT HB1.o.size z5,z3,z4,z6⟩;have HB3:=zH (HB1.o.trans (hb3.mono HB1.o.size));clear z1 z2 z3 z4 z5 z6 hb3;go_wp2;go_ret;exact ⟨_,rfl,HZ.o,HB3.o⟩
theorem aIg (i:Nat) (hh:Nat) (h2:2<=hh) (h:ST B p q s t w) (hB:B<=w.heap.size) (hl:s.life=t.life) (hi:i<s.n) (ho:t.of (i:Int)≠0) (hd:s.down=false) (l:List It) (ids:List Nat) (hpg:bA0 (pad (s.show i))=some (bA3 l ids)) (hids:ids.length=l.length+1) (hid:∀ x∈ids,x<9223372036854775808) (h1:1<=l.length) (h4:l.length<=4) (hok:∀ x∈l,ItOk x) (hs:Srt l) (hlb:(bA3 l ids).length<=8192) (hbb:∀ c∈bA3 l ids,c<256) :
  Calls prog 218 #[.pointer (some ⟨q,0,none⟩),.int .i64 (i:Int),.int .i64 (hh:Int)] w fun e w'=>∃ v,e=.returned v/\BrN B w.heap.size w' v l ids/\Below w.heap.size w w':=by
 have HG:=zH (aF4 i h hB hl hi ho hd l ids hpg hids hid h1 h4 hok hs hlb hbb);clear h hl ho hpg hok hs hlb hbb hd hi hids hid;have qh:((hh:Int) == 1)=false:=by simp;omega
 go_enter func218,ntmps218;go_wp2_with fail;refine HG.o.mono ?_;rintro e w3 ⟨v3,rfl,⟨gl,gi,gc,rfl,z1,z2,z5,z3,z4,z6⟩,hb3⟩;have HZ:Hid (BrN B w.heap.size w3 (.iface 302 (.pointer (some ⟨gl,0,none⟩))) l ids):=⟨gl,gi,gc,rfl,z1,z2,z5,z3,z4,z6⟩;have HB3:=zH hb3;clear z1 z2 z3 z4 z5 z6 hb3;have ta:=bHs (.pointer (some ⟨gl,0,none⟩)) w3;go_wp2;go_ret;exact ⟨_,rfl,HZ.o,HB3.o⟩
end
theorem bGl {B:Nat} {k:Option Addr} {nk ck:Nat} (v:Value) (h:BS w a n c xs) (hk:BS w k nk ck ys) :
  Calls prog 237 #[.agg #[.slice a n c,v],.slice k nk ck] w fun e w'=>e=.returned (.int .i64 (bAb xs ys))/\Below w.heap.size w w':=by
 have HB:=zH (aAk w (.cells #[.slice a n c,v] 300));have r0:(w.alloc (.cells #[.slice a n c,v] 300)).cell? ⟨w.heap.size,0,none⟩=some (.slice a n c):=aAd (kBm w _);have HC:=zH (aA9 a k n c nk ck xs ys _ (h.later HB.o (nR _)) (hk.later HB.o (nR _)));clear h hk;go_enter func237,ntmps237;go_wp2_with fail;refine HC.o.mono ?_;rintro e w2 ⟨rfl,hw⟩;have hw:=hw.symm;subst hw;go_wp2;go_ret;exact ⟨rfl,HB.o⟩
theorem Srt.below (h:Srt l) (k:List Nat) {i:Nat} {x:It} (hx:l[i]?=some x):bAb x.1 k<0↔i<bAn l k:=by
 obtain ⟨h1,h2⟩:=h.part k;constructor
 ·intro hc;apply Classical.byContradiction;intro hn;have:x∈l.drop (bAn l k):=by
   have e:(l.drop (bAn l k))[i-bAn l k]?=some x:=by rw [List.getElem?_drop,show bAn l k+(i-bAn l k)=i by omega];exact hx
   exact mG e
  have:=h2 x this;omega
 ·intro hc;have e:(l.take (bAn l k))[i]?=some x:=by rw [kBd hc];exact hx
  exact h1 x (mG e)
theorem IR.cells (h:IR B w gi l) {i:Nat} {x:It} (hx:l[i]?=some x):∃ a c b d,w.cell? ⟨gi,i*2,none⟩=some (.slice a x.1.length c)/\w.cell? ⟨gi,i*2+1,none⟩=some (.slice b x.2.length d)/\BK B w a x.1.length c x.1/\BK B w b x.2.length d x.2:=by
 obtain ⟨kf,vf,h1,h2⟩:=h;obtain ⟨⟨a,c,e1,b1⟩,⟨b,d,e2,b2⟩⟩:=h2 i x hx;have hi:=(lL hx);refine ⟨a,c,b,d,?_,?_,b1,b2⟩
 ·rw [aAd h1,kAj,aBh kf vf i _ hi,e1]
 ·rw [aAd h1,kAj,aDi kf vf i _ hi,e2]
theorem bIt (hI:IR B w gi l) (hB:B<=w.heap.size) (hk:BS w ka kn kc key) (hl:l.length<=5) (hs:Srt l) {L:Nat} (hL:l.length=L) :
  Calls prog 236 #[.slice (some ⟨gi,0,none⟩) L L,.slice ka kn kc,.func (Fn.func 237) #[] #[]] w fun e w'=>e=.returned (.tuple #[.int .i64 (bAn l key:Int),.bool (bEj l key)])/\Below w.heap.size w w':=by
 have HI:=zH hI;have HK:=zH hk;have HS:=zH hs;have HLL:=zH hL;have HB:=zH hB;obtain ⟨F,hF⟩:∃ F,bAn l key=F:=⟨_,rfl⟩;have hFl:F<=L:=by rw [<-hF,<-hL];exact aKv l key
 have HF:=zH hF;have hl5:L<=5:=by omega
 rw [hF];clear hI hB hk hl hs hL hF;go_enter func236,ntmps236;go_wp2_with fail;go_loopw [9,10] (fun i j wx=>∃ a b:Nat,a<=F/\F<=b/\b<=L/\i=.int .i64 a/\j=.int .i64 b/\Below w.heap.size w wx) (fun i j _=>(intOf j-intOf i).toNat)
 case atStart=>exact ⟨0,L,by omega,hFl,by omega,rfl,rfl,kBh _ _⟩
 case round =>
  obtain ⟨a,b,haF,hFb,hbL,rfl,rfl,hB⟩:=hrel;have HBB:=zH hB;clear hB;by_cases hab:a<b
  ·have x1:(a:Int)<(b:Int):=by omega
   obtain ⟨x,hx⟩:∃ x,l[(a+b) / 2]?=some x:=⟨_,gE (by rw [HLL.o];omega)⟩;obtain ⟨xa,xc,ya,yc,r0,r1,hk1,hk2⟩:=(HI.o.later HBB.o HB.o).cells hx;have HC:=zH (bGl (B:=B) (.slice ya x.2.length yc) hk1.1 (HK.o.later HBB.o (nR _)));have hiff:=HS.o.below key hx;rw [HF.o] at hiff;clear hk1 hk2 hx;generalize x.1.length=n1 at *;generalize x.2.length=n2 at *;generalize bAb x.1 key=cv at *;go_wp2_with fail;refine HC.o.mono ?_;rintro e w3 ⟨rfl,hb3⟩;have HB3:=zH (HBB.o.trans (hb3.mono HBB.o.size));clear hb3 r0 r1 HC;by_cases hc:cv<0
   ·have hlt:=hiff.1 hc;clear hiff;go_wp2;go_roundw
    case rel=>exact ⟨(a+b) / 2+1,b,by omega,hFb,hbL,by go_num,rfl,HB3.o⟩
    case measure=>simp [intOf];omega
   ·have hge:¬ (a+b) / 2<F:=fun q=>hc (hiff.2 q)
    clear hiff;go_wp2;go_roundw
    case rel=>exact ⟨a,(a+b) / 2,haF,by omega,by omega,rfl,by go_num,HB3.o⟩
    case measure=>simp [intOf];omega
  ·have x1:¬ (a:Int)<(b:Int):=by omega
   have e1:a=F:=by omega
   have e2:b=F:=by omega
   subst e1;subst e2;have HH:=zH (HS.o.has key);rw [HF.o] at HH;by_cases hbl:b<L
   ·have x2:(b:Int)<(L:Int):=by omega
    obtain ⟨x,hx⟩:∃ x,l[b]?=some x:=⟨_,gE (by rw [HLL.o];omega)⟩;obtain ⟨xa,xc,ya,yc,r0,r1,hk1,hk2⟩:=(HI.o.later HBB.o HB.o).cells hx;have HC:=zH (bGl (B:=B) (.slice ya x.2.length yc) hk1.1 (HK.o.later HBB.o (nR _)));have hE:bEj l key=decide (bAb x.1 key=0):=by
     rw [Bool.eq_iff_iff,HH.o];constructor
     ·rintro ⟨y,hy,rfl⟩;rw [hx] at hy;simp only [oI] at hy;subst hy;simp [aAu]
     ·intro hq;exact ⟨x,hx,aDr (of_decide_eq_true hq)⟩
    have HE:=zH hE;clear hk1 hk2 hx hE HH;generalize x.1.length=n1 at *;generalize x.2.length=n2 at *;generalize bAb x.1 key=cv at *;go_wp2_with fail;refine HC.o.mono ?_;rintro e w3 ⟨rfl,hb3⟩;have HB3:=zH (HBB.o.trans (hb3.mono HBB.o.size));clear hb3 r0 r1 HC;by_cases hc:cv=0
    ·subst hc;go_wp2;go_ret2;refine ⟨?_,HB3.o⟩;rw [HE.o];rfl
    ·have hcb:(cv == 0)=false:=by simp [hc]
     go_wp2;go_ret2;refine ⟨?_,HB3.o⟩;rw [HE.o,kAd hc];rfl
   ·have x2:¬ (b:Int)<(L:Int):=by omega
    have hE:bEj l key=false:=by
     rw [Bool.eq_false_iff];intro hq;obtain ⟨x,hx,_⟩:=HH.o.1 hq;have:=(lL hx);rw [HLL.o] at this;omega
    have HE:=zH hE;clear HH hE;go_wp2;go_ret2;refine ⟨?_,HBB.o⟩;rw [HE.o];rfl
theorem find_ok (hI:IR B w gi l) (hB:B<=w.heap.size) (hk:BS w ka kn kc key) (hl:l.length<=5) (hs:Srt l) {L:Nat} (hL:l.length=L) :
  Calls prog 219 #[.slice (some ⟨gi,0,none⟩) L L,.slice ka kn kc] w fun e w'=>e=.returned (.tuple #[.int .i64 (bAn l key:Int),.bool (bEj l key)])/\Below w.heap.size w w':=by
 have HC:=zH (bIt hI hB hk hl hs hL);clear hI hB hk hl hs hL;generalize bAn l key=F at *;generalize bEj l key=b at *;go_enter func219,ntmps219;go_wp2_with fail;refine HC.o.mono ?_;rintro e w3 ⟨rfl,hb3⟩;have HB3:=zH hb3;clear hb3;go_wp2;go_ret2;exact ⟨rfl,HB3.o⟩
end Go.Proofs.YtdpdjpkmndnaaaaGreat
