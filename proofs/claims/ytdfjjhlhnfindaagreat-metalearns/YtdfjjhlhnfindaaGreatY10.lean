import Derived.Test.YtdfjjhlhnfindaaGreatY9
set_option maxRecDepth 100000
set_option maxHeartbeats 16000000
set_option linter.unusedVariables false
set_option linter.unusedSimpArgs false
namespace Go.Proofs.YtdfjjhlhnfindaaGreat
open Go.RowKit Tryz
variable {B g o p:Nat} {cs:Array Value} {s:DS} {w w':World}
theorem aHu (n:Int) (b:Nat) (hb:b<=16) (m:Int) (hm:m=2 ^ b-1):bits .and .i64 n m=n % 2 ^ b:=by
 have hm2:(BitVec.ofInt 64 m).toNat=2 ^ b-1:=by
  rw [BitVec.toNat_ofInt,hm];have h1:(1:Nat)<=2 ^ b:=Nat.one_le_two_pow;have h2:(2:Nat) ^ b<=2 ^ 16:=Nat.pow_le_pow_right (by omega) hb;have e:((2:Int) ^ b-1)=((2 ^ b-1:Nat):Int):=by
   rw [Int.ofNat_sub h1];simp
  rw [e];omega
 have key:(BitVec.ofInt 64 n &&& BitVec.ofInt 64 m).toNat=(n % ((2 ^ 64:Nat):Int)).toNat % 2 ^ b:=by
  rw [BitVec.toNat_and,BitVec.toNat_ofInt,hm2,Nat.and_two_pow_sub_one_eq_mod]
 show IntKind.i64.wrap ((BitVec.ofInt 64 n &&& BitVec.ofInt 64 m).toNat:Nat)=n % 2 ^ b;rw [key,IntKind.wrap_i64];have hc:b=0\/b=1\/b=2\/b=3\/b=4\/b=5\/b=6\/b=7\/b=8\/b=9\/b=10\/b=11\/b=12\/b=13\/b=14\/b=15\/b=16:=by omega
 rcases hc with rfl | rfl | rfl | rfl | rfl | rfl | rfl | rfl | rfl | rfl | rfl | rfl | rfl | rfl | rfl | rfl | rfl<;>omega
theorem aFg (h:s.after<1):s.tick=s:=by
 unfold DS.tick;rw [if_pos h]
def sl (s:ByteArray):List Nat:=s.data.toList.map UInt8.toNat
theorem DI.other [Gd] {t:TypeId} {u:Value} (h:DI B p s w) (hg:w.heap[g]?=some (.cells cs t (0,0))) (n1:t≠84) (n2:t≠167) (n3:t≠164) (n4:t≠3) (n5:t≠5) (n6:¬ Gd.s g):DI B p s (w.setCell ⟨g,o,none⟩ u):=by
 obtain ⟨gb,vo,kv,ov,wv,h⟩:=h;have st:∀ (k:Nat) (cs':Array Value) (t':TypeId),w.heap[k]?=some (Obj.cells cs' t' (0,0))->t≠t'->(w.setCell ⟨g,o,none⟩ u).heap[k]?=some (Obj.cells cs' t' (0,0)):=by
  intro k cs' t' e ht;rw [heap_setCell_other _ _ _ _ ?_,e];show k≠g;intro e2;subst e2;rw [hg] at e;simp only [oI,cI] at e;exact ht e.2.1
 exact ⟨gb,vo,kv,ov,wv,⟨st p _ _ h.hp n1,st gb _ _ h.hg n2,aAl h.hw fun k cs' _ e=>st k cs' _ e n3,fun i hi=>aAl (h.hk i hi) fun k cs' _ e=>st k cs' _ e n5,fun i hi=>aAl (h.hb i hi) fun k cs' _ e=>st k cs' _ e n5,fun i hi=>aAl (h.ho i hi) fun k cs' _ e=>st k cs' _ e n4,h.ha,h.pB,h.gB,h.ok,fun k hk=>⟨(h.hG k hk).1.same (heap_setCell_other _ _ _ _ (gd_ne n6 hk)),(h.hG k hk).2⟩⟩⟩
theorem keptN_all (i:Nat):keptN 18446744073709551615 (-1) 0 i=blk:=by
 unfold keptN;rw [if_neg (by omega)];have key:∀ r:Fin 64,18446744073709551615 / 2 ^ r.val % 2=1:=by decide
 have:=key ⟨i % 64,Nat.mod_lt _ (by omega)⟩;simp only at this;rw [if_pos this]
def DS.idxK (s:DS) (k b:Nat):List Nat:=(List.range k).filter fun i=>s.at_ i == b
theorem idxK_succ (s:DS) (k b:Nat):s.idxK (k+1) b=s.idxK k b++(if b=s.at_ k then [k] else []):=by
 unfold DS.idxK;rw [List.range_succ,List.filter_append]
 congr 1
 by_cases h:b=s.at_ k
 ·rw [if_pos h];simp [h]
 ·rw [if_neg h];simp;exact fun e=>h e.symm
theorem setK_all (s:DS) (b:Nat):∀ k,s.setK 18446744073709551615 (-1) 0 k b=(match (s.idxK k b).getLast? with | some j=>s.by_ j | none=>s.K b)
 | 0=>rfl
 | k+1=>by
  rw [DS.setK,setK_all s b k,idxK_succ,keptN_all]
  by_cases h:b=s.at_ k
  ·rw [if_pos h,if_pos h,List.getLast?_append]
   rfl
  ·rw [if_neg h,if_neg h,List.append_nil]
theorem DI.of_stay [Gd] (h:DI B p s w) (st:∀ (k:Nat) (cs:Array Value) (t:TypeId),w.heap[k]?=some (Obj.cells cs t (0,0))->(t=84\/t=167\/t=164\/t=3\/t=5\/t=214\/t=218)->w'.heap[k]?=some (Obj.cells cs t (0,0))):DI B p s w':=by
 obtain ⟨gb,vo,kv,ov,wv,h⟩:=h
 exact ⟨gb,vo,kv,ov,wv,⟨st p _ _ h.hp (by simp),st gb _ _ h.hg (by simp),aAl h.hw fun k cs' _ e=>st k cs' _ e (by simp),fun i hi=>aAl (h.hk i hi) fun k cs' _ e=>st k cs' _ e (by simp),fun i hi=>aAl (h.hb i hi) fun k cs' _ e=>st k cs' _ e (by simp),fun i hi=>aAl (h.ho i hi) fun k cs' _ e=>st k cs' _ e (by simp),h.ha,h.pB,h.gB,h.ok,fun k hk=>⟨by
  obtain ⟨cs',t',e,ht⟩:=(h.hG k hk).1
  exact ⟨cs',t',st k cs' t' e (by rcases ht with q | q | q | q | q | q<;>simp [q]),ht⟩,(h.hG k hk).2⟩⟩⟩
end Go.Proofs.YtdfjjhlhnfindaaGreat
set_option linter.unusedVariables false
namespace Go.Proofs.YtdfjjhlhnfindaaGreat
open Go.RowKit Tryz
variable {B g i k n o:Nat} {cs:Array Value} {w w':World}
structure PS where
 st:List Nat
 life:Int
 num:Nat
 root:Nat
structure PS.Ok (t:PS):Prop where
 sl:t.st.length<=4096
 sb:∀ c∈t.st,c<4
 nm:t.num<=4611686018427387904
 rt:t.root<=4096
def storeV (gs p:Nat) (t:PS):Array Value:=#[.slice (some ⟨gs,0,none⟩) t.st.length t.st.length,.pointer (some ⟨p,0,none⟩),.int .i64 t.life,.int .i64 (t.num:Int),.int .i64 (t.root:Int)]
structure SV [Gd] (B p q gs:Nat) (t:PS) (w:World):Prop where
 hq:w.heap[q]?=some (.cells (storeV gs p t) 214 (0,0))
 hs:w.heap[gs]?=some (.cells (cellsOf t.st).toArray 218 (0,0))
 qB:B<=q
 gB:B<=gs
 ok:t.Ok
 hG:∀ k,Gd.s k->k≠q/\k≠gs
section
variable {B p q gs:Nat} {t:PS} {w w':World}
theorem SV.fr [Gd] (h:SV B p q gs t w) (f:Fr B w w'):SV B p q gs t w':=⟨f.stay _ _ _ _ h.hq (by decide) (by decide) (by decide) (by decide),f.stay _ _ _ _ h.hs (by decide) (by decide) (by decide) (by decide),h.qB,h.gB,h.ok,h.hG⟩
theorem SV.later [Gd] (h:SV B p q gs t w) (hb:Below w.heap.size w w'):SV B p q gs t w':=⟨(hb.block _ (lO h.hq)).trans h.hq,(hb.block _ (lO h.hs)).trans h.hs,h.qB,h.gB,h.ok,h.hG⟩
theorem SV.ne [Gd] (h:SV B p q gs t w):q≠gs:=by
 intro e;have h1:=h.hq;rw [e,h.hs] at h1;simp only [oI,cI] at h1;exact absurd h1.2.1 (by decide)
theorem SV.c0 [Gd] (h:SV B p q gs t w):w.cell? ⟨q,0,none⟩=some (.slice (some ⟨gs,0,none⟩) t.st.length t.st.length):=aAa h.hq
theorem SV.c1 [Gd] (h:SV B p q gs t w):w.cell? ⟨q,1,none⟩=some (.pointer (some ⟨p,0,none⟩)):=aAa h.hq
theorem SV.c2 [Gd] (h:SV B p q gs t w):w.cell? ⟨q,2,none⟩=some (.int .i64 t.life):=aAa h.hq
theorem SV.c3 [Gd] (h:SV B p q gs t w):w.cell? ⟨q,3,none⟩=some (.int .i64 (t.num:Int)):=aAa h.hq
theorem SV.c4 [Gd] (h:SV B p q gs t w):w.cell? ⟨q,4,none⟩=some (.int .i64 (t.root:Int)):=aAa h.hq
theorem SV.sc [Gd] (h:SV B p q gs t w) (i:Nat) (hi:i<t.st.length):w.cell? ⟨gs,i,none⟩=some (.int .u8 (t.st.getD i 0:Nat)):=by
 rw [aAa h.hs];simpa using aBa t.st i hi
def PS.set (t:PS) (i v:Nat):PS:={ t with st:=t.st.set i v }
theorem PS.set_ok (h:t.Ok) (i:Nat) {v:Nat} (hv:v<4):(t.set i v).Ok where
 sl:=by show (t.st.set i v).length<=4096;rw [List.length_set];exact h.sl
 sb:=by
  intro c hc;rcases List.mem_or_eq_of_mem_set hc with h1 | h1
  ·exact h.sb c h1
  ·omega
 nm:=h.nm
 rt:=h.rt
theorem SV.set [Gd] (h:SV B p q gs t w) (i v:Nat) (hv:v<4):SV B p q gs (t.set i v) (w.setCell ⟨gs,i,none⟩ (.int .u8 (v:Int))):=by
 refine ⟨?_,?_,h.qB,h.gB,PS.set_ok h.ok i hv,h.hG⟩
 ·rw [heap_setCell_other _ _ _ _ h.ne,h.hq];show _=some (Obj.cells (storeV gs p (t.set i v)) _ _);have e:storeV gs p (t.set i v)=storeV gs p t:=by
   show #[_,_,_,_,_]=#[_,_,_,_,_];simp only [PS.set,List.length_set]
  rw [e]
 ·rw [heap_setCell_same w gs i _ _ _ h.hs,List.setIfInBounds_toArray]
  congr 3
  show (cellsOf t.st).set i (.int .u8 (v:Int))=cellsOf (t.st.set i v);simp [cellsOf,List.map_set]
end
def PS.of (t:PS) (id:Int):Nat:=if 0<=id then t.st.getD id.toNat 0 else 0
structure Fp [Gd] (B:Nat) (w w':World):Prop where
 bel:Below B w w'
 stay:∀ (k:Nat) (cs:Array Value) (t:TypeId) (fz:Nat×Nat),w.heap[k]?=some (Obj.cells cs t fz)->t≠84->t≠167->t≠164->t≠3->t≠214->t≠218->w'.heap[k]?=some (Obj.cells cs t fz)
 gd:GdK w w'
theorem Fp.refl [Gd] (B:Nat) (w:World):Fp B w w:=⟨Below.refl _ _,fun _ _ _ _ h _ _ _ _ _ _=>h,GdK.refl w⟩
theorem Fp.trans [Gd] {a b c:World} (h:Fp B a b) (k:Fp B b c):Fp B a c:=⟨h.bel.trans k.bel,fun i cs t fz e n1 n2 n3 n4 n5 n6=>k.stay i cs t fz (h.stay i cs t fz e n1 n2 n3 n4 n5 n6) n1 n2 n3 n4 n5 n6,h.gd.trans k.gd⟩
theorem Fp.ofFr [Gd] (f:Fr B w w'):Fp B w w':=⟨f.bel,fun i cs t fz e n1 n2 n3 n4 _ _=>f.stay i cs t fz e n1 n2 n3 n4,f.gd⟩
theorem Fp.of [Gd] (h:Below w.heap.size w w') (hB:B<=w.heap.size):Fp B w w':=Fp.ofFr (Fr.of h hB)
theorem Fp.set [Gd] {t:TypeId} {u:Value} (hg:w.heap[g]?=some (.cells cs t (0,0))) (hB:B<=g) (ht:t=214\/t=218) (hs0:¬ Gd.s g):Fp B w (w.setCell ⟨g,o,none⟩ u):=by
 have ne:∀ {k:Nat} {cs':Array Value} {t':TypeId} {fz:Nat×Nat},w.heap[k]?=some (Obj.cells cs' t' fz)->t'≠214->t'≠218->k≠g:=by
  intro k cs' t' fz e n5 n6 e2;subst e2;rw [hg] at e;simp only [oI,cI] at e;rcases ht with h | h
  ·exact n5 (e.2.1.symm.trans h)
  ·exact n6 (e.2.1.symm.trans h)
 refine ⟨(Below.refl _ _).setCell hB u,fun k cs' t' fz e n1 n2 n3 n4 n5 n6=>?_,fun k hk hf=>heap_setCell_other _ _ _ _ (gd_ne hs0 hk)⟩
 ·rw [heap_setCell_other _ _ _ _ (ne e n5 n6),e]
section
variable {B p q gs:Nat} {t:PS} {w:World}
theorem of_any [Gd] (id:Int) (h:SV B p q gs t w) (h63:id<=9223372036854775807) :
  Calls prog 118 #[.pointer (some ⟨q,0,none⟩),.int .i64 id] w fun e w'=>e=.returned (.int .u8 (t.of id:Nat))/\w'=w:=by
 have c0:=h.c0;have sl:=h.ok.sl;have HP:Hid (t.of id=if 0<=id then t.st.getD id.toNat 0 else 0):=rfl;by_cases h0:0<=id
 ·obtain ⟨i,rfl⟩:∃ i:Nat,id=(i:Int):=⟨id.toNat,by omega⟩;rw [if_pos h0,Int.toNat_natCast] at HP;by_cases h1:i<t.st.length
  ·have sc:=h.sc i h1;have d1:¬ (i:Int)<0:=by omega
   have d2:¬ ((t.st.length:Nat):Int)<=(i:Int):=by omega
   have d3:(i:Int)<((t.st.length:Nat):Int):=by omega
   generalize t.of (i:Int)=R at *
   obtain rfl:R=_:=HP.o;clear h HP;generalize t.st.getD i 0=c at *
   generalize t.st.length=n at *
   go_enter func118,ntmps118;go_wp2;go_ret;exact ⟨rfl,rfl⟩
  ·have e:t.st.getD i 0=0:=by rw [List.getD_eq_getElem?_getD,List.getElem?_eq_none (by omega)];rfl
   rw [e] at HP;have d1:¬ (i:Int)<0:=by omega
   have d2:((t.st.length:Nat):Int)<=(i:Int):=by omega
   generalize t.of (i:Int)=R at *
   obtain rfl:R=_:=HP.o;clear h HP e;generalize t.st.length=n at *
   go_enter func118,ntmps118;go_wp2;go_ret;exact ⟨rfl,rfl⟩
 ·rw [if_neg h0] at HP;have d1:id<0:=by omega
  generalize t.of id=R at *
  obtain rfl:R=_:=HP.o;clear h HP;go_enter func118,ntmps118;go_wp2;go_ret;exact ⟨rfl,rfl⟩
theorem aHf [Gd] (i v:Nat) (h:SV B p q gs t w) (hi:i<t.st.length) (hv:v<4) :
  Calls prog 119 #[.pointer (some ⟨q,0,none⟩),.int .i64 (i:Int),.int .u8 (v:Int)] w fun e w'=>e=.returned (.tuple #[])/\SV B p q gs (t.set i v) w'/\w'=w.setCell ⟨gs,i,none⟩ (.int .u8 (v:Int)):=by
 have c0:=h.c0;have sl:=h.ok.sl;have sc:=h.sc i hi;have fz:=aAb (i:=i) h.hs;have HS:=zH (h.set i v hv);have d3:(i:Int)<((t.st.length:Nat):Int):=by omega
 clear h;generalize t.st.length=n at *
 generalize t.st.getD i 0=c at *
 go_enter func119,ntmps119;go_wp2;go_end0;exact ⟨rfl,HS.o,rfl⟩
def lowF (st:List Nat):Option Nat:=st.findIdx? (· == 1)
def lowI (st:List Nat):Int:=match lowF st with | some i=>(i:Int) | none=>-1
theorem aDw {st:List Nat} (h:lowF st=some i):i<st.length/\st.getD i 0=1/\∀ j,j<i->st.getD j 0≠1:=by
 unfold lowF at h;rw [List.findIdx?_eq_some_iff_getElem] at h;obtain ⟨h1,h2,h3⟩:=h;refine ⟨h1,by rw [List.getD_eq_getElem?_getD,gE h1];simpa using h2,fun j hj=>?_⟩;have:=h3 j hj;rw [List.getD_eq_getElem?_getD,gE (by omega)];simpa using this
theorem lowF_of {st:List Nat} (h1:i<st.length) (h2:st.getD i 0=1) (h3:∀ j,j<i->st.getD j 0≠1):lowF st=some i:=by
 unfold lowF;rw [List.findIdx?_eq_some_iff_getElem];refine ⟨h1,?_,fun j hj=>?_⟩
 ·rw [List.getD_eq_getElem?_getD,gE h1] at h2;simpa using h2
 ·have:=h3 j hj;rw [List.getD_eq_getElem?_getD,gE (by omega)] at this;simpa using this
theorem lowF_none {st:List Nat} (h:∀ j,j<st.length->st.getD j 0≠1):lowF st=none:=by
 unfold lowF;rw [List.findIdx?_eq_none_iff];intro x hx;obtain ⟨j,hj,rfl⟩:=List.getElem_of_mem hx;have:=h j hj;rw [List.getD_eq_getElem?_getD,gE hj] at this;simpa using this
theorem index_any (gs:Nat) (st:List Nat) (w:World) (hl:st.length<=4096) (hc:∀ i,i<st.length->w.cell? ⟨gs,i,none⟩=some (.int .u8 (st.getD i 0:Nat))) :
  Calls prog 220 #[.slice (some ⟨gs,0,none⟩) st.length st.length,.int .u8 1] w fun e w'=>e=.returned (.int .i64 (lowI st))/\w'=w:=by
 have HC:=zH hc;clear hc;have HI:Hid (lowI st=match lowF st with | some i=>(i:Int) | none=>-1):=rfl;have HF:=zH (fun i=>lowF_of (st:=st) (i:=i));have HN:=zH (lowF_none (st:=st));generalize lowI st=I at *
 go_enter func220,ntmps220;go_wp2;go_loopw [8] (fun i wr=>∃ k:Nat,k<=st.length/\i=.int .i64 k/\wr=w/\∀ j,j<k->st.getD j 0≠1) (fun i _=>st.length-(intOf i).toNat)
 case atStart=>exact ⟨0,by omega,rfl,rfl,fun j hj=>by omega⟩
 case round =>
  obtain ⟨k,hk,rfl,rfl,hj⟩:=hrel;have HJ:=zH hj;clear hj;by_cases hlt:k<st.length
  ·have cc:=HC.o k hlt;have i1:(k:Int)<((st.length:Nat):Int):=by omega
   by_cases h1:st.getD k 0=1
   ·have HE:=zH (HF.o k hlt h1 HJ.o);rw [HE.o] at HI;obtain rfl:I=(k:Int):=HI.o;rw [h1] at cc;clear hlt h1 HI;generalize st.length=n at *
    go_wp2;go_ret;exact ⟨rfl,rfl⟩
   ·have HJ2:Hid (∀ j,j<k+1->st.getD j 0≠1):=by
     intro j hj;rcases Nat.lt_or_ge j k with h2 | h2
     ·exact HJ.o j h2
     ·obtain rfl:j=k:=by omega
      exact h1
    generalize hc:st.getD k 0=c at *
    have q1:((1:Int) == (c:Int))=false:=by simp;omega
    clear hc h1 hlt;go_wp2;exact ⟨⟨k+1,by omega,by go_num,trivial,HJ2.o⟩,by simp [intOf];omega⟩
  ·obtain rfl:k=st.length:=by omega
   have i1:¬ ((st.length:Nat):Int)<((st.length:Nat):Int):=by omega
   have HE:=zH (HN.o HJ.o);rw [HE.o] at HI;obtain rfl:I=-1:=HI.o;clear hlt HI;go_wp2;go_ret;exact ⟨rfl,rfl⟩
theorem aGc [Gd] (h:SV B p q gs t w) :
  Calls prog 211 #[.pointer (some ⟨q,0,none⟩)] w fun e w'=>e=.returned (.tuple #[.int .i64 (lowI t.st),.bool (lowF t.st).isSome])/\w'=w:=by
 have c0:=h.c0;have HI:=zH (index_any gs t.st w h.ok.sl (fun i hi=>h.sc i hi));have HS:Hid (decide (0<=lowI t.st)=(lowF t.st).isSome):=by
  show _=_;unfold lowI
  cases lowF t.st<;>simp
 clear h;generalize t.st.length=n at *
 generalize lowI t.st=I at *
 generalize (lowF t.st).isSome=b at *
 go_enter func211,ntmps211;go_wp2_with fail;refine HI.o.mono ?_;rintro e w1 ⟨rfl,rfl⟩;go_wp2;go_ret2;rw [<-HS.o];exact ⟨rfl,rfl⟩
def cntF (st:List Nat):Nat:=st.count 1
theorem cntF_take {st:List Nat} (h:k<st.length):cntF (st.take (k+1))=cntF (st.take k)+if st.getD k 0=1 then 1 else 0:=by
 rw [List.take_add_one,gE h,List.getD_eq_getElem?_getD,gE h];unfold cntF;simp only [Option.toList_some,List.count_append,Option.getD_some,List.count_singleton,beq_iff_eq]
theorem cntF_le (st:List Nat) (k:Nat):cntF (st.take k)<=k:=by
 unfold cntF;exact nT List.count_le_length (by rw [List.length_take];omega)
theorem aH2 [Gd] (h:SV B p q gs t w) :
  Calls prog 121 #[.pointer (some ⟨q,0,none⟩)] w fun e w'=>e=.returned (.int .i64 (cntF t.st:Nat))/\w'=w:=by
 have c0:=h.c0;have hl:=h.ok.sl;have HC:=zH (fun i hi=>h.sc i hi);have HT:=zH (fun k=>cntF_take (st:=t.st) (k:=k));have HL:=zH (cntF_le t.st);have HA:Hid (t.st.take t.st.length=t.st):=List.take_length;clear h;generalize t.st=st at *
 go_enter func121,ntmps121;go_wp2;go_loopw [11,3] (fun i c wr=>∃ k:Nat,k<=st.length/\i=.int .i64 k/\c=.int .i64 (cntF (st.take k):Nat)/\wr=w) (fun i _ _=>st.length-(intOf i).toNat)
 case atStart=>exact ⟨0,by omega,rfl,rfl,rfl⟩
 case round =>
  obtain ⟨k,hk,rfl,rfl,rfl⟩:=hrel;by_cases hlt:k<st.length
  ·have cc:=HC.o k hlt;have i1:(k:Int)<((st.length:Nat):Int):=by omega
   have HE:=zH (HT.o k hlt);have hle:=HL.o k;generalize hcv:st.getD k 0=c at *
   generalize hx:cntF (st.take k)=x at *
   have xb:(x:Int)<=4096:=by omega
   by_cases h1:c=1
   ·subst h1;rw [if_pos rfl] at HE;clear hcv hlt hx hle;go_wp2;exact ⟨⟨k+1,by omega,by go_num,by rw [HE.o];rfl,trivial⟩,by simp [intOf];omega⟩
   ·rw [if_neg h1] at HE;have q1:((c:Int) == 1)=false:=by simp;omega
    clear hcv hlt hx hle h1;go_wp2;exact ⟨⟨k+1,by omega,by go_num,by rw [HE.o];rfl,trivial⟩,by simp [intOf];omega⟩
  ·obtain rfl:k=st.length:=by omega
   have i1:¬ ((st.length:Nat):Int)<((st.length:Nat):Int):=by omega
   rw [HA.o];clear hlt;go_wp2;go_ret;exact ⟨rfl,rfl⟩
def backF (st:List Nat):List Nat:=st.map fun c=>if c=3 then 1 else c
def backK (st:List Nat) (k:Nat):List Nat:=backF (st.take k)++st.drop k
theorem backK_len (st:List Nat) (k:Nat):(backK st k).length=st.length:=by
 rw [backK,lA,backF,List.length_map,List.length_take,List.length_drop];omega
theorem backK_zero (st:List Nat):backK st 0=st:=by simp [backK,backF]
theorem backK_all (st:List Nat):backK st st.length=backF st:=by simp [backK]
theorem backK_at {st:List Nat} (h:k<st.length):(backK st k).getD k 0=st.getD k 0:=by
 simp only [backK,List.getD_eq_getElem?_getD];rw [List.getElem?_append_right (by rw [backF,List.length_map,List.length_take];omega),backF,List.length_map,List.length_take,List.getElem?_drop]
 congr 2
 omega
theorem backK_next {st:List Nat} (h:k<st.length):backK st (k+1)=if st.getD k 0=3 then (backK st k).set k 1 else backK st k:=by
 have e:st.drop k=st[k]::st.drop (k+1):=List.drop_eq_getElem_cons h;have e2:st.getD k 0=st[k]:=by rw [List.getD_eq_getElem?_getD,gE h];rfl
 have l:(backF (st.take k)).length=k:=by rw [backF,List.length_map,List.length_take];omega
 have e3:backF (st.take (k+1))=backF (st.take k)++[if st[k]=3 then 1 else st[k]]:=by
  unfold backF;rw [List.take_add_one,gE h,List.map_append];rfl
 unfold backK;rw [e3,e,e2];split
 ·rw [List.set_append_right _ _ (by omega),l,Nat.sub_self,List.set_cons_zero];simp
 ·simp
end
def PS.setSt (t:PS) (st:List Nat):PS:={ t with st:=st }
section
variable {B p q gs:Nat} {t:PS} {w:World}
theorem aBp [Gd] (h:SV B p q gs t w) :
  Calls prog 173 #[.pointer (some ⟨q,0,none⟩)] w fun e w'=>e=.returned (.tuple #[])/\SV B p q gs (t.setSt (backF t.st)) w'/\Fp B w w'/\∀ s,DI B p s w->DI B p s w':=by
 have c0:=h.c0;have hl:=h.ok.sl;have H:=zH h;have HA:=zH (backK_all t.st);go_enter func173,ntmps173;have hls:t.st.length=t.st.length:=rfl;generalize hn:t.st.length=n at c0 hls ⊢;have HN:=zH hn;clear h hn hls;go_wp2;go_loopw [9] (fun i wr=>∃ k:Nat,k<=n/\i=.int .i64 k/\SV B p q gs (t.setSt (backK t.st k)) wr/\Fp B w wr/\∀ s,DI B p s w->DI B p s wr) (fun i _=>n-(intOf i).toNat)
 case atStart=>exact ⟨0,by omega,rfl,by rw [backK_zero];exact H.out,Fp.refl _ _,fun _ h=>h⟩
 case round =>
  obtain ⟨k,hk,rfl,hS,hF,hD⟩:=hrel;have HS:=zH hS;have HF:=zH hF;have HD:=zH hD;have HNL:Hid ((backK t.st k).length=n):=by show _=_;rw [backK_len,HN.o]
  clear hS hF hD;by_cases hlt:k<n
  ·have cc:=HS.o.sc k (by show k<(backK t.st k).length;rw [HNL.o];exact hlt);have HX:=zH (backK_next (st:=t.st) (k:=k) (by rw [HN.o];exact hlt));have e:(t.setSt (backK t.st k)).st.getD k 0=t.st.getD k 0:=backK_at (by rw [HN.o];exact hlt);rw [e] at cc;clear e;have i1:(k:Int)<(n:Int):=by omega
   have i0:n<=4096:=by rw [<-HN.o];exact hl
   generalize t.st.getD k 0=c at *
   by_cases h1:c=3
   ·subst h1;rw [if_pos rfl] at HX;have HC:=zH (aHf k 1 HS.o (by show k<(backK t.st k).length;rw [HNL.o];exact hlt) (by omega));clear hlt;go_wp2_with fail;refine HC.o.mono ?_;rintro e w2 ⟨rfl,hS2,hw2⟩;have HS2:=zH hS2;have HF2:=zH (HF.o.trans (Fp.set (o:=k) (u:=.int .u8 1) HS.o.hs HS.o.gB (Or.inr rfl) (fun e=>(HS.o.hG gs e).2 rfl)));have HD2:=zH (fun s h=>(HD.o s h).other (o:=k) (u:=.int .u8 1) HS.o.hs (by decide) (by decide) (by decide) (by decide) (by decide) (fun e=>(HS.o.hG gs e).2 rfl));have HW:=zH hw2;clear hS2 hw2;go_wp2;have hw:w2=wr.setCell ⟨gs,k,none⟩ (.int .u8 1):=HW.o;refine ⟨⟨k+1,by omega,by go_num,?_,by rw [hw];exact HF2.o,by rw [hw];exact HD2.o⟩,by simp [intOf];omega⟩;rw [HX.o];exact HS2.o
   ·rw [if_neg h1] at HX;have q1:((c:Int) == 3)=false:=by simp;omega
    clear hlt h1;go_wp2;exact ⟨⟨k+1,by omega,by go_num,by rw [HX.o];exact HS.o,HF.o,HD.o⟩,by simp [intOf];omega⟩
  ·obtain rfl:k=n:=by omega
   have i1:¬ (k:Int)<(k:Int):=by omega
   have HE:Hid (backK t.st k=backF t.st):=by show _=_;rw [<-HN.o];exact HA.o
   rw [HE.o] at HS;clear hlt;go_wp2;go_end0;exact ⟨rfl,HS.o,HF.o,HD.o⟩
end
def newSt (n:Nat):List Nat:=(List.range n).map fun i=>if i<2 then 0 else 1
def newK (n k:Nat):List Nat:=(List.range n).map fun i=>if i<2 then 0 else if i<k then 1 else 0
theorem newK_len (n k:Nat):(newK n k).length=n:=by simp [newK]
theorem newK_next (h:k<n) (h2:2<=k):(newK n k).set k 1=newK n (k+1):=by
 apply List.ext_getElem
 ·simp [newK]
 ·intro i h1 h3;simp only [newK,List.getElem_set,List.getElem_map,List.getElem_range];by_cases e:k=i
  ·subst e;rw [if_pos rfl,if_neg (by omega),if_pos (by omega)]
  ·rw [if_neg e];by_cases c:i<2
   ·rw [if_pos c,if_pos c]
   ·rw [if_neg c,if_neg c];by_cases d:i<k
    ·rw [if_pos d,if_pos (by omega)]
    ·rw [if_neg d,if_neg (by omega)]
theorem newK_all (n:Nat):newK n n=newSt n:=by
 unfold newK newSt;apply List.map_congr_left;intro i hi;rw [List.mem_range] at hi;rw [if_pos hi]
theorem newK_two (n:Nat):newK n 2=zs n:=by
 unfold newK zs;rw [List.eq_replicate_iff];refine ⟨by simp,fun b hb=>?_⟩;simp only [List.mem_map,List.mem_range] at hb;obtain ⟨i,_,rfl⟩:=hb
 split<;>rfl
theorem made_st (n:Nat):(madeCells (Value.int .u8 0).cells (n*1)).toList=cellsOf (zs n):=aC3 n
theorem info_state:(prog.info? 218).map (fun i=>(i.zero,i.size,i.bytes))=some (some (.int .u8 0),1,1):=by kernel_rfl
theorem info_pages:(prog.info? 211).map (·.size)=some 1:=by kernel_rfl
theorem made_whole1 {e:TypeId} {xs:List Value} (h:w.ownsRow B e 1 (.slice (some ⟨g,0,none⟩) n n) n xs):w.heap[g]?=some (.cells xs.toArray e (0,0))/\B<=g:=by
 rcases h.2 with ⟨e,_⟩ | ⟨g',cap,cur,e,h1,h2,h3,h4,h5,h6⟩
 ·cases e
 ·simp only [Value.slice.injEq,oI,Addr.mk.injEq,and_true,true_and] at e;obtain ⟨rfl,rfl⟩:=e;refine ⟨?_,h1⟩;rw [h2,<-h6]
  congr 2
  apply Array.toList_inj.1;simp only;rw [List.take_of_length_le (by simp;omega)]
end Go.Proofs.YtdfjjhlhnfindaaGreat
