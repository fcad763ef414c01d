import Derived.Test.YtmmcebojbbdfmaaGreatY40
import Derived.Deep.MidRow
import Derived.Great.Walk
set_option maxRecDepth 100000
set_option maxHeartbeats 16000000
set_option linter.unusedVariables false
namespace Go.Proofs.YtmmcebojbbdfmaaGreat
open Go.RowKit
variable {B b c k n o te:Nat} {a:Option Addr} {v:Value} {w w':World} {xs:List Nat} {y:OpV}
theorem op_lt (h:OpP w y):∀ b∈OpV.blks y,b<w.heap.size:=by
 intro b hb;unfold OpV.blks at hb;rcases List.mem_append.1 hb with q | q
 ·exact (aBk (B:=0) h.sc.c (fun _ _ _ _=>Nat.zero_le _) b q).2
 ·rcases List.mem_append.1 q with q | q
  ·exact (aBk (B:=0) h.sc.x (fun _ _ _ _=>Nat.zero_le _) b q).2
  ·exact (aBk (B:=0) h.rw_ (fun _ _ _ _=>Nat.zero_le _) b q).2
theorem aCk {ops:Array Oper} {rest:List Oper} {o:Oper} {a:Act} {Q:Exit->Act->World->Prop} (hgd:o.guard=none) (s x:Operand) (t:TypeId)
  (ho:o.op=.call { callee:=.builtin .append,args:=#[s,x],argTypes:=#[t,t] })
  (base:Nat) (e:TypeId) (i:TypeInfo) (z:Value) (size bytes:Nat) (ht:Tryz.prog.underlying t=some (.slice e)) (hi:Tryz.prog.info? e=some i) (hz:i.zero=some z)
  (hsize:i.size=size) (hby:i.bytes=bytes) (hzs:z.cells.size=size) (hsz:0<size)
  (v:Value) (n:Nat) (xs:List Value) (hs:a.eval s=v) (hown:w.ownsRow base e size v n xs)
  (ad:Addr) (m c:Nat) (news:List Value) (hx:a.eval x=.slice (some ad) m c) (hl:news.length=m*size) (hnews:∀ j u,news[j]?=some u->w.cell? (ad.add j)=some u) (h1:∀ u∈news,u.oneCell'=true)
  (h63:n+m<=maxLen) (hbytes:(n+m)*bytes<=140737488355328) (hbase:base<=w.heap.size)
  (h:∀ v' w',w'.ownsRow base e size v' (n+m) (xs++news)->w.grownBy w' v.ownBlock->(v'.ownBlock=v.ownBlock\/v'.ownBlock=some w.heap.size)->wpList Tryz.prog ops Q rest (a.put o.dst v') w'):wpList Tryz.prog ops Q (o::rest) a w:=by
 refine wpList_plain hgd fun K hK=>?_
 obtain ⟨v',w',hr,h2,h3,h4,h5⟩:=run_append_own_at (P:=Tryz.prog) w base t o.type e i z size bytes ht hi hz hsize hby hzs hsz v n xs hown ad m c news hl hnews h1 h63 hbytes hbase;unfold Oper.wp execOp;simp only [ho,resolve,invoke,builtin,Sem.run_bind,Sem.run_pure,Result.andThen_ok,List.map_toArray,List.map_cons,List.map_nil,hs,hx,hr];exact hK _ _ (h v' w' h2 h3 h5)
theorem aAx {α:Type} {f:α->List Value} (hk:∀ x,(f x).length=k) (hk1:0<k) (hone:∀ x,∀ u∈f x,u.oneCell'=true) {ts te bt:Nat} {z:Value} (hu:Tryz.prog.underlying ts=some (.slice te)) (hinfo:(Tryz.prog.info? te).map (fun i=>(i.zero,i.size,i.bytes))=some (some z,k,bt)) (hzc:z.cells.size=k) (hbt:bt<=1000)
  {ops:Array Oper} {rest:List Oper} {o:Oper} {a:Act} {Q:Exit->Act->World->Prop} {wr:World} (hgd:o.guard=none) (s x:Operand)
  (ho:o.op=.call { callee:=.builtin .append,args:=#[s,x],argTypes:=#[ts,ts] })
  {B1 n c:Nat} {v:Value} {ad:Option Addr} {F G:List α} (hs:a.eval s=v) (hx:a.eval x=.slice ad n c) (hF:wr.ownsRow B1 te k v F.length (F.flatMap f)) (hG:SV f k wr ad n c G) (hB1:B1<=wr.heap.size) (hsize:F.length+n<=100000000)
  (h:∀ v' w',w'.ownsRow B1 te k v' (F++G).length ((F++G).flatMap f)->Below B1 wr w'->(∀ i,i<wr.heap.size->v.ownBlock≠some i->w'.heap[i]?=wr.heap[i]?)->(v'.ownBlock=v.ownBlock\/v'.ownBlock=some wr.heap.size)->wpList Tryz.prog ops Q rest (a.put o.dst v') w'):wpList Tryz.prog ops Q (o::rest) a wr:=by
 obtain ⟨i0,hi,hz0,hz1,hz2⟩:=info_parts hinfo
 cases ad with
 | none =>
  have hc0:=hG.hn rfl;have hcc:=hG.hc;have e0:n=0:=by omega
  subst e0 hc0;have e:G=[]:=List.eq_nil_of_length_eq_zero hG.hl;subst e;refine wpList_append_own_none hgd s x _ ho B1 te i0 k hu hi v F.length (F.flatMap f) hs hF hx (h v wr ?_ (Below.refl _ _) (fun _ _ _=>rfl) (Or.inl rfl));simpa using hF
 | some ad =>
  have hbt2:(F.length+n)*bt<=140737488355328:=nT (Nat.mul_le_mul hsize hbt) (by omega);refine aCk hgd s x _ ho B1 te i0 z k bt hu hi hz0 hz1 hz2 hzc hk1 v F.length (F.flatMap f) hs hF ad n c (G.flatMap f) hx (by rw [fl_len hk,hG.hl]) ?_ (fun u hu=>?_) (by unfold maxLen;omega) hbt2 hB1 ?_
  ·intro j u hj;obtain ⟨i,t,y,e1,e2,e3,e4⟩:=fl_inv hk hj;obtain ⟨b,o,h1,_,h3⟩:=hG.pl (by rw [<-hG.hl];have:=(lL e3);omega);simp only [oI] at h1;subst h1;rw [add_plain,e1,<-Nat.add_assoc,h3 i y e3 t e2];exact e4
  ·obtain ⟨y,_,hu⟩:=List.mem_flatMap.1 hu;exact hone y u hu
  ·intro v' w' h2 h3 h5;refine h v' w' ?_ ((Below.refl B1 _).grown h3 hB1 (fun j hj=>(hF.lt j hj).1)) (fun i hi hn=>h3.block i hi (fun e=>hn e.symm)) h5;rw [lA,hG.hl,List.flatMap_append];exact h2
theorem app_new {α:Type} {f:α->List Value} {G:List α} (hk:∀ x,(f x).length=k) (ho:w'.ownsRow B te k v ([]++G).length (([]++G).flatMap f)):∃ a c,v=.slice a G.length c/\SV f k w' a G.length c G/\(∀ b∈oblk a,B<=b/\b<w'.heap.size):=by
 obtain ⟨a,c,e,hs⟩:=aAo hk ho rfl;simp only [List.nil_append] at e hs;refine ⟨a,c,e,hs,fun b hb=>?_⟩
 cases a with
 | none=>cases hb
 | some ad =>
  obtain rfl:b=ad.block:=by simpa [oblk] using hb
  exact ho.lt ad.block (by rw [e];rfl)
theorem copops_ok {ops:List OpV} (h:SV fO 17 w a n c ops) (hp:∀ y∈ops,OpP w y/\OpL y) (hn:n<=1000) :
  Calls Tryz.prog 18 #[.slice a n c] w fun e w'=>∃ (va:Option Addr) (vc:Nat) (ls:List OpV),e=.returned (.slice va ls.length vc)/\SV fO 17 w' va ls.length vc ls/\(∀ x∈ls,OpP w' x)/\ls.map OpV.ct=ops.map OpV.ct/\(∀ x∈ls,OpL x)/\(∀ b∈oblk va,w.heap.size<=b/\b<w'.heap.size)/\(∀ x∈ls,∀ b∈OpV.blks x,w.heap.size<=b/\b<w'.heap.size)/\Below w.heap.size w w':=by
 have HSV:=zH h;have HP:=zH hp;have HLN0:Hid (ops.length=n):=h.hl;have HNN:=zH hn;clear h hp hn;go_enter Tryz.func18,Tryz.ntmps18;go_wp2_with fail;go_loopg [3,4] n (fun gh s3 s4 wx=>∃ (j:Nat) (va:Option Addr) (vn vc:Nat) (ls:List OpV),j+gh=n/\s3=.slice va vn vc/\s4=.int .i64 (j:Int)/\OwnR fO 17 75 OpV.blks OpP w.heap.size wx (.slice va vn vc) ls/\ls.map OpV.ct=(ops.take j).map OpV.ct/\(∀ x∈ls,OpL x)/\(∀ x∈ls,∀ b∈OpV.blks x,w.heap.size<=b)/\Below w.heap.size w wx)
 case atStart=>exact ⟨0,none,0,0,[],by omega,rfl,rfl,OwnR.nil _ _ _ _ _ _ _,rfl,by simp,by simp,Below.refl _ _⟩
 case round =>
  obtain ⟨j,va,vn,vc,ls,hj,rfl,rfl,how,hct,hll,hbk,hbe⟩:=hrel;have HOW:=zH how;have HCT:=zH hct;have HLL:=zH hll;have HBK:=zH hbk;have HBE:=zH hbe;clear how hct hll hbk hbe;have HLS:Hid (ls.length<=1000):=by
   show _<=_;have h1:=congrArg List.length HCT.o;simp only [List.length_map,List.length_take] at h1;have:=HLN0.o;have:=HNN.o;omega
  by_cases hjn:j<n
  ·have xj:(j:Int)<(n:Int):=by omega
   have xj4:(j:Int)<1000000:=by have:=HNN.o;omega
   obtain ⟨o,ho⟩:∃ x,ops[j]?=some x:=⟨_,gE (by rw [HLN0.o];exact hjn)⟩;have HO:=zH ho;have HLN:Hid (OpL o):=(HP.o o (mG ho)).2;have HOP:Hid (OpP wr o):=(HP.o o (mG ho)).1.later HBE.o;have HQL:Hid (o.row.length=o.rl/\o.s.cs.length=o.cl/\o.s.xs.length=o.xl):=⟨HOP.o.rw_.hl,HOP.o.sc.c.hl,HOP.o.sc.x.hl⟩;obtain ⟨b,of,ea,hb,hcc⟩:=(HSV.o.later HBE.o).pl (by omega);have hcell:=fun t (ht:t<17)=>hcc j o ho t ht
   have HRG:Hid (wr.rangeAt b (of+j*17) (fO o)):=fun t v hv=>by
    have ht:t<17:=(lL hv);rw [<-hv];exact hcell t ht
   subst ea;have hz0:(wr.alloc (.cells #[.int .i64 0,.string ⟨#[]⟩,.string ⟨#[]⟩,.slice none 0 0,.slice none 0 0,.slice none 0 0,.int .i64 0,.int .i64 0,.string ⟨#[]⟩,.int .i64 0,.int .i64 0,.int .i64 0,.string ⟨#[]⟩,.int .i64 0,.int .i64 0,.string ⟨#[]⟩,.int .i64 0] 75)).heap[wr.heap.size]?=some (.cells #[.int .i64 0,.string ⟨#[]⟩,.string ⟨#[]⟩,.slice none 0 0,.slice none 0 0,.slice none 0 0,.int .i64 0,.int .i64 0,.string ⟨#[]⟩,.int .i64 0,.int .i64 0,.int .i64 0,.string ⟨#[]⟩,.int .i64 0,.int .i64 0,.string ⟨#[]⟩,.int .i64 0] 75 (0,0)):=boxed wr _;have HZ0:=zH hz0;have HV1:Hid (((wr.alloc (.cells #[.int .i64 0,.string ⟨#[]⟩,.string ⟨#[]⟩,.slice none 0 0,.slice none 0 0,.slice none 0 0,.int .i64 0,.int .i64 0,.string ⟨#[]⟩,.int .i64 0,.int .i64 0,.int .i64 0,.string ⟨#[]⟩,.int .i64 0,.int .i64 0,.string ⟨#[]⟩,.int .i64 0] 75)).setRow wr.heap.size (fO o).toArray).heap[wr.heap.size]?=some (.cells #[.int .i64 o.kind,.string o.nm,.string o.s.nm,.slice o.ca o.cl o.cc,.slice o.xa o.xl o.xc,.slice o.ra o.rl o.rc,.int .i64 o.key.1,.int .i64 o.key.2.1,.string o.key.2.2,.int .i64 o.col,.int .i64 o.lo.1,.int .i64 o.lo.2.1,.string o.lo.2.2,.int .i64 o.hi.1,.int .i64 o.hi.2.1,.string o.hi.2.2,.int .i64 o.lim] 75 (0,0))):=setRow_heap _ _ _ _ _ _ hz0;have HB1:Hid (Below wr.heap.size wr ((wr.alloc (.cells #[.int .i64 0,.string ⟨#[]⟩,.string ⟨#[]⟩,.slice none 0 0,.slice none 0 0,.slice none 0 0,.int .i64 0,.int .i64 0,.string ⟨#[]⟩,.int .i64 0,.int .i64 0,.int .i64 0,.string ⟨#[]⟩,.int .i64 0,.int .i64 0,.string ⟨#[]⟩,.int .i64 0] 75)).setRow wr.heap.size (fO o).toArray)):=below_setRow (aAc wr _) (nR _) _;obtain ⟨V,hV⟩:∃ V,V=wr.heap.size:=⟨_,rfl⟩;have HVE:Hid (wr.heap.size=V):=hV.symm;clear hz0 hcc hcell ho hb;go_upto_region 9 with (first | (refine wpList_load_mid rfl 75 (.tmp 17) rfl b (of+j*17) rfl (fO o) _ HRG.o Tryz.underlying75 rfl (by kernel_rfl) ?_) | (refine wpList_store_row rfl 75 (.tmp 5) (.tmp 18) rfl wr.heap.size (fO o).toArray rfl rfl 75 #[.int .i64 0,.string ⟨#[]⟩,.string ⟨#[]⟩,.slice none 0 0,.slice none 0 0,.slice none 0 0,.int .i64 0,.int .i64 0,.string ⟨#[]⟩,.int .i64 0,.int .i64 0,.int .i64 0,.string ⟨#[]⟩,.int .i64 0,.int .i64 0,.string ⟨#[]⟩,.int .i64 0] HZ0.o (by kernel_rfl) rfl (by kernel_rfl) ?_));clear HZ0 HRG;generalize (wr.alloc (.cells #[.int .i64 0,.string ⟨#[]⟩,.string ⟨#[]⟩,.slice none 0 0,.slice none 0 0,.slice none 0 0,.int .i64 0,.int .i64 0,.string ⟨#[]⟩,.int .i64 0,.int .i64 0,.int .i64 0,.string ⟨#[]⟩,.int .i64 0,.int .i64 0,.string ⟨#[]⟩,.int .i64 0] 75)).setRow wr.heap.size (fO o).toArray=w1 at *
   rw [<-hV] at HV1 ⊢;clear hV;have y0:w1.cell? ⟨V,5,none⟩=some (.slice o.ra o.rl o.rc):=aAa HV1.o;have HG:=zH (HOP.o.rw_.later HB1.o);go_upto_region 10 with (at_builtin;refine aA8 aDa (by omega) fV_one Tryz.underlying62 info_val rfl (by omega) rfl (.tmp 19) (.tmp 21) rfl (B1:=w1.heap.size) (F:=[]) rfl rfl (aBu _ _ _ _) HG.o (nR _) (by have:=HLN.o;unfold OpL at this;simp only [List.length_nil];omega) ?_;intro v9 w9 ho9 hb9 hk9;obtain ⟨a2,c2,e9,hs9,hn9⟩:=app_new aDa ho9;subst e9;have HS9:=zH hs9;have HN9:=zH hn9;have HB9:=zH hb9;have hv9:=(hk9 V (aAb HV1.o) (by intro q;cases q)).trans HV1.o;have HV9:=zH hv9;have y1:w9.cell? ⟨V,5,none⟩=some (.slice o.ra o.rl o.rc):=aAa hv9;have yf1:w9.frozen? ⟨V,5,none⟩=false:=aAg hv9;clear ho9 hs9 hn9 hb9 hk9 hv9);clear y0 y1 yf1;obtain ⟨w2,hw2⟩:∃ x,x=w9.setCell ⟨V,5,none⟩ (.slice a2 o.row.length c2):=⟨_,rfl⟩;have HV2:Hid (w2.heap[V]?=some (.cells #[.int .i64 o.kind,.string o.nm,.string o.s.nm,.slice o.ca o.cl o.cc,.slice o.xa o.xl o.xc,.slice a2 o.row.length c2,.int .i64 o.key.1,.int .i64 o.key.2.1,.string o.key.2.2,.int .i64 o.col,.int .i64 o.lo.1,.int .i64 o.lo.2.1,.string o.lo.2.2,.int .i64 o.hi.1,.int .i64 o.hi.2.1,.string o.hi.2.2,.int .i64 o.lim] 75 (0,0))):=by
    show _=_;rw [hw2];exact heap_setCell_same _ _ _ _ _ _ HV9.o
   have HVS:Hid (V<w1.heap.size):=aAb HV1.o;have HZ2:Hid (w1.heap.size<=w2.heap.size/\w9.heap.size<=w2.heap.size):=by
    have h1:w9.heap.size<=w2.heap.size:=by rw [hw2];exact ((Below.refl 0 w9).setCell (p:=⟨V,5,none⟩) (Nat.zero_le _) _).size
    exact ⟨nT HB9.o.size h1,h1⟩
   have HB2:Hid (Below wr.heap.size wr w2):=by
    show Below _ _ _;rw [hw2];exact ((HB1.o.trans (HB9.o.mono (by have:=HVS.o;have:=HVE.o;omega))).setCell (p:=⟨V,5,none⟩) (by show _<=V;have:=HVE.o;omega) _)
   have HR2:Hid (SV fV 3 w2 a2 o.row.length c2 o.row):=HS9.o.stay HZ2.o.2 (fun b hb _=>by rw [hw2];exact heap_setCell_other _ _ _ _ (by show b≠V;have:=HN9.o b hb;have:=HVS.o;omega));have HN2:Hid (∀ b∈oblk a2,V<b):=fun b hb=>by have:=HN9.o b hb;have:=HVS.o;omega
   rw [<-hw2];clear hw2 HS9 HN9 HB9 HV9 HG;have y0:w2.cell? ⟨V,3,none⟩=some (.slice o.ca o.cl o.cc):=aAa HV2.o;have HG:=zH (HOP.o.sc.c.later HB2.o);go_upto_region 11 with (at_builtin;refine aA8 aEa (by omega) fC_one Tryz.underlying68 info_col rfl (by omega) rfl (.tmp 24) (.tmp 27) rfl (B1:=w2.heap.size) (F:=[]) rfl rfl (aBu _ _ _ _) HG.o (nR _) (by have:=HLN.o;unfold OpL at this;simp only [List.length_nil];omega) ?_;intro v9 w9 ho9 hb9 hk9;obtain ⟨a3,c3,e9,hs9,hn9⟩:=app_new aEa ho9;subst e9;have HS9:=zH hs9;have HN9:=zH hn9;have HB9:=zH hb9;have hv9:=(hk9 V (aAb HV2.o) (by intro q;cases q)).trans HV2.o;have HV9:=zH hv9;have y1:w9.cell? ⟨V,3,none⟩=some (.slice o.ca o.cl o.cc):=aAa hv9;have yf1:w9.frozen? ⟨V,3,none⟩=false:=aAg hv9;clear ho9 hs9 hn9 hb9 hk9 hv9);clear y0 y1 yf1;obtain ⟨w3,hw3⟩:∃ x,x=w9.setCell ⟨V,3,none⟩ (.slice a3 o.s.cs.length c3):=⟨_,rfl⟩;have HV3:Hid (w3.heap[V]?=some (.cells #[.int .i64 o.kind,.string o.nm,.string o.s.nm,.slice a3 o.s.cs.length c3,.slice o.xa o.xl o.xc,.slice a2 o.row.length c2,.int .i64 o.key.1,.int .i64 o.key.2.1,.string o.key.2.2,.int .i64 o.col,.int .i64 o.lo.1,.int .i64 o.lo.2.1,.string o.lo.2.2,.int .i64 o.hi.1,.int .i64 o.hi.2.1,.string o.hi.2.2,.int .i64 o.lim] 75 (0,0))):=by
    show _=_;rw [hw3];exact heap_setCell_same _ _ _ _ _ _ HV9.o
   have HVS:Hid (V<w2.heap.size):=aAb HV2.o;have HZ3:Hid (w2.heap.size<=w3.heap.size/\w9.heap.size<=w3.heap.size):=by
    have h1:w9.heap.size<=w3.heap.size:=by rw [hw3];exact ((Below.refl 0 w9).setCell (p:=⟨V,3,none⟩) (Nat.zero_le _) _).size
    exact ⟨nT HB9.o.size h1,h1⟩
   have HB3:Hid (Below wr.heap.size wr w3):=by
    show Below _ _ _;rw [hw3];exact ((HB2.o.trans (HB9.o.mono (by have:=HVS.o;have:=HVE.o;omega))).setCell (p:=⟨V,3,none⟩) (by show _<=V;have:=HVE.o;omega) _)
   have HR3:Hid (SV fC 3 w3 a3 o.s.cs.length c3 o.s.cs):=HS9.o.stay HZ3.o.2 (fun b hb _=>by rw [hw3];exact heap_setCell_other _ _ _ _ (by show b≠V;have:=HN9.o b hb;have:=HVS.o;omega));have HN3:Hid (∀ b∈oblk a3,V<b):=fun b hb=>by have:=HN9.o b hb;have:=HVS.o;omega
   have HR2_3:Hid (SV fV 3 w3 a2 o.row.length c2 o.row):=(HR2.o.later HB9.o).stay HZ3.o.2 (fun b hb _=>by rw [hw3];exact heap_setCell_other _ _ _ _ (by show b≠V;have:=HN2.o b hb;omega));rw [<-hw3];clear hw3 HS9 HN9 HB9 HV9 HG;have y0:w3.cell? ⟨V,4,none⟩=some (.slice o.xa o.xl o.xc):=aAa HV3.o;have HG:=zH (HOP.o.sc.x.later HB3.o);go_upto_region 12 with (at_builtin;refine aA8 aEw (by omega) fX_one Tryz.underlying69 info_ix rfl (by omega) rfl (.tmp 31) (.tmp 34) rfl (B1:=w3.heap.size) (F:=[]) rfl rfl (aBu _ _ _ _) HG.o (nR _) (by have:=HLN.o;unfold OpL at this;simp only [List.length_nil];omega) ?_;intro v9 w9 ho9 hb9 hk9;obtain ⟨a4,c4,e9,hs9,hn9⟩:=app_new aEw ho9;subst e9;have HS9:=zH hs9;have HN9:=zH hn9;have HB9:=zH hb9;have hv9:=(hk9 V (aAb HV3.o) (by intro q;cases q)).trans HV3.o;have HV9:=zH hv9;have y1:w9.cell? ⟨V,4,none⟩=some (.slice o.xa o.xl o.xc):=aAa hv9;have yf1:w9.frozen? ⟨V,4,none⟩=false:=aAg hv9;clear ho9 hs9 hn9 hb9 hk9 hv9);clear y0 y1 yf1;obtain ⟨w4,hw4⟩:∃ x,x=w9.setCell ⟨V,4,none⟩ (.slice a4 o.s.xs.length c4):=⟨_,rfl⟩;have HV4:Hid (w4.heap[V]?=some (.cells #[.int .i64 o.kind,.string o.nm,.string o.s.nm,.slice a3 o.s.cs.length c3,.slice a4 o.s.xs.length c4,.slice a2 o.row.length c2,.int .i64 o.key.1,.int .i64 o.key.2.1,.string o.key.2.2,.int .i64 o.col,.int .i64 o.lo.1,.int .i64 o.lo.2.1,.string o.lo.2.2,.int .i64 o.hi.1,.int .i64 o.hi.2.1,.string o.hi.2.2,.int .i64 o.lim] 75 (0,0))):=by
    show _=_;rw [hw4];exact heap_setCell_same _ _ _ _ _ _ HV9.o
   have HVS:Hid (V<w3.heap.size):=aAb HV3.o;have HZ4:Hid (w3.heap.size<=w4.heap.size/\w9.heap.size<=w4.heap.size):=by
    have h1:w9.heap.size<=w4.heap.size:=by rw [hw4];exact ((Below.refl 0 w9).setCell (p:=⟨V,4,none⟩) (Nat.zero_le _) _).size
    exact ⟨nT HB9.o.size h1,h1⟩
   have HB4:Hid (Below wr.heap.size wr w4):=by
    show Below _ _ _;rw [hw4];exact ((HB3.o.trans (HB9.o.mono (by have:=HVS.o;have:=HVE.o;omega))).setCell (p:=⟨V,4,none⟩) (by show _<=V;have:=HVE.o;omega) _)
   have HR4:Hid (SV fX 2 w4 a4 o.s.xs.length c4 o.s.xs):=HS9.o.stay HZ4.o.2 (fun b hb _=>by rw [hw4];exact heap_setCell_other _ _ _ _ (by show b≠V;have:=HN9.o b hb;have:=HVS.o;omega));have HN4:Hid (∀ b∈oblk a4,V<b):=fun b hb=>by have:=HN9.o b hb;have:=HVS.o;omega
   have HR2_4:Hid (SV fV 3 w4 a2 o.row.length c2 o.row):=(HR2_3.o.later HB9.o).stay HZ4.o.2 (fun b hb _=>by rw [hw4];exact heap_setCell_other _ _ _ _ (by show b≠V;have:=HN2.o b hb;omega));have HR3_4:Hid (SV fC 3 w4 a3 o.s.cs.length c3 o.s.cs):=(HR3.o.later HB9.o).stay HZ4.o.2 (fun b hb _=>by rw [hw4];exact heap_setCell_other _ _ _ _ (by show b≠V;have:=HN3.o b hb;omega));rw [<-hw4];clear hw4 HS9 HN9 HB9 HV9 HG;obtain ⟨x,hx⟩:∃ x:OpV,x=(⟨o.kind,o.nm,o.s,a3,o.s.cs.length,c3,a4,o.s.xs.length,c4,a2,o.row.length,c2,o.row,o.key,o.col,o.lo,o.hi,o.lim⟩:OpV):=⟨_,rfl⟩;have HX:=zH hx;have HPX:Hid (OpP w4 x):=by
    show OpP _ _;rw [hx];exact ⟨HOP.o.k,HOP.o.n,⟨HR3_4.o,HR4.o⟩,HOP.o.sp,HR2_4.o,HOP.o.rp,HOP.o.key,HOP.o.c,HOP.o.lo,HOP.o.hi,HOP.o.l⟩
   have HLX:Hid (OpL x):=by
    show OpL x;rw [hx];have h1:=HLN.o;have h2:=HQL.o;unfold OpL at h1 ⊢;dsimp only;omega
   have HNX:Hid (∀ b∈OpV.blks x,V<b):=by
    intro b hb;rw [hx] at hb;unfold OpV.blks at hb;have key:∀ (aa:Option Addr) (m:Nat),(∀ b∈oblk aa,V<b)->∀ b∈obl aa m,V<b:=fun aa m hq b hb=>by
     unfold obl at hb
     split at hb
     ·exact hq b hb
     ·cases hb
    rcases List.mem_append.1 hb with q | q
    ·exact key _ _ HN3.o b q
    ·rcases List.mem_append.1 q with q | q
     ·exact key _ _ HN4.o b q
     ·exact key _ _ HN2.o b q
   have HCX:Hid (x.ct=o.ct):=by show _=_;rw [hx];rfl
   have HOW4:=zH (HOW.o.later aA0 HB4.o);have hb5:=aAc w4 (.cells #[.int .i64 o.kind,.string o.nm,.string o.s.nm,.slice a3 o.s.cs.length c3,.slice a4 o.s.xs.length c4,.slice a2 o.row.length c2,.int .i64 o.key.1,.int .i64 o.key.2.1,.string o.key.2.2,.int .i64 o.col,.int .i64 o.lo.1,.int .i64 o.lo.2.1,.string o.lo.2.2,.int .i64 o.hi.1,.int .i64 o.hi.2.1,.string o.hi.2.2,.int .i64 o.lim] 75);have HOW5:=zH (HOW4.o.later aA0 hb5);have HPX5:=zH (HPX.o.later hb5);have HG5:Hid (SV fO 17 (w4.alloc (.cells #[.int .i64 o.kind,.string o.nm,.string o.s.nm,.slice a3 o.s.cs.length c3,.slice a4 o.s.xs.length c4,.slice a2 o.row.length c2,.int .i64 o.key.1,.int .i64 o.key.2.1,.string o.key.2.2,.int .i64 o.col,.int .i64 o.lo.1,.int .i64 o.lo.2.1,.string o.lo.2.2,.int .i64 o.hi.1,.int .i64 o.hi.2.1,.string o.hi.2.2,.int .i64 o.lim] 75)) (some ⟨w4.heap.size,0,none⟩) 1 1 [x]):=by
    show SV _ _ _ _ _ _ _;rw [hx];exact SV.whole aBl rfl (by omega) (boxed w4 _)
   have HB5:Hid (Below wr.heap.size wr (w4.alloc (.cells #[.int .i64 o.kind,.string o.nm,.string o.s.nm,.slice a3 o.s.cs.length c3,.slice a4 o.s.xs.length c4,.slice a2 o.row.length c2,.int .i64 o.key.1,.int .i64 o.key.2.1,.string o.key.2.2,.int .i64 o.col,.int .i64 o.lo.1,.int .i64 o.lo.2.1,.string o.lo.2.2,.int .i64 o.hi.1,.int .i64 o.hi.2.1,.string o.hi.2.2,.int .i64 o.lim] 75))):=HB4.o.trans (hb5.mono HB4.o.size);have HNX5:Hid (∀ b∈OpV.blks x,(Value.slice va vn vc).ownBlock≠some b/\b<(w4.alloc (.cells #[.int .i64 o.kind,.string o.nm,.string o.s.nm,.slice a3 o.s.cs.length c3,.slice a4 o.s.xs.length c4,.slice a2 o.row.length c2,.int .i64 o.key.1,.int .i64 o.key.2.1,.string o.key.2.2,.int .i64 o.col,.int .i64 o.lo.1,.int .i64 o.lo.2.1,.string o.lo.2.2,.int .i64 o.hi.1,.int .i64 o.hi.2.1,.string o.hi.2.2,.int .i64 o.lim] 75)).heap.size):=fun b hb=>⟨fun e=>by have:=HOW.o.own.lt b e; have:=HNX.o b hb;have:=HVE.o;omega,by have:=op_lt HPX5.o b hb;exact this⟩
   clear hx hb5;go_wp2_with (first | (refine wpList_load_row rfl 75 (.tmp 5) rfl V rfl 75 #[.int .i64 o.kind,.string o.nm,.string o.s.nm,.slice a3 o.s.cs.length c3,.slice a4 o.s.xs.length c4,.slice a2 o.row.length c2,.int .i64 o.key.1,.int .i64 o.key.2.1,.string o.key.2.2,.int .i64 o.col,.int .i64 o.lo.1,.int .i64 o.lo.2.1,.string o.lo.2.2,.int .i64 o.hi.1,.int .i64 o.hi.2.1,.string o.hi.2.2,.int .i64 o.lim] (0,0) _ HV4.o Tryz.underlying75 rfl (by kernel_rfl) ?_) | (refine wpList_buildSliceTo rfl 44 75 1 _ rfl w4.heap.size rfl _ rfl Tryz.underlying44 #[.int .i64 o.kind,.string o.nm,.string o.s.nm,.slice a3 o.s.cs.length c3,.slice a4 o.s.xs.length c4,.slice a2 o.row.length c2,.int .i64 o.key.1,.int .i64 o.key.2.1,.string o.key.2.2,.int .i64 o.col,.int .i64 o.lo.1,.int .i64 o.lo.2.1,.string o.lo.2.2,.int .i64 o.hi.1,.int .i64 o.hi.2.1,.string o.hi.2.2,.int .i64 o.lim] (by kernel_rfl) ?_) | (at_builtin;refine aAx aBl (by omega) fO_one Tryz.underlying44 aF1 rfl (by omega) rfl (.tmp 38) (.tmp 40) rfl (B1:=w.heap.size) (F:=ls) (G:=[x]) rfl rfl HOW5.o.own HG5.o (by have:=HBE.o.size;have:=HB5.o.size;omega) (by have:=HLS.o;omega) ?_;intro v7 w7 ho7 hb7 hk7 hv7;have hadd:=HOW5.o.add aA0 HPX5.o HNX5.o ho7 hb7.size hk7 hv7;have HADD:=zH hadd;have HB7:=zH hb7;obtain ⟨a7,c7,e7,_⟩:=aAo aBl ho7 rfl;generalize (ls++[x]).length=m7 at e7;subst e7;clear ho7 hb7 hk7 hv7 hadd));go_roundg (gk-1)
   case measure=>omega
   case rel =>
    refine ⟨j+1,_,_,_,ls++[x],by omega,rfl,rfl,HADD.o,?_,?_,?_,?_⟩
    ·rw [List.map_append,HCT.o,List.take_add_one,HO.o,List.map_append];show _++[x.ct]=_++[o.ct];rw [HCX.o]
    ·intro q hq;rcases List.mem_append.1 hq with hq | hq
     ·exact HLL.o q hq
     ·obtain rfl:q=x:=by simpa using hq
      exact HLX.o
    ·intro q hq b hb;rcases List.mem_append.1 hq with hq | hq
     ·exact HBK.o q hq b hb
     ·obtain rfl:q=x:=by simpa using hq
      have:=HNX.o b hb;have:=HVE.o;have:=HBE.o.size;omega
    ·exact (HBE.o.trans (HB5.o.mono HBE.o.size)).trans HB7.o
  ·have xj:¬ (j:Int)<(n:Int):=by omega
   have hj9:j=n:=by omega
   have HRX:Hid (ops.take j=ops):=by show _=_;rw [hj9];exact List.take_of_length_le (by rw [HLN0.o];omega)
   have hct:=HCT.o;rw [HRX.o] at hct;have HCT9:=zH hct;obtain ⟨a9,c9,e9,hs9⟩:=aAo aBl HOW.o.own rfl;simp only [Value.slice.injEq] at e9;obtain ⟨rfl,rfl,rfl⟩:=e9;have HS9:=zH hs9;clear hct hs9;go_wp2;go_ret;refine ⟨va,vc,ls,rfl,HS9.o,HOW.o.mem,HCT9.o,HLL.o,fun b hb=>?_,fun y hy b hb=>⟨HBK.o y hy b hb,(HOW.o.ap y hy b hb).2⟩,HBE.o⟩
   cases va with
   | none=>cases hb
   | some ad =>
    obtain rfl:b=ad.block:=by simpa [oblk] using hb
    exact HOW.o.own.lt ad.block rfl
theorem cmd_lt {y:CmdV} (h:CmdP w y):∀ b∈CmdV.blks y,b<w.heap.size:=by
 intro b hb;unfold CmdV.blks at hb;rcases List.mem_append.1 hb with q | q
 ·exact (aBk (B:=0) h.sv (fun _ _ _ _=>Nat.zero_le _) b q).2
 ·obtain ⟨o,ho,q⟩:=List.mem_flatMap.1 q;exact op_lt (h.ops o ho) b q
theorem fewE_ok {y:EntV} (h:EntP w y) (hl:EntL y) :
  Calls Tryz.prog 6 #[.agg #[.int .i64 y.kind,.int .i64 y.srv,.slice y.ca y.cl y.cc,.int .i64 y.n]] w fun e w'=>∃ z:EntV,e=.returned (.agg #[.int .i64 z.kind,.int .i64 z.srv,.slice z.ca z.cl z.cc,.int .i64 z.n])/\EntP w' z/\Below w.heap.size w w':=by
 obtain ⟨L,hL⟩:∃ L,w.heap.size=L:=⟨_,rfl⟩;obtain ⟨w1,hw1⟩:∃ w1,(w.alloc (.cells #[.int .i64 y.kind,.int .i64 y.srv,.slice y.ca y.cl y.cc,.int .i64 y.n] 24)).alloc (.cells #[.int .i64 0,.int .i64 0,.slice none 0 0,.int .i64 0] 24)=w1:=⟨_,rfl⟩;have HA1:Hid (w1.heap[L]?=some (.cells #[.int .i64 y.kind,.int .i64 y.srv,.slice y.ca y.cl y.cc,.int .i64 y.n] 24 (0,0))):=by show _=_;rw [<-hw1,<-hL];exact heap_alloc2_old w _ _
 have HZ1:Hid (w1.heap[L+1]?=some (.cells #[.int .i64 0,.int .i64 0,.slice none 0 0,.int .i64 0] 24 (0,0))):=by show _=_;rw [<-hw1,<-hL];exact heap_alloc2_new w _ _
 have hb1:Below w.heap.size w w1:=by rw [<-hw1];exact (aAc w _).trans ((aAc _ _).mono (aAc w _).size)
 have HB1:Hid (Below L w w1):=by show Below L w w1;rw [<-hL];exact hb1
 have HE:=zH (h.later hb1);have HP1:Hid (∀ c∈y.cmds,CmdL c):=fun c hc=>hl.2 c hc
 have HLN:Hid (y.cmds.length=y.cl/\y.cl<=1048576):=⟨h.sv.hl,hl.1⟩;have HL:=zH hL;have HW:=zH hw1;have HWS:Hid (w1.heap.size=L+2):=by show _=_;rw [<-hw1,<-hL];simp only [World.alloc,Array.size_push]
 rw [hL];clear h hl hb1;go_enter Tryz.func6,Tryz.ntmps6;go_upto_region 1 with fail;clear hw1 hL;go_wp2_with fail;go_loopg [3,4] 4 (fun gh s3 s4 wx=>∃ (j:Nat) (va:Option Addr) (vn vc:Nat) (ls:List CmdV),j+gh=4/\s3=.slice va vn vc/\s4=.int .i64 (j:Int)/\OwnR fCm 3 46 CmdV.blks CmdP (L+2) wx (.slice va vn vc) ls/\ls.length=j/\(∀ x∈ls,∀ b∈CmdV.blks x,L+2<=b)/\Below w1.heap.size w1 wx)
 case atStart=>exact ⟨0,none,0,0,[],by omega,rfl,rfl,OwnR.nil _ _ _ _ _ _ _,rfl,by simp,Below.refl _ _⟩
 case round =>
  obtain ⟨j,va,vn,vc,ls,hj,rfl,rfl,how,hln,hbk,hbe⟩:=hrel;have HOW:=zH how;have HLS:=zH hln;have HBK:=zH hbk;have HBE:=zH hbe;have HSZ:Hid (w1.heap.size<=wr.heap.size):=hbe.size;have HZL:Hid (L+2<=w1.heap.size):=by have:=aAb HZ1.o;show _<=_;omega
  have HAR:=zH ((hbe.block L (by have:=HZL.o;omega)).trans HA1.o);have HZR:=zH ((hbe.block (L+1) (by have:=HZL.o;omega)).trans HZ1.o);have y2:wr.cell? ⟨L,2,none⟩=some (.slice y.ca y.cl y.cc):=aAa HAR.o;clear how hln hbk hbe;by_cases hjn:j<y.cl/\j<4
  ·obtain ⟨hj1,hj4⟩:=hjn;have xj:(j:Int)<(y.cl:Int):=by omega
   have xj4:(j:Int)<4:=by omega
   obtain ⟨o,ho⟩:∃ x,y.cmds[j]?=some x:=⟨_,gE (by rw [HLN.o.1];exact hj1)⟩;have HO:=zH ho;have HBEL:Hid (Below w1.heap.size w1 wr):=HBE.o;have HOP:Hid (CmdP wr o):=(HE.o.cmds o (mG ho)).later HBE.o;have HLO:Hid (CmdL o):=HP1.o o (mG ho);have HQL:Hid (o.ops.length=o.on):=HOP.o.sv.hl;obtain ⟨b,of,ea,hb,hcc⟩:=(HE.o.sv.later HBE.o).pl (by omega);have hcell:=fun t (ht:t<3)=>hcc j o ho t ht
   have HRG:Hid (wr.rangeAt b (of+j*3) (fCm o)):=fun t v hv=>by
    have ht:t<3:=(lL hv);rw [<-hv];exact hcell t ht
   have hz0:(wr.alloc (.cells #[.int .i64 0,.int .i64 0,.slice none 0 0] 46)).heap[wr.heap.size]?=some (.cells #[.int .i64 0,.int .i64 0,.slice none 0 0] 46 (0,0)):=boxed wr _;have HZ0:=zH hz0;have HV1:Hid (((wr.alloc (.cells #[.int .i64 0,.int .i64 0,.slice none 0 0] 46)).setRow wr.heap.size (fCm o).toArray).heap[wr.heap.size]?=some (.cells #[.int .i64 o.sess,.int .i64 o.seq,.slice o.oa o.on o.oc] 46 (0,0))):=setRow_heap _ _ _ _ _ _ hz0;have HB2:Hid (Below wr.heap.size wr ((wr.alloc (.cells #[.int .i64 0,.int .i64 0,.slice none 0 0] 46)).setRow wr.heap.size (fCm o).toArray)):=below_setRow (aAc wr _) (nR _) _;obtain ⟨V,hV⟩:∃ V,V=wr.heap.size:=⟨_,rfl⟩;have HVE:Hid (wr.heap.size=V):=hV.symm;rw [ea] at y2;clear ea;clear hz0 hcc hcell ho hb;go_upto_region 6 with (first | (refine wpList_load_mid rfl 46 (.tmp 20) rfl b (of+j*3) rfl (fCm o) _ HRG.o Tryz.underlying46 rfl (by kernel_rfl) ?_) | (refine wpList_store_row rfl 46 (.tmp 5) (.tmp 21) rfl wr.heap.size (fCm o).toArray rfl rfl 46 #[.int .i64 0,.int .i64 0,.slice none 0 0] HZ0.o (by kernel_rfl) rfl (by kernel_rfl) ?_));clear HZ0 HRG;generalize (wr.alloc (.cells #[.int .i64 0,.int .i64 0,.slice none 0 0] 46)).setRow wr.heap.size (fCm o).toArray=w2 at *
   rw [<-hV] at HV1 ⊢;clear hV y2;have y2:w2.cell? ⟨V,2,none⟩=some (.slice o.oa o.on o.oc):=aAa HV1.o;obtain ⟨m,hm,hmn,hm4⟩:∃ m:Nat,min (o.on:Int) 4=(m:Int)/\m<=o.on/\m<=4:=⟨min o.on 4,by omega,by omega,by omega⟩;have hoc:m<=o.oc:=by have:=HOP.o.sv.hc;omega
   have xm1:(m:Int)<=(o.oc:Int):=by omega
   have xm2:¬ (m:Int)<0:=by omega
   have xm3:¬ (o.oc:Int)<(m:Int):=by omega
   go_wp2_with fail;have HCO:=zH (copops_ok ((HOP.o.sv.later HB2.o).take hmn) (fun q hq=>⟨(HOP.o.ops q (List.mem_of_mem_take hq)).later HB2.o,HLO.o.2 q (List.mem_of_mem_take hq)⟩) (by omega));refine HCO.o.mono ?_;rintro e w3 ⟨a2,c2,l2,rfl,hsv,hop,_,_,hbl,hbk2,hbe2⟩;obtain ⟨n2,hn2⟩:∃ q,l2.length=q:=⟨_,rfl⟩;rw [hn2] at hsv;have HN2:=zH hn2;have HSV2:=zH hsv;have HOP2:=zH hop;have HBL2:=zH hbl;have HBK2:=zH hbk2;have HBE2:=zH hbe2;have HVL:Hid (V<w2.heap.size):=aAb HV1.o;have HV3:=zH ((hbe2.block V (aAb HV1.o)).trans HV1.o);clear y2 hsv hop hbl hbk2 hbe2 HCO;have y2:w3.cell? ⟨V,2,none⟩=some (.slice o.oa o.on o.oc):=aAa HV3.o;have yf2:w3.frozen? ⟨V,2,none⟩=false:=aAg HV3.o;rw [hn2];clear hn2;go_upto_region 7 with fail;clear y2 yf2;obtain ⟨w4,hw4⟩:∃ x,x=w3.setCell ⟨V,2,none⟩ (.slice a2 n2 c2):=⟨_,rfl⟩;have HV4:Hid (w4.heap[V]?=some (.cells #[.int .i64 o.sess,.int .i64 o.seq,.slice a2 n2 c2] 46 (0,0))):=by
    show _=_;rw [hw4];exact heap_setCell_same _ _ _ _ _ _ HV3.o
   have HZ4:Hid (w3.heap.size<=w4.heap.size):=by
    show _<=_;rw [hw4];exact ((Below.refl 0 w3).setCell (p:=⟨V,2,none⟩) (Nat.zero_le _) _).size
   have HB4:Hid (Below wr.heap.size wr w4):=by
    show Below _ _ _;rw [hw4];exact ((HB2.o.trans (HBE2.o.mono (by have:=HVL.o;have:=HVE.o;omega))).setCell (p:=⟨V,2,none⟩) (by show _<=V;have:=HVE.o;omega) _)
   obtain ⟨x,hx⟩:∃ x:CmdV,x=(⟨o.sess,o.seq,a2,n2,c2,l2⟩:CmdV):=⟨_,rfl⟩;have HX:=zH hx;have HNX:Hid (∀ b∈CmdV.blks x,V<b):=by
    intro b hb;rw [hx] at hb;unfold CmdV.blks obl at hb;have:=HVL.o;rcases List.mem_append.1 hb with q | q
    ·split at q
     ·have:=HBL2.o b q;omega
     ·cases q
    ·obtain ⟨u,hu,q⟩:=List.mem_flatMap.1 q;have:=HBK2.o u hu b q;omega
   have HPX:Hid (CmdP w4 x):=by
    refine aAs w3 w4 x ?_ HZ4.o (fun b hb _=>by rw [hw4];exact heap_setCell_other _ _ _ _ (by show b≠V;have:=HNX.o b hb;omega));rw [hx];exact ⟨HOP.o.s,HOP.o.q,HSV2.o,HOP2.o⟩
   rw [<-hw4];clear hw4;have HOW4:=zH (HOW.o.later aAs HB4.o);have hb5:=aAc w4 (.cells #[.int .i64 o.sess,.int .i64 o.seq,.slice a2 n2 c2] 46);have HOW5:=zH (HOW4.o.later aAs hb5);have HPX5:=zH (HPX.o.later hb5);have HG5:Hid (SV fCm 3 (w4.alloc (.cells #[.int .i64 o.sess,.int .i64 o.seq,.slice a2 n2 c2] 46)) (some ⟨w4.heap.size,0,none⟩) 1 1 [x]):=by
    show SV _ _ _ _ _ _ _;rw [hx];exact SV.whole aAy rfl (by omega) (boxed w4 _)
   have HB5:Hid (Below wr.heap.size wr (w4.alloc (.cells #[.int .i64 o.sess,.int .i64 o.seq,.slice a2 n2 c2] 46))):=HB4.o.trans (hb5.mono HB4.o.size);have HNX5:Hid (∀ b∈CmdV.blks x,(Value.slice va vn vc).ownBlock≠some b/\b<(w4.alloc (.cells #[.int .i64 o.sess,.int .i64 o.seq,.slice a2 n2 c2] 46)).heap.size):=fun b hb=>⟨fun e=>by have:=HOW.o.own.lt b e; have:=HNX.o b hb;have:=HVE.o;omega,by have:=cmd_lt HPX5.o b hb;exact this⟩
   clear hx hb5;go_wp2_with (first | (refine wpList_load_row rfl 46 (.tmp 5) rfl V rfl 46 #[.int .i64 o.sess,.int .i64 o.seq,.slice a2 n2 c2] (0,0) _ HV4.o Tryz.underlying46 rfl (by kernel_rfl) ?_) | (refine wpList_buildSliceTo rfl 22 46 1 _ rfl w4.heap.size rfl _ rfl Tryz.underlying22 #[.int .i64 o.sess,.int .i64 o.seq,.slice a2 n2 c2] (by kernel_rfl) ?_) | (at_builtin;refine aAx aAy (by omega) aF4 Tryz.underlying22 aEi rfl (by omega) rfl (.tmp 31) (.tmp 33) rfl (B1:=L+2) (F:=ls) (G:=[x]) rfl rfl HOW5.o.own HG5.o (by have:=HZL.o;have:=HSZ.o;have:=HB5.o.size;omega) (by have:=HLS.o;omega) ?_;intro v7 w7 ho7 hb7 hk7 hv7;have hadd:=HOW5.o.add aAs HPX5.o HNX5.o ho7 hb7.size hk7 hv7;have HADD:=zH hadd;have HB7:=zH hb7;obtain ⟨a7,c7,e7,_⟩:=aAo aAy ho7 rfl;generalize (ls++[x]).length=m7 at e7;subst e7;clear ho7 hb7 hk7 hv7 hadd));go_roundg (gk-1)
   case measure=>omega
   case rel =>
    refine ⟨j+1,_,_,_,ls++[x],by omega,rfl,rfl,HADD.o,by rw [lA,HLS.o];rfl,?_,?_⟩
    ·intro q hq b hb;rcases List.mem_append.1 hq with hq | hq
     ·exact HBK.o q hq b hb
     ·obtain rfl:q=x:=by simpa using hq
      have:=HNX.o b hb;have:=HVE.o;have:=HSZ.o;have:=HZL.o;omega
    ·exact (HBE.o.trans (HB5.o.mono HSZ.o)).trans (HB7.o.mono (by have:=HWS.o;omega))
  ·have HOR:Hid (¬ (j:Int)<(y.cl:Int)\/((j:Int)<(y.cl:Int)/\¬ (j:Int)<4)):=by
    by_cases h1:j<y.cl
    ·exact Or.inr ⟨by omega,by omega⟩
    ·exact Or.inl (by omega)
   have yf2:wr.frozen? ⟨L,2,none⟩=false:=aAg HAR.o;obtain ⟨w4,hw4⟩:∃ x,x=wr.setCell ⟨L,2,none⟩ (.slice va vn vc):=⟨_,rfl⟩;have HA4:Hid (w4.heap[L]?=some (.cells #[.int .i64 y.kind,.int .i64 y.srv,.slice va vn vc,.int .i64 y.n] 24 (0,0))):=by
    show _=_;rw [hw4];exact heap_setCell_same _ _ _ _ _ _ HAR.o
   have HS4:Hid (wr.heap.size<=w4.heap.size):=by
    show _<=_;rw [hw4];exact ((Below.refl 0 wr).setCell (p:=⟨L,2,none⟩) (Nat.zero_le _) _).size
   have HO4:Hid (∀ i,i≠L->w4.heap[i]?=wr.heap[i]?):=fun i hi=>by rw [hw4];exact heap_setCell_other _ _ _ _ (show i≠L from hi)
   have HZ4:Hid (w4.heap[L+1]?=some (.cells #[.int .i64 0,.int .i64 0,.slice none 0 0,.int .i64 0] 24 (0,0))):=(HO4.o (L+1) (by omega)).trans HZR.o;have HB4:Hid (Below L w (w4.setRow (L+1) #[.int .i64 y.kind,.int .i64 y.srv,.slice va vn vc,.int .i64 y.n])):=by
    show Below _ _ _;rw [hw4];exact below_setRow (((HB1.o.trans (HBE.o.mono (by have:=HWS.o;omega))).setCell (p:=⟨L,2,none⟩) (nR _) _)) (by omega) _
   have HO5:Hid (∀ i,i≠L->i≠L+1->(w4.setRow (L+1) #[.int .i64 y.kind,.int .i64 y.srv,.slice va vn vc,.int .i64 y.n]).heap[i]?=wr.heap[i]?):=fun i h1 h2=>(setRow_other _ _ _ _ h2).trans (HO4.o i h1)
   have HS5:Hid (wr.heap.size<=(w4.setRow (L+1) #[.int .i64 y.kind,.int .i64 y.srv,.slice va vn vc,.int .i64 y.n]).heap.size):=nT HS4.o (below_setRow (Below.refl 0 w4) (Nat.zero_le _) _).size;have HOW5:=zH (HOW.o.keep (w':=w4.setRow (L+1) #[.int .i64 y.kind,.int .i64 y.srv,.slice va vn vc,.int .i64 y.n]) aAs HS5.o (aBc HOW.o.own fun g e=>HO5.o g (by have:=HOW.o.own.lt g e;omega) (by have:=HOW.o.own.lt g e;omega)) (fun i hi ⟨q,hq,hb1⟩=>HO5.o i (by have:=HBK.o q hq i hb1;omega) (by have:=HBK.o q hq i hb1;omega)));rcases HOR.o with xj | ⟨xj,xj4⟩
   all_goals
    go_upto_region 9 with fail;rw [<-hw4];clear hw4 y2 yf2;go_wp2_with (first | (refine wpList_load_row rfl 24 (.tmp 1) rfl L rfl 24 #[.int .i64 y.kind,.int .i64 y.srv,.slice va vn vc,.int .i64 y.n] (0,0) _ HA4.o Tryz.underlying24 rfl (by kernel_rfl) ?_) | (refine wpList_store_row rfl 24 (.tmp 2) (.tmp 37) rfl (L+1) #[.int .i64 y.kind,.int .i64 y.srv,.slice va vn vc,.int .i64 y.n] rfl rfl 24 #[.int .i64 0,.int .i64 0,.slice none 0 0,.int .i64 0] HZ4.o (by kernel_rfl) rfl (by kernel_rfl) ?_));(try simp only [Exit.inBlock,Exit.then]);refine bodyPost_ret (results_cell_row Tryz.results6 _ _ (L+1) _ _ _ _ rfl (setRow_heap _ _ _ _ _ _ HZ4.o) Tryz.underlying24 rfl (by kernel_rfl)) rfl ?_;obtain ⟨a8,c8,e8,hsv⟩:=aAo aAy HOW5.o.own rfl;simp only [Value.slice.injEq] at e8;obtain ⟨rfl,rfl,rfl⟩:=e8;exact ⟨⟨y.kind,y.srv,va,ls.length,vc,ls,y.n⟩,rfl,⟨HE.o.k,HE.o.s,HE.o.m,hsv,HOW5.o.mem⟩,HB4.o⟩
theorem i64_mask17 (n:Int) (b:Nat) (hb:b<=16) (m:Int) (hm:m=2 ^ b-1):bits .and .i64 n m=n % 2 ^ b:=by
 have hm2:(BitVec.ofInt 64 m).toNat=2 ^ b-1:=by
  rw [BitVec.toNat_ofInt,hm];have h1:(1:Nat)<=2 ^ b:=Nat.one_le_two_pow;have h2:(2:Nat) ^ b<=2 ^ 16:=Nat.pow_le_pow_right (by omega) hb;have e:((2:Int) ^ b-1)=((2 ^ b-1:Nat):Int):=by
   rw [Int.ofNat_sub h1];simp
  rw [e];omega
 have key:(BitVec.ofInt 64 n &&& BitVec.ofInt 64 m).toNat=(n % ((2 ^ 64:Nat):Int)).toNat % 2 ^ b:=by
  rw [BitVec.toNat_and,BitVec.toNat_ofInt,hm2,Nat.and_two_pow_sub_one_eq_mod]
 show IntKind.i64.wrap ((BitVec.ofInt 64 n &&& BitVec.ofInt 64 m).toNat:Nat)=n % 2 ^ b;rw [key,IntKind.wrap_i64];have hc:b=0\/b=1\/b=2\/b=3\/b=4\/b=5\/b=6\/b=7\/b=8\/b=9\/b=10\/b=11\/b=12\/b=13\/b=14\/b=15\/b=16:=by omega
 rcases hc with rfl | rfl | rfl | rfl | rfl | rfl | rfl | rfl | rfl | rfl | rfl | rfl | rfl | rfl | rfl | rfl | rfl<;>omega
theorem own_slot17 (h:w.ownsRow B 5 1 v n (cellsOf xs)) (h0:0<n) :
  ∃ g cap,v=.slice (some ⟨g,0,none⟩) n cap/\n<=cap/\cap<=maxLen/\B<=g/\g<w.heap.size/\(∀ j,w.frozen? ⟨g,j,none⟩=false)/\(∀ j,j<n->w.cell? ⟨g,j,none⟩=some (.int .u8 (xs.getD j 0:Nat))) /\
   ∀ j c,j<n->(w.setCell ⟨g,j,none⟩ (.int .u8 (c:Nat))).ownsRow B 5 1 v n (cellsOf (xs.set j c)):=by
 have hx:xs.length=n:=by have:=h.1;rw [aAi] at this;omega
 rcases h.2 with ⟨_,h1⟩ | ⟨g,cap,cur,rfl,hB,hg,hnc,hcm,hcs,ht⟩
 ·omega
 ·rw [Nat.mul_one] at hcs ht;refine ⟨g,cap,rfl,hnc,hcm,hB,(lO hg),fun j=>aAg hg,fun j hj=>?_,fun j c hj=>?_⟩
  ·rw [aAa hg,<-aBp xs j (by omega),<-ht,List.getElem?_take_of_lt hj,Array.getElem?_toList]
  ·refine ⟨by rw [aAi,List.length_set];omega,.inr ⟨g,cap,_,rfl,hB,Go.heap_setCell_same w g j cur _ _ hg,hnc,hcm,?_,?_⟩⟩
   ·simp [hcs]
   ·have e:cellsOf (xs.set j c)=(cellsOf xs).set j (.int .u8 (c:Nat)):=by simp [cellsOf,List.map_set]
    rw [Nat.mul_one,e,<-ht,Array.toList_setIfInBounds,List.take_set]
theorem encW_some (n:Nat):0<(encW n).length:=by
 unfold encW;simp
theorem encE_pos (e:EntV):0<(encE e).length:=by
 have:=encW_some e.kind.toNat;unfold encE;simp only [lA];omega
theorem bs_take17 (h:BS w a n c xs) (hk:k<=n):BS w a k c (xs.take k):=⟨by rw [List.length_take,h.hlen];omega,by have:=h.hcap;omega,by have:=h.hroom;omega,h.hmax,fun m hm=>h.hbyte m (List.mem_of_mem_take hm),h.hnil,fun x e i hi=>by rw [h.hcell x e i (by omega),List.getD_eq_getElem?_getD,List.getD_eq_getElem?_getD,List.getElem?_take_of_lt hi]⟩
theorem svb_drop {l:List Nat} (h:SV fB 1 w (some ⟨b,o,none⟩) n c l) (hk:k<=n):SV fB 1 w (some ⟨b,o+k,none⟩) (n-k) (c-k) (l.drop k):=by
 refine ⟨by rw [List.length_drop,h.hl],by have:=h.hc;omega,by have:=h.hm;omega,(fun q=>by cases q),fun h0=>?_⟩;obtain ⟨b',o',e,hlt,hc⟩:=h.pl (by omega);simp only [oI,Addr.mk.injEq,and_true] at e;obtain ⟨rfl,rfl⟩:=e;refine ⟨b,o+k,rfl,hlt,fun i x hx t ht=>?_⟩;rw [List.getElem?_drop] at hx;have:=hc (k+i) x hx t ht;rw [<-this]
 congr 2
 omega
theorem aF9 {e:Ending} (h:DcR xs e w):∃ (z:EntV) (er:Int),e=.returned (.tuple #[.agg #[.int .i64 z.kind,.int .i64 z.srv,.slice z.ca z.cl z.cc,.int .i64 z.n],.int .i64 er])/\((er=0/\entRt z=true/\encE z=xs/\EntP w z)\/er=11):=by
 obtain ⟨z,_,h⟩:=h;rcases h with ⟨h1,h2,h3,h4⟩ | ⟨_,h3⟩
 ·exact ⟨z,0,h3,Or.inl ⟨rfl,h1,h2,h4⟩⟩
 ·exact ⟨⟨0,0,none,0,0,[],0⟩,11,h3,Or.inr rfl⟩
theorem aEy (a:Option Addr) (n c:Nat) (xs:List Nat) (y:EntV) (i:Int) (u:Nat) (hu:u<256) (W:World) (hb:BS W a n c xs) (he:EntP W y) (hl:EntL y) :
  Calls Tryz.prog 5 #[.slice a n c,.agg #[.int .i64 y.kind,.int .i64 y.srv,.slice y.ca y.cl y.cc,.int .i64 y.n],.int .i64 i,.int .u8 (u:Int)] W fun e W'=>e=.returned (.bool true)/\Below W.heap.size W W':=by
 have hbx:=aAc W (.cells #[.int .i64 y.kind,.int .i64 y.srv,.slice y.ca y.cl y.cc,.int .i64 y.n] 24);have HR1:Hid ((W.alloc (.cells #[.int .i64 y.kind,.int .i64 y.srv,.slice y.ca y.cl y.cc,.int .i64 y.n] 24)).heap[W.heap.size]?=some (.cells #[.int .i64 y.kind,.int .i64 y.srv,.slice y.ca y.cl y.cc,.int .i64 y.n] 24 (0,0))):=boxed W _;have HW1:=zH hbx;have HE1:=zH (he.later hbx);have HL:=zH hl;have HB1:=zH (hb.later hbx (nR _));clear hbx he hl hb;go_enter Tryz.func5,Tryz.ntmps5;go_upto_region 1 with fail;generalize W.alloc (.cells #[.int .i64 y.kind,.int .i64 y.srv,.slice y.ca y.cl y.cc,.int .i64 y.n] 24)=w1 at *
 generalize hL:W.heap.size=L at *
 have HD:=zH (aB6 HB1.o);go_wp2_with fail;refine HD.o.mono ?_;rintro e u2 ⟨hd,hb⟩;have HW2:Hid (Below w1.heap.size w1 u2):=hb;have HBS2:=zH (HB1.o.later hb (nR _));clear hb HD;obtain ⟨z,er,rfl,hor⟩:=aF9 hd;have hbx:=aAc u2 (.cells #[.int .i64 z.kind,.int .i64 z.srv,.slice z.ca z.cl z.cc,.int .i64 z.n] 24);have HV3:Hid ((u2.alloc (.cells #[.int .i64 z.kind,.int .i64 z.srv,.slice z.ca z.cl z.cc,.int .i64 z.n] 24)).heap[u2.heap.size]?=some (.cells #[.int .i64 z.kind,.int .i64 z.srv,.slice z.ca z.cl z.cc,.int .i64 z.n] 24 (0,0))):=boxed u2 _;have HW3:Hid (Below w1.heap.size w1 (u2.alloc (.cells #[.int .i64 z.kind,.int .i64 z.srv,.slice z.ca z.cl z.cc,.int .i64 z.n] 24))):=HW2.o.trans (hbx.mono HW2.o.size);have HBS3:=zH (HBS2.o.later hbx (nR _));have hor:(er=0/\entRt z=true/\encE z=xs/\EntP (u2.alloc (.cells #[.int .i64 z.kind,.int .i64 z.srv,.slice z.ca z.cl z.cc,.int .i64 z.n] 24)) z)\/er=11:=hor.imp (fun q=>⟨q.1,q.2.1,q.2.2.1,q.2.2.2.later hbx⟩) id;have HOR:=zH hor;clear hbx hd hor;go_upto_if 42 with fail;generalize u2.alloc (.cells #[.int .i64 z.kind,.int .i64 z.srv,.slice z.ca z.cl z.cc,.int .i64 z.n] 24)=u3 at *
 generalize u2.heap.size=V at *
 go_cut [8] from 11 to 63 (fun cz wx=>cz=.bool false/\Below u3.heap.size u3 wx)
 case first =>
  as_aux_lemma =>
   rcases HOR.o with ⟨rfl,hrt,henc,hep⟩ | rfl
   ·have HEP3:=zH hep;have HOK:=zH hrt;have HEQ:=zH henc;clear hep hrt henc;have d1:((0:Int) == 0)=true:=rfl;go_upto_region 3 with fail;have y0:u3.cell? ⟨V,0,none⟩=some (.int .i64 z.kind):=aAa HV3.o;have y1:u3.cell? ⟨V,1,none⟩=some (.int .i64 z.srv):=aAa HV3.o;have y2:u3.cell? ⟨V,2,none⟩=some (.slice z.ca z.cl z.cc):=aAa HV3.o;have y3:u3.cell? ⟨V,3,none⟩=some (.int .i64 z.n):=aAa HV3.o;have HEN:=zH (aB5 HEP3.o);rw [if_pos HOK.o] at HEN;go_wp2_with fail;refine HEN.o.mono ?_;rintro e u4 ⟨a4,n4,c4,rfl,hx4,_,hb4⟩;have HX4:=zH (hx4 HOK.o);have HV4:=zH ((hb4.block V (aAb HV3.o)).trans HV3.o);have HW4:Hid (Below u3.heap.size u3 u4):=hb4;have HEP4:=zH (HEP3.o.later hb4);have HBS4:=zH (HBS3.o.later hb4 (nR _));clear hx4 hb4 HEN y0 y1 y2 y3;have tu:(convert 26 9 (.slice a4 n4 c4)).run Tryz.prog u4=.ok (.string (str xs)) u4:=by have h9:=HX4.o;rw [HEQ.o] at h9;exact run_text h9
    have tv:(convert 26 9 (.slice a n c)).run Tryz.prog u4=.ok (.string (str xs)) u4:=run_text HBS4.o;have y0:u4.cell? ⟨V,0,none⟩=some (.int .i64 z.kind):=aAa HV4.o;have y1:u4.cell? ⟨V,1,none⟩=some (.int .i64 z.srv):=aAa HV4.o;have y2:u4.cell? ⟨V,2,none⟩=some (.slice z.ca z.cl z.cc):=aAa HV4.o;have y3:u4.cell? ⟨V,3,none⟩=some (.int .i64 z.n):=aAa HV4.o;have HRT:=zH (aCr HEP4.o);rw [HOK.o] at HRT;go_wp2_with fail;refine HRT.o.mono ?_;rintro e u5 ⟨rfl,hb5⟩;have HW5:Hid (Below u3.heap.size u3 u5):=HW4.o.trans (hb5.mono HW4.o.size);clear hb5 HRT tu tv y0 y1 y2 y3;go_wp2;go_meet
    case rel=>exact ⟨rfl,HW5.o⟩
   ·have d1:((11:Int) == 0)=false:=rfl;have d2:((11:Int) != 11)=false:=rfl;go_wp2;go_meet
    case rel=>exact ⟨rfl,Below.refl _ _⟩
 case rest =>
  obtain ⟨rfl,hbc⟩:=hcut;have HX2:Hid (Below w1.heap.size w1 wc):=HW3.o.trans (hbc.mono HW3.o.size);have HR2:=zH ((HX2.o.block L (aAb HR1.o)).trans HR1.o);clear HV3 HOR HBS3 HBS2 hbc;have y0:wc.cell? ⟨L,0,none⟩=some (.int .i64 y.kind):=aAa HR2.o;have y1:wc.cell? ⟨L,1,none⟩=some (.int .i64 y.srv):=aAa HR2.o;have y2:wc.cell? ⟨L,2,none⟩=some (.slice y.ca y.cl y.cc):=aAa HR2.o;have y3:wc.cell? ⟨L,3,none⟩=some (.int .i64 y.n):=aAa HR2.o;have HF:=zH (fewE_ok (HE1.o.later HX2.o) HL.o);go_wp2_with fail;refine HF.o.mono ?_;rintro e v1 ⟨q,rfl,hep,hb⟩;have HX3:Hid (Below w1.heap.size w1 v1):=HX2.o.trans (hb.mono HX2.o.size);have HEN:=zH (aEz hep);clear hb hep HF y0 y1 y2 y3;go_wp2_with fail;refine HEN.o.mono ?_;rintro e v2 ⟨hen,hb⟩;have HX4:Hid (Below w1.heap.size w1 v2):=HX3.o.trans (hb.mono HX3.o.size);have HQ2:Hid (v1.heap.size<=v2.heap.size/\w1.heap.size<=v1.heap.size):=⟨hb.size,HX3.o.size⟩;clear hb HEN;unfold EncP at hen
  cases hok:entRt q with
  | false =>
   rw [hok,if_neg (by decide)] at hen;subst hen;have d1:((1:Int) != 0)=true:=rfl;clear hok;have HT:=zH (told17 v2);go_wp2_with fail;refine HT.o.mono ?_;rintro e v3 ⟨rfl,hb⟩;have HX5:Hid (Below L W v3):=HW1.o.trans ((HX4.o.trans (hb.mono HX4.o.size)).mono (by have:=aAb HR1.o;omega));clear hb HT;go_wp2;go_ret;exact ⟨rfl,by first | exact HX5.o | (rw [hL];exact HX5.o)⟩
  | true =>
   rw [hok,if_pos rfl] at hen;obtain ⟨v,rfl,hob⟩:=hen;obtain ⟨ab,cb,rfl⟩:=hob.form;have HLE:Hid ((encE q).length<=3100):=by exact encE_len hok
   have HPO:Hid (0<(encE q).length):=encE_pos q;have HBB:=zH (OB.bs hob (encE_lt _) (by have:=HLE.o;omega));have HOB:=zH hob;have HLB:Hid (∀ m∈encE q,m<256):=encE_lt q;clear hob hok;obtain ⟨bs,hbs⟩:∃ l,encE q=l:=⟨_,rfl⟩;rw [hbs] at HLE HPO HBB HOB HLB;obtain ⟨nb,hnb⟩:∃ m,bs.length=m:=⟨_,rfl⟩;have HNB:=zH hnb;rw [hbs,hnb];rw [hnb] at HLE HPO HBB;clear hbs hnb;have d0:((0:Int) != 0)=false:=rfl;have d2:((nb:Int) == 0)=false:=by have:=HPO.o;simp;omega
   have d3:¬ (nb:Int)=0:=by have:=HPO.o;omega
   go_upto_region 12 with fail;have HSB:Hid (SV fB 1 v2 ab nb cb bs):=by
    have h9:=HOB.o;unfold OB at h9;rw [<-aBm] at h9;obtain ⟨a9,c9,e9,h8⟩:=aAo aBt h9 rfl;rw [HNB.o] at e9 h8;simp only [Value.slice.injEq,true_and] at e9;obtain ⟨rfl,rfl⟩:=e9;exact h8
   go_upto_region 13 with (at_builtin;refine aAx aBt (by omega) aFm Tryz.underlying26 aF2 rfl (by omega) rfl (.tmp 78) (.tmp 79) rfl (B1:=v2.heap.size) (F:=[]) rfl rfl (aBu _ _ _ _) HSB.o (nR _) (by have:=HLE.o;simp only [List.length_nil];omega) ?_;intro v9 v3 ho9 hb9 _ _;have HO9:=zH ho9;have HB9:=zH hb9;clear ho9 hb9);have HOT:Hid (v3.ownsRow v2.heap.size 5 1 v9 nb (cellsOf bs)):=by
    have h9:=HO9.o;rw [List.nil_append,aBm,HNB.o] at h9;exact h9
   obtain ⟨tg,tc,rfl,htc,htm,htB,htl,htf,htx,hts⟩:=own_slot17 HOT.o HPO.o;have HTF:=zH htf;have HTX:=zH htx;have HTS:=zH hts;have HTG:Hid (v2.heap.size<=tg/\tg<v3.heap.size/\nb<=tc):=⟨htB,htl,htc⟩;clear htf htx hts htB htl htc htm HO9;have hm0:=i64_mask17 i 16 (by omega) 65535 (by decide);obtain ⟨r,hr⟩:∃ r:Nat,i % 2 ^ 16=(r:Int):=⟨(i % 2 ^ 16).toNat,by omega⟩;rw [hr] at hm0;obtain ⟨k,hk⟩:∃ k:Nat,r % nb=k:=⟨_,rfl⟩;have hkn:k<nb:=by rw [<-hk];exact Nat.mod_lt _ HPO.o
   have hrm:Int.tmod (r:Int) (nb:Int)=(k:Int):=by rw [<-hk];rfl
   have xk:(k:Int)<(nb:Int):=by omega
   have xk0:¬ (k:Int)<0:=by omega
   have yk:=HTX.o k hkn;have yf:=HTF.o k;clear hr hk;go_upto_region 15 with fail;clear yk yf xk0 hm0 hrm;obtain ⟨v4,hv4⟩:∃ x,x=v3.setCell ⟨tg,k,none⟩ (.int .u8 (u:Int)):=⟨_,rfl⟩;have HX6:Hid (Below v2.heap.size v2 v4):=by
    show Below _ _ _;rw [hv4];exact HB9.o.setCell (p:=⟨tg,k,none⟩) (by show _<=tg;have:=HTG.o;omega) _
   have HX7:Hid (Below w1.heap.size w1 v4):=HX4.o.trans (HX6.o.mono HX4.o.size);have HTL:Hid ((bs.set k u).length=nb):=by show _=_;rw [List.length_set];exact HNB.o
   have HBL:Hid (∀ m∈bs.set k u,m<256):=fun m hm=>by
    rcases List.mem_or_eq_of_mem_set hm with q | q
    ·exact HLB.o m q
    ·omega
   have HBT4:Hid (BS v4 (some ⟨tg,0,none⟩) nb tc (bs.set k u)):=by
    have h9:=HTS.o k u hkn;rw [<-hv4] at h9;have h8:=OB.bs (B:=v2.heap.size) (xs:=bs.set k u) (k:=nb) (c:=tc) (a:=some ⟨tg,0,none⟩) (w:=v4) (by unfold OB;rw [HTL.o];exact h9) HBL.o (by rw [HTL.o];have:=HLE.o;omega);rw [HTL.o] at h8;exact h8
   rw [<-hv4];clear hv4 HTF HTX HTS HOT;obtain ⟨ts,hts⟩:∃ l,bs.set k u=l:=⟨_,rfl⟩;rw [hts] at HBT4;clear hts;have HD:=zH (aB6 HBT4.o);go_wp2_with fail;refine HD.o.mono ?_;rintro e p2 ⟨hd,hb⟩;have HW2:Hid (Below v4.heap.size v4 p2):=hb;have HBS2:=zH (HBT4.o.later hb (nR _));clear hb HD;obtain ⟨z,er,rfl,hor⟩:=aF9 hd;have hbx:=aAc p2 (.cells #[.int .i64 z.kind,.int .i64 z.srv,.slice z.ca z.cl z.cc,.int .i64 z.n] 24);have HV3:Hid ((p2.alloc (.cells #[.int .i64 z.kind,.int .i64 z.srv,.slice z.ca z.cl z.cc,.int .i64 z.n] 24)).heap[p2.heap.size]?=some (.cells #[.int .i64 z.kind,.int .i64 z.srv,.slice z.ca z.cl z.cc,.int .i64 z.n] 24 (0,0))):=boxed p2 _;have HW3:Hid (Below v4.heap.size v4 (p2.alloc (.cells #[.int .i64 z.kind,.int .i64 z.srv,.slice z.ca z.cl z.cc,.int .i64 z.n] 24))):=HW2.o.trans (hbx.mono HW2.o.size);have HBS3:=zH (HBS2.o.later hbx (nR _));have hor:(er=0/\entRt z=true/\encE z=ts/\EntP (p2.alloc (.cells #[.int .i64 z.kind,.int .i64 z.srv,.slice z.ca z.cl z.cc,.int .i64 z.n] 24)) z)\/er=11:=hor.imp (fun q=>⟨q.1,q.2.1,q.2.2.1,q.2.2.2.later hbx⟩) id;have HOR:=zH hor;clear hbx hd hor;go_upto_if 96 with fail;generalize p2.alloc (.cells #[.int .i64 z.kind,.int .i64 z.srv,.slice z.ca z.cl z.cc,.int .i64 z.n] 24)=p3 at *
   generalize p2.heap.size=V2 at *
   go_cut [8] from 19 to 110 (fun cz wx=>cz=.bool false/\Below p3.heap.size p3 wx)
   case first =>
    as_aux_lemma =>
     rcases HOR.o with ⟨rfl,hrt,henc,hep⟩ | rfl
     ·have HEP3:=zH hep;have HOK:=zH hrt;have HEQ:=zH henc;clear hep hrt henc;have d1:((0:Int) == 0)=true:=rfl;go_upto_region 17 with fail;have y0:p3.cell? ⟨V2,0,none⟩=some (.int .i64 z.kind):=aAa HV3.o;have y1:p3.cell? ⟨V2,1,none⟩=some (.int .i64 z.srv):=aAa HV3.o;have y2:p3.cell? ⟨V2,2,none⟩=some (.slice z.ca z.cl z.cc):=aAa HV3.o;have y3:p3.cell? ⟨V2,3,none⟩=some (.int .i64 z.n):=aAa HV3.o;have HEN:=zH (aB5 HEP3.o);rw [if_pos HOK.o] at HEN;go_wp2_with fail;refine HEN.o.mono ?_;rintro e p4 ⟨a4,n4,c4,rfl,hx4,_,hb4⟩;have HX4:=zH (hx4 HOK.o);have HV4:=zH ((hb4.block V2 (aAb HV3.o)).trans HV3.o);have HW4:Hid (Below p3.heap.size p3 p4):=hb4;have HEP4:=zH (HEP3.o.later hb4);have HBS4:=zH (HBS3.o.later hb4 (nR _));clear hx4 hb4 HEN y0 y1 y2 y3;have tu:(convert 26 9 (.slice a4 n4 c4)).run Tryz.prog p4=.ok (.string (str ts)) p4:=by have h9:=HX4.o;rw [HEQ.o] at h9;exact run_text h9
      have tv:(convert 26 9 (.slice (some ⟨tg,0,none⟩) nb tc)).run Tryz.prog p4=.ok (.string (str ts)) p4:=run_text HBS4.o;go_wp2;go_meet
      case rel=>exact ⟨rfl,HW4.o⟩
     ·have d1:((11:Int) == 0)=false:=rfl;have d2:((11:Int) != 11)=false:=rfl;go_wp2;go_meet
      case rel=>exact ⟨rfl,Below.refl _ _⟩
   case rest =>
    obtain ⟨rfl,hbc⟩:=hcut;have HX8:Hid (Below v4.heap.size v4 wc):=HW3.o.trans (hbc.mono HW3.o.size);clear HV3 HOR HBS3 HBS2 hbc HW3 HW2;have HX9:Hid (Below v2.heap.size v2 wc):=HX6.o.trans (HX8.o.mono HX6.o.size);have HX10:Hid (Below w1.heap.size w1 wc):=HX4.o.trans (HX9.o.mono HX4.o.size);have HSC:=zH (HSB.o.later HX9.o);obtain ⟨bg,bo,eab,_,_⟩:=HSB.o.pl HPO.o;subst eab;have HCB:Hid (nb<=cb):=HSB.o.hc;have HKN:Hid (k<nb):=hkn;have HT1:Hid (SV fB 1 wc (some ⟨bg,bo,none⟩) k cb (bs.take k)):=HSC.o.take (by omega);have xk2:(k:Int)<=(cb:Int):=by have:=HCB.o;omega
    have xk3:¬ (k:Int)<0:=by omega
    have xk4:¬ (cb:Int)<(k:Int):=by have:=HCB.o;omega
    have xk5:(k:Int)<=(nb:Int):=by omega
    have xk6:¬ (nb:Int)<(k:Int):=by omega
    have xk7:¬ cb=k:=by have:=HCB.o;omega
    go_upto_region 22 with (at_builtin;refine aAx aBt (by omega) aFm Tryz.underlying26 aF2 rfl (by omega) rfl (.tmp 111) (.tmp 114) rfl (B1:=wc.heap.size) (F:=[]) (G:=(bs.take k)) rfl rfl (aBu _ _ _ _) HT1.o (nR _) (by have:=HLE.o;simp only [List.length_nil];omega) ?_;intro v9 w5 ho9 hb9 _ _;have HO5:=zH ho9;have HB5:=zH hb9;obtain ⟨a5,c5,e9,_⟩:=aAo aBt ho9 rfl;generalize hm9:([]++(bs.take k)).length=m5 at e9;subst e9;have HM5:=zH hm9;clear ho9 hb9 hm9);have hb6:=aAc w5 (.cells #[.int .u8 (u:Int)] 5);have HO5b:=zH (aAm HO5.o hb6);have HG6:Hid (SV fB 1 (w5.alloc (.cells #[.int .u8 (u:Int)] 5)) (some ⟨w5.heap.size,0,none⟩) 1 1 [u]):=SV.whole aBt rfl (by omega) (boxed w5 _);have HB5b:Hid (Below wc.heap.size wc (w5.alloc (.cells #[.int .u8 (u:Int)] 5))):=HB5.o.trans (hb6.mono HB5.o.size);have HM5b:Hid (m5<=3100):=by have h9:=HM5.o;rw [List.nil_append,List.length_take] at h9;have:=HLE.o;have:=HKN.o;show _<=_;omega
    clear hb6;go_upto_region 23 with (at_builtin;refine aAx aBt (by omega) aFm Tryz.underlying26 aF2 rfl (by omega) rfl (.tmp 116) (.tmp 118) rfl (B1:=wc.heap.size) (F:=([]++bs.take k)) (G:=[u]) rfl rfl HO5b.o HG6.o HB5b.o.size (by have:=HM5.o;have:=HM5b.o;omega) ?_;intro v9 w6 ho9 hb9 _ _;have HO6:=zH ho9;have HB6:=zH hb9;obtain ⟨a6,c6,e9,_⟩:=aAo aBt ho9 rfl;generalize hm9:(([]++bs.take k)++[u]).length=m6 at e9;subst e9;have HM6:=zH hm9;clear ho9 hb9 hm9);have HX11:Hid (Below wc.heap.size wc w6):=HB5b.o.trans HB6.o;have HT3:Hid (SV fB 1 w6 (some ⟨bg,bo+k,none⟩) (nb-k) (cb-k) (bs.drop k)):=svb_drop (HSC.o.later HX11.o) (by omega);have HM6b:Hid (m6<=3101):=by have h9:=HM6.o;rw [lA,HM5.o] at h9;simp only [List.length_cons,List.length_nil] at h9;have:=HM5b.o;show _<=_;omega
    go_upto_region 24 with (at_builtin;refine aAx aBt (by omega) aFm Tryz.underlying26 aF2 rfl (by omega) rfl (.tmp 120) (.tmp 123) rfl (B1:=wc.heap.size) (F:=([]++bs.take k++[u])) (G:=(bs.drop k)) rfl rfl HO6.o HT3.o HX11.o.size (by have:=HM6.o;have:=HM6b.o;have:=HLE.o;omega) ?_;intro v9 w7 ho9 hb9 _ _;have HO7:=zH ho9;have HB7:=zH hb9;obtain ⟨a7,c7,e9,_⟩:=aAo aBt ho9 rfl;generalize hm9:(([]++bs.take k++[u])++(bs.drop k)).length=m7 at e9;subst e9;have HM7:=zH hm9;clear ho9 hb9 hm9);have HX12:Hid (Below wc.heap.size wc w7):=HX11.o.trans HB7.o;have HBG:Hid (BS w7 a7 m7 c7 ([]++bs.take k++[u]++bs.drop k)):=by
     have h9:=HO7.o;rw [aBm] at h9;obtain ⟨a9,c9,e9⟩:=OB.form h9;rw [HM7.o] at e9;simp only [Value.slice.injEq,true_and] at e9;obtain ⟨rfl,rfl⟩:=e9;have h8:=HM7.o;have h7:OB wc.heap.size w7 (.slice a7 m7 c7) ([]++bs.take k++[u]++bs.drop k):=h9;rw [<-HM7.o] at h7
     have h6:=OB.bs h7 (fun m hm=>by
      simp only [List.nil_append,List.mem_append,List.mem_cons,List.not_mem_nil,or_false] at hm;rcases hm with (q | q) | q
      ·exact HLB.o m (List.mem_of_mem_take q)
      ·omega
      ·exact HLB.o m (List.mem_of_mem_drop q)) (by rw [lA,HM6.o,List.length_drop];have:=HM6b.o;have:=HLE.o;have:=HNB.o;omega)
     rw [HM7.o] at h6;exact h6
    obtain ⟨gs,hgs⟩:∃ l,[]++bs.take k++[u]++bs.drop k=l:=⟨_,rfl⟩;rw [hgs] at HBG;clear hgs;have HX13:Hid (Below w1.heap.size w1 w7):=HX10.o.trans (HX12.o.mono HX10.o.size);have HX14:Hid (Below v2.heap.size v2 w7):=HX9.o.trans (HX12.o.mono HX9.o.size);clear HO5 HO6 HO7 HB5 HB6 HB7 HT1 HT3 HG6 HO5b HB5b HM5 HM6 HM7 HM5b HM6b HSC;have HD:=zH (aB6 HBG.o);go_wp2_with fail;refine HD.o.mono ?_;rintro e s2 ⟨hd,hb⟩;have HW2:Hid (Below w7.heap.size w7 s2):=hb;have HBS2:=zH (HBG.o.later hb (nR _));clear hb HD;obtain ⟨z,er,rfl,hor⟩:=aF9 hd;have hbx:=aAc s2 (.cells #[.int .i64 z.kind,.int .i64 z.srv,.slice z.ca z.cl z.cc,.int .i64 z.n] 24);have HV3:Hid ((s2.alloc (.cells #[.int .i64 z.kind,.int .i64 z.srv,.slice z.ca z.cl z.cc,.int .i64 z.n] 24)).heap[s2.heap.size]?=some (.cells #[.int .i64 z.kind,.int .i64 z.srv,.slice z.ca z.cl z.cc,.int .i64 z.n] 24 (0,0))):=boxed s2 _;have HW3:Hid (Below w7.heap.size w7 (s2.alloc (.cells #[.int .i64 z.kind,.int .i64 z.srv,.slice z.ca z.cl z.cc,.int .i64 z.n] 24))):=HW2.o.trans (hbx.mono HW2.o.size);have HBS3:=zH (HBS2.o.later hbx (nR _));have hor:(er=0/\entRt z=true/\encE z=gs/\EntP (s2.alloc (.cells #[.int .i64 z.kind,.int .i64 z.srv,.slice z.ca z.cl z.cc,.int .i64 z.n] 24)) z)\/er=11:=hor.imp (fun q=>⟨q.1,q.2.1,q.2.2.1,q.2.2.2.later hbx⟩) id;have HOR:=zH hor;clear hbx hd hor;go_upto_if 131 with fail;generalize s2.alloc (.cells #[.int .i64 z.kind,.int .i64 z.srv,.slice z.ca z.cl z.cc,.int .i64 z.n] 24)=s3 at *
    generalize s2.heap.size=V3 at *
    go_cut [8] from 24 to 145 (fun cz wx=>cz=.bool false/\Below s3.heap.size s3 wx)
    case first =>
     as_aux_lemma =>
      rcases HOR.o with ⟨rfl,hrt,henc,hep⟩ | rfl
      ·have HEP3:=zH hep;have HOK:=zH hrt;have HEQ:=zH henc;clear hep hrt henc;have d1:((0:Int) == 0)=true:=rfl;go_upto_region 26 with fail;have y0:s3.cell? ⟨V3,0,none⟩=some (.int .i64 z.kind):=aAa HV3.o;have y1:s3.cell? ⟨V3,1,none⟩=some (.int .i64 z.srv):=aAa HV3.o;have y2:s3.cell? ⟨V3,2,none⟩=some (.slice z.ca z.cl z.cc):=aAa HV3.o;have y3:s3.cell? ⟨V3,3,none⟩=some (.int .i64 z.n):=aAa HV3.o;have HEN:=zH (aB5 HEP3.o);rw [if_pos HOK.o] at HEN;go_wp2_with fail;refine HEN.o.mono ?_;rintro e s4 ⟨a4,n4,c4,rfl,hx4,_,hb4⟩;have HX4:=zH (hx4 HOK.o);have HV4:=zH ((hb4.block V3 (aAb HV3.o)).trans HV3.o);have HW4:Hid (Below s3.heap.size s3 s4):=hb4;have HEP4:=zH (HEP3.o.later hb4);have HBS4:=zH (HBS3.o.later hb4 (nR _));clear hx4 hb4 HEN y0 y1 y2 y3;have tu:(convert 26 9 (.slice a4 n4 c4)).run Tryz.prog s4=.ok (.string (str gs)) s4:=by have h9:=HX4.o;rw [HEQ.o] at h9;exact run_text h9
       have tv:(convert 26 9 (.slice a7 m7 c7)).run Tryz.prog s4=.ok (.string (str gs)) s4:=run_text HBS4.o;go_wp2;go_meet
       case rel=>exact ⟨rfl,HW4.o⟩
      ·have d1:((11:Int) == 0)=false:=rfl;have d2:((11:Int) != 11)=false:=rfl;go_wp2;go_meet
       case rel=>exact ⟨rfl,Below.refl _ _⟩
    case rest =>
     obtain ⟨rfl,hbc⟩:=hcut;have HX15:Hid (Below w7.heap.size w7 wc):=HW3.o.trans (hbc.mono HW3.o.size);clear HV3 HOR HBS3 HBS2 hbc HW3 HW2;have HX16:Hid (Below v2.heap.size v2 wc):=HX14.o.trans (HX15.o.mono HX14.o.size);have HX17:Hid (Below w1.heap.size w1 wc):=HX4.o.trans (HX16.o.mono HX4.o.size);have HSC:=zH (HSB.o.later HX16.o);have HBC:Hid (BS wc (some ⟨bg,bo,none⟩) nb cb bs):=HBB.o.later HX16.o (nR _);have HBK:Hid (BS wc (some ⟨bg,bo,none⟩) k cb (bs.take k)):=bs_take17 HBC.o (by omega);have HDK:=zH (aB6 HBK.o);go_wp2_with fail;refine HDK.o.mono ?_;rintro e t2 ⟨hd,hb⟩;have HY2:Hid (Below wc.heap.size wc t2):=hb;clear hb HDK;obtain ⟨zk,ek,rfl,hok⟩:=dcr_ct hd;have HOKK:=zH hok;have hbx:=aAc t2 (.cells #[.int .i64 zk.kind,.int .i64 zk.srv,.slice zk.ca zk.cl zk.cc,.int .i64 zk.n] 24);have HY3:Hid (Below wc.heap.size wc (t2.alloc (.cells #[.int .i64 zk.kind,.int .i64 zk.srv,.slice zk.ca zk.cl zk.cc,.int .i64 zk.n] 24))):=HY2.o.trans (hbx.mono HY2.o.size);clear hd hok hbx;go_upto_region 30 with fail;generalize t2.alloc (.cells #[.int .i64 zk.kind,.int .i64 zk.srv,.slice zk.ca zk.cl zk.cc,.int .i64 zk.n] 24)=t3 at *
     generalize t2.heap.size=V4 at *
     have HDR:=zH (aCu (HB1.o.later (HX17.o.trans (HY3.o.mono HX17.o.size)) (nR _)));go_wp2_with fail;refine HDR.o.mono ?_;rintro e t4 ⟨hd,hb⟩;have HY4:Hid (Below wc.heap.size wc t4):=HY3.o.trans (hb.mono HY3.o.size);clear hb HDR;obtain ⟨re,rn,rra,rrl,rrc,rrs,e2,rfl,hrr⟩:=drp_form hd;have hbx:=aAc t4 (.cells #[.int .i64 re,.int .i64 rn,.slice rra rrl rrc] 37);have HV5:Hid ((t4.alloc (.cells #[.int .i64 re,.int .i64 rn,.slice rra rrl rrc] 37)).heap[t4.heap.size]?=some (.cells #[.int .i64 re,.int .i64 rn,.slice rra rrl rrc] 37 (0,0))):=boxed t4 _;have HY5:Hid (Below wc.heap.size wc (t4.alloc (.cells #[.int .i64 re,.int .i64 rn,.slice rra rrl rrc] 37))):=HY4.o.trans (hbx.mono HY4.o.size);have HRR:=zH (hrr.imp (fun q=>And.intro q.1 (And.intro q.2.1 (And.intro q.2.2.1 (And.intro (q.2.2.2.1.later hbx) q.2.2.2.2)))) id);clear hd hrr hbx;go_upto_if 159 with fail;generalize t4.alloc (.cells #[.int .i64 re,.int .i64 rn,.slice rra rrl rrc] 37)=t5 at *
     generalize t4.heap.size=V5 at *
     have HDD:Hid (BS t5 a n c xs):=HB1.o.later (HX17.o.trans (HY5.o.mono HX17.o.size)) (nR _);go_cut [8] from 30 to 173 (fun cz wx=>cz=.bool false/\Below t5.heap.size t5 wx)
     case first =>
      as_aux_lemma =>
       rcases HRR.o with ⟨rfl,hrt,henc,hrw,hrk⟩ | rfl
       ·have d1:((0:Int) == 0)=true:=rfl;have HEN:=zH (aDm hrw hrk (er:=re) (at_:=rn));rw [if_pos hrt] at HEN;have HRT:=zH hrt;have HEC:=zH henc;clear hrt henc hrw hrk;have y0:t5.cell? ⟨V5,0,none⟩=some (.int .i64 re):=aAa HV5.o;have y1:t5.cell? ⟨V5,1,none⟩=some (.int .i64 rn):=aAa HV5.o;have y2:t5.cell? ⟨V5,2,none⟩=some (.slice rra rrl rrc):=aAa HV5.o;go_wp2_with fail;refine HEN.o.mono ?_;rintro e t6 ⟨a6,n6,c6,rfl,hy,_,hb⟩;have h9:=hy HRT.o;rw [HEC.o] at h9;have tu:(convert 26 9 (.slice a6 n6 c6)).run Tryz.prog t6=.ok (.string (str xs)) t6:=run_text h9;have tv:(convert 26 9 (.slice a n c)).run Tryz.prog t6=.ok (.string (str xs)) t6:=run_text (HDD.o.later hb (nR _));have HY6:Hid (Below t5.heap.size t5 t6):=hb;clear h9 hy hb HEN y0 y1 y2;go_wp2;go_meet
        case rel=>exact ⟨rfl,HY6.o⟩
       ·have d1:((11:Int) == 0)=false:=rfl;go_wp2;go_meet
        case rel=>exact ⟨rfl,Below.refl _ _⟩
     case rest =>
      obtain ⟨rfl,hbc⟩:=hcut;have HY8:=zH (HY5.o.trans (hbc.mono HY5.o.size));have HXF:=zH (HX17.o.trans (HY8.o.mono HX17.o.size));clear HV5 HRR HDD hbc HY5 HY4 HY3 HY2;rcases HOKK.o with ⟨rfl,hct,hrt,henc⟩ | rfl
      ·have d1:((0:Int) == 0)=true:=rfl;have HD:=zH (aB6 (HBK.o.later HY8.o (nR _)));have HC3:=zH (And.intro hct (And.intro hrt henc));clear hct hrt henc;go_wp2_with fail;refine HD.o.mono ?_;rintro e q2 ⟨hd,hb⟩;have HZ2:=zH (HXF.o.trans (hb.mono HXF.o.size));have HK2:=zH ((HBK.o.later HY8.o (nR _)).later hb (nR _));clear hb HD;obtain ⟨z,hrt,henc,rfl,hep⟩:=dcr_again hd HC3.o.1 HC3.o.2.1 HC3.o.2.2;have hbx:=aAc q2 (.cells #[.int .i64 z.kind,.int .i64 z.srv,.slice z.ca z.cl z.cc,.int .i64 z.n] 24);have HV3:Hid ((q2.alloc (.cells #[.int .i64 z.kind,.int .i64 z.srv,.slice z.ca z.cl z.cc,.int .i64 z.n] 24)).heap[q2.heap.size]?=some (.cells #[.int .i64 z.kind,.int .i64 z.srv,.slice z.ca z.cl z.cc,.int .i64 z.n] 24 (0,0))):=boxed q2 _;have HZ3:=zH (HZ2.o.trans (hbx.mono HZ2.o.size));have HEP3:=zH (hep.later hbx);have HK3:=zH (HK2.o.later hbx (nR _));have HOK:=zH hrt;have HEQ:=zH henc;clear hbx hd hep hrt henc;go_upto_region 37 with fail;generalize q2.alloc (.cells #[.int .i64 z.kind,.int .i64 z.srv,.slice z.ca z.cl z.cc,.int .i64 z.n] 24)=q3 at *
       generalize q2.heap.size=V6 at *
       have y0:q3.cell? ⟨V6,0,none⟩=some (.int .i64 z.kind):=aAa HV3.o;have y1:q3.cell? ⟨V6,1,none⟩=some (.int .i64 z.srv):=aAa HV3.o;have y2:q3.cell? ⟨V6,2,none⟩=some (.slice z.ca z.cl z.cc):=aAa HV3.o;have y3:q3.cell? ⟨V6,3,none⟩=some (.int .i64 z.n):=aAa HV3.o;have HEN:=zH (aB5 HEP3.o);rw [if_pos HOK.o] at HEN;go_wp2_with fail;refine HEN.o.mono ?_;rintro e q4 ⟨a4,n4,c4,rfl,hx4,_,hb4⟩;have h9:=hx4 HOK.o;rw [HEQ.o] at h9;have tu:(convert 26 9 (.slice a4 n4 c4)).run Tryz.prog q4=.ok (.string (str (bs.take k))) q4:=run_text h9;have tv:(convert 26 9 (.slice (some ⟨bg,bo,none⟩) k cb)).run Tryz.prog q4=.ok (.string (str (bs.take k))) q4:=run_text (HK3.o.later hb4 (nR _));have HZ4:=zH (HZ3.o.trans (hb4.mono HZ3.o.size));have HR4:=zH h9;have HK4:=zH (HK3.o.later hb4 (nR _));clear h9 hx4 hb4 HEN y0 y1 y2 y3;go_upto_region 38 with fail;have hbd:Below q4.heap.size q4 q4.drew:=(Below.refl _ _).drew;have HX0:Hid ((fun wx=>(convert 26 9 (.slice a4 n4 c4)).run Tryz.prog wx=.ok (.string (str (bs.take k))) wx/\(convert 26 9 (.slice (some ⟨bg,bo,none⟩) k cb)).run Tryz.prog wx=.ok (.string (str (bs.take k))) wx) q4.drew):=⟨run_text (HR4.o.later hbd (nR _)),run_text (HK4.o.later hbd (nR _))⟩;clear tu tv hbd;refine wp_region_noPanic ?_;refine wp_region_held_drew (S:=fun wx=>(convert 26 9 (.slice a4 n4 c4)).run Tryz.prog wx=.ok (.string (str (bs.take k))) wx/\(convert 26 9 (.slice (some ⟨bg,bo,none⟩) k cb)).run Tryz.prog wx=.ok (.string (str (bs.take k))) wx) (by kernel_rfl) HX0.o (fun hHeld=>?_);refine aAe 0 188 ?_;refine aAe 1 189 ?_;refine aAe 2 190 ?_;refine aAe 3 191 ?_;refine aAe 4 192 ?_;refine aAe 5 193 ?_;refine aAe 6 194 ?_;refine aAe 7 195 ?_;refine aAe 8 196 ?_;refine aAe 9 197 ?_;refine aAe 10 198 ?_;refine aAe 11 8 ?_;refine wpAnyH_done (by kernel_rfl) ?_ _;refine NoPanic.normal ?_;clear hHeld;go_wp2;go_ret;exact ⟨by simp,by have h9:=HW1.o.trans ((HZ4.o.trans ((Below.refl _ _).drew.mono HZ4.o.size)).mono (by have:=aAb HR1.o;omega));first | exact h9 | (rw [hL];exact h9)⟩
      ·have d1:((11:Int) == 0)=false:=rfl;have HT:=zH (told17 wc);go_wp2_with fail;refine HT.o.mono ?_;rintro e q2 ⟨rfl,hb⟩;have HZ2:=zH (HXF.o.trans (hb.mono HXF.o.size));clear hb HT;go_wp2;go_ret;exact ⟨rfl,by have h9:=HW1.o.trans (HZ2.o.mono (by have:=aAb HR1.o;omega));first | exact h9 | (rw [hL];exact h9)⟩
theorem byte_u8 {z:Int} (h:(Lit.int .u8 z).wf=true):0<=z/\z<=255:=by simpa [Lit.wf,IntKind.min,IntKind.max,IntKind.signed,IntKind.bits] using h
theorem aFa (a:Option Addr) (n c:Nat) (xs:List Nat) (y:EntV) (i u:Int) (W:World) (hb:BS W a n c xs) (hn:n<=1048576) (he:EntP W y/\EntL y) (hi:(Lit.int .i64 i).wf=true) (hu:(Lit.int .u8 u).wf=true) :
  Calls Tryz.prog 5 #[.slice a n c,.agg #[.int .i64 y.kind,.int .i64 y.srv,.slice y.ca y.cl y.cc,.int .i64 y.n],.int .i64 i,.int .u8 u] W fun e W'=>e=.returned (.bool true)/\Below W.heap.size W W':=by
 have h1:=byte_u8 hu;obtain ⟨v,hv⟩:∃ v:Nat,u=(v:Int):=⟨u.toNat,by omega⟩;subst hv;exact aEy a n c xs y i v (by omega) W hb he.1 he.2
end Go.Proofs.YtmmcebojbbdfmaaGreat
namespace Go.Proofs.YtmmcebojbbdfmaaGreat
open Go.ChangeShapes Go.WideShapes Go.ChangeAt Go.RowKit
set_option linter.unusedVariables false
theorem aDk (H:Type) (enc:TypeId×Value->H) (W:World) (base:Nat) (args:Array Value) (ds gs:List (DataW H)) (before:List MemPlace)
  (hval0:∀ (j:Nat) t v,Tryz.f5.params[j]?=some t->args[j]?=some v->Value.okWide Tryz.prog W .any base t v)
  (hW:DataW.Whole enc Tryz.prog Tryz.f5.params.toList Rows.entryForthSpec.vars false W args.toList ds gs before) (hk:Rows.uptoSmall H (ds++gs)=true) :
  Calls Tryz.prog 5 args W fun e W'=>∃ v,e=.returned v/\Rows.entryForthSpec.post enc Tryz.prog Tryz.f5 false true false false W args v W':=by
 have hval:∀ (j:Nat) t v,Tryz.f5.params[j]?=some t->args[j]?=some v->Value.okWide Tryz.prog W .any base t v:=hval0;have hW':=hW;obtain ⟨p,q,hA0,hV,rfl,hfz,hnd⟩:=hW;have hA:DataW.TrodAll enc Tryz.prog W 0 (fun _=>true) true Tryz.f5.params.toList args.toList ds p:=hA0;rw [Tryz.params5] at hA hval;obtain ⟨v0,vs0,d0,ds0,p0,q0,hargs,rfl,rfl,h0,r0⟩:=trodAll_cons hA;obtain ⟨v1,vs1,d1,ds1,p1,q1,rfl,rfl,rfl,h1,r1⟩:=trodAll_cons r0;obtain ⟨v2,vs2,d2,ds2,p2,q2,rfl,rfl,rfl,h2,r2⟩:=trodAll_cons r1;obtain ⟨v3,vs3,d3,ds3,p3,q3,rfl,rfl,rfl,h3,r3⟩:=trodAll_cons r2;obtain ⟨rfl,rfl,rfl⟩:=trodAll_nil r3;obtain rfl:args=#[v0,v1,v2,v3]:=by cases args;simp_all
 obtain ⟨rfl,rfl⟩:=trodVars_none hV;have k0:=h0;have lt0:∀ x∈p0,x.block<W.heap.size:=by obtain ⟨m,hm⟩:=k0;exact DataW.trod_lt m _ _ _ hm
 obtain ⟨a0,len0,cap0,rfl⟩:=okWide_slice Tryz.underlying26 (hval 0 26 v0 rfl rfl);obtain ⟨xs0,w0,z0⟩:=open_bs_upto 0 hk rfl h0;have k1:=h1;have lt1:∀ x∈p1,x.block<W.heap.size:=by obtain ⟨m,hm⟩:=k1;exact DataW.trod_lt m _ _ _ hm
 obtain ⟨y1,rfl,w1⟩:=open_entL (j:=1) hk rfl (hval 1 24 v1 rfl rfl) h1;obtain ⟨a2,rfl,rfl,rfl,w2⟩:=open_int Tryz.underlying3 (hval 2 3 v2 rfl rfl) h2;obtain ⟨a3,rfl,rfl,rfl,w3⟩:=open_int Tryz.underlying5 (hval 3 5 v3 rfl rfl) h3;clear hA0 hval0;refine (aFa a0 len0 cap0 xs0 y1 a2 a3 W w0 z0 w1 w2 w3).mono fun e W' ⟨he,bel⟩=>?_
 subst he;exact ⟨_,rfl,_,_,_,[],_,[],hW',trodAll_mk1 (shut_bool Tryz.underlying4 _),(trodAll_cons_mk (Below.trod laidOut (by kernel_rfl) (of_decide_eq_true (by kernel_rfl)) k0 bel lt0) (trodAll_cons_mk (Below.trod laidOut (by kernel_rfl) (of_decide_eq_true (by kernel_rfl)) k1 bel lt1) (trodAll_cons_mk (shut_int Tryz.underlying3 w2) (trodAll_cons_mk (shut_int Tryz.underlying5 w3) trodAll_mk0)))),rfl,bel.frame _,fun h=>by cases h⟩
theorem aD3 (os:Os) (started:os.Started) (H:Type) (enc:TypeId×Value->H) (F:Stop.Interp) :
  ReturnsInHanded {} Tryz.checked os 5 .any ((Rows.OpenSpec.upto Rows.entryForthSpec).pre6 enc Tryz.prog Tryz.f5 Rows.entryForthUptoRow.domain false) (((Rows.OpenSpec.upto Rows.entryForthSpec).at F).post enc Tryz.prog Tryz.f5 false true false false):=by
 refine returnsInHanded_of_cond (C:=Tryz.checked) (s:=Rows.OpenSpec.upto Rows.entryForthSpec) (k:=Rows.uptoSmall) rfl own started (by kernel_rfl) Tryz.func5
  (OpenSpec.witness (enc:=enc) (C:=Tryz.checked) (s:=Rows.OpenSpec.upto Rows.entryForthSpec) (k:=Rows.uptoSmall) rfl false ⟨#[],#[.slice none 0 0,.agg #[.int .i64 0,.int .i64 0,.slice none 0 0,.int .i64 0],.int .i64 0,.int .u8 0],[]⟩ 8 (by kernel_rfl) (by kernel_rfl) (by kernel_rfl)
   (x:=([.nil,.agg [.lit (.int .i64 0),.lit (.int .i64 0),.nil,.lit (.int .i64 0)],.lit (.int .i64 0),.lit (.int .u8 0)],[],[])) (by kernel_rfl) rfl (by kernel_rfl)) ?_
 intro W base args ds gs before hval hW _ hk _;exact aDk H enc W base args ds gs before hval hW hk
theorem entryForthUpto_holds:Rows.EntryForthUptoSaid :=
 OpenClaim.holds_of_cond 5 Tryz.f5 rfl rfl rfl rfl rfl rfl rfl ⟨rfl,rfl,rfl,rfl,rfl⟩ rfl rfl rfl rfl rfl (by kernel_rfl) Tryz.func5 (by kernel_rfl)
  (of_decide_eq_true (by kernel_rfl)) (by unfold Func.isWrapper;first | (rw [if_pos (by decide +kernel)];kernel_rfl) | (rw [if_neg (by decide +kernel)];exact ⟨rfl,rfl⟩))
  (fun os started H enc _ F=>aD3 os started H enc F)
#print axioms entryForthUpto_holds
end Go.Proofs.YtmmcebojbbdfmaaGreat
