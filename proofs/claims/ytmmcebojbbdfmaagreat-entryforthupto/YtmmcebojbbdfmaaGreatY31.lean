import Derived.Test.YtmmcebojbbdfmaaGreatY30
import Derived.Laws.ResultCell
set_option maxRecDepth 100000
set_option maxHeartbeats 16000000
set_option linter.unusedVariables false
namespace Go.Proofs.YtmmcebojbbdfmaaGreat
open Go.RowKit _root_.Go.Proofs.Tryz
variable {B c k n wb:Nat} {a:Option Addr} {v:Value} {w w' w1 w2 wr:World} {xs:List Nat}
theorem aBn (a a':Option Addr) (len cap len' cap':Nat) (xs ys:List Nat) (w:World) (h:BS w a len cap xs) (h':BS w a' len' cap' ys) :
  Calls prog 30 #[.slice a len cap,.slice a' len' cap'] w fun e w'=>e=.returned (.bool (decide (xs=ys)))/\w'=w:=by
 have t1:=run_text h;have t2:=run_text h';have HE:Hid (((str xs).toList == (str ys).toList)=decide (xs=ys)):=str_beq xs ys h.hbyte h'.hbyte;clear h h';generalize str xs=sx at *
 generalize str ys=sy at *
 go_enter func30,ntmps30;go_wp2;go_ret;refine ⟨?_,rfl⟩;rw [<-HE.o];rfl
theorem OB.bs (h:OB B w (.slice a k c) xs) (hb:∀ n∈xs,n<256) (hl:xs.length<=100000000):BS w a xs.length c xs:=by
 have h1:=h;unfold OB at h1;rw [<-aBm] at h1;obtain ⟨a2,c2,e,hsv⟩:=aAo aBt h1 rfl;simp only [Value.slice.injEq] at e;obtain ⟨rfl,_,rfl⟩:=e;refine ⟨rfl,hsv.hc,by omega,hsv.hm,hb,hsv.hn,fun x hx i hi=>?_⟩;obtain ⟨b,o,e1,_,h3⟩:=hsv.pl (by omega);rw [hx] at e1;simp only [oI] at e1;subst e1;have:=h3 i xs[i] (gE hi) 0 (by omega);rw [add_plain];rw [Nat.mul_one,Nat.add_zero] at this;rw [this,List.getD_eq_getElem?_getD,gE hi];rfl
theorem aDi {fn:Func} {p u:Tmp} (h:fn.results=#[.cell p 71,.tmp u]) (tmps:Array Value) (w:World) (g:Nat) (t:TypeId) (x y z:Value) (fr:Nat×Nat)
  (hp:tmps.getD p undef=.pointer (some ⟨g,0,none⟩)) (hg:w.heap[g]?=some (.cells #[x,y,z] t fr)) :
  (results fn tmps).run prog w=.ok (.tuple #[.agg #[x,y,z],tmps.getD u undef]) w:=by
 rw [results_cell_tmp h,hp];simp only [asAddr,Sem.run_pure,Result.andThen_ok,run_loadVar_row w g t 71 #[x,y,z] fr _ hg underlying71 rfl aF0]
theorem aAr (n:Nat):∀ x∈encW n,x<256:=enc_byte n
theorem wb_lt (s:ByteArray):∀ x∈Go.Proofs.YtmmcebojbbdfmaaGreat.wb s,x<256:=by
 intro x hx;unfold Go.Proofs.YtmmcebojbbdfmaaGreat.wb at hx;rcases List.mem_append.1 hx with h | h
 ·exact aAr _ x h
 ·exact sl_lt s x h
theorem encS_lt (s:Sch):∀ x∈encS s,x<256:=by
 intro x hx;unfold encS at hx;simp only [List.mem_append,List.mem_flatMap] at hx;rcases hx with (((h | h) | ⟨c,_,h⟩) | h) | ⟨c,_,h⟩
 ·exact wb_lt _ x h
 ·exact aAr _ x h
 ·unfold encC at h;simp only [List.mem_append] at h;rcases h with (h | h) | h
  ·exact wb_lt _ x h
  ·exact aAr _ x h
  ·exact aAr _ x h
 ·exact aAr _ x h
 ·unfold encX at h;simp only [List.mem_append] at h;rcases h with h | h
  ·exact aAr _ x h
  ·exact aAr _ x h
theorem aF6 {s:Sch} (h:s.ok=true):(encS s).length<=300:=by
 obtain ⟨h1,h2,h3,h4,h5⟩:=Sch.parts h;have a1:=wb_len s.nm h1;have a2:=aAh s.cs.length (by omega);have a3:=aAh s.xs.length (by omega);have a4:=aDj (f:=encC) (m:=35) (l:=s.cs) (fun j c hc=>aF7 (h4 j c hc)) s.cs.length;have a5:=aDj (f:=encX) (m:=18) (l:=s.xs) (fun j c hc=>encX_len (h5 j c hc)) s.xs.length;rw [List.take_length] at a4 a5;unfold encS;simp only [lA];omega
def lit:Sch:=⟨⟨#[116]⟩,[(⟨#[107]⟩,1,0),(⟨#[110]⟩,2,3)],[(1,true)]⟩
theorem SV.whole {α:Type} {f:α->List Value} (hk:∀ x,(f x).length=k) {w:World} {g n:Nat} {t:TypeId} {fz:Nat×Nat} {l:List α} (hl:l.length=n) (hn:n<=1000) (h:w.heap[g]?=some (.cells (l.flatMap f).toArray t fz)):SV f k w (some ⟨g,0,none⟩) n n l:=by
 refine ⟨hl,nR _,by omega,(fun q=>by cases q),fun _=>⟨g,0,rfl,aAb h,fun i x hx t ht=>?_⟩⟩;rw [Nat.zero_add,aAa h,List.getElem?_toArray];exact fl_get hk hx t ht
theorem aA3 {α:Type} {f:α->List Value} (hk:∀ x,(f x).length=k) (hk1:0<k) (hone:∀ x,∀ u∈f x,u.oneCell'=true) {ts te bt:Nat} {z:Value} (hu:prog.underlying ts=some (.slice te)) (hinfo:(prog.info? te).map (fun i=>(i.zero,i.size,i.bytes))=some (some z,k,bt)) (hzc:z.cells.size=k)
  {o:Oper} {a:Act} {Kn:Act->World->Prop} {Q:Exit->Act->World->Prop} {wr:World} (s x:Operand)
  (ho:o.op=.call { callee:=.builtin .append,args:=#[s,x],argTypes:=#[ts,ts] })
  {B1 n c:Nat} {v:Value} {ad:Option Addr} {F G:List α} (hs:a.eval s=v) (hx:a.eval x=.slice ad n c) (hF:wr.ownsRow B1 te k v F.length (F.flatMap f)) (hG:SV f k wr ad n c G) (hB1:B1<=wr.heap.size) (hsize:F.length+n<=100000000) (hbt:bt<=1000)
  (h:∀ v' w',w'.ownsRow B1 te k v' (F++G).length ((F++G).flatMap f)->Below B1 wr w'->(∀ i,i<wr.heap.size->v.ownBlock≠some i->w'.heap[i]?=wr.heap[i]?)->(v'.ownBlock=v.ownBlock\/v'.ownBlock=some wr.heap.size)->Kn (a.put o.dst v') w'):Oper.wp prog o a wr Kn Q:=by
 obtain ⟨i0,hi,hz0,hz1,hz2⟩:=info_parts hinfo
 cases ad with
 | none =>
  have hc0:=hG.hn rfl;have hcc:=hG.hc;have e0:n=0:=by omega
  subst e0 hc0;have e:G=[]:=List.eq_nil_of_length_eq_zero hG.hl;subst e;have hrun:=run_append_owned_none (P:=prog) (w:=wr) B1 ts o.type te i0 k hu hi v F.length (F.flatMap f) hF;have h9:=h v wr (by simpa using hF) (Below.refl _ _) (fun _ _ _=>rfl) (Or.inl rfl);unfold Oper.wp;simp [execOp,ho,resolve,invoke,builtin,hs,hx,hrun,Result.andThen];exact h9
 | some ad =>
  have hbt2:(F.length+n)*bt<=140737488355328:=nT (Nat.mul_le_mul hsize hbt) (by omega)
  obtain ⟨v',w',hr,h2,h3,h4,h5⟩:=run_append_own_at (P:=prog) wr B1 ts o.type te i0 z k bt hu hi hz0 hz1 hz2 hzc hk1 v F.length (F.flatMap f) hF ad n c (G.flatMap f) (by rw [fl_len hk,hG.hl]) (fun j u hj=>by
   obtain ⟨i,t,y,e1,e2,e3,e4⟩:=fl_inv hk hj;obtain ⟨b,o,h1,_,h3⟩:=hG.pl (by rw [<-hG.hl];have:=(lL e3);omega);simp only [oI] at h1;subst h1;rw [add_plain,e1,<-Nat.add_assoc,h3 i y e3 t e2];exact e4) (fun u hu=>by
   obtain ⟨y,_,hu⟩:=List.mem_flatMap.1 hu
   exact hone y u hu) (by unfold maxLen;omega) hbt2 hB1
  have h9:=h v' w' (by rw [lA,hG.hl,List.flatMap_append];exact h2) ((Below.refl B1 _).grown h3 hB1 (fun j hj=>(hF.lt j hj).1)) (fun i hi hn=>h3.block i hi (fun e=>hn e.symm)) h5;unfold Oper.wp execOp;simp only [ho,resolve,invoke,builtin,Sem.run_bind,Sem.run_pure,Result.andThen_ok,List.map_toArray,List.map_cons,List.map_nil,hs,hx,hr];exact h9
theorem OB.sv (h:OB B w (.slice a n c) xs) (hn:n=xs.length):SV fB 1 w a n c xs:=by
 subst hn;have h':w.ownsRow B 5 1 (.slice a xs.length c) xs.length (xs.flatMap fB):=by rw [aBm];exact h
 obtain ⟨a',c',e,hs⟩:=aAo aBt h' rfl;simp only [Value.slice.injEq] at e;obtain ⟨rfl,_,rfl⟩:=e;exact hs
theorem aDo {o:Oper} {a:Act} {Kn:Act->World->Prop} {Q:Exit->Act->World->Prop} (s x:Operand)
  (ho:o.op=.call { callee:=.builtin .append,args:=#[s,x],argTypes:=#[26,26] })
  {B1 B2:Nat} {v u:Value} {xs ys:List Nat} (hs:a.eval s=v) (hx:a.eval x=u) (hF:OB B1 wr v xs) (hG:OB B2 wr u ys) (hB1:B1<=wr.heap.size) (hsize:xs.length+ys.length<=100000000)
  (h:∀ v' w',OB B1 w' v' (xs++ys)->Below B1 wr w'->(∀ i,i<wr.heap.size->v.ownBlock≠some i->w'.heap[i]?=wr.heap[i]?)->Kn (a.put o.dst v') w'):Oper.wp prog o a wr Kn Q:=by
 obtain ⟨ad,c,e⟩:=hG.form;subst e;refine aA3 (z:=.int .u8 0) (bt:=1) aBt (by omega) aFm underlying26 (by kernel_rfl) rfl s x ho (F:=xs) (G:=ys) hs hx (by rw [aBm];exact hF) (hG.sv rfl) hB1 hsize (by omega) (fun v' w' h1 h2 h3 _=>h v' w' ?_ h2 h3);rw [aBm] at h1;exact h1
structure WR (B wb:Nat) (xs:List Nat) (w:World):Prop where
 cell:∃ v,w.heap[wb]?=some (.cells #[v] 60 (0,0))/\OB B w v xs
 hB:B<=wb
structure WrF (B wb:Nat) (w w':World):Prop where
 bel:Below B w w'
 oth:∀ (i:Nat) (cs:Array Value) (t:TypeId) (fz:Nat×Nat),i≠wb->t≠5->w.heap[i]?=some (.cells cs t fz)->w'.heap[i]?=some (.cells cs t fz)
theorem WrF.refl (B wb:Nat) (w:World):WrF B wb w w:=⟨Below.refl _ _,fun _ _ _ _ _ _ h=>h⟩
theorem WrF.trans (h:WrF B wb w w1) (k:WrF B wb w1 w2):WrF B wb w w2:=⟨h.bel.trans k.bel,fun i cs t fz h1 h2 h3=>k.oth i cs t fz h1 h2 (h.oth i cs t fz h1 h2 h3)⟩
theorem WrF.of (h:Below w.heap.size w w') (hB:B<=w.heap.size):WrF B wb w w':=⟨h.mono hB,fun i cs t fz _ _ h3=>(h.block i (aAb h3)).trans h3⟩
theorem WR.lt (h:WR B wb xs w):B<=wb/\wb<w.heap.size:=by
 obtain ⟨v,h1,_⟩:=h.cell;exact ⟨h.hB,aAb h1⟩
theorem WR.later (h:WR B wb xs w) (hb:Below w.heap.size w w'):WR B wb xs w':=by
 obtain ⟨v,h1,h2⟩:=h.cell;exact ⟨⟨v,(hb.block wb (aAb h1)).trans h1,h2.later hb⟩,h.hB⟩
theorem WR.step {zs:List Nat} {v':Value} (h:w.heap[wb]?=some (.cells #[v] 60 (0,0))) (hO:OB B w v xs) (hB:B<=wb) (ho:OB B w' v' zs) (hb:Below B w w') (hk:∀ i,i<w.heap.size->v.ownBlock≠some i->w'.heap[i]?=w.heap[i]?) :
  w'.heap[wb]?=some (.cells #[v] 60 (0,0))/\WR B wb zs (w'.setCell ⟨wb,0,none⟩ v')/\WrF B wb w (w'.setCell ⟨wb,0,none⟩ v'):=by
 have h1:w'.heap[wb]?=some (.cells #[v] 60 (0,0)):=(hk wb (aAb h) (hO.ne h (by decide))).trans h;refine ⟨h1,⟨⟨v',heap_setCell_same _ _ _ _ _ _ h1,ownsRow_setCell_other ho (ho.ne h1 (by decide)) _⟩,hB⟩,hb.setCell hB _,fun i cs t fz h2 h3 h4=>?_⟩;rw [heap_setCell_other _ _ _ _ (show i≠wb from h2),hk i (aAb h4) (hO.ne h4 h3)];exact h4
theorem WR.made (hB:B<=w.heap.size):WR B w.heap.size [] (w.alloc (.cells #[.slice none 0 0] 60)):=⟨⟨_,boxed w _,aBu _ _ _ _⟩,hB⟩
def fI (n:Nat):List Value:=[.int .i64 (n:Int)]
structure IR (w:World) (a:Option Addr) (n c:Nat) (l:List Nat):Prop where
 sv:SV fI 1 w a n c l
 ty:∀ b o,a=some ⟨b,o,none⟩->∃ cs fz,w.heap[b]?=some (.cells cs 3 fz)
 lt:∀ x∈l,x<9223372036854775808
theorem IR.next {l:List Nat} (h:IR w a n c l) (hw:WR B wb xs w) (hf:WrF B wb w w'):IR w' a n c l:=by
 obtain ⟨v,h1,_⟩:=hw.cell;have hs:∀ b o,a=some ⟨b,o,none⟩->w'.heap[b]?=w.heap[b]?:=fun b o e=>by
  obtain ⟨cs,fz,e2⟩:=h.ty b o e;have hne:b≠wb:=fun q=>by
   subst q;rw [e2] at h1;simp only [oI,cI] at h1;exact absurd h1.2.1 (by decide)
  rw [hf.oth b cs _ fz hne (by decide) e2,e2]
 exact ⟨h.sv.blk hf.bel.size hs,fun b o e=>by obtain ⟨cs,fz,e2⟩:=h.ty b o e;exact ⟨cs,fz,(hs b o e).trans e2⟩,h.lt⟩
theorem uint_oc (n:Nat) (w:World) (h:n<9223372036854775808):Calls prog 50 #[.int .i64 n] w fun e w'=>∃ g c,e=.returned (.slice (some ⟨g,0,none⟩) (encW n).length c)/\OB w.heap.size w' (.slice (some ⟨g,0,none⟩) (encW n).length c) (encW n)/\Below w.heap.size w w':=by
 refine (aDg n w h).mono ?_;rintro e w' ⟨g,c,rfl,h1,h2⟩;have e:grp n=(encW n).length:=(aA7 n (aA2 n h).1).symm;rw [e] at h1;exact ⟨g,c,by rw [e],h1,h2⟩
def pt (l:List Nat):List Nat:=encW l.length++l
theorem bytes_oc {l:List Nat} (h:BS w a n c l) (hn:n<=1000000):Calls prog 54 #[.slice a n c] w fun e w'=>∃ g d,e=.returned (.slice (some ⟨g,0,none⟩) (pt l).length d)/\OB w.heap.size w' (.slice (some ⟨g,0,none⟩) (pt l).length d) (pt l)/\Below w.heap.size w w':=by
 have hl:=h.hlen;refine (bytes_any a n c l w h (by omega)).mono ?_;rintro e w' ⟨g,d,rfl,h1,h2⟩;have e:grp n+n=(pt l).length:=by
  unfold pt;rw [lA,hl,aA7 n (aA2 n (by omega)).1]
 refine ⟨g,d,by rw [e],?_,h2⟩;show World.ownsRow _ _ _ _ _ _ _;rw [<-e];unfold pt;rw [hl];exact h1
theorem pt_len {l:List Nat} (h:l.length<=1000000):(pt l).length<=9+l.length:=by
 unfold pt;have:=aAh l.length (by omega);rw [lA];omega
theorem aBa {l:List Nat} (h:WR B wb xs w) (hi:IR w a n c l) (hz:xs.length+9*n<=1000000) :
  Calls prog 31 #[.pointer (some ⟨wb,0,none⟩),.slice a n c] w fun e w'=>e=.returned (.tuple #[])/\WR B wb (xs++l.flatMap encW) w'/\WrF B wb w w':=by
 have HW0:=zH h;have HI0:=zH hi;have HLN:=zH hi.sv.hl;have HZ0:=zH hz;have HLT:=zH hi.lt;clear h hi hz;go_enter func31,ntmps31;go_wp2_with fail;go_loopg [8] n (fun gh s8 wx=>∃ j:Nat,j+gh=n/\s8=.int .i64 (j:Int)/\WR B wb (xs++(l.take j).flatMap encW) wx/\WrF B wb w wx)
 case atStart=>exact ⟨0,by omega,rfl,by simpa using HW0.o,WrF.refl _ _ _⟩
 case round =>
  obtain ⟨j,hj,rfl,hw,hf⟩:=hrel;have HW1:=zH hw;have HF1:=zH hf;clear hw hf;by_cases hjn:j<n
  ·have xj:(j:Int)<(n:Int):=by omega
   have xj4:(j:Int)<1000000:=by have:=HZ0.o;omega
   obtain ⟨x,hx⟩:∃ x,l[j]?=some x:=⟨_,gE (by rw [HLN.o];exact hjn)⟩;have HFN:=zH (aB3 (f:=encW) hx);have hxl:=HLT.o x (mG hx);have HI1:=zH (HI0.o.next HW0.o HF1.o);obtain ⟨b,o,ea,hb,hcc⟩:=HI1.o.sv.pl (by omega);have y0:wr.cell? ⟨b,o+j,none⟩=some (.int .i64 (x:Int)):=by have:=hcc j x hx 0 (by omega);simpa [fI] using this
   obtain ⟨ys,hys⟩:∃ ys,encW x=ys:=⟨_,rfl⟩;have HYL:Hid (ys.length=ys.length):=rfl;obtain ⟨zs,hzs⟩:∃ zs,xs++(l.take j).flatMap encW=zs:=⟨_,rfl⟩;have HZ:Hid (zs.length+ys.length<=100000000):=by
    show _<=_;rw [<-hzs,<-hys,lA];have h9:=aDj (f:=encW) (m:=9) (l:=l) (fun i y hy=>aAh y (HLT.o y (mG hy))) j;have h8:=aAh x hxl;have:=HZ0.o;omega
   have HNX:Hid (zs++ys=xs++(l.take (j+1)).flatMap encW):=by show _=_;rw [HFN.o,<-hzs,<-hys,List.append_assoc]
   have HC:=zH (uint_oc x wr.drew hxl);rw [hys] at HC;rw [hzs] at HW1;obtain ⟨v,hX,hO⟩:=HW1.o.cell;have HX1:=zH hX;have HO1:=zH hO;have HBW:Hid (B<=wb):=HW1.o.hB;have HBw:Hid (B<=wr.heap.size):=by show _<=_;have:=HW1.o.lt;omega
   subst ea;clear hX hO hcc hx hzs hys;go_upto_region 3 with fail;clear y0;refine wp_region_noPanic ?_;refine wp_region_held_drew (S:=fun wx=>True) (by kernel_rfl) trivial (fun hHeld=>?_);refine aAe 0 12 ?_;refine aAe 1 13 ?_;refine aAe 2 14 ?_;refine aAe 3 15 ?_;refine aAe 5 17 ?_;refine aAn (i:=4) (j:=6) (by kernel_rfl) (by kernel_rfl) (by kernel_rfl) ?ba ?bb
   case ba =>
    have y0:wr.drew.cell? ⟨wb,0,none⟩=some v:=aAa (show wr.drew.heap[wb]?=_ from HX1.o);have y0':wr.cell? ⟨wb,0,none⟩=some v:=aAa HX1.o;intro o ho K hK;simp only [tG,sG,zG,oI] at ho;subst ho;go_simp;clear hHeld;refine hK.out _ _ trivial (fun hHeld=>?_);clear hK K
    try simp only [Act.put,siT,scZ,scS]
    clear y0 y0';refine aAf 6 ?_;intro K hK;go_simp;refine HC.o.mono ?_;rintro e w2 ⟨ga,gc,rfl,hob,hbl⟩;have hbl:Below wr.heap.size wr w2:=⟨hbl.os,hbl.tape,hbl.output,hbl.size,hbl.block⟩;have HG2:=zH hob;have HO2:=zH (HO1.o.later hbl);have HX2:=zH ((hbl.block wb (aAb HX1.o)).trans HX1.o);have HB2:=zH hbl;clear hob hbl hHeld HC;refine hK.out _ _ trivial (fun hHeld=>?_);clear hK K
    try simp only [Act.put,siT,scZ,scS]
    refine aAf 7 ?_;intro K hK;rw [if_pos (by rfl)];refine aDo (.tmp 16) (.tmp 18) rfl (v:=v) (u:=.slice (some ⟨ga,0,none⟩) ys.length gc) rfl (by rw [HYL.o];rfl) HO2.o (by rw [HYL.o];exact HG2.o) (by have:=HBw.o;have:=HB2.o.size;omega) (by have:=HZ.o;omega) ?_;intro v3 w3 ho3 hb3 hk3;obtain ⟨a3,c3,e3⟩:=OB.form ho3;have hst:=WR.step HX2.o HO2.o HBW.o ho3 hb3 hk3;generalize (zs++ys).length=m3 at e3;subst e3;have y0:w3.cell? ⟨wb,0,none⟩=some v:=aAa hst.1;have yf:w3.frozen? ⟨wb,0,none⟩=false:=aAg hst.1;have HW3:=zH hst.2.1;have HF3:=zH hst.2.2;clear ho3 hb3 hk3 hst hHeld;refine hK.out _ _ trivial (fun hHeld=>?_);clear hK K
    try simp only [Act.put,siT,scZ,scS]
    refine aAe 8 20 ?_;refine aAe 9 21 ?_;refine aAf 10 ?_;intro K hK;go_simp;clear hHeld;refine hK.out _ _ trivial (fun hHeld=>?_);clear y0 yf;clear hK K
    try simp only [Act.put,siT,scZ,scS]
    refine wpAnyH_done (by kernel_rfl) ?_ _;refine NoPanic.normal ?_;clear hHeld;go_wp2;go_roundg (gk-1)
    case measure=>omega
    case rel=>exact ⟨j+1,by omega,rfl,by rw [<-HNX.o];exact HW3.o,HF1.o.trans ((WrF.of HB2.o HBw.o).trans HF3.o)⟩
   case bb =>
    intro o ho K hK;simp only [tG,sG,zG,oI] at ho;subst ho;go_simp;refine HC.o.mono ?_;rintro e w2 ⟨ga,gc,rfl,hob,hbl⟩;have hbl:Below wr.heap.size wr w2:=⟨hbl.os,hbl.tape,hbl.output,hbl.size,hbl.block⟩;have HG2:=zH hob;have HO2:=zH (HO1.o.later hbl);have HX2:=zH ((hbl.block wb (aAb HX1.o)).trans HX1.o);have HB2:=zH hbl;clear hob hbl hHeld HC;refine hK.out _ _ trivial (fun hHeld=>?_);clear hK K
    try simp only [Act.put,siT,scZ,scS]
    have y0:w2.cell? ⟨wb,0,none⟩=some v:=aAa HX2.o;refine aAf 4 ?_;intro K hK;go_simp;clear hHeld;refine hK.out _ _ trivial (fun hHeld=>?_);clear hK K
    try simp only [Act.put,siT,scZ,scS]
    clear y0;refine aAf 7 ?_;intro K hK;rw [if_pos (by rfl)];refine aDo (.tmp 16) (.tmp 18) rfl (v:=v) (u:=.slice (some ⟨ga,0,none⟩) ys.length gc) rfl (by rw [HYL.o];rfl) HO2.o (by rw [HYL.o];exact HG2.o) (by have:=HBw.o;have:=HB2.o.size;omega) (by have:=HZ.o;omega) ?_;intro v3 w3 ho3 hb3 hk3;obtain ⟨a3,c3,e3⟩:=OB.form ho3;have hst:=WR.step HX2.o HO2.o HBW.o ho3 hb3 hk3;generalize (zs++ys).length=m3 at e3;subst e3;have y0:w3.cell? ⟨wb,0,none⟩=some v:=aAa hst.1;have yf:w3.frozen? ⟨wb,0,none⟩=false:=aAg hst.1;have HW3:=zH hst.2.1;have HF3:=zH hst.2.2;clear ho3 hb3 hk3 hst hHeld;refine hK.out _ _ trivial (fun hHeld=>?_);clear hK K
    try simp only [Act.put,siT,scZ,scS]
    refine aAe 8 20 ?_;refine aAe 9 21 ?_;refine aAf 10 ?_;intro K hK;go_simp;clear hHeld;refine hK.out _ _ trivial (fun hHeld=>?_);clear y0 yf;clear hK K
    try simp only [Act.put,siT,scZ,scS]
    refine wpAnyH_done (by kernel_rfl) ?_ _;refine NoPanic.normal ?_;clear hHeld;go_wp2;go_roundg (gk-1)
    case measure=>omega
    case rel=>exact ⟨j+1,by omega,rfl,by rw [<-HNX.o];exact HW3.o,HF1.o.trans ((WrF.of HB2.o HBw.o).trans HF3.o)⟩
  ·have xj:¬ (j:Int)<(n:Int):=by omega
   have ex:j=n:=by omega
   have HRX:Hid (l.take j=l):=by show _=_;rw [ex];exact List.take_of_length_le (by rw [HLN.o];omega)
   have h9:=HW1.o;rw [HRX.o] at h9;have HW9:=zH h9;clear h9;go_wp2;go_end0;exact ⟨rfl,HW9.o,HF1.o⟩
theorem aCz {l:List Nat} (h:WR B wb xs w) (hb:BS w a n c l) (hn:n<=1000000) (hz:xs.length<=1000000) :
  Calls prog 33 #[.pointer (some ⟨wb,0,none⟩),.slice a n c] w fun e w'=>e=.returned (.tuple #[])/\WR B wb (xs++pt l) w'/\WrF B wb w w':=by
 have HC:=zH (bytes_oc (w:=w.drew) (hb.later (Below.refl _ _).drew (nR _)) hn);have HW1:=zH h;obtain ⟨zs,hzs⟩:∃ zs,xs=zs:=⟨_,rfl⟩;have HZ:Hid (xs.length+(pt l).length<=100000000):=by
  show _<=_;have:=pt_len (l:=l) (by rw [hb.hlen];omega);have:=hb.hlen;omega
 obtain ⟨ys,hys⟩:∃ ys,pt l=ys:=⟨_,rfl⟩;have HYL:Hid (ys.length=ys.length):=rfl;rw [hys] at HC HZ ⊢;obtain ⟨v,hX,hO⟩:=HW1.o.cell;have HX1:=zH hX;have HO1:=zH hO;have HBW:Hid (B<=wb):=HW1.o.hB;have HBw:Hid (B<=w.heap.size):=by show _<=_;have:=HW1.o.lt;omega
 clear hX hO hys h hb hzs;go_enter func33,ntmps33;go_upto_region 0 with fail;refine wp_region_noPanic ?_;refine wp_region_held_drew (S:=fun wx=>True) (by kernel_rfl) trivial (fun hHeld=>?_);refine aAe 0 4 ?_;refine aAe 1 5 ?_;refine aAe 2 6 ?_;refine aAe 3 7 ?_;refine aAe 5 9 ?_;refine aAn (i:=4) (j:=6) (by kernel_rfl) (by kernel_rfl) (by kernel_rfl) ?ba ?bb
 case ba =>
  have y0:w.drew.cell? ⟨wb,0,none⟩=some v:=aAa (show w.drew.heap[wb]?=_ from HX1.o);have y0':w.cell? ⟨wb,0,none⟩=some v:=aAa HX1.o;intro o ho K hK;simp only [tG,sG,zG,oI] at ho;subst ho;go_simp;clear hHeld;refine hK.out _ _ trivial (fun hHeld=>?_);clear hK K
  try simp only [Act.put,siT,scZ,scS]
  clear y0 y0';refine aAf 6 ?_;intro K hK;go_simp;refine HC.o.mono ?_;rintro e w2 ⟨ga,gc,rfl,hob,hbl⟩;have hbl:Below w.heap.size w w2:=⟨hbl.os,hbl.tape,hbl.output,hbl.size,hbl.block⟩;have HG2:=zH hob;have HO2:=zH (HO1.o.later hbl);have HX2:=zH ((hbl.block wb (aAb HX1.o)).trans HX1.o);have HB2:=zH hbl;clear hob hbl hHeld HC;refine hK.out _ _ trivial (fun hHeld=>?_);clear hK K
  try simp only [Act.put,siT,scZ,scS]
  refine aAf 7 ?_;intro K hK;rw [if_pos (by rfl)];refine aDo (.tmp 8) (.tmp 10) rfl (v:=v) (u:=.slice (some ⟨ga,0,none⟩) ys.length gc) rfl (by rw [HYL.o];rfl) HO2.o (by rw [HYL.o];exact HG2.o) (by have:=HBw.o;have:=HB2.o.size;omega) (by have:=HZ.o;omega) ?_;intro v3 w3 ho3 hb3 hk3;obtain ⟨a3,c3,e3⟩:=OB.form ho3;have hst:=WR.step HX2.o HO2.o HBW.o ho3 hb3 hk3;generalize (xs++ys).length=m3 at e3;subst e3;have y0:w3.cell? ⟨wb,0,none⟩=some v:=aAa hst.1;have yf:w3.frozen? ⟨wb,0,none⟩=false:=aAg hst.1;have HW3:=zH hst.2.1;have HF3:=zH hst.2.2;clear ho3 hb3 hk3 hst hHeld;refine hK.out _ _ trivial (fun hHeld=>?_);clear hK K
  try simp only [Act.put,siT,scZ,scS]
  refine aAe 8 12 ?_;refine aAe 9 13 ?_;refine aAf 10 ?_;intro K hK;go_simp;clear hHeld;refine hK.out _ _ trivial (fun hHeld=>?_);clear y0 yf;clear hK K
  try simp only [Act.put,siT,scZ,scS]
  refine wpAnyH_done (by kernel_rfl) ?_ _;refine NoPanic.normal ?_;clear hHeld;go_wp2;go_end0;exact ⟨rfl,HW3.o,(WrF.of HB2.o HBw.o).trans HF3.o⟩
 case bb =>
  intro o ho K hK;simp only [tG,sG,zG,oI] at ho;subst ho;go_simp;refine HC.o.mono ?_;rintro e w2 ⟨ga,gc,rfl,hob,hbl⟩;have hbl:Below w.heap.size w w2:=⟨hbl.os,hbl.tape,hbl.output,hbl.size,hbl.block⟩;have HG2:=zH hob;have HO2:=zH (HO1.o.later hbl);have HX2:=zH ((hbl.block wb (aAb HX1.o)).trans HX1.o);have HB2:=zH hbl;clear hob hbl hHeld HC;refine hK.out _ _ trivial (fun hHeld=>?_);clear hK K
  try simp only [Act.put,siT,scZ,scS]
  have y0:w2.cell? ⟨wb,0,none⟩=some v:=aAa HX2.o;refine aAf 4 ?_;intro K hK;go_simp;clear hHeld;refine hK.out _ _ trivial (fun hHeld=>?_);clear hK K
  try simp only [Act.put,siT,scZ,scS]
  clear y0;refine aAf 7 ?_;intro K hK;rw [if_pos (by rfl)];refine aDo (.tmp 8) (.tmp 10) rfl (v:=v) (u:=.slice (some ⟨ga,0,none⟩) ys.length gc) rfl (by rw [HYL.o];rfl) HO2.o (by rw [HYL.o];exact HG2.o) (by have:=HBw.o;have:=HB2.o.size;omega) (by have:=HZ.o;omega) ?_;intro v3 w3 ho3 hb3 hk3;obtain ⟨a3,c3,e3⟩:=OB.form ho3;have hst:=WR.step HX2.o HO2.o HBW.o ho3 hb3 hk3;generalize (xs++ys).length=m3 at e3;subst e3;have y0:w3.cell? ⟨wb,0,none⟩=some v:=aAa hst.1;have yf:w3.frozen? ⟨wb,0,none⟩=false:=aAg hst.1;have HW3:=zH hst.2.1;have HF3:=zH hst.2.2;clear ho3 hb3 hk3 hst hHeld;refine hK.out _ _ trivial (fun hHeld=>?_);clear hK K
  try simp only [Act.put,siT,scZ,scS]
  refine aAe 8 12 ?_;refine aAe 9 13 ?_;refine aAf 10 ?_;intro K hK;go_simp;clear hHeld;refine hK.out _ _ trivial (fun hHeld=>?_);clear y0 yf;clear hK K
  try simp only [Act.put,siT,scZ,scS]
  refine wpAnyH_done (by kernel_rfl) ?_ _;refine NoPanic.normal ?_;clear hHeld;go_wp2;go_end0;exact ⟨rfl,HW3.o,(WrF.of HB2.o HBw.o).trans HF3.o⟩
end Go.Proofs.YtmmcebojbbdfmaaGreat
