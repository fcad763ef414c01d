import Derived.Test.YtdpdjpkmndnaaaaGreatYc59
import Derived.Laws.ResultCell
set_option maxRecDepth 100000
set_option maxHeartbeats 16000000
set_option linter.unusedVariables false
namespace Go.Proofs.YtdpdjpkmndnaaaaGreat
open Go.RowKit _root_.Go.Proofs.Tryz
variable {B c k n:Nat} {a:Option Addr} {fn:Func} {s:Sch} {w:World} {xs:List Nat}
theorem aC0 (a a':Option Addr) (len cap len' cap':Nat) (xs ys:List Nat) (w:World) (h:BS w a len cap xs) (h':BS w a' len' cap' ys) :
  Calls prog 98 #[.slice a len cap,.slice a' len' cap'] w fun e w'=>e=.returned (.bool (decide (xs=ys)))/\w'=w:=by
 have t1:=run_text h;have t2:=run_text h';have HE:Hid (((str xs).toList == (str ys).toList)=decide (xs=ys)):=str_beq xs ys h.hbyte h'.hbyte;clear h h';generalize str xs=sx at *
 generalize str ys=sy at *
 go_enter func98,ntmps98;go_wp2;go_ret;refine ⟨?_,rfl⟩;rw [<-HE.o];rfl
theorem OB.bs (h:OB B w (.slice a k c) xs) (hb:∀ n∈xs,n<256) (hl:xs.length<=100000000):BS w a xs.length c xs:=by
 have h1:=h;unfold OB at h1;rw [<-aJ4] at h1;obtain ⟨a2,c2,e,hsv⟩:=aA4 fB_len h1 rfl;simp only [Value.slice.injEq] at e;obtain ⟨rfl,_,rfl⟩:=e;refine ⟨rfl,hsv.hc,by omega,hsv.hm,hb,hsv.hn,fun x hx i hi=>?_⟩;obtain ⟨b,o,e1,_,h3⟩:=hsv.pl (by omega);rw [hx] at e1;simp only [oI] at e1;subst e1;have:=h3 i xs[i] (gE hi) 0 (by omega);rw [add_plain];rw [Nat.mul_one,Nat.add_zero] at this;rw [this,List.getD_eq_getElem?_getD,gE hi];rfl
theorem results_sch {p u:Tmp} (h:fn.results=#[.cell p 33,.tmp u]) (tmps:Array Value) (w:World) (g:Nat) (t:TypeId) (x y z:Value) (fr:Nat×Nat)
  (hp:tmps.getD p undef=.pointer (some ⟨g,0,none⟩)) (hg:w.heap[g]?=some (.cells #[x,y,z] t fr)) :
  (results fn tmps).run prog w=.ok (.tuple #[.agg #[x,y,z],tmps.getD u undef]) w:=by
 rw [results_cell_tmp h,hp];simp only [asAddr,Sem.run_pure,Result.andThen_ok,run_loadVar_row w g t 33 #[x,y,z] fr _ hg underlying33 rfl aJu]
theorem aDy (n:Nat):∀ x∈enc n,x<256:=enc_byte n
theorem wb_lt (s:ByteArray):∀ x∈wb s,x<256:=by
 intro x hx;unfold wb at hx;rcases List.mem_append.1 hx with h | h
 ·exact aDy _ x h
 ·exact sl_ltK s x h
theorem encS_lt (s:Sch):∀ x∈encS s,x<256:=by
 intro x hx;unfold encS at hx;simp only [List.mem_append,List.mem_flatMap] at hx;rcases hx with (((h | h) | ⟨c,_,h⟩) | h) | ⟨c,_,h⟩
 ·exact wb_lt _ x h
 ·exact aDy _ x h
 ·unfold encC at h;simp only [List.mem_append] at h;rcases h with (h | h) | h
  ·exact wb_lt _ x h
  ·exact aDy _ x h
  ·exact aDy _ x h
 ·exact aDy _ x h
 ·unfold encX at h;simp only [List.mem_append] at h;rcases h with h | h
  ·exact aDy _ x h
  ·exact aDy _ x h
theorem encS_len (h:s.ok=true):(encS s).length<=300:=by
 obtain ⟨h1,h2,h3,h4,h5⟩:=Sch.parts h;have a1:=wb_len s.nm h1;have a2:=aBa s.cs.length (by omega);have a3:=aBa s.xs.length (by omega);have a4:=aF8 (f:=encC) (m:=35) (l:=s.cs) (fun j c hc=>aJ5 (h4 j c hc)) s.cs.length;have a5:=aF8 (f:=encX) (m:=18) (l:=s.xs) (fun j c hc=>encX_len (h5 j c hc)) s.xs.length;rw [List.take_length] at a4 a5;unfold encS;simp only [lA];omega
theorem decode_ok (hb:BS w a n c (encS s)) (hok:s.ok=true) :
  Calls prog 82 #[.slice a n c] w fun e w'=>∃ ca cc xa xc,e=.returned (.tuple #[.agg #[.string s.nm,.slice ca s.cs.length cc,.slice xa s.xs.length xc],.int .i64 0])/\SC w' ca s.cs.length cc xa s.xs.length xc s/\Below w.heap.size w w':=by
 have HOK:=aAb hok;obtain ⟨N,hN⟩:∃ N,w.heap.size=N:=⟨_,rfl⟩;obtain ⟨w1,hw1⟩:∃ w1,w1=(w.alloc (.cells #[.string ⟨#[]⟩,.slice none 0 0,.slice none 0 0] 33)).alloc (.cells #[.slice a n c,.int .i64 0] 226):=⟨_,rfl⟩;have HZ1:Hid (w1.heap[N]?=some (.cells #[.string ⟨#[]⟩,.slice none 0 0,.slice none 0 0] 33 (0,0))):=by show _=_;rw [hw1,<-hN];exact heap_alloc2_old w _ _
 have HR1:Hid (RDR (N+1) a n c 0 w1):=by show _=_;rw [hw1,<-hN];exact heap_alloc2_new w _ _
 have hb1:Below w.heap.size w w1:=by rw [hw1];exact (aAe w _).trans ((aAe _ _).mono (aAe w _).size)
 have HB1:=aAb (hb.later hb1 (nR _));have HW1:Hid (Below N w w1):=by show Below N w w1;rw [<-hN];exact hb1
 have HAN:Hid (∀ b o,a=some ⟨b,o,none⟩->b<N):=by
  intro b o q;have hpos:0<n:=by
   rw [<-hb.hlen];unfold encS wb;have h8:=(Sch.parts hok).1;have:=aAo s.nm.size (aAp s.nm.size (by omega)).1;have:=(aAp s.nm.size (by omega)).1;simp only [lA];omega
  have:=aAm (hb.hcell _ q 0 hpos);rw [<-hN];simpa [Addr.add] using this
 have HSC:=aAb (rschema_ok HR1.o HB1.o hok fun b o q=>by have:=HAN.o b o q;omega);have HE1:=aAb hw1;rw [hN];clear hb hok hb1 hw1;go_enter func82,ntmps82;go_upto_region 2 with fail;rw [<-HE1.o]
 try simp only [hN]
 go_wp2_with fail;refine HSC.o.mono ?_;rintro e w2 ⟨ca,cc,xa,xc,rfl,hsc,hf,hca,hxa⟩;have HNB:Hid ((∀ b o,ca=some ⟨b,o,none⟩->b≠N)/\∀ b o,xa=some ⟨b,o,none⟩->b≠N):=⟨fun b o q=>by have:=hca b o q;have:=aAd HR1.o;omega,fun b o q=>by have:=hxa b o q;have:=aAd HR1.o;omega⟩;clear hca hxa;have hbx:=aAe w2 (.cells #[.string s.nm,.slice ca s.cs.length cc,.slice xa s.xs.length xc] 33);have HV3:Hid ((w2.alloc (.cells #[.string s.nm,.slice ca s.cs.length cc,.slice xa s.xs.length xc] 33)).heap[w2.heap.size]?=some (.cells #[.string s.nm,.slice ca s.cs.length cc,.slice xa s.xs.length xc] 33 (0,0))):=boxed w2 _;have HSC3:=aAb (hsc.later hbx);have HZ3:Hid ((w2.alloc (.cells #[.string s.nm,.slice ca s.cs.length cc,.slice xa s.xs.length xc] 33)).heap[N]?=some (.cells #[.string ⟨#[]⟩,.slice none 0 0,.slice none 0 0] 33 (0,0))):=(hbx.block N (by have:=aAd HZ1.o;have:=hf.bel.size;omega)).trans ((hf.oth N (aAd HZ1.o) (by omega)).trans HZ1.o);have HB3:=aAb ((aIe HB1.o hf fun b o q=>by have:=HAN.o b o q;omega).later hbx (nR _));have HW3:Hid (Below N w (w2.alloc (.cells #[.string s.nm,.slice ca s.cs.length cc,.slice xa s.xs.length xc] 33))):=HW1.o.trans ((hf.bel.mono (by omega)).trans (hbx.mono (by have:=aAd HZ1.o;have:=hf.bel.size;omega)));clear hsc hf hbx HSC;go_upto_region 3 with fail;generalize w2.alloc (.cells #[.string s.nm,.slice ca s.cs.length cc,.slice xa s.xs.length xc] 33)=w3 at *
 generalize w2.heap.size=V at *
 have y0:w3.cell? ⟨V,0,none⟩=some (.string s.nm):=aAa HV3.o;have y1:w3.cell? ⟨V,1,none⟩=some (.slice ca s.cs.length cc):=aAa HV3.o;have y2:w3.cell? ⟨V,2,none⟩=some (.slice xa s.xs.length xc):=aAa HV3.o;have HEN:=aAb (encode_ok HSC3.o HOK.o);go_wp2_with fail;refine HEN.o.mono ?_;rintro e w4 ⟨v4,rfl,ho4,hb4⟩;obtain ⟨a4,c4,e4⟩:=OB.form ho4;subst e4;have HBS4:=aAb (OB.bs ho4 (encS_lt s) (by have:=encS_len HOK.o;omega));have HEQ:=aAb (aC0 a4 a _ c4 n c (encS s) (encS s) w4 HBS4.o (HB3.o.later hb4 (nR _)));rw [decide_eq_true rfl] at HEQ;have HV4:=aAb ((hb4.block V (aAd HV3.o)).trans HV3.o);have HZ4:=aAb ((hb4.block N (aAd HZ3.o)).trans HZ3.o);have HSC4:=aAb (HSC3.o.later hb4);have HW4:Hid (Below N w w4):=HW3.o.trans (hb4.mono (by have:=aAd HZ3.o;omega));obtain ⟨k4,hk4⟩:∃ k,(encS s).length=k:=⟨_,rfl⟩;rw [hk4] at HEQ ⊢;clear ho4 hb4 HEN y0 y1 y2 hk4;go_wp2_with fail;refine HEQ.o.mono ?_;rintro e w9 ⟨rfl,hw⟩;have hw:=hw.symm;subst hw;clear hw HEQ;have z0:w4.cell? ⟨V,0,none⟩=some (.string s.nm):=aAa HV4.o;have z1:w4.cell? ⟨V,1,none⟩=some (.slice ca s.cs.length cc):=aAa HV4.o;have z2:w4.cell? ⟨V,2,none⟩=some (.slice xa s.xs.length xc):=aAa HV4.o;have t0:w4.cell? ⟨N,0,none⟩=some (.string ⟨#[]⟩):=aAa HZ4.o;have tf0:w4.frozen? ⟨N,0,none⟩=false:=aAg HZ4.o;have t1:w4.cell? ⟨N,1,none⟩=some (.slice none 0 0):=aAa HZ4.o;have tf1:w4.frozen? ⟨N,1,none⟩=false:=aAg HZ4.o;have t2:w4.cell? ⟨N,2,none⟩=some (.slice none 0 0):=aAa HZ4.o;have tf2:w4.frozen? ⟨N,2,none⟩=false:=aAg HZ4.o;go_wp2;(try simp only [Exit.inBlock,Exit.then]);refine bodyPost_ret (results_sch results82 _ _ N _ _ _ _ _ rfl (set3K HZ4.o)) rfl ?_;have hsz:w4.heap.size<=(((w4.setCell ⟨N,0,none⟩ (.string s.nm)).setCell ⟨N,1,none⟩ (.slice ca s.cs.length cc)).setCell ⟨N,2,none⟩ (.slice xa s.xs.length xc)).heap.size:=((((Below.refl 0 w4).setCell (p:=⟨N,0,none⟩) (Nat.zero_le _) _).setCell (p:=⟨N,1,none⟩) (Nat.zero_le _) _).setCell (p:=⟨N,2,none⟩) (Nat.zero_le _) _).size;refine ⟨ca,cc,xa,xc,rfl,⟨HSC4.o.c.blk hsz fun b o e=>aCh (HNB.o.1 b o e),HSC4.o.x.blk hsz fun b o e=>aCh (HNB.o.2 b o e)⟩,?_⟩;exact ((HW4.o.setCell (p:=⟨N,0,none⟩) (nR _) _).setCell (p:=⟨N,1,none⟩) (nR _) _).setCell (p:=⟨N,2,none⟩) (nR _) _
def lit:Sch:=⟨⟨#[116]⟩,[(⟨#[107]⟩,1,0),(⟨#[110]⟩,2,3)],[(1,true)]⟩
theorem aG7 (w:World) (A B:Obj):((w.alloc A).alloc B).heap.size=w.heap.size+1+1:=by simp only [World.alloc,Array.size_push]
theorem al3_0 (w:World) (A B C:Obj):(((w.alloc A).alloc B).alloc C).heap[w.heap.size]?=some A:=((aAe _ C).block w.heap.size (by rw [aG7];omega)).trans (heap_alloc2_old w A B)
theorem al3_1 (w:World) (A B C:Obj):(((w.alloc A).alloc B).alloc C).heap[w.heap.size+1]?=some B:=((aAe _ C).block (w.heap.size+1) (by rw [aG7];omega)).trans (heap_alloc2_new w A B)
theorem al3_2 (w:World) (A B C:Obj):(((w.alloc A).alloc B).alloc C).heap[w.heap.size+1+1]?=some C:=by
 rw [<-aG7 w A B];exact boxed _ C
theorem al3_below (w:World) (A B C:Obj):Below w.heap.size w (((w.alloc A).alloc B).alloc C):=(aAe w A).trans (((aAe _ B).mono (aAe w A).size).trans ((aAe _ C).mono (by rw [aG7];omega)))
theorem SVK.whole {α:Type} {f:α->List Value} (hk:∀ x,(f x).length=k) {w:World} {g n:Nat} {t:TypeId} {fz:Nat×Nat} {l:List α} (hl:l.length=n) (hn:n<=1000) (h:w.heap[g]?=some (.cells (l.flatMap f).toArray t fz)):SVK f k w (some ⟨g,0,none⟩) n n l:=by
 refine ⟨hl,nR _,by omega,(fun q=>by cases q),fun _=>⟨g,0,rfl,aAd h,fun i x hx t ht=>?_⟩⟩;rw [Nat.zero_add,aAa h,List.getElem?_toArray];exact fl_get hk hx t ht
theorem row_ok (k:Int) (s:ByteArray) (w:World):Calls prog 46 #[.int .i64 k,.string s] w fun e w'=>∃ a c,e=.returned (.slice a 2 c)/\SVK fV 3 w' a 2 c [(1,k,⟨#[]⟩),(2,0,s)]/\Below w.heap.size w w':=by
 have HB:=aAb (aAe w (.cells #[.int .i64 1,.int .i64 k,.string ⟨#[]⟩,.int .i64 2,.int .i64 0,.string s] 36));have HV:Hid (SVK fV 3 (w.alloc (.cells #[.int .i64 1,.int .i64 k,.string ⟨#[]⟩,.int .i64 2,.int .i64 0,.string s] 36)) (some ⟨w.heap.size,0,none⟩) 2 2 [(1,k,⟨#[]⟩),(2,0,s)]):=SVK.whole aGk rfl (by omega) (boxed w _);go_enter func46,ntmps46;go_wp2;go_ret;exact ⟨_,_,rfl,HV.o,HB.o⟩
theorem little_ok (w:World):Calls prog 45 #[] w fun e w'=>∃ ca cc xa xc,e=.returned (.agg #[.string ⟨#[116]⟩,.slice ca 2 cc,.slice xa 1 xc])/\SC w' ca 2 cc xa 1 xc lit/\Below w.heap.size w w':=by
 have HA:Hid ((((w.alloc (Obj.cells #[.string ⟨#[116]⟩,.slice (some ⟨w.heap.size+1,0,none⟩) 2 2,.slice (some ⟨w.heap.size+1+1,0,none⟩) 1 1] 33)).alloc (Obj.cells #[.string ⟨#[107]⟩,.int .i64 1,.int .i64 0,.string ⟨#[110]⟩,.int .i64 2,.int .i64 3] 93)).alloc (Obj.cells #[.int .i64 1,.bool true] 61)).heap[w.heap.size]?=some (Obj.cells #[.string ⟨#[116]⟩,.slice (some ⟨w.heap.size+1,0,none⟩) 2 2,.slice (some ⟨w.heap.size+1+1,0,none⟩) 1 1] 33)):=al3_0 w _ _ _;have HBb:Hid ((((w.alloc (Obj.cells #[.string ⟨#[116]⟩,.slice (some ⟨w.heap.size+1,0,none⟩) 2 2,.slice (some ⟨w.heap.size+1+1,0,none⟩) 1 1] 33)).alloc (Obj.cells #[.string ⟨#[107]⟩,.int .i64 1,.int .i64 0,.string ⟨#[110]⟩,.int .i64 2,.int .i64 3] 93)).alloc (Obj.cells #[.int .i64 1,.bool true] 61)).heap[w.heap.size+1]?=some (Obj.cells #[.string ⟨#[107]⟩,.int .i64 1,.int .i64 0,.string ⟨#[110]⟩,.int .i64 2,.int .i64 3] 93)):=al3_1 w _ _ _;have HC:Hid ((((w.alloc (Obj.cells #[.string ⟨#[116]⟩,.slice (some ⟨w.heap.size+1,0,none⟩) 2 2,.slice (some ⟨w.heap.size+1+1,0,none⟩) 1 1] 33)).alloc (Obj.cells #[.string ⟨#[107]⟩,.int .i64 1,.int .i64 0,.string ⟨#[110]⟩,.int .i64 2,.int .i64 3] 93)).alloc (Obj.cells #[.int .i64 1,.bool true] 61)).heap[w.heap.size+1+1]?=some (Obj.cells #[.int .i64 1,.bool true] 61)):=al3_2 w _ _ _;have HW:Hid (Below w.heap.size w (((w.alloc (Obj.cells #[.string ⟨#[116]⟩,.slice (some ⟨w.heap.size+1,0,none⟩) 2 2,.slice (some ⟨w.heap.size+1+1,0,none⟩) 1 1] 33)).alloc (Obj.cells #[.string ⟨#[107]⟩,.int .i64 1,.int .i64 0,.string ⟨#[110]⟩,.int .i64 2,.int .i64 3] 93)).alloc (Obj.cells #[.int .i64 1,.bool true] 61))):=al3_below w _ _ _;go_enter func45,ntmps45;go_wp2;(try simp only [Exit.inBlock,Exit.then]);refine bodyPost_ret (results_cell_row results45 _ _ w.heap.size _ _ _ _ rfl HA.o underlying33 rfl aJu) rfl ?_;exact ⟨_,_,_,_,rfl,⟨SVK.whole aEi (l:=lit.cs) rfl (by omega) HBb.o,SVK.whole aFp (l:=lit.xs) rfl (by omega) HC.o⟩,HW.o⟩
end Go.Proofs.YtdpdjpkmndnaaaaGreat
