import Derived.Test.YtgckjkocmkedfabGreatZ74
set_option maxRecDepth 100000
set_option maxHeartbeats 16000000
set_option linter.unusedVariables false
namespace Go.Proofs.YtgckjkocmkedfabGreat
open Go.RowKit
theorem len_sub:∀ {l m:List (List Nat)},(l.Pairwise fun a b=>a≠b)→(∀ x∈l,x∈m)→l.length≤m.length
 | [],_,_,_=>Nat.zero_le _
 | x::l,m,hp,h=>by
  obtain ⟨h1,h2⟩:=List.pairwise_cons.1 hp
  have hx:=h x List.mem_cons_self
  have:=len_sub (l:=l) (m:=m.erase x) h2 fun y hy=>(List.mem_erase_of_ne (fun e=>h1 y hy e.symm)).2 (h y (List.mem_cons_of_mem _ hy))
  rw [List.length_erase_of_mem hx] at this
  have:=List.length_pos_of_mem hx
  simp only [List.length_cons]
  omega
theorem Inv.names_len {cs:List Ch} {T:List Tbl} (I:Inv cs T):(liveC cs 0).length=T.length:=by
 have h1:((liveC cs 0).map Ch.key).length≤(T.map fun t=>slK t.s.nm).length:=by
  refine len_sub ?_ fun x hx=>?_
  ·rw [List.pairwise_map]
   exact (aIf cs 0).imp fun {a b} hab e=>by rw [e,aAq] at hab;omega
  ·obtain ⟨c,hc,rfl⟩:=List.mem_map.1 hx
   obtain ⟨i,t,h2,rfl⟩:=(I.l0 c).1 hc
   exact List.mem_map.2 ⟨t,at_mem h2,rfl⟩
 have h2:(T.map fun t=>slK t.s.nm).length≤((liveC cs 0).map Ch.key).length:=by
  refine len_sub ?_ fun x hx=>?_
  ·rw [List.pairwise_map,List.pairwise_iff_getElem]
   intro i j hi hj hij e
   have:=I.nm i j _ _ (gE hi) (gE hj) (slK_inj e)
   omega
  ·obtain ⟨t,ht,rfl⟩:=List.mem_map.1 hx
   obtain ⟨i,hi⟩:=List.getElem?_of_mem ht
   exact List.mem_map.2 ⟨⟨0,slK t.s.nm,i::encS t.s,false⟩,(I.l0 _).2 ⟨i,t,hi,rfl⟩,rfl⟩
 rw [List.length_map,List.length_map] at h1 h2
 omega
theorem rng_names {cs:List Ch} {T:List Tbl} (I:Inv cs T):rngC cs 0 [] [] 4=liveC cs 0:=by
 rw [aD9]
 have e:(liveC cs 0).filter (fun c=>inK [] [] c.key)=liveC cs 0:=by
  rw [List.filter_eq_self]
  intro c _
  unfold inK
  rw [decide_eq_true (aE5 c.key)]
  rfl
 rw [e]
 exact List.take_of_length_le (by rw [I.names_len];exact I.len)
def fN (s:ByteArray):List Value:=[.string s]
theorem fN_len (s:ByteArray):(fN s).length=1:=rfl
theorem info_strT:(Tryz.prog.info? 9).map (fun i=>(i.zero,i.size,i.bytes))=some (some (.string ⟨#[]⟩),1,16):=by kernel_rfl
theorem mstr0:(madeCells (Value.string ⟨#[]⟩).cells (0*1)).toList=(List.replicate 0 (⟨#[]⟩:ByteArray)).flatMap fN:=by kernel_rfl
theorem mstr1:(madeCells (Value.string ⟨#[]⟩).cells (1*1)).toList=(List.replicate 1 (⟨#[]⟩:ByteArray)).flatMap fN:=by kernel_rfl
theorem mstr2:(madeCells (Value.string ⟨#[]⟩).cells (2*1)).toList=(List.replicate 2 (⟨#[]⟩:ByteArray)).flatMap fN:=by kernel_rfl
theorem mstr3:(madeCells (Value.string ⟨#[]⟩).cells (3*1)).toList=(List.replicate 3 (⟨#[]⟩:ByteArray)).flatMap fN:=by kernel_rfl
theorem mstr4:(madeCells (Value.string ⟨#[]⟩).cells (4*1)).toList=(List.replicate 4 (⟨#[]⟩:ByteArray)).flatMap fN:=by kernel_rfl
theorem made_strT {n:Nat} (h:n≤4):(madeCells (Value.string ⟨#[]⟩).cells (n*1)).toList=(List.replicate n (⟨#[]⟩:ByteArray)).flatMap fN:=by
 have:n=0∨n=1∨n=2∨n=3∨n=4:=by omega
 rcases this with rfl | rfl | rfl | rfl | rfl
 ·exact mstr0
 ·exact mstr1
 ·exact mstr2
 ·exact mstr3
 ·exact mstr4
def namesL (cs:List Ch):List ByteArray:=(liveC cs 0).map fun c=>str c.key
theorem tnames_ok [Gd] {B p q g ls db:Nat} {v:Value} {cs:List Ch} {W w0 w:World} {T:List Tbl} (h:DR B p q g ls db v cs W w0 w) (I:Inv cs T) (hl:cs.length≤1000) :
  Calls Tryz.prog 78 #[.pointer (some ⟨db,0,none⟩)] w fun e w'=>∃ a c,e=.returned (.tuple #[.slice a T.length c,.int .i64 0])∧SVK fN 1 w' a T.length c (namesL cs)∧Below w.heap.size w w':=by
 have hrg:=aBg (sp:=0) (most:=4) h.now h.dd hl (by omega) (BK.nil B w) (BK.nil B w) (by omega) (by omega) (by omega) (by omega)
 rw [show rngC cs ((0:Nat):Int) [] [] 4=rngC cs 0 [] [] 4 from rfl,rng_names I] at hrg
 have HRG:=aAb hrg
 obtain ⟨F,hF⟩:∃ F,liveC cs 0=F:=⟨_,rfl⟩
 obtain ⟨n,hn⟩:∃ n,T.length=n:=⟨_,rfl⟩
 have HFN:Hid (F.length=n):=by show _=_;rw [←hF,I.names_len,hn]
 have HN4:Hid (n≤4):=by show _≤_;rw [←hn];exact I.len
 have HNM:Hid (namesL cs=F.map fun c=>str c.key):=by show _=_;rw [←hF];rfl
 have HBW:=aAb h.bw
 rw [hF] at HRG
 rw [hn]
 obtain ⟨N,hN⟩:∃ N,w.heap.size=N:=⟨_,rfl⟩
 have HNN:=aAb hN
 rw [hN]
 clear hrg h I hl hF hn
 go_enter Tryz.func78,Tryz.ntmps78
 go_wp2_with fail
 refine HRG.out.mono ?_
 rintro e w2 ⟨v2,rfl,hps,hb2⟩
 obtain ⟨pa,pc,ev⟩:=hps.form
 rw [HFN.out] at ev
 subst ev
 have HPS:=aAb (hps0 hps)
 have HB2:Hid (Below N w w2):=by show Below N w w2;rw [←hN];exact hb2
 have HBW2:Hid (B≤w2.heap.size∧N≤w2.heap.size):=⟨nT HBW.out hb2.size,by rw [←hN];exact hb2.size⟩
 clear hps hb2 HRG
 obtain ⟨i0,hi,hz0,hz1',hz2⟩:=info_parts info_strT
 have hn4:n≤4:=HN4.out
 go_upto_region 7 with (refine wpList_make_full w2 rfl _ _ 26 rfl w2.heap.size 9 i0 (.string ⟨#[]⟩) 1 Tryz.underlying26 hi hz0 hz1' .i64 .i64 (n:Int) (n:Int) n rfl rfl rfl rfl (by rw [hz2];omega) (by unfold maxLen;omega) (nR _) ?_;intro w3 ho3 hg3;rw [made_strT hn4] at ho3;have HO3:=aAb ho3;have HG3:Hid (Below w2.heap.size w2 w3):=(Below.refl _ _).grown hg3 (nR _) (fun _ q=>nomatch q);clear ho3 hg3)
 have HPS3:=aAb (HPS.out.later HG3.out HBW2.out.1)
 have HB3:Hid (Below N w w3):=HB2.out.trans (HG3.out.mono HBW2.out.2)
 have HBG:Hid (B≤w2.heap.size∧N≤w2.heap.size):=HBW2.out
 clear HG3 HPS HB2 HBW2 hi hz0 hz1' hz2
 generalize w2.heap.size=g2 at *
 obtain ⟨ns,hns⟩:∃ ns,ns=F.map fun c=>str c.key:=⟨_,rfl⟩
 have HNS:=aAb hns
 have HNL:Hid (ns.length=n):=by show _=_;rw [hns,List.length_map];exact HFN.out
 clear hns
 rw [show List.replicate n (⟨#[]⟩:ByteArray)=rowJ ⟨#[]⟩ ns 0 from by rw [aEm,HNL.out]] at HO3
 go_wp2_with fail
 go_loopg [24] n (fun gh s24 wx=>∃ j:Nat,j+gh=n∧s24=.int .i64 (j:Int)∧wx.ownsRow g2 9 1 (.slice (some ⟨g2,0,none⟩) n n) n ((rowJ ⟨#[]⟩ ns j).flatMap fN)∧PSW B 0 wx (.slice pa n pc) F∧Below N w wx)
 case atStart=>exact ⟨0,by omega,rfl,HO3.out,HPS3.out,HB3.out⟩
 case round =>
  obtain ⟨j,hj,rfl,ho1,hps,hbe⟩:=hrel
  have HO1:=aAb ho1
  have HPS:=aAb hps
  have HBE:=aAb hbe
  clear ho1 hps hbe HO3 HPS3 HB3
  by_cases hjn:j<n
  ·have xj:(j:Int)<(n:Int):=by omega
   have xj0:(0:Int)≤(j:Int):=by omega
   have x6:(n:Int)≤9223372036854775807:=by omega
   obtain ⟨ch,hch⟩:∃ c,F[j]?=some c:=⟨_,gE (by rw [HFN.out];exact hjn)⟩
   obtain ⟨g9,k9,x9,e9,hev,hcell⟩:=HPS.out.at f3_len hch
   obtain ⟨xc9,xk9,xv9⟩:=x9
   obtain ⟨ex9,⟨ka,kc,e3,hbk⟩,⟨vva,vvc,e4,_⟩⟩:=hev
   dsimp only at ex9 e3 e4
   subst ex9
   simp only [Value.slice.injEq] at e9
   obtain ⟨rfl,zz9,rfl⟩:=e9
   clear zz9
   have c0:wr.cell? ⟨g9,j*3,none⟩=some (.int .i64 xc9.sp):=hcell 0 (by omega)
   have c1:wr.cell? ⟨g9,j*3+1,none⟩=some xk9:=hcell 1 (by omega)
   have c2:wr.cell? ⟨g9,j*3+2,none⟩=some xv9:=hcell 2 (by omega)
   subst e3 e4
   have hcap:n≤pc:=by
    obtain ⟨kv,_,⟨_,ho⟩,_⟩:=HPS.out
    rcases ho with ⟨e,h0⟩ | ⟨g',cap',cur',e,_,_,h7,_⟩
    ·rw [HFN.out] at h0;omega
    ·simp only [Value.slice.injEq] at e
     have:=HFN.out
     omega
   have hBr:B≤wr.heap.size:=nT HBW.out (by have:=HBE.out.size;have:=HNN.out;omega)
   have hbx:=aAf wr (.cells #[.int .i64 xc9.sp,.slice ka xc9.key.length kc,.slice vva xc9.val.length vvc] 125)
   have HO2:=aAb (aAn HO1.out hbx)
   have HPS2:=aAb (HPS.out.later hbx hBr)
   have HBE2:Hid (Below N w (wr.alloc (.cells #[.int .i64 xc9.sp,.slice ka xc9.key.length kc,.slice vva xc9.val.length vvc] 125))):=HBE.out.trans (hbx.mono (by have:=HBE.out.size;have:=HNN.out;omega))
   have HR3:Hid ((wr.alloc (.cells #[.int .i64 xc9.sp,.slice ka xc9.key.length kc,.slice vva xc9.val.length vvc] 125)).heap[wr.heap.size]?=some (.cells #[.int .i64 xc9.sp,.slice ka xc9.key.length kc,.slice vva xc9.val.length vvc] 125 (0,0))):=boxed wr _
   have hbk2:=hbk.later hbx hBr
   have HNA:Hid (ns[j]?=some (str xc9.key)):=by show _=_;rw [HNS.out,List.getElem?_map,hch];rfl
   have HNX:=aAb (aEn (z:=(⟨#[]⟩:ByteArray)) HNA.out)
   have HAZ:Hid ((rowJ (⟨#[]⟩:ByteArray) ns j)[j]?=some ⟨#[]⟩):=aIm (by rw [HNL.out];exact hjn)
   clear hcell hbx hbk hch
   go_upto_region 10 with fail
   clear c0 c1 c2
   generalize wr.alloc (.cells #[.int .i64 xc9.sp,.slice ka xc9.key.length kc,.slice vva xc9.val.length vvc] 125)=w5 at *
   generalize wr.heap.size=G at *
   have z1:w5.cell? ⟨G,1,none⟩=some (.slice ka xc9.key.length kc):=aAa HR3.out
   have hcv:(convert 82 9 (.slice ka xc9.key.length kc)).run Tryz.prog w5=.ok (.string (str xc9.key)) w5:=run_text hbk2.1
   have hcells:=aDk fN_len HO2.out HAZ.out
   obtain ⟨cur,hcur,hcell⟩:=hcells
   have d0:w5.cell? ⟨g2,j,none⟩=some (.string ⟨#[]⟩):=by have h9:=hcell 0 (by omega);rw [Nat.mul_one,Nat.add_zero] at h9;exact h9
   have f0:w5.frozen? ⟨g2,j,none⟩=false:=aAg hcur
   have HCU:=aAb hcur
   clear hcell hcur hbk2
   go_wp2
   go_roundg (gk-1)
   case measure=>omega
   case rel =>
    have hst:=aB4 (u:=.string (str xc9.key)) (i:=j) HO2.out (by omega)
    have e5:=aCc (f:=fN) (k:=1) (j:=0) (u:=.string (str xc9.key)) (x':=str xc9.key) fN_len (by omega) HAZ.out rfl
    rw [Nat.mul_one,Nat.add_zero] at e5
    rw [e5,HNX.out] at hst
    refine ⟨j+1,by omega,rfl,hst,?_,HBE2.out.setCell (p:=⟨g2,j,none⟩) HBG.out.2 _⟩
    refine HPS2.out.keep (FT.set HCU.out HBG.out.1 (by decide)) fun q hq=>heap_setCell_other _ _ _ _ ?_
    intro e
    obtain ⟨_,_,cur2,h8⟩:=HPS2.out.blk hq
    rw [show q=g2 from e,HCU.out] at h8
    simp only [oI,cI] at h8
    exact absurd h8.2.1 (by decide)
  ·have ej:j=n:=by omega
   subst ej
   have xj:¬ (j:Int)<(j:Int):=by omega
   go_wp2
   go_ret2
   have h9:=HO1.out
   rw [show rowJ (⟨#[]⟩:ByteArray) ns j=ns from by rw [←HNL.out];exact aF7 _ _] at h9
   obtain ⟨a9,c9,e9,hsv⟩:=aB9 fN_len h9 HNL.out
   simp only [Value.slice.injEq] at e9
   obtain ⟨rfl,_,rfl⟩:=e9
   exact ⟨_,_,rfl,by rw [HNM.out,←HNS.out];exact hsv,HBE.out⟩
theorem tadd_ok [Gd] {B p q g ls db B9 bn bc:Nat} {v:Value} {cs:List Ch} {W w0 w:World} {T:List Tbl} {ba:Option Addr} {s:Sch} (h:DR B p q g ls db v cs W w0 w) (I:Inv cs T) (hl:cs.length≤990) (hs:s.ok=true) (hb:OB B9 w (.slice ba bn bc) (encS s)) :
  Calls Tryz.prog 36 #[.pointer (some ⟨db,0,none⟩),.string s.nm,.slice ba bn bc] w fun e w'=>OpR B p q g ls db v cs W w0 w (if 4≤T.length then ⟨T,[],2⟩ else ⟨T++[⟨s,[]⟩],[⟨0,slK s.nm,T.length::encS s,false⟩],0⟩) e w':=by
 have HD:=aAb h
 have HI:=aAb I
 have HLM:=aAb hl
 have HSO:=aAb hs
 have HOB:=aAb hb
 have HNM:=aAb (tnames_ok h I (by omega))
 obtain ⟨n,hn⟩:∃ n,T.length=n:=⟨_,rfl⟩
 have HN:=aAb hn
 rw [hn] at HNM
 obtain ⟨oo,hoo⟩:∃ oo:Out,(if 4≤T.length then ⟨T,[],2⟩ else ⟨T++[⟨s,[]⟩],[⟨0,slK s.nm,T.length::encS s,false⟩],0⟩:Out)=oo:=⟨_,rfl⟩
 have HOUT:=aAb hoo
 rw [hoo]
 clear h I hl hs hb hn hoo
 go_enter Tryz.func36,Tryz.ntmps36
 go_wp2_with fail
 refine HNM.out.mono ?_
 rintro e w2 ⟨na,nc,rfl,_,hb2⟩
 have HB2:=aAb hb2
 have HD2:=aAb (HD.out.later hb2)
 have HOB2:=aAb (HOB.out.later hb2)
 clear hb2 HNM
 by_cases h4:4≤n
 ·have x4:(4:Int)≤(n:Int):=by omega
  go_wp2
  go_ret
  rw [←HOUT.out,if_pos (by rw [HN.out];exact h4)]
  exact OpR.no HD.out HB2.out
 ·have x4:¬ (4:Int)≤(n:Int):=by omega
  have x1:(n:Int) % 256=(n:Int):=by omega
  have x2:IntKind.u8.wrap (n:Int)=(n:Int):=by show (n:Int) % 256=_;omega
  have hz:=aE1 (nm_of HSO.out)
  have hz1:1≤s.nm.size:=by
   have:=nm_of HSO.out
   unfold isNm at this
   simp only [Bool.and_eq_true,decide_eq_true_eq] at this
   exact this.1.1
  obtain ⟨cp3,w3,hcv3,hb3,hbs3,hub3⟩:=conv_u s.nm w2 (by omega)
  have HD3:=aAb (HD2.out.later hb3)
  have HB3:=aAb (HB2.out.trans (hb3.mono HB2.out.size))
  have HOB3:=aAb (HOB2.out.later hb3)
  have hbx:=aAf w3 (.cells #[.int .u8 (n:Int)] 5)
  have HOB4:=aAb (HOB3.out.later hbx)
  have HK3:Hid (BS w3 (some ⟨w2.heap.size,0,none⟩) s.nm.size cp3 (slK s.nm)∧UB w3 (some ⟨w2.heap.size,0,none⟩)):=⟨hbs3,hub3⟩
  have HOO:Hid (OB w3.heap.size (w3.alloc (.cells #[.int .u8 (n:Int)] 5)) (.slice (some ⟨w3.heap.size,0,none⟩) 1 1) [n]):=own_oneK (nR _)
  have HSZ:Hid (w3.heap.size≤(w3.alloc (.cells #[.int .u8 (n:Int)] 5)).heap.size):=hbx.size
  have HBX:=aAb hbx
  have HE8:=aAb (encS_80 HSO.out)
  have HZZ:=aAb (And.intro hz1 hz)
  have HN4:Hid (n<4):=by show n<4;omega
  clear hz hz1 hb3 hbs3 hub3 hbx h4
  go_wp2_with (at_builtin;refine aAv rfl (.tmp 28) (.tmp 29) rfl (xs:=[n]) (ys:=encS s) rfl rfl HOO.out HOB4.out HSZ.out (by have:=HE8.out;show 1+_≤_;omega) ?_;intro v5 w5 ho5 hb5 hk5;have HO5:=aAb ho5;have HB5:=aAb (HBX.out.trans hb5);clear ho5 hb5 hk5)
  obtain ⟨a5,c5,e5⟩:=HO5.out.form
  obtain ⟨vn,hvn⟩:∃ vn,([n]++encS s).length=vn:=⟨_,rfl⟩
  rw [hvn] at e5
  subst e5
  have hbs5:BS w5 a5 vn c5 ([n]++encS s):=by
   have h9:=HO5.out
   have h8:=h9.form
   have h7:=OB.bs (a:=a5) (k:=vn) (c:=c5) h9 (fun x hx=>by rcases List.mem_append.1 hx with q | q;(simp only [List.mem_singleton] at q;have:=HN4.out;omega);exact encS_lt s x q) (by rw [hvn,←hvn,lA];have:=HE8.out;show 1+_≤_;omega)
   rw [hvn] at h7
   exact h7
  have hub5:UB w5 a5:=HO5.out.ub
  have HD5:=aAb (HD3.out.later HB5.out)
  have HBB5:=aAb (HB3.out.trans (HB5.out.mono HB3.out.size))
  have hvl:vn≤81:=by rw [←hvn,lA];have:=HE8.out;show 1+_≤_;omega
  have hre:refE 0 s.nm.size vn=0:=by
   unfold refE
   have:=HZZ.out
   rw [if_neg (by omega),if_neg (by omega)]
  have hpu:=dput_any (sp:=0) HD5.out.dd (aBx (HK3.out.1.later HB5.out (nR _)) (HK3.out.2.later HB5.out)) (aBx hbs5 hub5) (by have:=HLM.out;omega)
  rw [hre,aJn (by show refE 0 (slK s.nm).length ([n]++encS s).length=0;rw [aD8,hvn];exact hre)] at hpu
  have HPU:=aAb hpu
  clear hbs5 hub5 hvl hre hpu hvn
  go_wp2_with fail
  refine HPU.out.mono ?_
  rintro e w6 ⟨v6,rfl,hd6,hf6⟩
  have HR6:Hid (OpR B p q g ls db v cs W w0 w oo (.returned (.int .i64 0)) w6):=by
   show OpR B p q g ls db v cs W w0 w oo (.returned (.int .i64 0)) w6
   rw [←HOUT.out,if_neg (by rw [HN.out];have:=HN4.out;omega),HN.out]
   exact ⟨v6,rfl,HD5.out.fr hd6 hf6,(DFr.of HBB5.out HD.out.bw).trans hf6⟩
  clear hd6 hf6 HPU
  go_wp2
  go_ret
  exact HR6.out
theorem aHv [Gd] {B p q g ls db cl cc xl xc:Nat} {v:Value} {cs:List Ch} {W w0 w:World} {T:List Tbl} {ca xa:Option Addr} {s:Sch} (h:DR B p q g ls db v cs W w0 w) (I:Inv cs T) (hl:cs.length≤990) (hsc:SC w ca cl cc xa xl xc s) :
  Calls Tryz.prog 10 #[.pointer (some ⟨db,0,none⟩),.agg #[.string s.nm,.slice ca cl cc,.slice xa xl xc]] w fun e w'=>OpR B p q g ls db v cs W w0 w (creO T s) e w':=by
 have HD:=aAb h
 have HI:=aAb I
 have HLM:=aAb hl
 obtain ⟨w1,hw1⟩:∃ w1,w1=w.alloc (.cells #[.string s.nm,.slice ca cl cc,.slice xa xl xc] 34):=⟨_,rfl⟩
 have hb1:Below w.heap.size w w1:=by rw [hw1];exact aAf w _
 have HK1:Hid (w1.heap[w.heap.size]?=some (.cells #[.string s.nm,.slice ca cl cc,.slice xa xl xc] 34 (0,0))):=by show _=_;rw [hw1];exact boxed w _
 have HB1:=aAb hb1
 have HS1:=aAb (hsc.later hb1)
 have HD1:=aAb (h.later hb1)
 have HW1:=aAb hw1
 obtain ⟨oo,hoo⟩:∃ oo:Out,creO T s=oo:=⟨_,rfl⟩
 have HOUT:=aAb hoo
 rw [hoo]
 clear h I hl hsc hb1 hw1 hoo
 go_enter Tryz.func10,Tryz.ntmps10
 go_upto_region 1 with fail
 rw [←HW1.out]
 clear HW1
 generalize hLw:w.heap.size=L at *
 have HLW:=aAb hLw
 clear hLw
 have k0:w1.cell? ⟨L,0,none⟩=some (.string s.nm):=aAa HK1.out
 have k1:w1.cell? ⟨L,1,none⟩=some (.slice ca cl cc):=aAa HK1.out
 have k2:w1.cell? ⟨L,2,none⟩=some (.slice xa xl xc):=aAa HK1.out
 by_cases hok:s.ok=true
 ·have HSO:=aAb hok
  have HEN:=aAb (encode_ok HS1.out hok)
  clear hok
  go_wp2_with fail
  refine HEN.out.mono ?_
  rintro e w2 ⟨v2,rfl,ho2,hb2⟩
  obtain ⟨ba,bc,ev⟩:=ho2.form
  obtain ⟨bn,hbn⟩:∃ bn,(encS s).length=bn:=⟨_,rfl⟩
  rw [hbn] at ev
  subst ev
  have HOB:=aAb ho2
  have HB2:Hid (Below L w w2):=HB1.out.trans (hb2.mono (by have:=HB1.out.size;have:=HLW.out;omega))
  have HD2:=aAb (HD1.out.later hb2)
  have HK2:=aAb ((hb2.block L (aAe HK1.out)).trans HK1.out)
  have HFI:=aAb (aEh HD2.out HI.out (by have:=HLM.out;omega) s.nm)
  clear ho2 hb2 hbn HEN k0 k1 k2
  have k0:w2.cell? ⟨L,0,none⟩=some (.string s.nm):=aAa HK2.out
  go_wp2_with fail
  refine HFI.out.mono ?_
  rintro e w3 ⟨hfi,hb3⟩
  have HB3:=aAb (HB2.out.trans (hb3.mono (by have:=HB2.out.size;have:=HLW.out;omega)))
  have HD3:=aAb (HD2.out.later hb3)
  have HOB3:=aAb (HOB.out.later hb3)
  have HK3:=aAb ((hb3.block L (aAe HK2.out)).trans HK2.out)
  cases hta:tAt T s.nm with
  | none =>
   have he:=hfi.1 hta
   subst he
   have HTA:=aAb hta
   have hbx:=aAf w3 (.cells #[.pointer none,.int .u8 0,.string ⟨#[]⟩,.slice none 0 0,.slice none 0 0] 86)
   have HB4:=aAb (HB3.out.trans (hbx.mono (by have:=HB3.out.size;have:=HLW.out;omega)))
   have HD4:=aAb (HD3.out.later hbx)
   have HOB4:=aAb (HOB3.out.later hbx)
   have HK4:=aAb ((hbx.block L (aAe HK3.out)).trans HK3.out)
   clear hfi hta hbx hb3 HFI k0
   go_upto_region 7 with fail
   generalize w3.alloc (.cells #[.pointer none,.int .u8 0,.string ⟨#[]⟩,.slice none 0 0,.slice none 0 0] 86)=w4 at *
   have k0:w4.cell? ⟨L,0,none⟩=some (.string s.nm):=aAa HK4.out
   have HAD:=aAb (tadd_ok HD4.out HI.out HLM.out HSO.out HOB4.out)
   go_wp2_with fail
   refine HAD.out.mono ?_
   rintro e w5 ⟨v5,rfl,hd5,hf5⟩
   have e9:oo=(if 4≤T.length then ⟨T,[],2⟩ else ⟨T++[⟨s,[]⟩],[⟨0,slK s.nm,T.length::encS s,false⟩],0⟩:Out):=by
    rw [←HOUT.out]
    unfold creO
    rw [if_neg (by rw [HSO.out];decide),HTA.out]
    rfl
   have HR5:Hid (OpR B p q g ls db v cs W w0 w oo (.returned (.int .i64 oo.e)) w5):=by
    rw [e9]
    exact ⟨v5,rfl,hd5,(DFr.of (by rw [HLW.out];exact HB4.out) HD.out.bw).trans hf5⟩
   have e8:(if 4≤T.length then ⟨T,[],2⟩ else ⟨T++[⟨s,[]⟩],[⟨0,slK s.nm,T.length::encS s,false⟩],0⟩:Out).e=oo.e:=by rw [e9]
   rw [e8]
   clear hd5 hf5 HAD e8 e9
   generalize oo.e=oe at *
   go_wp2
   go_ret
   exact HR5.out
  | some i =>
   obtain ⟨t,hti,htn,htm⟩:=aBq hta
   obtain ⟨ca2,cc2,xa2,xc2,he,_⟩:=hfi.2 i t hta hti
   unfold tblV at he
   subst he
   have HTA:=aAb hta
   have HTN:=aAb htn
   have hbx:=aAf w3 (.cells #[.pointer (some ⟨db,0,none⟩),.int .u8 (i:Int),.string t.s.nm,.slice ca2 t.s.cs.length cc2,.slice xa2 t.s.xs.length xc2] 86)
   have HB4:=aAb (HB3.out.trans (hbx.mono (by have:=HB3.out.size;have:=HLW.out;omega)))
   clear hfi hta hbx hb3 HFI k0 htn hti htm
   go_upto_region 7 with fail
   generalize w3.alloc (.cells #[.pointer (some ⟨db,0,none⟩),.int .u8 (i:Int),.string t.s.nm,.slice ca2 t.s.cs.length cc2,.slice xa2 t.s.xs.length xc2] 86)=w4 at *
   go_wp2
   go_ret
   have e9:oo=⟨T,[],60⟩:=by
    rw [←HOUT.out]
    unfold creO
    rw [if_neg (by rw [HSO.out];decide),HTA.out]
    rfl
   rw [e9]
   exact OpR.no HD.out (by rw [HLW.out];exact HB4.out)
 ·have hok:s.ok=false:=by simpa using hok
  have HEN:=aAb (encode_no HS1.out hok)
  have HNO:=aAb hok
  clear hok
  go_wp2_with fail
  refine HEN.out.mono ?_
  rintro e w2 ⟨rfl,hb2⟩
  have HB2:Hid (Below L w w2):=HB1.out.trans (hb2.mono (by have:=HB1.out.size;have:=HLW.out;omega))
  clear hb2 HEN k0 k1 k2
  go_wp2
  go_ret
  have e9:oo=⟨T,[],61⟩:=by
   rw [←HOUT.out]
   unfold creO
   rw [if_pos HNO.out]
  rw [e9]
  exact OpR.no HD.out (by rw [HLW.out];exact HB2.out)
theorem ox_clo {bx:Nat} {cc:Int} {w:World} (x:Idx) (hc:w.heap[bx]?=some (.cells #[.int .i64 cc] 3 (0,0))) :
  Calls Tryz.prog 91 #[.agg #[.int .i64 x.1,.bool x.2],.pointer (some ⟨bx,0,none⟩)] w fun e w'=>e=.returned (.bool (x.1 == cc))∧Below w.heap.size w w':=by
 have HB:=aAb (aAf w (.cells #[.int .i64 x.1,.bool x.2] 152))
 have y0:(w.alloc (.cells #[.int .i64 x.1,.bool x.2] 152)).cell? ⟨bx,0,none⟩=some (.int .i64 cc):=aAa ((HB.out.block bx (lO hc)).trans hc)
 clear hc
 go_enter Tryz.func91,Tryz.ntmps91
 go_wp2
 go_ret
 exact ⟨rfl,HB.out⟩
theorem ox_idx {bx:Nat} {cc:Int} {w:World} {a:Option Addr} {len cap:Nat} {l:List Idx} (h:SVK fX 2 w a len cap l) (hlen:len≤1000) (hc:w.heap[bx]?=some (.cells #[.int .i64 cc] 3 (0,0))) :
  Calls Tryz.prog 150 #[.slice a len cap,.func (Fn.func 91) #[] #[.pointer (some ⟨bx,0,none⟩)]] w fun e w'=>∃ i:Int,e=.returned (.int .i64 i)∧(decide (0≤i)=l.any (fun x=>x.1 == cc))∧Below w.heap.size w w':=by
 have H:=aAb h
 have hx:=h.hl
 have HL:=aAb hx
 clear h hx
 have HC:=aAb hc
 clear hc
 go_enter Tryz.func150,Tryz.ntmps150
 go_wp2_with fail
 go_loopg [8] len (fun gh s8 wx=>∃ j:Nat,j+gh=len∧s8=.int .i64 (j:Int)∧(l.take j).any (fun x=>x.1 == cc)=false∧Below w.heap.size w wx)
 case atStart=>exact ⟨0,by omega,rfl,by simp,Below.refl _ _⟩
 case round =>
  obtain ⟨j,hj,rfl,hno,hbr⟩:=hrel
  have HNO:=aAb hno
  have HBR:=aAb hbr
  clear hno hbr
  by_cases hjn:j<len
  ·have xj:(j:Int)<(len:Int):=by omega
   obtain ⟨x,hxj⟩:∃ x,l[j]?=some x:=⟨_,gE (by rw [HL.out];exact hjn)⟩
   have HTK:Hid ((l.take (j+1)).any (fun x=>x.1 == cc)=(x.1 == cc)):=by
    show _=_
    rw [List.take_add_one,hxj,List.any_append,HNO.out]
    simp
   have HYES:Hid ((x.1 == cc)=true→l.any (fun x=>x.1 == cc)=true):=fun q=>List.any_eq_true.2 ⟨x,mG hxj,q⟩
   obtain ⟨b,o,e0,hb,hcs⟩:=H.out.pl (by omega)
   have hcell:=fun t (ht:t<2)=>hcs j x hxj t ht
   subst e0
   have y0:wr.cell? ⟨b,o+j*2,none⟩=some (.int .i64 x.1):=(HBR.out.cell hb).trans (hcell 0 (by omega))
   have y1:wr.cell? ⟨b,o+j*2+1,none⟩=some (.bool x.2):=(HBR.out.cell hb).trans (hcell 1 (by omega))
   have hc2:=(HBR.out.block bx (lO HC.out)).trans HC.out
   have HCL:=aAb (ox_clo  (w:=wr) x hc2)
   obtain ⟨pb,hpb⟩:∃ pb:Bool,pb=(x.1 == cc):=⟨_,rfl⟩
   rw [←hpb] at HTK HYES HCL
   clear hcs hcell hxj hpb
   go_wp2_with fail
   refine HCL.out.mono ?_
   rintro e w1 ⟨rfl,hb1⟩
   have HB1:Hid (Below w.heap.size w w1):=HBR.out.trans (hb1.mono HBR.out.size)
   clear hb1 HCL
   cases pb with
   | true =>
    have HY:=aAb (HYES.out rfl)
    go_wp2_with fail
    go_ret
    exact ⟨(j:Int),rfl,by rw [HY.out];exact decide_eq_true (by omega),HB1.out⟩
   | false =>
    go_wp2_with fail
    go_roundg (gk-1)
    case measure=>omega
    case rel=>exact ⟨j+1,by omega,rfl,HTK.out,HB1.out⟩
  ·have xj:¬ (j:Int)<(len:Int):=by omega
   have HN:Hid (l.any (fun x=>x.1 == cc)=false):=by
    have h9:=HNO.out
    rw [List.take_of_length_le (by rw [HL.out];omega)] at h9
    exact h9
   go_wp2
   go_ret
   exact ⟨-1,rfl,by rw [HN.out];rfl,HBR.out⟩
theorem ox_has {bx:Nat} {cc:Int} {w:World} {a:Option Addr} {len cap:Nat} {l:List Idx} (h:SVK fX 2 w a len cap l) (hlen:len≤1000) (hc:w.heap[bx]?=some (.cells #[.int .i64 cc] 3 (0,0))) :
  Calls Tryz.prog 92 #[.slice a len cap,.func (Fn.func 91) #[] #[.pointer (some ⟨bx,0,none⟩)]] w fun e w'=>e=.returned (.bool (l.any (fun x=>x.1 == cc)))∧Below w.heap.size w w':=by
 have HI:=aAb (ox_idx h hlen hc)
 clear h hc
 generalize l.any (fun x=>x.1 == cc)=bb at *
 go_enter Tryz.func92,Tryz.ntmps92
 go_wp2_with fail
 refine HI.out.mono ?_
 rintro e w1 ⟨i,rfl,hi,hb1⟩
 have HB1:=aAb hb1
 have HE:=aAb hi
 clear hb1 HI hi
 go_wp2
 go_ret
 exact ⟨by rw [←HE.out];rfl,HB1.out⟩
def ordB (s:Sch) (c:Int):Bool:=(c == 0) || s.xs.any (fun x=>x.1 == c)
theorem hasOrder_ok {dv:Value} {num:Nat} {nm:ByteArray} {ca xa:Option Addr} {cl cc xl xc:Nat} {s:Sch} {c:Int} {w:World} (hx:SVK fX 2 w xa xl xc s.xs) (h3:xl≤1000) :
  Calls Tryz.prog 43 #[.agg #[dv,.int .u8 (num:Int),.string nm,.slice ca cl cc,.slice xa xl xc],.int .i64 c] w fun e w'=>e=.returned (.bool (ordB s c))∧Below w.heap.size w w':=by
 obtain ⟨w1,hw1⟩:∃ w1,w1=(w.alloc (.cells #[dv,.int .u8 (num:Int),.string nm,.slice ca cl cc,.slice xa xl xc] 86)).alloc (.cells #[.int .i64 c] 3):=⟨_,rfl⟩
 have hb1:Below w.heap.size w w1:=by rw [hw1];exact aDe _ _ _
 have HT1:Hid (w1.heap[w.heap.size]?=some (.cells #[dv,.int .u8 (num:Int),.string nm,.slice ca cl cc,.slice xa xl xc] 86 (0,0))):=by show _=_;rw [hw1];exact heap_alloc2_old w _ _
 have hc1:w1.heap[w.heap.size+1]?=some (.cells #[.int .i64 c] 3 (0,0)):=by rw [hw1];exact heap_alloc2_new w _ _
 have HB1:=aAb hb1
 have HOX:=aAb (ox_has (hx.later hb1) h3 hc1)
 have HW1:=aAb hw1
 have y4:w1.cell? ⟨w.heap.size,4,none⟩=some (.slice xa xl xc):=aAa HT1.out
 have c0:w1.cell? ⟨w.heap.size+1,0,none⟩=some (.int .i64 c):=aAa hc1
 have HOB:Hid (ordB s c=((c == 0) || s.xs.any (fun x=>x.1 == c))):=rfl
 generalize ordB s c=ob at *
 generalize s.xs.any (fun x=>x.1 == c)=ab at *
 clear hx h3 hb1 hw1 hc1
 go_enter Tryz.func43,Tryz.ntmps43
 go_upto_region 1 with fail
 rw [←HW1.out]
 clear HW1
 generalize w.heap.size+1=Q at *
 by_cases hc0:c=0
 ·have d0:(c == 0)=true:=by simp [hc0]
  have HE:Hid (ob=true):=by show _=_;rw [HOB.out,d0];rfl
  have d1:decide (c=0)=true:=decide_eq_true hc0
  have HC0:=aAb hc0
  clear hc0
  go_wp2
  go_ret
  exact ⟨by rw [HE.out];rfl,HB1.out⟩
 ·have d0:(c == 0)=false:=by simp [hc0]
  have HE:Hid (ob=ab):=by show _=_;rw [HOB.out,d0];rfl
  have d1:decide (c=0)=false:=decide_eq_false hc0
  have HC0:=aAb hc0
  clear hc0
  go_wp2_with fail
  refine HOX.out.mono ?_
  rintro e w2 ⟨rfl,hb2⟩
  have HB2:=aAb (HB1.out.trans (hb2.mono HB1.out.size))
  clear hb2 HOX
  go_wp2
  go_ret
  exact ⟨by rw [HE.out];rfl,HB2.out⟩
def endK (i c:Nat) (x:Val):List Nat:=if x.1=0 then [i,c+1] else (i::c::x.bytes).take 60
theorem tend_ok {dv:Value} {num c:Nat} {nm:ByteArray} {ca xa ka:Option Addr} {cl cc xl xc kn kc:Nat} {x:Val} {w:World} (hn:num<256) (hc:c<250) (hb:BS w ka kn kc x.bytes) (hp:0<kn) (hm:kn≤10000000) :
  Calls Tryz.prog 94 #[.agg #[dv,.int .u8 (num:Int),.string nm,.slice ca cl cc,.slice xa xl xc],.int .i64 (c:Int),.iface (hT x) (.slice ka kn kc)] w fun e w'=>∃ a k d,e=.returned (.slice a k d)∧k≤60∧BS w' a k d (endK num c x)∧UB w' a∧Below w.heap.size w w':=by
 obtain ⟨w1,hw1⟩:∃ w1,w1=w.alloc (.cells #[dv,.int .u8 (num:Int),.string nm,.slice ca cl cc,.slice xa xl xc] 86):=⟨_,rfl⟩
 have hb1:Below w.heap.size w w1:=by rw [hw1];exact aAf w _
 have HT1:Hid (w1.heap[w.heap.size]?=some (.cells #[dv,.int .u8 (num:Int),.string nm,.slice ca cl cc,.slice xa xl xc] 86 (0,0))):=by show _=_;rw [hw1];exact boxed w _
 have HB1:=aAb hb1
 have HK1:=aAb (hb.later hb1 (nR _))
 have HW1:=aAb hw1
 have HN:=aAb hn
 have HC:=aAb hc
 have HP:=aAb (And.intro hp hm)
 have y0:w1.cell? ⟨w.heap.size,0,none⟩=some dv:=aAa HT1.out
 have y1:w1.cell? ⟨w.heap.size,1,none⟩=some (.int .u8 (num:Int)):=aAa HT1.out
 have y2:w1.cell? ⟨w.heap.size,2,none⟩=some (.string nm):=aAa HT1.out
 have y3:w1.cell? ⟨w.heap.size,3,none⟩=some (.slice ca cl cc):=aAa HT1.out
 have y4:w1.cell? ⟨w.heap.size,4,none⟩=some (.slice xa xl xc):=aAa HT1.out
 have xc2:(c:Int)+1≤9223372036854775807:=by omega
 have xc3:(-9223372036854775808:Int)≤(c:Int)+1:=by omega
 clear hb hn hp hm hb1 hw1
 by_cases hz:x.1=0
 ·have ehT:hT x=184:=if_pos hz
  rw [ehT]
  have HE:Hid (endK num c x=[num,c+1]):=if_pos hz
  have ta:=fun ww=>asr_no (.slice ka kn kc) ww
  have HAT:=aAb (at_zero (dv:=dv) (num:=num) (col:=c+1) (nm:=nm) (ca:=ca) (cl:=cl) (cc:=cc) (xa:=xa) (xl:=xl) (xc:=xc) (pa:=none) (pc:=0) (w:=w1) HN.out (by omega))
  have e2:(((c+1:Nat)):Int)=(c:Int)+1:=by omega
  rw [e2] at HAT
  clear hz ehT e2 hc
  go_enter Tryz.func94,Tryz.ntmps94
  go_upto_region 1 with fail
  rw [←HW1.out]
  clear HW1
  go_wp2_with fail
  refine HAT.out.mono ?_
  rintro e w2 ⟨a2,c2,rfl,hbs,hub,hb2⟩
  have HB2:=aAb (HB1.out.trans (hb2.mono HB1.out.size))
  have HBS:=aAb hbs
  have HUB:=aAb hub
  clear hb2 hbs hub HAT
  go_wp2
  go_ret
  exact ⟨a2,2,c2,rfl,by omega,by rw [HE.out];exact HBS.out,HUB.out,HB2.out⟩
 ·have ehT:hT x=185:=if_neg hz
  rw [ehT]
  have HE:Hid (endK num c x=(num::c::x.bytes).take 60):=if_neg hz
  have ta:=fun ww=>asr_so (.slice ka kn kc) ww
  have hbx:=aAf w1 (.cells #[.slice ka kn kc] 82)
  have HPP:Hid ((w1.alloc (.cells #[.slice ka kn kc] 82)).cell? ⟨w1.heap.size,0,none⟩=some (.slice ka kn kc)):=aDy _
  have HK2:=aAb (HK1.out.later hbx (nR _))
  have HB2:=aAb (HB1.out.trans (hbx.mono HB1.out.size))
  have HAT:=aAb (aD2 (dv:=dv) (num:=num) (col:=c) (nm:=nm) (ca:=ca) (cl:=cl) (cc:=cc) (xa:=xa) (xl:=xl) (xc:=xc) (pa:=some ⟨w1.heap.size,0,none⟩) (pn:=1) (pc:=1) (w:=w1.alloc (.cells #[.slice ka kn kc] 82)) HN.out (by omega) HK2.out.hlen HP.out.2 HP.out.1 HK2.out.hbyte (fun ww hb=>join_one _ ((hb.cell (aAk HPP.out)).trans HPP.out) (HK2.out.later hb (nR _)) HP.out.1))
  obtain ⟨kl,hkl⟩:∃ kl,min (kn+2) 60=kl:=⟨_,rfl⟩
  rw [hkl] at HAT
  have HKL:Hid (kl≤60):=by show kl≤60;omega
  clear hz ehT hc hbx hkl
  go_enter Tryz.func94,Tryz.ntmps94
  go_upto_region 1 with fail
  rw [←HW1.out]
  clear HW1
  go_wp2_with fail
  refine HAT.out.mono ?_
  rintro e w2 ⟨a2,c2,rfl,hbs,hub,hb2⟩
  have HB3:=aAb (HB2.out.trans (hb2.mono HB2.out.size))
  have HBS:=aAb hbs
  have HUB:=aAb hub
  clear hb2 hbs hub HAT
  go_wp2
  go_ret
  exact ⟨a2,kl,c2,rfl,HKL.out,by rw [HE.out];exact HBS.out,HUB.out,HB3.out⟩
def scanC (cs:List Ch) (i c:Nat) (lo hi:Val) (limit:Nat):List Ch:=rngC cs 1 ((i::c::lo.bytes).take 60) (endK i c hi) limit
def rowOf (c:Ch):List Val:=(drow c.val).getD []
theorem take60c (i c:Nat) (A:List Nat):(i::c::A).take 60=i::c::A.take 58:=rfl
section
variable {cs:List Ch} {T:List Tbl} {i:Nat} {t:Tbl}
theorem scan_in {c:Nat} {lo hi:Val} {k:List Nat} {j d:Nat} {rest:List Nat} (e:k=j::d::rest) (h:inK ((i::c::lo.bytes).take 60) (endK i c hi) k=true):j=i∧d=c:=by
 subst e
 rw [take60c] at h
 unfold endK at h
 split at h
 ·have:=aGa.1 h;exact ⟨this.1,this.2.1⟩
 ·rw [take60c] at h
  have:=aI9.1 h;exact ⟨this.1,this.2.1⟩
theorem laid_two {j:Nat} {s:Sch} {r:List Val} {x:Ch} (h:x∈laidR j s r):∃ d rest,x.key=j::d::rest∧x.val=rowB r:=by
 rcases aG3 h with rfl | ⟨c,_,rfl⟩
 ·exact ⟨0,_,rfl,rfl⟩
 ·exact ⟨c.1.toNat,_,rfl,rfl⟩
theorem Inv.scan_row (I:Inv cs T) (h:T[i]?=some t) {c:Nat} {lo hi:Val} {limit:Nat}:∀ x∈scanC cs i c lo hi limit,∃ r∈t.rows,x∈laidR i t.s r∧x.val=rowB r:=by
 intro x hx
 unfold scanC at hx
 rw [aD9] at hx
 obtain ⟨h1,h2⟩:=List.mem_filter.1 (List.mem_of_mem_take hx)
 obtain ⟨j,u,h3,r,hr,h4⟩:=(I.l1 x).1 h1
 obtain ⟨d,rest,e1,e2⟩:=laid_two h4
 obtain ⟨e3,_⟩:=scan_in e1 h2
 subst e3
 rw [h] at h3;cases h3
 exact ⟨r,hr,h4,e2⟩
theorem scanC_len {c:Nat} {lo hi:Val} {limit:Nat}:(scanC cs i c lo hi limit).length≤limit:=by
 unfold scanC
 rw [aD9,List.length_take]
 omega
end
theorem info_vals:(Tryz.prog.info? 38).map (fun i=>(i.zero,i.size,i.bytes))=some (some (.slice none 0 0),1,24):=by kernel_rfl
def zS:SEt:=(none,0,0)
theorem mrow0:(madeCells (Value.slice none 0 0).cells (0*1)).toList=(List.replicate 0 zS).flatMap fS:=by kernel_rfl
theorem mrow1:(madeCells (Value.slice none 0 0).cells (1*1)).toList=(List.replicate 1 zS).flatMap fS:=by kernel_rfl
theorem mrow2:(madeCells (Value.slice none 0 0).cells (2*1)).toList=(List.replicate 2 zS).flatMap fS:=by kernel_rfl
theorem mrow3:(madeCells (Value.slice none 0 0).cells (3*1)).toList=(List.replicate 3 zS).flatMap fS:=by kernel_rfl
theorem mrow4:(madeCells (Value.slice none 0 0).cells (4*1)).toList=(List.replicate 4 zS).flatMap fS:=by kernel_rfl
theorem made_row {n:Nat} (h:n≤4):(madeCells (Value.slice none 0 0).cells (n*1)).toList=(List.replicate n zS).flatMap fS:=by
 have:n=0∨n=1∨n=2∨n=3∨n=4:=by omega
 rcases this with rfl | rfl | rfl | rfl | rfl
 ·exact mrow0
 ·exact mrow1
 ·exact mrow2
 ·exact mrow3
 ·exact mrow4
def RWv (w:World) (es:List SEt) (l:List (List Val)):Prop:=∀ (i:Nat) e r,es[i]?=some e→l[i]?=some r→SVK fV 3 w e.1 e.2.1 e.2.2 r
def RWs (w:World) (a:Option Addr) (n c:Nat) (l:List (List Val)):Prop:=∃ es:List SEt,SVK fS 1 w a n c es∧es.length=l.length∧RWv w es l
theorem RWv.later {w w':World} {es:List SEt} {l:List (List Val)} (h:RWv w es l) (hb:Below w.heap.size w w'):RWv w' es l:=fun i e r h1 h2=>(h i e r h1 h2).later hb
theorem own_full {B te g n:Nat} {w:World} {l:List SEt} (h:w.ownsRow B te 1 (.slice (some ⟨g,0,none⟩) n n) n (l.flatMap fS)) (hl:l.length=n):∃ cur,w.heap[g]?=some (.cells cur te (0,0))∧∀ (z:Int) (o:Nat),cur[o]?≠some (.int .i64 z):=by
 rcases h.2 with ⟨e,_⟩ | ⟨g',cap',cur,e,h5,h6,h7,h8,h9,h10⟩
 ·cases e
 ·simp only [Value.slice.injEq,oI,Addr.mk.injEq] at e
  obtain ⟨⟨rfl,_,_⟩,_,rfl⟩:=e
  refine ⟨cur,h6,fun z o q=>?_⟩
  have hlen:cur.toList.length=n*1:=by simpa using h9
  rw [List.take_of_length_le (by rw [hlen];exact nR _)] at h10
  rw [←Array.getElem?_toList,h10] at q
  have hm:=mG q
  rw [List.mem_flatMap] at hm
  obtain ⟨x,_,hx⟩:=hm
  simp only [fS,List.mem_cons,List.not_mem_nil,or_false] at hx
  cases hx
theorem rep_set {es:List SEt} {e:SEt} {n j:Nat} (hj:es.length=j) (h:j<n):(es++List.replicate (n-j) zS).set j e=(es++[e])++List.replicate (n-(j+1)) zS:=by
 rw [List.set_append_right _ _ (by omega),hj,Nat.sub_self,show n-j=(n-(j+1))+1 by omega,List.replicate_succ,List.set_cons_zero,List.append_assoc]
 rfl
theorem tscan_ok [Gd] {B p q g ls db i c limit:Nat} {v:Value} {cs:List Ch} {W w0 w:World} {T:List Tbl} {t:Tbl} {lo hi:Val} {ca xa la ha:Option Addr} {cc xc lk lc hk hc:Nat} (h:DR B p q g ls db v cs W w0 w) (I:Inv cs T) (hl:cs.length≤1000) (hti:T[i]?=some t) (hsc:SC w ca t.s.cs.length cc xa t.s.xs.length xc t.s) (hc9:c<250) (hlo:BS w la lk lc lo.bytes) (hlk:0<lk∧lk≤10000000) (hhi:BS w ha hk hc hi.bytes) (hhk:0<hk∧hk≤10000000) (hlim:1≤limit∧limit≤4) :
  Calls Tryz.prog 45 #[.agg #[.pointer (some ⟨db,0,none⟩),.int .u8 (i:Int),.string t.s.nm,.slice ca t.s.cs.length cc,.slice xa t.s.xs.length xc],.int .i64 (c:Int),.iface (hT lo) (.slice la lk lc),.iface (hT hi) (.slice ha hk hc),.int .i64 (limit:Int)] w fun e w'=>(∃ a n k,e=.returned (.tuple #[.slice a n k,.int .i64 0])∧RWs w' a n k ((scanC cs i c lo hi limit).map rowOf))∧Below w.heap.size w w':=by
 obtain ⟨L,hL⟩:∃ L,w.heap.size=L:=⟨_,rfl⟩
 obtain ⟨w1,hw1⟩:∃ w1,w1=w.alloc (.cells #[.pointer (some ⟨db,0,none⟩),.int .u8 (i:Int),.string t.s.nm,.slice ca t.s.cs.length cc,.slice xa t.s.xs.length xc] 86):=⟨_,rfl⟩
 have hb1:Below w.heap.size w w1:=by rw [hw1];exact aAf w _
 have hb1d:=hb1.drew
 have HT1:Hid (w1.drew.heap[L]?=some (.cells #[.pointer (some ⟨db,0,none⟩),.int .u8 (i:Int),.string t.s.nm,.slice ca t.s.cs.length cc,.slice xa t.s.xs.length xc] 86 (0,0))):=by show w1.heap[L]?=_;rw [hw1,←hL];exact boxed w _
 have HB1:Hid (Below L w w1.drew):=by show Below L w _;rw [←hL];exact hb1d
 have HLO1:=aAb (hlo.later hb1d (nR _))
 have HHI1:=aAb (hhi.later hb1d (nR _))
 have HD:=aAb h
 have HI:=aAb I
 have HLN:=aAb hl
 have HTI:=aAb hti
 have HSC:=aAb hsc
 have HOK:=aAb (I.ok t (at_mem hti))
 have hi4:i<256:=by have:=(lL hti);have:=I.len;omega
 have HI4:=aAb hi4
 have HC9:=aAb hc9
 have HKS:=aAb (And.intro hlk hhk)
 have HLI:=aAb hlim
 obtain ⟨F,hF⟩:∃ F,scanC cs i c lo hi limit=F:=⟨_,rfl⟩
 obtain ⟨n,hn⟩:∃ n,F.length=n:=⟨_,rfl⟩
 have HF:=aAb hF
 have HFN:=aAb hn
 have HN4:Hid (n≤4):=by show n≤4;rw [←hn,←hF];exact nT scanC_len hlim.2
 have HRW:Hid (∀ x∈F,∃ r∈t.rows,x.val=rowB r):=by
  intro x hx
  rw [←hF] at hx
  obtain ⟨r,h1,_,h2⟩:=I.scan_row hti x hx
  exact ⟨r,h1,h2⟩
 obtain ⟨KL,hmL,hcL,hkL⟩:=aJa lo la lk lc
 have HKL:=aAb hkL
 have HW1:=aAb hw1
 have HLL:=aAb hL
 rw [hL,hF]
 clear h I hl hti hsc hc9 hlo hlk hhi hhk hb1 hb1d hw1 hi4 hF hn hkL hlim
 generalize hT lo=tlo at *
 go_enter Tryz.func45,Tryz.ntmps45
 go_upto_region 1 with fail
 rw [←HW1.out]
 try simp only [hL]
 clear HW1
 have HX0:Hid ((fun wx:World=>wx.cell? ⟨L,0,none⟩=some (.pointer (some ⟨db,0,none⟩))∧wx.cell? ⟨L,1,none⟩=some (.int .u8 (i:Int))∧wx.cell? ⟨L,2,none⟩=some (.string t.s.nm)∧wx.cell? ⟨L,3,none⟩=some (.slice ca t.s.cs.length cc)∧wx.cell? ⟨L,4,none⟩=some (.slice xa t.s.xs.length xc)) w1.drew):=⟨aAa HT1.out,aAa HT1.out,aAa HT1.out,aAa HT1.out,aAa HT1.out⟩
 refine wp_region_noPanic ?_
 refine wp_region_held_drew (S:=fun wx=>wx.cell? ⟨L,0,none⟩=some (.pointer (some ⟨db,0,none⟩))∧wx.cell? ⟨L,1,none⟩=some (.int .u8 (i:Int))∧wx.cell? ⟨L,2,none⟩=some (.string t.s.nm)∧wx.cell? ⟨L,3,none⟩=some (.slice ca t.s.cs.length cc)∧wx.cell? ⟨L,4,none⟩=some (.slice xa t.s.xs.length xc)) (by kernel_rfl) HX0.out (fun hHeld=>?_)
 generalize w1.drew=w1 at *
 refine wpAnyH_tk 0 20 ?_
 refine wpAnyH_tk 1 21 ?_
 refine wpAnyH_tk 2 22 ?_
 refine wpAnyH_tk 3 23 ?_
 refine wpAnyH_tk 4 24 ?_
 refine wpAnyH_tk 8 28 ?_
 refine wpAnyH_tk 9 29 ?_
 refine wpAnyH_tk 10 30 ?_
 refine wpAnyH_tk 12 32 ?_
 refine wpAnyH_cm 5 ?_;intro K hK
 go_simp
 refine (HKL.out w1).mono ?_
 rintro e w9 ⟨rfl,hw⟩
 have hw:=hw.symm
 subst hw
 clear hHeld hw
 refine hK.out _ _ ⟨aAa HT1.out,aAa HT1.out,aAa HT1.out,aAa HT1.out,aAa HT1.out⟩ (fun hHeld=>?_)
 clear hK K
 try simp only [Act.put,siT,scZ,scS]
 refine wpAnyH_cm 6 ?_;intro K hK
 go_simp
 have hbx:=aAf w1 (.cells #[.slice la lk lc] 82)
 have HT2:=aAb ((hbx.block L (aAe HT1.out)).trans HT1.out)
 have HB2:Hid (Below L w (w1.alloc (.cells #[.slice la lk lc] 82))):=HB1.out.trans (hbx.mono (Nat.le_of_lt (aAe HT1.out)))
 have HLO2:=aAb (HLO1.out.later hbx (nR _))
 have HHI2:=aAb (HHI1.out.later hbx (nR _))
 have HPP2:Hid ((w1.alloc (.cells #[.slice la lk lc] 82)).cell? ⟨w1.heap.size,0,none⟩=some (.slice la lk lc)):=aDy _
 clear hbx hHeld
 refine hK.out _ _ ⟨aAa HT2.out,aAa HT2.out,aAa HT2.out,aAa HT2.out,aAa HT2.out⟩ (fun hHeld=>?_)
 generalize w1.alloc (.cells #[.slice la lk lc] 82)=w2 at *
 generalize w1.heap.size=gp at *
 clear hK K
 try simp only [Act.put,siT,scZ,scS]
 refine wpAnyH_cm 7 ?_;intro K hK
 go_simp
 refine (aD2 (num:=i) (col:=c) HI4.out (by have:=HC9.out;omega) HLO2.out.hlen HKS.out.1.2 HKS.out.1.1 HLO2.out.hbyte (fun ww hb=>join_one _ ((hb.cell (aAk HPP2.out)).trans HPP2.out) (HLO2.out.later hb (nR _)) HKS.out.1.1)).mono ?_
 rintro e w3 ⟨k1a,k1c,rfl,hbs,hub,hb3⟩
 have HT3:=aAb ((hb3.block L (aAe HT2.out)).trans HT2.out)
 have HB3:Hid (Below L w w3):=HB2.out.trans (hb3.mono (Nat.le_of_lt (aAe HT2.out)))
 have HHI3:=aAb (HHI2.out.later hb3 (nR _))
 have HK13:=aAb (And.intro hbs hub)
 clear hbs hub hb3 hHeld
 refine hK.out _ _ ⟨aAa HT3.out,aAa HT3.out,aAa HT3.out,aAa HT3.out,aAa HT3.out⟩ (fun hHeld=>?_)
 clear hK K
 try simp only [Act.put,siT,scZ,scS]
 refine wpAnyH_cm 11 ?_;intro K hK
 go_simp
 refine (tend_ok (num:=i) (c:=c) HI4.out HC9.out HHI3.out HKS.out.2.1 HKS.out.2.2).mono ?_
 rintro e w4 ⟨k2a,k2k,k2c,rfl,hk60,hbs,hub,hb4⟩
 have HT4:=aAb ((hb4.block L (aAe HT3.out)).trans HT3.out)
 have HB4:Hid (Below L w w4):=HB3.out.trans (hb4.mono (Nat.le_of_lt (aAe HT3.out)))
 have HK14:=aAb (And.intro (HK13.out.1.later hb4 (nR _)) (HK13.out.2.later hb4))
 have HK24:=aAb (And.intro hbs hub)
 have HK60:=aAb hk60
 clear hbs hub hb4 hk60 hHeld
 refine hK.out _ _ ⟨aAa HT4.out,aAa HT4.out,aAa HT4.out,aAa HT4.out,aAa HT4.out⟩ (fun hHeld=>?_)
 clear hK K
 try simp only [Act.put,siT,scZ,scS]
 refine wpAnyH_cm 13 ?_;intro K hK
 go_simp
 have HDR:=aAb (HD.out.later (w':=w4) (by rw [HLL.out];exact HB4.out))
 have hrg:=aBg (sp:=1) (most:=limit) HDR.out.now HDR.out.dd HLN.out (by omega) (aBx HK14.out.1 HK14.out.2) (aBx HK24.out.1 HK24.out.2) (by omega) HK60.out (by have:=HLI.out.2;omega) HLI.out.1
 refine hrg.mono ?_
 rintro e w5 ⟨v5,rfl,hps,hb5⟩
 rw [show rngC cs ((1:Nat):Int) ((i::c::lo.bytes).take 60) (endK i c hi) limit=scanC cs i c lo hi limit from rfl,HF.out] at hps
 obtain ⟨pa,pc,e5⟩:=hps.form
 rw [HFN.out] at e5
 subst e5
 have HT5:=aAb ((hb5.block L (aAe HT4.out)).trans HT4.out)
 have HB5:Hid (Below L w w5):=HB4.out.trans (hb5.mono (Nat.le_of_lt (aAe HT4.out)))
 have HPS:=aAb (hps0 hps)
 clear hrg hps hb5 hHeld HDR
 refine hK.out _ _ ⟨aAa HT5.out,aAa HT5.out,aAa HT5.out,aAa HT5.out,aAa HT5.out⟩ (fun hHeld=>?_)
 clear hK K
 try simp only [Act.put,siT,scZ,scS]
 refine wpAnyH_tk 14 19 ?_
 refine wpAnyH_tk 15 34 ?_
 refine wpAnyH_tk 16 35 ?_
 refine wpAnyH_tk 17 12 ?_
 refine wpAnyH_tk 18 13 ?_
 refine wpAnyH_done (by kernel_rfl) ?_ _
 refine NoPanic.normal ?_
 clear hHeld
 have HSC5:Hid (SC w5 ca t.s.cs.length cc xa t.s.xs.length xc t.s):=HSC.out.later (by rw [HLL.out];exact HB5.out)
 have HBW:Hid (B≤L):=by show B≤L;rw [←HLL.out];exact HD.out.bw
 have HLG:Hid (L<w5.heap.size):=aAe HT5.out
 obtain ⟨i0,hi0,hz0,hz1',hz2⟩:=info_parts info_vals
 have hn4:n≤4:=HN4.out
 go_upto_region 5 with (refine wpList_make_full w5 rfl _ _ 42 rfl w5.heap.size 38 i0 (.slice none 0 0) 1 Tryz.underlying42 hi0 hz0 hz1' .i64 .i64 (n:Int) (n:Int) n rfl rfl rfl rfl (by rw [hz2];omega) (by unfold maxLen;omega) (nR _) ?_;intro w6 ho6 hg6;rw [made_row hn4] at ho6;have HO6:=aAb ho6;have HG6:Hid (Below w5.heap.size w5 w6):=(Below.refl _ _).grown hg6 (nR _) (fun _ q=>nomatch q);clear ho6 hg6)
 have HT6:=aAb ((HG6.out.block L (aAe HT5.out)).trans HT5.out)
 have HB6:Hid (Below L w w6):=HB5.out.trans (HG6.out.mono (Nat.le_of_lt (aAe HT5.out)))
 have HPS6:=aAb (HPS.out.later HG6.out (by have:=HBW.out;have:=HLG.out;omega))
 clear hi0 hz0 hz1' hz2 HG6 HPS HT5 HB5 HSC5
 generalize w5.heap.size=g2 at *
 go_wp2_with fail
 go_loopg [44] n (fun gh s44 wx=>∃ j:Nat,j+gh=n∧s44=.int .i64 (j:Int)∧∃ es:List SEt,es.length=j∧wx.ownsRow g2 38 1 (.slice (some ⟨g2,0,none⟩) n n) n ((es++List.replicate (n-j) zS).flatMap fS)∧RWv wx es (F.map rowOf)∧PSW B 0 wx (.slice pa n pc) F∧wx.heap[L]?=some (.cells #[.pointer (some ⟨db,0,none⟩),.int .u8 (i:Int),.string t.s.nm,.slice ca t.s.cs.length cc,.slice xa t.s.xs.length xc] 86 (0,0))∧Below L w wx)
 case atStart=>exact ⟨0,by omega,rfl,[],rfl,HO6.out,(fun q e r h1=>by simp at h1),HPS6.out,HT6.out,HB6.out⟩
 case round =>
  obtain ⟨j,hj,rfl,es,hes,ho1,hrw,hps,htb,hbe⟩:=hrel
  have HES:=aAb hes
  have HO1:=aAb ho1
  have HRV:=aAb hrw
  have HPS:=aAb hps
  have HTB:=aAb htb
  have HBE:=aAb hbe
  clear hes ho1 hrw hps htb hbe HO6 HPS6 HT6 HB6
  by_cases hjn:j<n
  ·have xj:(j:Int)<(n:Int):=by omega
   have xj0:(0:Int)≤(j:Int):=by omega
   have x6:(n:Int)≤9223372036854775807:=by omega
   obtain ⟨ch,hch⟩:∃ c,F[j]?=some c:=⟨_,gE (by rw [HFN.out];exact hjn)⟩
   obtain ⟨r,hrm,hrv⟩:=HRW.out ch (mG hch)
   have HRO:=aAb (HI.out.row t (at_mem HTI.out) r hrm)
   have HLR:Hid ((F.map rowOf)[j]?=some r):=by
    show _=_
    rw [List.getElem?_map,hch]
    show some (rowOf ch)=some r
    unfold rowOf
    rw [hrv,aHg HRO.out.rE HRO.out.ok]
    rfl
   obtain ⟨g9,k9,x9,e9,hev,hcell⟩:=HPS.out.at f3_len hch
   obtain ⟨xc9,xk9,xv9⟩:=x9
   obtain ⟨ex9,⟨ka,kc,e3,_⟩,⟨va,vc,e4,hbv⟩⟩:=hev
   dsimp only at ex9 e3 e4
   subst ex9
   simp only [Value.slice.injEq] at e9
   obtain ⟨rfl,zz9,rfl⟩:=e9
   clear zz9
   have c0:wr.cell? ⟨g9,j*3,none⟩=some (.int .i64 xc9.sp):=hcell 0 (by omega)
   have c1:wr.cell? ⟨g9,j*3+1,none⟩=some xk9:=hcell 1 (by omega)
   have c2:wr.cell? ⟨g9,j*3+2,none⟩=some xv9:=hcell 2 (by omega)
   subst e3 e4
   have hcap:n≤pc:=by
    obtain ⟨kv,_,⟨_,ho⟩,_⟩:=HPS.out
    rcases ho with ⟨e,h0⟩ | ⟨g',cap',cur',e,_,_,h7,_⟩
    ·rw [HFN.out] at h0;omega
    ·simp only [Value.slice.injEq] at e
     have:=HFN.out
     omega
   have hBr:B≤wr.heap.size:=nT HBW.out (Nat.le_of_lt (aAe HTB.out))
   have hbx:=aAf wr (.cells #[.int .i64 xc9.sp,.slice ka xc9.key.length kc,.slice va xc9.val.length vc] 125)
   have HO2:=aAb (aAn HO1.out hbx)
   have HRV2:=aAb (HRV.out.later hbx)
   have HPS2:=aAb (HPS.out.later hbx hBr)
   have HTB2:=aAb ((hbx.block L (aAe HTB.out)).trans HTB.out)
   have HBE2:Hid (Below L w (wr.alloc (.cells #[.int .i64 xc9.sp,.slice ka xc9.key.length kc,.slice va xc9.val.length vc] 125))):=HBE.out.trans (hbx.mono (Nat.le_of_lt (aAe HTB.out)))
   have HR3:Hid ((wr.alloc (.cells #[.int .i64 xc9.sp,.slice ka xc9.key.length kc,.slice va xc9.val.length vc] 125)).heap[wr.heap.size]?=some (.cells #[.int .i64 xc9.sp,.slice ka xc9.key.length kc,.slice va xc9.val.length vc] 125 (0,0))):=boxed wr _
   have hbv2:=(hbv.later hbx hBr).1
   rw [hrv] at hbv2
   have HBV2:Hid (BS (wr.alloc (.cells #[.int .i64 xc9.sp,.slice ka xc9.key.length kc,.slice va xc9.val.length vc] 125)) va xc9.val.length vc (rowB r)):=by
    show BS _ _ _ _ _
    rw [hrv]
    exact hbv2
   clear hcell hbx hbv hbv2 hch hrm hrv
   go_upto_region 8 with fail
   clear c0 c1 c2
   generalize wr.alloc (.cells #[.int .i64 xc9.sp,.slice ka xc9.key.length kc,.slice va xc9.val.length vc] 125)=w7 at *
   generalize wr.heap.size=G at *
   have z2:w7.cell? ⟨G,2,none⟩=some (.slice va xc9.val.length vc):=aAa HR3.out
   have y0:w7.cell? ⟨L,0,none⟩=some (.pointer (some ⟨db,0,none⟩)):=aAa HTB2.out
   have y1:w7.cell? ⟨L,1,none⟩=some (.int .u8 (i:Int)):=aAa HTB2.out
   have y2:w7.cell? ⟨L,2,none⟩=some (.string t.s.nm):=aAa HTB2.out
   have y3:w7.cell? ⟨L,3,none⟩=some (.slice ca t.s.cs.length cc):=aAa HTB2.out
   have y4:w7.cell? ⟨L,4,none⟩=some (.slice xa t.s.xs.length xc):=aAa HTB2.out
   have HRD:=aAb (tread_ok (dv:=.pointer (some ⟨db,0,none⟩)) (num:=i) (HSC.out.later (by rw [HLL.out];exact HBE2.out)) HOK.out HRO.out HBV2.out)
   go_wp2_with fail
   refine HRD.out.mono ?_
   rintro e w8 ⟨ra,rc,sa,sc,rfl,hrh,hb8⟩
   have hbq:=aAf w8 (.cells #[.slice ra r.length rc,.slice sa r.length sc] 92)
   have hb89:=hb8.trans (hbq.mono hb8.size)
   have HO9:=aAb (aAn HO2.out hb89)
   have HRV9:=aAb (HRV2.out.later hb89)
   have HPS9:=aAb (HPS2.out.later hb89 (nT HBW.out (Nat.le_of_lt (aAe HTB2.out))))
   have HTB9:=aAb ((hb89.block L (aAe HTB2.out)).trans HTB2.out)
   have HBE9:Hid (Below L w (w8.alloc (.cells #[.slice ra r.length rc,.slice sa r.length sc] 92))):=HBE2.out.trans (hb89.mono (Nat.le_of_lt (aAe HTB2.out)))
   have HSV9:=aAb ((hrh.later hbq).p)
   have HQ9:Hid ((w8.alloc (.cells #[.slice ra r.length rc,.slice sa r.length sc] 92)).heap[w8.heap.size]?=some (.cells #[.slice ra r.length rc,.slice sa r.length sc] 92 (0,0))):=boxed w8 _
   clear hrh hb8 hbq hb89 HRD z2 y0 y1 y2 y3 y4
   go_upto_region 9 with fail
   generalize w8.alloc (.cells #[.slice ra r.length rc,.slice sa r.length sc] 92)=w9 at *
   generalize w8.heap.size=Q at *
   have u0:w9.cell? ⟨Q,0,none⟩=some (.slice ra r.length rc):=aAa HQ9.out
   have hlt:(es++List.replicate (n-j) zS).length=n:=by rw [lA,List.length_replicate,HES.out];omega
   have HLT:=aAb hlt
   have haz:(es++List.replicate (n-j) zS)[j]?=some zS:=by
    rw [List.getElem?_append_right (by rw [HES.out];exact nR _),HES.out,Nat.sub_self,show n-j=(n-j-1)+1 by omega,List.replicate_succ]
    rfl
   have HAZ:=aAb haz
   obtain ⟨cur,hcur,hcell⟩:=aDk aHb HO9.out haz
   have d0:w9.cell? ⟨g2,j,none⟩=some (.slice none 0 0):=by have h9:=hcell 0 (by omega);rw [Nat.mul_one,Nat.add_zero] at h9;exact h9
   have f0:w9.frozen? ⟨g2,j,none⟩=false:=aAg hcur
   clear hcell hcur hlt haz
   go_wp2
   go_roundg (gk-1)
   case measure=>omega
   case rel =>
    obtain ⟨cur,hcur,hno⟩:=own_full HO9.out HLT.out
    have hst:=aB4 (u:=.slice ra r.length rc) (i:=j) HO9.out (by omega)
    have e5:=aCc (f:=fS) (k:=1) (j:=0) (u:=.slice ra r.length rc) (x':=((ra,r.length,rc):SEt)) aHb (by omega) HAZ.out rfl
    rw [Nat.mul_one,Nat.add_zero] at e5
    rw [e5,rep_set HES.out hjn] at hst
    have hoth:∀ b,b≠g2→(w9.setCell ⟨g2,j,none⟩ (.slice ra r.length rc)).heap[b]?=w9.heap[b]?:=fun b hb=>heap_setCell_other _ _ _ _ hb
    have hbs:Below 0 w9 (w9.setCell ⟨g2,j,none⟩ (.slice ra r.length rc)):=(Below.refl 0 w9).setCell (p:=⟨g2,j,none⟩) (Nat.zero_le _) _
    have hsv:∀ {a:Option Addr} {m k:Nat} {l:List Val},SVK fV 3 w9 a m k l→SVK fV 3 (w9.setCell ⟨g2,j,none⟩ (.slice ra r.length rc)) a m k l:=fun hs=>hs.oth (by omega) hcur (fun x u hu o=>by simp only [fV,List.getElem?_cons_zero,oI] at hu;subst hu;exact hno _ o) (fun x=>⟨_,rfl⟩) hbs.size hoth
    refine ⟨j+1,by omega,rfl,es++[(ra,r.length,rc)],by rw [lA,HES.out];rfl,hst,fun q e r' h1 h2=>?_,?_,?_,HBE9.out.setCell (p:=⟨g2,j,none⟩) (Nat.le_of_lt HLG.out) _⟩
    ·by_cases hq:q<es.length
     ·rw [List.getElem?_append_left hq] at h1
      exact hsv (HRV9.out q e r' h1 h2)
     ·have hq2:q=j:=by
       have h7:=(lL h1)
       simp only [lA,List.length_cons,List.length_nil] at h7
       have:=HES.out
       omega
      subst hq2
      rw [List.getElem?_append_right (by rw [HES.out];exact nR _),HES.out,Nat.sub_self] at h1
      simp only [List.getElem?_cons_zero,oI] at h1
      subst h1
      rw [HLR.out,oI] at h2
      subst h2
      exact hsv HSV9.out
    ·refine HPS9.out.keep (FT.set hcur (by have:=HBW.out;have:=HLG.out;omega) (by decide)) fun q hq=>heap_setCell_other _ _ _ _ ?_
     intro e
     obtain ⟨_,_,cur2,h8⟩:=HPS9.out.blk hq
     rw [show q=g2 from e,hcur] at h8
     simp only [oI,cI] at h8
     exact absurd h8.2.1 (by decide)
    ·exact (hoth L (by have:=HLG.out;omega)).trans HTB9.out
  ·have ej:j=n:=by omega
   subst ej
   have xj:¬ (j:Int)<(j:Int):=by omega
   go_wp2
   go_ret2
   have h9:=HO1.out
   rw [Nat.sub_self,List.replicate_zero,List.append_nil] at h9
   obtain ⟨a9,c9,e9,hsv⟩:=aB9 aHb h9 HES.out
   simp only [Value.slice.injEq] at e9
   obtain ⟨rfl,_,rfl⟩:=e9
   exact ⟨⟨_,_,_,rfl,es,hsv,by rw [HES.out,List.length_map];exact HFN.out.symm,HRV.out⟩,HBE.out⟩
def scanO (cs:List Ch) (T:List Tbl) (nm:ByteArray) (c:Int) (lo hi:Val) (limit:Int):List (List Val)×Int:=match tAt T nm with
 | none=>([],60)
 | some i=>match T[i]? with
  | none=>([],60)
  | some t=>if ordB t.s c=false then ([],65) else if lo.err≠0∨hi.err≠0 then ([],62) else if limit<1∨4<limit then ([],1) else ((scanC cs i c.toNat lo hi limit.toNat).map rowOf,0)
theorem scanO_none {cs:List Ch} {T:List Tbl} {nm:ByteArray} {c limit:Int} {lo hi:Val} (h1:tAt T nm=none):scanO cs T nm c lo hi limit=([],60):=by unfold scanO;rw [h1]
theorem aHy {cs:List Ch} {T:List Tbl} {nm:ByteArray} {c limit:Int} {lo hi:Val} {i:Nat} {t:Tbl} (h1:tAt T nm=some i) (h2:T[i]?=some t):scanO cs T nm c lo hi limit=if ordB t.s c=false then ([],65) else if lo.err≠0∨hi.err≠0 then ([],62) else if limit<1∨4<limit then ([],1) else ((scanC cs i c.toNat lo hi limit.toNat).map rowOf,0):=by
 unfold scanO
 rw [h1]
 dsimp only
 rw [h2]
theorem ord_col {s:Sch} {c:Int} (hs:s.ok=true) (h:ordB s c=true):0≤c∧c≤3:=by
 unfold ordB at h
 rw [Bool.or_eq_true,List.any_eq_true] at h
 rcases h with h | ⟨x,hx,h⟩
 ·have:=(beq_iff_eq).1 h;omega
 ·have h1:=(beq_iff_eq).1 h
  have h2:=Sch.xcol hs x hx
  have h3:=(Sch.c3 hs).2
  omega
theorem tscanP_ok [Gd] {B p q g ls db:Nat} {v:Value} {cs:List Ch} {W w0 w:World} {T:List Tbl} {c limit:Int} {lo hi:Val} (h:DR B p q g ls db v cs W w0 w) (I:Inv cs T) (hl:cs.length≤1000) (nm:ByteArray) (hlo:lo.ok∧lo.2.2.size≤1048576) (hhi:hi.ok∧hi.2.2.size≤1048576) :
  Calls Tryz.prog 14 #[.pointer (some ⟨db,0,none⟩),.string nm,.int .i64 c,.agg #[.int .i64 lo.1,.int .i64 lo.2.1,.string lo.2.2],.agg #[.int .i64 hi.1,.int .i64 hi.2.1,.string hi.2.2],.int .i64 limit] w fun e w'=>(∃ a n k,e=.returned (.tuple #[.slice a n k,.int .i64 (scanO cs T nm c lo hi limit).2])∧RWs w' a n k (scanO cs T nm c lo hi limit).1)∧Below w.heap.size w w':=by
 obtain ⟨L,hL⟩:∃ L,w.heap.size=L:=⟨_,rfl⟩
 obtain ⟨M,hM⟩:∃ M,L+1=M:=⟨_,rfl⟩
 obtain ⟨w1,hw1⟩:∃ w1,w1=(w.alloc (.cells #[.int .i64 lo.1,.int .i64 lo.2.1,.string lo.2.2] 37)).alloc (.cells #[.int .i64 hi.1,.int .i64 hi.2.1,.string hi.2.2] 37):=⟨_,rfl⟩
 have hb1:Below w.heap.size w w1:=by rw [hw1];exact aDe _ _ _
 have HL1:Hid (w1.heap[L]?=some (.cells #[.int .i64 lo.1,.int .i64 lo.2.1,.string lo.2.2] 37 (0,0))):=by show _=_;rw [hw1,←hL];exact heap_alloc2_old w _ _
 have HM1:Hid (w1.heap[M]?=some (.cells #[.int .i64 hi.1,.int .i64 hi.2.1,.string hi.2.2] 37 (0,0))):=by show _=_;rw [hw1,←hM,←hL];exact heap_alloc2_new w _ _
 have HB1:Hid (Below L w w1):=by show Below L w w1;rw [←hL];exact hb1
 have HD:=aAb h
 have HI:=aAb I
 have HLN:=aAb hl
 have HLO:=aAb hlo
 have HHI:=aAb hhi
 have HFI:=aAb (aEh (h.later hb1) I hl nm)
 have HW1:=aAb hw1
 have HLL:=aAb hL
 obtain ⟨so,hso⟩:∃ so,scanO cs T nm c lo hi limit=so:=⟨_,rfl⟩
 have HSO:=aAb hso
 rw [hL,hso]
 clear h I hl hlo hhi hb1 hw1 hso
 go_enter Tryz.func14,Tryz.ntmps14
 go_upto_region 1 with fail
 rw [←HW1.out]
 try simp only [hL,hM]
 clear HW1
 go_wp2_with fail
 refine HFI.out.mono ?_
 rintro e w2 ⟨hfi,hb2⟩
 have HL2:=aAb ((hb2.block L (aAe HL1.out)).trans HL1.out)
 have HM2:=aAb ((hb2.block M (aAe HM1.out)).trans HM1.out)
 have HB2:Hid (Below L w w2):=HB1.out.trans (hb2.mono (Nat.le_of_lt (aAe HL1.out)))
 clear hb2 HFI HL1 HM1 HB1
 cases hta:tAt T nm with
 | none =>
  have he:=hfi.1 hta
  subst he
  have HTA:=aAb hta
  have HB3:Hid (Below L w (w2.alloc (.cells #[.pointer none,.int .u8 0,.string ⟨#[]⟩,.slice none 0 0,.slice none 0 0] 86))):=HB2.out.trans ((aAf w2 _).mono (Nat.le_of_lt (aAe HL2.out)))
  clear hfi hta
  go_upto_region 2 with fail
  generalize w2.alloc (.cells #[.pointer none,.int .u8 0,.string ⟨#[]⟩,.slice none 0 0,.slice none 0 0] 86)=w3 at *
  go_wp2
  go_ret2
  rw [←HSO.out,scanO_none HTA.out]
  exact ⟨⟨none,0,0,rfl,[],SVK.nil _ _ _,rfl,fun q e r q1=>by simp at q1⟩,HB3.out⟩
 | some i =>
  obtain ⟨t,hti,htn,htm⟩:=aBq hta
  subst htn
  obtain ⟨ca,cc,xa,xc,he,hsc⟩:=hfi.2 i t hta hti
  unfold tblV at he
  subst he
  have HSE:=aAb (aHy (cs:=cs) (c:=c) (limit:=limit) (lo:=lo) (hi:=hi) hta hti)
  have HTI:=aAb hti
  have HOK:=aAb (HI.out.ok t htm)
  have hbx:=aAf w2 (.cells #[.pointer (some ⟨db,0,none⟩),.int .u8 (i:Int),.string t.s.nm,.slice ca t.s.cs.length cc,.slice xa t.s.xs.length xc] 86)
  have HV3:Hid ((w2.alloc (.cells #[.pointer (some ⟨db,0,none⟩),.int .u8 (i:Int),.string t.s.nm,.slice ca t.s.cs.length cc,.slice xa t.s.xs.length xc] 86)).heap[w2.heap.size]?=some (.cells #[.pointer (some ⟨db,0,none⟩),.int .u8 (i:Int),.string t.s.nm,.slice ca t.s.cs.length cc,.slice xa t.s.xs.length xc] 86 (0,0))):=boxed w2 _
  have HL3:=aAb ((hbx.block L (aAe HL2.out)).trans HL2.out)
  have HM3:=aAb ((hbx.block M (aAe HM2.out)).trans HM2.out)
  have HB3:Hid (Below L w (w2.alloc (.cells #[.pointer (some ⟨db,0,none⟩),.int .u8 (i:Int),.string t.s.nm,.slice ca t.s.cs.length cc,.slice xa t.s.xs.length xc] 86))):=HB2.out.trans (hbx.mono (Nat.le_of_lt (aAe HL2.out)))
  have HSC3:=aAb (hsc.later hbx)
  clear hfi hta hti htm hsc hbx HL2 HM2 HB2
  go_upto_region 2 with fail
  generalize (w2.alloc (.cells #[.pointer (some ⟨db,0,none⟩),.int .u8 (i:Int),.string t.s.nm,.slice ca t.s.cs.length cc,.slice xa t.s.xs.length xc] 86))=w3 at *
  generalize w2.heap.size=V at *
  have HHO:=aAb (hasOrder_ok (dv:=.pointer (some ⟨db,0,none⟩)) (num:=i) (nm:=t.s.nm) (ca:=ca) (cl:=t.s.cs.length) (cc:=cc) (c:=c) HSC3.out.x (by have:=(Sch.parts HOK.out).2.2.1;omega))
  obtain ⟨ob,hob⟩:∃ ob,ordB t.s c=ob:=⟨_,rfl⟩
  have HOB:=aAb hob
  rw [hob] at HHO
  clear hob
  have y0:w3.cell? ⟨V,0,none⟩=some (.pointer (some ⟨db,0,none⟩)):=aAa HV3.out
  have y1:w3.cell? ⟨V,1,none⟩=some (.int .u8 (i:Int)):=aAa HV3.out
  have y2:w3.cell? ⟨V,2,none⟩=some (.string t.s.nm):=aAa HV3.out
  have y3:w3.cell? ⟨V,3,none⟩=some (.slice ca t.s.cs.length cc):=aAa HV3.out
  have y4:w3.cell? ⟨V,4,none⟩=some (.slice xa t.s.xs.length xc):=aAa HV3.out
  go_wp2_with fail
  refine HHO.out.mono ?_
  rintro e w4 ⟨rfl,hb4⟩
  have HL4:=aAb ((hb4.block L (aAe HL3.out)).trans HL3.out)
  have HM4:=aAb ((hb4.block M (aAe HM3.out)).trans HM3.out)
  have HB4:Hid (Below L w w4):=HB3.out.trans (hb4.mono (Nat.le_of_lt (aAe HL3.out)))
  have HV4:=aAb ((hb4.block V (aAe HV3.out)).trans HV3.out)
  have HSC4:=aAb (HSC3.out.later hb4)
  clear hb4 HHO y0 y1 y2 y3 y4 HV3 HL3 HM3 HB3 HSC3
  cases ob with
  | false =>
   have HE:=aAb (HSE.out.trans (if_pos HOB.out))
   go_wp2
   go_ret2
   rw [←HSO.out,HE.out]
   exact ⟨⟨none,0,0,rfl,[],SVK.nil _ _ _,rfl,fun q e r q1=>by simp at q1⟩,HB4.out⟩
  | true =>
   have HE1:=aAb (HSE.out.trans (if_neg (by rw [HOB.out];decide)))
   have HRL:=aAb (aEq lo.1 lo.2.1 lo.2.2 w4 HLO.out.2)
   unfold av at HRL
   obtain ⟨fl,hfl⟩:∃ fl,rightOf lo.1 lo.2.1 lo.2.2=fl:=⟨_,rfl⟩
   rw [hfl] at HRL
   have HFL:Hid (lo.err=fl):=hfl
   clear hfl
   have l0:w4.cell? ⟨L,0,none⟩=some (.int .i64 lo.1):=aAa HL4.out
   have l1:w4.cell? ⟨L,1,none⟩=some (.int .i64 lo.2.1):=aAa HL4.out
   have l2:w4.cell? ⟨L,2,none⟩=some (.string lo.2.2):=aAa HL4.out
   go_wp2_with fail
   refine HRL.out.mono ?_
   rintro e w5 ⟨rfl,hb5⟩
   have HL5:=aAb ((hb5.block L (aAe HL4.out)).trans HL4.out)
   have HM5:=aAb ((hb5.block M (aAe HM4.out)).trans HM4.out)
   have HB5:Hid (Below L w w5):=HB4.out.trans (hb5.mono (Nat.le_of_lt (aAe HL4.out)))
   have HV5:=aAb ((hb5.block V (aAe HV4.out)).trans HV4.out)
   have HSC5:=aAb (HSC4.out.later hb5)
   clear hb5 HRL l0 l1 l2 HV4 HL4 HM4 HB4 HSC4
   by_cases hl0:fl=0
   ·subst hl0
    have HRH:=aAb (aEq hi.1 hi.2.1 hi.2.2 w5 HHI.out.2)
    unfold av at HRH
    obtain ⟨fh,hfh⟩:∃ fh,rightOf hi.1 hi.2.1 hi.2.2=fh:=⟨_,rfl⟩
    rw [hfh] at HRH
    have HFH:Hid (hi.err=fh):=hfh
    clear hfh
    have m0:w5.cell? ⟨M,0,none⟩=some (.int .i64 hi.1):=aAa HM5.out
    have m1:w5.cell? ⟨M,1,none⟩=some (.int .i64 hi.2.1):=aAa HM5.out
    have m2:w5.cell? ⟨M,2,none⟩=some (.string hi.2.2):=aAa HM5.out
    go_wp2_with fail
    refine HRH.out.mono ?_
    rintro e w6 ⟨rfl,hb6⟩
    have HL6:=aAb ((hb6.block L (aAe HL5.out)).trans HL5.out)
    have HM6:=aAb ((hb6.block M (aAe HM5.out)).trans HM5.out)
    have HB6:Hid (Below L w w6):=HB5.out.trans (hb6.mono (Nat.le_of_lt (aAe HL5.out)))
    have HV6:=aAb ((hb6.block V (aAe HV5.out)).trans HV5.out)
    have HSC6:=aAb (HSC5.out.later hb6)
    clear hb6 HRH m0 m1 m2 HV5 HL5 HM5 HB5 HSC5
    by_cases hh0:fh=0
    ·subst hh0
     have HE2:=aAb (HE1.out.trans (if_neg (by rw [HFL.out,HFH.out];simp)))
     by_cases hli:limit<1∨4<limit
     ·have HE:=aAb (HE2.out.trans (if_pos hli))
      by_cases hl1:limit<1
      ·have d1:decide (limit<1)=true:=decide_eq_true hl1
       clear hli
       go_wp2
       go_ret2
       rw [←HSO.out,HE.out]
       exact ⟨⟨none,0,0,rfl,[],SVK.nil _ _ _,rfl,fun q e r q1=>by simp at q1⟩,HB6.out⟩
      ·have hl4:4<limit:=hli.resolve_left hl1
       have d1:decide (limit<1)=false:=decide_eq_false hl1
       have d2:decide (4<limit)=true:=decide_eq_true hl4
       clear hli
       go_wp2
       go_ret2
       rw [←HSO.out,HE.out]
       exact ⟨⟨none,0,0,rfl,[],SVK.nil _ _ _,rfl,fun q e r q1=>by simp at q1⟩,HB6.out⟩
     ·have HE:=aAb (HE2.out.trans (if_neg hli))
      obtain ⟨ln,hln⟩:∃ ln:Nat,limit=(ln:Int):=⟨limit.toNat,by omega⟩
      subst hln
      obtain ⟨cn,hcn⟩:∃ cn:Nat,c=(cn:Int):=⟨c.toNat,by have:=ord_col HOK.out HOB.out;omega⟩
      subst hcn
      have hcn3:cn≤3:=by have:=ord_col HOK.out HOB.out;omega
      have HLI:Hid (1≤ln∧ln≤4):=⟨by omega,by omega⟩
      have d1:decide ((ln:Int)<1)=false:=decide_eq_false (by omega)
      have d2:decide (4<(ln:Int))=false:=decide_eq_false (by omega)
      have d3:¬ (ln:Int)<1:=by omega
      have d4:¬ 4<(ln:Int):=by omega
      have HC3:=aAb hcn3
      clear hli hcn3
      go_upto_region 10 with fail
      have HV7:Hid (w6.drew.heap[V]?=some (.cells #[.pointer (some ⟨db,0,none⟩),.int .u8 (i:Int),.string t.s.nm,.slice ca t.s.cs.length cc,.slice xa t.s.xs.length xc] 86 (0,0))):=HV6.out
      have HL7:Hid (w6.drew.heap[L]?=some (.cells #[.int .i64 lo.1,.int .i64 lo.2.1,.string lo.2.2] 37 (0,0))):=HL6.out
      have HM7:Hid (w6.drew.heap[M]?=some (.cells #[.int .i64 hi.1,.int .i64 hi.2.1,.string hi.2.2] 37 (0,0))):=HM6.out
      have HB7:Hid (Below L w w6.drew):=HB6.out.drew
      have HSC7:Hid (SC w6.drew ca t.s.cs.length cc xa t.s.xs.length xc t.s):=HSC6.out.later (Below.refl _ _).drew
      have HX0:Hid ((fun wx:World=>wx.cell? ⟨V,0,none⟩=some (.pointer (some ⟨db,0,none⟩))∧wx.cell? ⟨V,1,none⟩=some (.int .u8 (i:Int))∧wx.cell? ⟨V,2,none⟩=some (.string t.s.nm)∧wx.cell? ⟨V,3,none⟩=some (.slice ca t.s.cs.length cc)∧wx.cell? ⟨V,4,none⟩=some (.slice xa t.s.xs.length xc)∧wx.cell? ⟨L,0,none⟩=some (.int .i64 lo.1)∧wx.cell? ⟨L,1,none⟩=some (.int .i64 lo.2.1)∧wx.cell? ⟨L,2,none⟩=some (.string lo.2.2)∧wx.cell? ⟨M,0,none⟩=some (.int .i64 hi.1)∧wx.cell? ⟨M,1,none⟩=some (.int .i64 hi.2.1)∧wx.cell? ⟨M,2,none⟩=some (.string hi.2.2)) w6.drew):=⟨aAa HV7.out,aAa HV7.out,aAa HV7.out,aAa HV7.out,aAa HV7.out,aAa HL7.out,aAa HL7.out,aAa HL7.out,aAa HM7.out,aAa HM7.out,aAa HM7.out⟩
      refine wp_region_noPanic ?_
      refine wp_region_held_drew (S:=fun wx=>wx.cell? ⟨V,0,none⟩=some (.pointer (some ⟨db,0,none⟩))∧wx.cell? ⟨V,1,none⟩=some (.int .u8 (i:Int))∧wx.cell? ⟨V,2,none⟩=some (.string t.s.nm)∧wx.cell? ⟨V,3,none⟩=some (.slice ca t.s.cs.length cc)∧wx.cell? ⟨V,4,none⟩=some (.slice xa t.s.xs.length xc)∧wx.cell? ⟨L,0,none⟩=some (.int .i64 lo.1)∧wx.cell? ⟨L,1,none⟩=some (.int .i64 lo.2.1)∧wx.cell? ⟨L,2,none⟩=some (.string lo.2.2)∧wx.cell? ⟨M,0,none⟩=some (.int .i64 hi.1)∧wx.cell? ⟨M,1,none⟩=some (.int .i64 hi.2.1)∧wx.cell? ⟨M,2,none⟩=some (.string hi.2.2)) (by kernel_rfl) HX0.out (fun hHeld=>?_)
      generalize w6.drew=w7 at *
      refine wpAnyH_tk 0 47 ?_
      refine wpAnyH_tk 1 48 ?_
      refine wpAnyH_tk 2 49 ?_
      refine wpAnyH_tk 4 51 ?_
      refine wpAnyH_tk 6 53 ?_
      refine wpAnyH_cm 3 ?_;intro K hK
      go_simp
      refine (aFi lo w7 HLO.out.1 HFL.out HLO.out.2).mono ?_
      rintro e w8 ⟨hv9,rfl,ho,hb⟩
      obtain ⟨Aa,Ad,ek⟩:=ho.form
      obtain ⟨Am,hkm⟩:∃ km,lo.bytes.length=km:=⟨_,rfl⟩
      rw [ek] at ho
      have hbs:=ho.bs (aBs lo) (by have:=aA4 lo HLO.out.2;omega)
      rw [hkm] at ek hbs
      subst ek
      have HKA:Hid (0<Am∧Am≤10000000):=by
       obtain ⟨h9,_,_,h8⟩:=aB3 [] HLO.out.1 HFL.out
       have:=List.length_pos_iff.2 h8
       have:=aA4 lo HLO.out.2
       exact ⟨by omega,by omega⟩
      have HL8:=aAb ((hb.block L (aAe HL7.out)).trans HL7.out)
      have HM8:=aAb ((hb.block M (aAe HM7.out)).trans HM7.out)
      have HB8:Hid (Below L w w8):=HB7.out.trans (hb.mono (Nat.le_of_lt (aAe HL7.out)))
      have HV8:=aAb ((hb.block V (aAe HV7.out)).trans HV7.out)
      have HSC8:=aAb (HSC7.out.later hb)
      have HSA8:=aAb hbs
      clear ho hbs hkm hb hHeld
      refine hK.out _ _ ⟨aAa HV8.out,aAa HV8.out,aAa HV8.out,aAa HV8.out,aAa HV8.out,aAa HL8.out,aAa HL8.out,aAa HL8.out,aAa HM8.out,aAa HM8.out,aAa HM8.out⟩ (fun hHeld=>?_)
      clear hK K
      try simp only [Act.put,siT,scZ,scS]
      refine wpAnyH_cm 5 ?_;intro K hK
      go_simp
      refine (aFi hi w8 HHI.out.1 HFH.out HHI.out.2).mono ?_
      rintro e w9 ⟨hv9,rfl,ho,hb⟩
      obtain ⟨Da,Dd,ek⟩:=ho.form
      obtain ⟨Dm,hkm⟩:∃ km,hi.bytes.length=km:=⟨_,rfl⟩
      rw [ek] at ho
      have hbs:=ho.bs (aBs hi) (by have:=aA4 hi HHI.out.2;omega)
      rw [hkm] at ek hbs
      subst ek
      have HKD:Hid (0<Dm∧Dm≤10000000):=by
       obtain ⟨h9,_,_,h8⟩:=aB3 [] HHI.out.1 HFH.out
       have:=List.length_pos_iff.2 h8
       have:=aA4 hi HHI.out.2
       exact ⟨by omega,by omega⟩
      have HL9:=aAb ((hb.block L (aAe HL8.out)).trans HL8.out)
      have HM9:=aAb ((hb.block M (aAe HM8.out)).trans HM8.out)
      have HB9:Hid (Below L w w9):=HB8.out.trans (hb.mono (Nat.le_of_lt (aAe HL8.out)))
      have HV9:=aAb ((hb.block V (aAe HV8.out)).trans HV8.out)
      have HSC9:=aAb (HSC8.out.later hb)
      have HSD9:=aAb hbs
      have HSA9:=aAb (HSA8.out.later hb (nR _))
      clear ho hbs hkm hb hHeld
      refine hK.out _ _ ⟨aAa HV9.out,aAa HV9.out,aAa HV9.out,aAa HV9.out,aAa HV9.out,aAa HL9.out,aAa HL9.out,aAa HL9.out,aAa HM9.out,aAa HM9.out,aAa HM9.out⟩ (fun hHeld=>?_)
      clear hK K
      try simp only [Act.put,siT,scZ,scS]
      refine wpAnyH_cm 7 ?_;intro K hK
      go_simp
      refine (tscan_ok (c:=cn) (limit:=ln) (HD.out.later (w':=w9) (by rw [HLL.out];exact HB9.out)) HI.out HLN.out HTI.out HSC9.out (by have:=HC3.out;omega) HSA9.out HKA.out HSD9.out HKD.out HLI.out).mono ?_
      rintro e w10 ⟨⟨ta,tn,tk2,rfl,htr⟩,hb⟩
      have HL10:=aAb ((hb.block L (aAe HL9.out)).trans HL9.out)
      have HM10:=aAb ((hb.block M (aAe HM9.out)).trans HM9.out)
      have HB10:Hid (Below L w w10):=HB9.out.trans (hb.mono (Nat.le_of_lt (aAe HL9.out)))
      have HV10:=aAb ((hb.block V (aAe HV9.out)).trans HV9.out)
      have HTR:=aAb htr
      clear htr hb hHeld
      refine hK.out _ _ ⟨aAa HV10.out,aAa HV10.out,aAa HV10.out,aAa HV10.out,aAa HV10.out,aAa HL10.out,aAa HL10.out,aAa HL10.out,aAa HM10.out,aAa HM10.out,aAa HM10.out⟩ (fun hHeld=>?_)
      clear hK K
      try simp only [Act.put,siT,scZ,scS]
      refine wpAnyH_tk 8 55 ?_
      refine wpAnyH_tk 9 56 ?_
      refine wpAnyH_tk 10 12 ?_
      refine wpAnyH_tk 11 13 ?_
      refine wpAnyH_done (by kernel_rfl) ?_ _
      refine NoPanic.normal ?_
      clear hHeld
      go_wp2
      go_ret2
      rw [←HSO.out,HE.out]
      exact ⟨⟨ta,tn,tk2,rfl,HTR.out⟩,HB10.out⟩
    ·have hh1:(fh == 0)=false:=by simpa using hh0
     have hh2:(fh != 0)=true:=by simpa using hh0
     have HE:=aAb (HE1.out.trans (if_pos (Or.inr (by rw [HFH.out];exact hh0))))
     clear hh0
     go_wp2
     go_ret2
     rw [←HSO.out,HE.out]
     exact ⟨⟨none,0,0,rfl,[],SVK.nil _ _ _,rfl,fun q e r q1=>by simp at q1⟩,HB6.out⟩
   ·have hl1:(fl == 0)=false:=by simpa using hl0
    have hl2:(fl != 0)=true:=by simpa using hl0
    have HE:=aAb (HE1.out.trans (if_pos (Or.inl (by rw [HFL.out];exact hl0))))
    clear hl0
    go_wp2
    go_ret2
    rw [←HSO.out,HE.out]
    exact ⟨⟨none,0,0,rfl,[],SVK.nil _ _ _,rfl,fun q e r q1=>by simp at q1⟩,HB5.out⟩
def rA:List Val:=[(1,1,⟨#[]⟩),(2,0,⟨#[97]⟩)]
def rB2:List Val:=[(1,2,⟨#[]⟩),(2,0,⟨#[97]⟩)]
def rC2:List Val:=[(1,1,⟨#[]⟩),(2,0,⟨#[98]⟩)]
def o1:Out:=creO [] lit
theorem o1e:o1.e=0:=by kernel_rfl
theorem o1l:([]++o1.m).length=1:=by kernel_rfl
def o2:Out:=insO o1.T ⟨#[116]⟩ rA
theorem o2e:o2.e=0:=by kernel_rfl
theorem o2l:(([]++o1.m)++o2.m).length=3:=by kernel_rfl
def o3:Out:=insO o2.T ⟨#[116]⟩ rB2
theorem o3e:o3.e=64:=by kernel_rfl
theorem o3m:o3.m=[]:=by kernel_rfl
def o4:Out:=insO o2.T ⟨#[116]⟩ rC2
theorem o4e:o4.e=63:=by kernel_rfl
theorem o4m:o4.m=[]:=by kernel_rfl
def o5:Out:=insO o2.T ⟨#[117]⟩ []
theorem o5e:o5.e=60:=by kernel_rfl
theorem tgt:(getO o2.T ⟨#[116]⟩ (1,1,⟨#[]⟩))=(some rA,0):=by kernel_rfl
theorem tsc2:(scanO (([]++o1.m)++o2.m) o2.T ⟨#[116]⟩ 1 (0,0,⟨#[]⟩) (0,0,⟨#[]⟩) 4).2=0:=by kernel_rfl
theorem tsc1:(scanO (([]++o1.m)++o2.m) o2.T ⟨#[116]⟩ 1 (0,0,⟨#[]⟩) (0,0,⟨#[]⟩) 4).1.length=1:=by kernel_rfl
theorem aIl (k:Int) (b:ByteArray) (hk:0≤k∧k≤100000000) (hb:b.size≤100):∀ x∈([(1,k,⟨#[]⟩),(2,0,b)]:List Val),x.ok∧x.2.2.size≤1048576:=by
 intro x hx
 simp only [List.mem_cons,List.not_mem_nil,or_false] at hx
 rcases hx with rfl | rfl
 ·exact ⟨⟨by omega,by omega,by show _≤k;omega,by show k≤_;omega,by show (0:Nat)≤_;omega⟩,by show (0:Nat)≤_;omega⟩
 ·exact ⟨⟨by show _≤(2:Int);omega,by show (2:Int)≤_;omega,by show _≤(0:Int);omega,by show (0:Int)≤_;omega,by show b.size≤_;omega⟩,by show b.size≤_;omega⟩
theorem aFf (k:Int) (n:Int) (hn:0≤n∧n≤1) (hk:0≤k∧k≤100000000):Val.ok (n,k,⟨#[]⟩)∧(⟨#[]⟩:ByteArray).size≤1048576 :=
 ⟨⟨by show _≤n;omega,by show n≤_;omega,by show _≤k;omega,by show k≤_;omega,by show (0:Nat)≤_;omega⟩,by show (0:Nat)≤_;omega⟩
theorem create_nil (v:Value) (nm:ByteArray) (ca xa:Option Addr) (cl cc xl xc:Nat) (w:World):Calls Tryz.prog 10 #[.pointer none,.agg #[.string nm,.slice ca cl cc,.slice xa xl xc]] w fun e w'=>e=.returned (.int .i64 1)∧Below w.heap.size w w':=by
 have HB:=aAb (aAf w (.cells #[.string nm,.slice ca cl cc,.slice xa xl xc] 34))
 go_enter Tryz.func10,Tryz.ntmps10
 go_wp2
 go_ret
 exact ⟨rfl,HB.out⟩
theorem told15 (w:World):Calls Tryz.prog 15 #[] w fun e w'=>e=.returned (.bool true)∧Below w.heap.size w w':=by
 letI:Gd:=⟨fun _=>False⟩
 have HNW:=hide (lnew_ok w (fun _ h=>False.elim h))
 obtain ⟨B,hB⟩:∃ B,w.heap.size=B:=⟨_,rfl⟩
 rw [hB] at HNW ⊢
 have HB:=hide hB
 clear hB
 go_enter Tryz.func15,Tryz.ntmps15
 go_wp2_with fail
 refine HNW.out.mono ?_
 rintro e w1 ⟨p,q,g,ls,db,w0,rfl,hd1,hb1⟩
 have HD1:=hide hd1
 clear hd1 hb1 HNW
 go_wp2_with fail
 refine (little_ok w1).mono ?_
 rintro e w2 ⟨ca,cc,xa,xc,rfl,hsc,hb2⟩
 have HC:Hid (Calls Tryz.prog 10 #[.pointer (some ⟨db,0,none⟩),.agg #[.string ⟨#[116]⟩,.slice ca 2 cc,.slice xa 1 xc]] w2 fun e w'=>OpR B p q g ls db (.slice none 0 0) [] w w0 w2 o1 e w'):=aHv (HD1.out.later hb2) Inv.nil (by decide) hsc
 clear hsc hb2 HD1
 go_wp2_with fail
 refine HC.out.mono ?_
 rintro e w3 ⟨v3,he,hd3,_⟩
 rw [o1e] at he
 subst he
 have HI3:Hid (Inv ([]++o1.m) o1.T):=Inv.nil.creO lit
 have HD3:=hide hd3
 clear hd3 HC
 go_wp2_with fail
 refine (row_ok 1 ⟨#[97]⟩ w3).mono ?_
 rintro e w4 ⟨a4,c4,rfl,hr4,hb4⟩
 have HC:Hid (Calls Tryz.prog 11 #[.pointer (some ⟨db,0,none⟩),.string ⟨#[116]⟩,.slice a4 2 c4] w4 fun e w'=>OpR B p q g ls db v3 ([]++o1.m) w w0 w4 o2 e w'):=aCi (HD3.out.later hb4) HI3.out (by rw [o1l];omega) ⟨#[116]⟩ hr4 (aIl 1 ⟨#[97]⟩ (by omega) (by decide))
 clear hr4 hb4 HD3
 go_wp2_with fail
 refine HC.out.mono ?_
 rintro e w5 ⟨v5,he,hd5,_⟩
 rw [o2e] at he
 subst he
 have HI5:Hid (Inv (([]++o1.m)++o2.m) o2.T):=HI3.out.insO ⟨#[116]⟩ fun x hx=>(aIl 1 ⟨#[97]⟩ (by omega) (by decide) x hx).1
 have HD5:=hide hd5
 clear hd5 HC HI3
 go_wp2_with fail
 refine (row_ok 2 ⟨#[97]⟩ w5).mono ?_
 rintro e w6 ⟨a6,c6,rfl,hr6,hb6⟩
 have HC:Hid (Calls Tryz.prog 11 #[.pointer (some ⟨db,0,none⟩),.string ⟨#[116]⟩,.slice a6 2 c6] w6 fun e w'=>OpR B p q g ls db v5 (([]++o1.m)++o2.m) w w0 w6 o3 e w'):=aCi (HD5.out.later hb6) HI5.out (by rw [o2l];omega) ⟨#[116]⟩ hr6 (aIl 2 ⟨#[97]⟩ (by omega) (by decide))
 clear hr6 hb6 HD5
 go_wp2_with fail
 refine HC.out.mono ?_
 rintro e w7 ⟨v7,he,hd7,_⟩
 rw [o3e] at he
 subst he
 rw [o3m,List.append_nil] at hd7
 have HD7:=hide hd7
 clear hd7 HC
 go_wp2_with fail
 refine (row_ok 1 ⟨#[98]⟩ w7).mono ?_
 rintro e w8 ⟨a8,c8,rfl,hr8,hb8⟩
 have HC:Hid (Calls Tryz.prog 11 #[.pointer (some ⟨db,0,none⟩),.string ⟨#[116]⟩,.slice a8 2 c8] w8 fun e w'=>OpR B p q g ls db v7 (([]++o1.m)++o2.m) w w0 w8 o4 e w'):=aCi (HD7.out.later hb8) HI5.out (by rw [o2l];omega) ⟨#[116]⟩ hr8 (aIl 1 ⟨#[98]⟩ (by omega) (by decide))
 clear hr8 hb8 HD7
 go_wp2_with fail
 refine HC.out.mono ?_
 rintro e w9 ⟨v9,he,hd9,_⟩
 rw [o4e] at he
 subst he
 rw [o4m,List.append_nil] at hd9
 have HD9:=hide hd9
 clear hd9 HC
 have HC:Hid (Calls Tryz.prog 49 #[.pointer (some ⟨db,0,none⟩),.string ⟨#[116]⟩,.agg #[.int .i64 1,.int .i64 1,.string ⟨#[]⟩]] w9 fun e w'=>TlR (some rA) 0 e w'∧Below w9.heap.size w9 w'):=by
  have h9:=tgetrow_ok HD9.out HI5.out (by rw [o2l];omega) ⟨#[116]⟩ (x:=(1,1,⟨#[]⟩)) (aFf 1 1 (by omega) (by omega)).1 (aFf 1 1 (by omega) (by omega)).2
  rw [tgt] at h9
  exact h9
 go_wp2_with fail
 refine HC.out.mono ?_
 rintro e w10 ⟨⟨ga,gn,gc,rfl,hg⟩,hb10⟩
 obtain rfl:2=gn:=hg.hl
 have HG10:Hid (SVK fV 3 w10 ga 2 gc rA):=hg
 have HD10:=hide (HD9.out.later hb10)
 clear hg hb10 HC HD9
 have HC:Hid (Calls Tryz.prog 14 #[.pointer (some ⟨db,0,none⟩),.string ⟨#[116]⟩,.int .i64 1,.agg #[.int .i64 0,.int .i64 0,.string ⟨#[]⟩],.agg #[.int .i64 0,.int .i64 0,.string ⟨#[]⟩],.int .i64 4] w10 fun e w'=>(∃ a k,e=.returned (.tuple #[.slice a 1 k,.int .i64 0]))∧Below w10.heap.size w10 w'):=by
  refine (tscanP_ok HD10.out HI5.out (by rw [o2l];omega) ⟨#[116]⟩ (c:=1) (limit:=4) (lo:=(0,0,⟨#[]⟩)) (hi:=(0,0,⟨#[]⟩)) (aFf 0 0 (by omega) (by omega)) (aFf 0 0 (by omega) (by omega))).mono ?_
  rintro e w' ⟨⟨a,n,k,rfl,es,hs,hl,_⟩,hb⟩
  rw [tsc1] at hl
  obtain rfl:1=n:=by rw [←hl];exact hs.hl
  rw [tsc2]
  exact ⟨⟨a,k,rfl⟩,hb⟩
 go_wp2_with fail
 refine HC.out.mono ?_
 rintro e w11 ⟨⟨sa,sk,rfl⟩,hb11⟩
 have HD11:=hide (HD10.out.later hb11)
 have HG11:=hide (HG10.out.later hb11)
 clear hb11 HC HD10 HG10
 obtain ⟨gg,go,ega,_,hcell⟩:=HG11.out.pl (by omega)
 have c5:w11.cell? ⟨gg,go+5,none⟩=some (.string ⟨#[97]⟩):=hcell 1 _ rfl 2 (by omega)
 subst ega
 clear hcell HG11
 go_wp2_with fail
 refine (little_ok w11).mono ?_
 rintro e w12 ⟨da,dc,ea,ec,rfl,_,hb12⟩
 have HD12:=hide (HD11.out.later hb12)
 clear hb12 HD11 c5
 have HC:=hide (create_nil (.bool true) ⟨#[116]⟩ da ea 2 dc 1 ec w12)
 go_wp2_with fail
 refine HC.out.mono ?_
 rintro e w13 ⟨rfl,hb13⟩
 have HD13:=hide (HD12.out.later hb13)
 clear hb13 HC HD12
 have HC:Hid (Calls Tryz.prog 11 #[.pointer (some ⟨db,0,none⟩),.string ⟨#[117]⟩,.slice none 0 0] w13 fun e w'=>OpR B p q g ls db v9 (([]++o1.m)++o2.m) w w0 w13 o5 e w'):=aCi HD13.out HI5.out (by rw [o2l];omega) ⟨#[117]⟩ (SVK.nil _ _ _) (fun x hx=>nomatch hx)
 go_wp2_with fail
 refine HC.out.mono ?_
 rintro e w14 ⟨v14,he,hd14,_⟩
 rw [o5e] at he
 subst he
 have HBE:Hid (Below B w w14):=hd14.bel
 clear hd14 HC HD13
 go_wp2
 go_ret
 exact ⟨rfl,HBE.out⟩
theorem hiB_cons (n s:Nat):hiB n (s+1)=(n / 256 ^ s % 256)::hiB n s:=by
 unfold hiB
 rw [List.range_succ_eq_map,List.map_cons,List.map_map]
 congr 1
 apply List.map_congr_left
 intro i hi
 have hi':i<s:=by simpa using hi
 simp only [Function.comp]
 have e:s+1-1-Nat.succ i=s-1-i:=by omega
 rw [e]
theorem cmp_hi:∀ (s m n:Nat),m % 256 ^ s<n % 256 ^ s→cmpB (hiB m s) (hiB n s)<0
 | 0,m,n,h=>by simp [Nat.mod_one] at h
 | s+1,m,n,h=>by
  have hm:=Nat.mod_pow_succ (b:=256) (k:=s) (x:=m)
  have hn:=Nat.mod_pow_succ (b:=256) (k:=s) (x:=n)
  have p:0<256 ^ s:=Nat.pow_pos (by decide)
  have lm:=Nat.mod_lt m p
  have ln:=Nat.mod_lt n p
  rw [hiB_cons,hiB_cons,aAs]
  by_cases h1:m / 256 ^ s % 256<n / 256 ^ s % 256
  ·rw [if_pos h1];decide
  ·rw [if_neg h1]
   by_cases h2:n / 256 ^ s % 256<m / 256 ^ s % 256
   ·exfalso
    have:=Nat.mul_le_mul_left (256 ^ s) (Nat.succ_le_of_lt h2)
    rw [Nat.mul_succ] at this
    omega
   ·rw [if_neg h2]
    have e:m / 256 ^ s % 256=n / 256 ^ s % 256:=by omega
    rw [e] at hm
    exact cmp_hi s m n (by omega)
def nV (k:Int):Val:=(1,k,⟨#[]⟩)
def rw1 (k:Int):List Val:=[nV k]
theorem aIx (k:Int):(nV k).bytes=2::hiB (numB k) 8:=rfl
theorem aC0 (k:Int):fst (rw1 k)=nV k:=rfl
theorem nV_lt {a b:Int} (ha:-10≤a) (hab:a<b) (hb:b≤1000000):cmpB (nV a).bytes (nV b).bytes<0:=by
 rw [aIx,aIx,aAs,if_neg (by omega),if_neg (by omega)]
 refine cmp_hi 8 _ _ ?_
 rw [Nat.mod_eq_of_lt (show numB a<256 ^ 8 by unfold numB;omega),Nat.mod_eq_of_lt (show numB b<256 ^ 8 by unfold numB;omega)]
 unfold numB
 omega
theorem nV_inj {a b:Int} (h:nV a=nV b):a=b:=by
 have:=congrArg (fun x:Val=>x.2.1) h
 exact this
theorem nV_err (k:Int):(nV k).err=0:=by
 show rightOf 1 k ⟨#[]⟩=0
 have h:(holdOf 1 k ⟨#[]⟩).eqv 1 k ⟨#[]⟩=true:=by simp [holdOf,H.eqv,eqv]
 unfold rightOf
 rw [if_pos h,if_neg (by decide)]
theorem nV_ok {k:Int} (h:-10≤k∧k≤1000000):(nV k).ok∧(nV k).2.2.size≤1048576:=⟨⟨by show _≤(1:Int);omega,by show (1:Int)≤_;omega,by show _≤k;omega,by show k≤_;omega,by show (0:Nat)≤_;omega⟩,by show (0:Nat)≤_;omega⟩
theorem rw1_ok {k:Int} (h:-10≤k∧k≤1000000):∀ x∈rw1 k,x.ok∧x.2.2.size≤1048576:=by
 intro x hx
 obtain rfl:x=nV k:=by simpa [rw1] using hx
 exact nV_ok h
theorem insV_end {r:List Val}:∀ {l:List (List Val)},(∀ d∈l,¬ cmpB (fst r).bytes (fst d).bytes<0)→insV r l=l++[r]
 | [],_=>rfl
 | d::l,h=>by
  unfold insV
  rw [if_neg (h d List.mem_cons_self),insV_end fun e he=>h e (List.mem_cons_of_mem _ he)]
  rfl
theorem insV_top {r:List Val} {l:List (List Val)} (h:∀ d∈l,cmpB (fst r).bytes (fst d).bytes<0):insV r l=r::l:=by
 cases l with
 | nil=>rfl
 | cons d l=>unfold insV;rw [if_pos (h d List.mem_cons_self)]
def nmAt (j:Nat):ByteArray:=[⟨#[97]⟩,⟨#[98]⟩,⟨#[99]⟩,⟨#[100]⟩,⟨#[101]⟩].getD j ⟨#[]⟩
def schM (nm:ByteArray):Sch:=⟨nm,[(⟨#[107]⟩,1,0)],[]⟩
def TbM (R:List (List Val)):List Tbl:=[⟨schM ⟨#[97]⟩,[]⟩,⟨schM ⟨#[98]⟩,R⟩,⟨schM ⟨#[99]⟩,[]⟩,⟨schM ⟨#[100]⟩,[]⟩]
def stM (j:Nat):List Tbl:=(TbM []).take j
def crM (j:Nat):Out:=creO (stM j) (schM (nmAt j))
theorem cr0:(crM 0).T=stM 1∧(crM 0).e=0∧(crM 0).m.length=1:=⟨by kernel_rfl,by kernel_rfl,by kernel_rfl⟩
theorem cr1:(crM 1).T=stM 2∧(crM 1).e=0∧(crM 1).m.length=1:=⟨by kernel_rfl,by kernel_rfl,by kernel_rfl⟩
theorem cr2:(crM 2).T=stM 3∧(crM 2).e=0∧(crM 2).m.length=1:=⟨by kernel_rfl,by kernel_rfl,by kernel_rfl⟩
theorem cr3:(crM 3).T=stM 4∧(crM 3).e=0∧(crM 3).m.length=1:=⟨by kernel_rfl,by kernel_rfl,by kernel_rfl⟩
theorem cr4:(crM 4).T=stM 5∧(crM 4).e=2∧(crM 4).m.length=0:=⟨by kernel_rfl,by kernel_rfl,by kernel_rfl⟩
theorem crM_all {j:Nat} (h:j<5):(crM j).T=stM (j+1)∧(crM j).e=(if j<4 then 0 else 2)∧(crM j).m.length≤1:=by
 have:j=0∨j=1∨j=2∨j=3∨j=4:=by omega
 rcases this with rfl | rfl | rfl | rfl | rfl
 ·exact ⟨cr0.1,cr0.2.1,by rw [cr0.2.2];omega⟩
 ·exact ⟨cr1.1,cr1.2.1,by rw [cr1.2.2];omega⟩
 ·exact ⟨cr2.1,cr2.2.1,by rw [cr2.2.2];omega⟩
 ·exact ⟨cr3.1,cr3.2.1,by rw [cr3.2.2];omega⟩
 ·exact ⟨cr4.1,cr4.2.1,by rw [cr4.2.2];omega⟩
theorem stM_end:stM 5=TbM []:=rfl
theorem TM_b (R:List (List Val)):tAt (TbM R) ⟨#[98]⟩=some 1:=by
 have h:tAt (TbM []) ⟨#[98]⟩=some 1:=by kernel_rfl
 exact h
theorem TM_c (R:List (List Val)):tAt (TbM R) ⟨#[99]⟩=some 2:=by
 have h:tAt (TbM []) ⟨#[99]⟩=some 2:=by kernel_rfl
 exact h
theorem TM_fit (k:Int):(schM ⟨#[98]⟩).fits (rw1 k)=0:=by
 have h1:(schM ⟨#[98]⟩).ok=true:=by decide +kernel
 unfold Sch.fits
 rw [if_neg (by rw [h1];decide),if_neg (by show ¬ (1:Nat)≠1;decide),if_neg (by show ¬ (1:Int)=0;decide),if_pos]
 show (true && fitsB (⟨#[107]⟩,1,0) (nV k))=true
 unfold fitsB
 rw [nV_err]
 show (true && (decide (decide ((0:Int)=0) && (decide ((1:Int)=1) || decide ((1:Int)=0)) && decide ((rcn (⟨#[]⟩:ByteArray):Int)≤0))=true))=true
 decide +kernel
theorem insM (R:List (List Val)) (k:Int):insO (TbM R) ⟨#[98]⟩ (rw1 k)=if addE ⟨schM ⟨#[98]⟩,R⟩ (rw1 k)≠0 then ⟨TbM R,[],addE ⟨schM ⟨#[98]⟩,R⟩ (rw1 k)⟩ else ⟨TbM (insV (rw1 k) R),laidR 1 (schM ⟨#[98]⟩) (rw1 k),0⟩:=by
 rw [insO_some (TM_b R) (t:=⟨schM ⟨#[98]⟩,R⟩) rfl,if_neg (by rw [TM_fit];decide)]
 rfl
theorem addM (R:List (List Val)) (k:Int):addE ⟨schM ⟨#[98]⟩,R⟩ (rw1 k)=if (rowAt R (nV k)).isSome then 63 else if 64≤R.length then 2 else 0:=by
 unfold addE
 rw [aC0]
 rfl
def RM (f:Int) (i:Nat):List (List Val):=(List.range i).map fun (j:Nat)=>rw1 (f+(j:Int))
theorem RM_len (f:Int) (i:Nat):(RM f i).length=i:=by simp [RM]
theorem RM_succ (f:Int) (i:Nat):RM f (i+1)=RM f i++[rw1 (f+(i:Int))]:=by simp [RM,List.range_succ]
theorem mem_RM {f:Int} {i:Nat} {r:List Val}:r∈RM f i↔∃ j:Nat,j<i∧r=rw1 (f+(j:Int)):=by
 simp only [RM,List.mem_map,List.mem_range]
 exact ⟨fun ⟨j,a,b⟩=>⟨j,a,b.symm⟩,fun ⟨j,a,b⟩=>⟨j,a,b.symm⟩⟩
theorem aIp {R:List (List Val)} {k:Int} (h:∀ r∈R,fst r≠nV k):rowAt R (nV k)=none:=by
 unfold rowAt
 rw [List.find?_eq_none]
 intro r hr
 simpa using h r hr
theorem rowAt_yes {R:List (List Val)} {k:Int} {r:List Val} (h:r∈R) (e:fst r=nV k):(rowAt R (nV k)).isSome=true:=by
 unfold rowAt
 rw [List.find?_isSome]
 exact ⟨r,h,decide_eq_true e⟩
theorem ins_more {f:Int} {i:Nat} (hf:0≤f∧f≤65535) (hi:i<64):(insO (TbM (RM f i)) ⟨#[98]⟩ (rw1 (f+(i:Int)))).T=TbM (RM f (i+1))∧(insO (TbM (RM f i)) ⟨#[98]⟩ (rw1 (f+(i:Int)))).e=0:=by
 have h1:rowAt (RM f i) (nV (f+(i:Int)))=none:=aIp fun r hr=>by
  obtain ⟨j,hj,rfl⟩:=mem_RM.1 hr
  rw [aC0]
  intro e
  have:=nV_inj e
  omega
 have h2:addE ⟨schM ⟨#[98]⟩,RM f i⟩ (rw1 (f+(i:Int)))=0:=by
  rw [addM,h1,RM_len,if_neg (by decide),if_neg (by omega)]
 have h3:insV (rw1 (f+(i:Int))) (RM f i)=RM f (i+1):=by
  rw [RM_succ]
  refine insV_end fun d hd=>?_
  obtain ⟨j,hj,rfl⟩:=mem_RM.1 hd
  rw [aC0,aC0]
  have:=nV_lt (a:=f+(j:Int)) (b:=f+(i:Int)) (by omega) (by omega) (by omega)
  rw [aC3]
  omega
 rw [insM,h2,if_neg (by decide),h3]
 exact ⟨rfl,rfl⟩
theorem ins_full {R:List (List Val)} {k:Int} (h:∀ r∈R,fst r≠nV k) (hl:R.length=64):(insO (TbM R) ⟨#[98]⟩ (rw1 k)).T=TbM R∧(insO (TbM R) ⟨#[98]⟩ (rw1 k)).e=2:=by
 have h2:addE ⟨schM ⟨#[98]⟩,R⟩ (rw1 k)=2:=by rw [addM,aIp h,hl,if_neg (by decide),if_pos (by omega)]
 rw [insM,h2,if_pos (by decide)]
 exact ⟨rfl,rfl⟩
theorem ins_have {R:List (List Val)} {k:Int} (h:rw1 k∈R):(insO (TbM R) ⟨#[98]⟩ (rw1 k)).T=TbM R∧(insO (TbM R) ⟨#[98]⟩ (rw1 k)).e=63:=by
 have h2:addE ⟨schM ⟨#[98]⟩,R⟩ (rw1 k)=63:=by rw [addM,rowAt_yes h (aC0 k),if_pos rfl]
 rw [insM,h2,if_pos (by decide)]
 exact ⟨rfl,rfl⟩
theorem ins_low {R:List (List Val)} {k:Int} (h:∀ r∈R,cmpB (nV k).bytes (fst r).bytes<0) (hl:R.length<64):(insO (TbM R) ⟨#[98]⟩ (rw1 k)).T=TbM (rw1 k::R)∧(insO (TbM R) ⟨#[98]⟩ (rw1 k)).e=0:=by
 have h2:addE ⟨schM ⟨#[98]⟩,R⟩ (rw1 k)=0:=by
  rw [addM,aIp fun r hr e=>by have:=h r hr;rw [e,aAq] at this;omega,if_neg (by decide),if_neg (by omega)]
 rw [insM,h2,if_neg (by decide),insV_top h]
 exact ⟨rfl,rfl⟩
theorem del_yes {R:List (List Val)} {k:Int} (h:rw1 k∈R):(delO (TbM R) ⟨#[98]⟩ (nV k)).T=TbM (cutV (nV k) R)∧(delO (TbM R) ⟨#[98]⟩ (nV k)).e=0:=by
 obtain ⟨r,hr⟩:=Option.isSome_iff_exists.1 (rowAt_yes h (aC0 k))
 rw [aHi (TM_b R) (t:=⟨schM ⟨#[98]⟩,R⟩) rfl,if_neg (by rw [nV_err];decide)]
 dsimp only
 rw [hr]
 exact ⟨rfl,rfl⟩
theorem cut_one {x:Val}:∀ {l:List (List Val)} {r:List Val},(l.Pairwise fun a b=>fst a≠fst b)→r∈l→fst r=x→(cutV x l).length+1=l.length
 | d::l,r,hp,hr,hx=>by
  obtain ⟨h1,h2⟩:=List.pairwise_cons.1 hp
  unfold cutV
  rcases List.mem_cons.1 hr with rfl | hr
  ·rw [List.filter_cons_of_neg (by simpa using hx)]
   rw [List.filter_eq_self.2 fun a ha=>decide_eq_true (by rw [←hx];exact fun e=>h1 a ha e.symm)]
   rfl
  ·have hd:fst d≠x:=by rw [←hx];exact h1 r hr
   rw [List.filter_cons_of_pos (by simpa using hd),List.length_cons,List.length_cons]
   have:=cut_one h2 hr hx
   unfold cutV at this
   omega
theorem RM_dis (f:Int) (i:Nat):(RM f i).Pairwise fun a b=>fst a≠fst b:=by
 unfold RM
 rw [List.pairwise_map]
 refine List.pairwise_lt_range.imp ?_
 intro a b hab e
 have:=nV_inj (show nV (f+(a:Int))=nV (f+(b:Int)) from e)
 omega
def RZ (f:Int) (k:Int):List (List Val):=rw1 (f-1)::cutV (nV k) (RM f 64)
theorem RZ_facts {f k:Int} (hf:0≤f∧f≤65535) (hk:f≤k∧k<f+64):rw1 k∈RM f 64∧(cutV (nV k) (RM f 64)).length=63∧(∀ r∈cutV (nV k) (RM f 64),cmpB (nV (f-1)).bytes (fst r).bytes<0)∧(RZ f k).length=64∧(∀ r∈RZ f k,fst r≠nV k):=by
 have h1:rw1 k∈RM f 64:=mem_RM.2 ⟨(k-f).toNat,by omega,by congr 1;omega⟩
 have h2:(cutV (nV k) (RM f 64)).length=63:=by
  have:=cut_one (RM_dis f 64) h1 (aC0 k)
  rw [RM_len] at this
  omega
 refine ⟨h1,h2,fun r hr=>?_,by show _+1=_;rw [h2],fun r hr=>?_⟩
 ·obtain ⟨h3,_⟩:=aBz.1 hr
  obtain ⟨j,hj,rfl⟩:=mem_RM.1 h3
  exact nV_lt (by omega) (by omega) (by omega)
 ·rcases List.mem_cons.1 hr with rfl | hr
  ·intro e
   have:=nV_inj e
   omega
  ·exact (aBz.1 hr).2
theorem len_b (R:List (List Val)):lenO (TbM R) ⟨#[98]⟩=((R.length:Int),0):=aG2 (TM_b R) (t:=⟨schM ⟨#[98]⟩,R⟩) rfl
theorem len_c (R:List (List Val)):lenO (TbM R) ⟨#[99]⟩=(0,0):=aG2 (TM_c R) (t:=⟨schM ⟨#[99]⟩,[]⟩) rfl
theorem scan_low {cs:List Ch} {R:List (List Val)} {k:Int} (I:Inv cs (TbM (rw1 k::R))):scanO cs (TbM (rw1 k::R)) ⟨#[98]⟩ 0 vz vz 1=([rw1 k],0):=by
 rw [aHy (TM_b _) (t:=⟨schM ⟨#[98]⟩,rw1 k::R⟩) rfl,if_neg (by show ¬ ordB (schM ⟨#[98]⟩) 0=false;decide),if_neg (by show ¬ (rightOf 0 0 ⟨#[]⟩≠0∨rightOf 0 0 ⟨#[]⟩≠0);decide +kernel),if_neg (by decide)]
 have hro:=I.row ⟨schM ⟨#[98]⟩,rw1 k::R⟩ (at_mem (i:=1) rfl) (rw1 k) List.mem_cons_self
 have e:scanC cs 1 0 vz vz 1=[⟨1,rk 1 (nV k),rowB (rw1 k),false⟩]:=by
  show rngC cs 1 [1,0,1] [1,1] 1=_
  rw [aD9,I.rows_from (i:=1) (t:=⟨schM ⟨#[98]⟩,rw1 k::R⟩) rfl [1]]
  rw [List.filter_cons_of_pos (by
   refine decide_eq_true ?_
   rw [aC0,aIx,aAs,if_neg (by omega),if_pos (by omega)]
   decide)]
  rfl
 show ((scanC cs 1 0 vz vz 1).map rowOf,(0:Int))=_
 rw [e]
 show ([(drow (rowB (rw1 k))).getD []],(0:Int))=_
 rw [aHg hro.rE hro.ok]
 rfl
end Go.Proofs.YtgckjkocmkedfabGreat
