import Derived.Test.YthgleplmbnkacaaGreatY47
import Derived.Sort.KeysCollected
set_option maxRecDepth 100000
set_option maxHeartbeats 16000000
set_option linter.unusedVariables false
namespace Go.Proofs.YthgleplmbnkacaaGreat
open Go.RowKit Go.Shelf
def SOL (B b r n n0:Nat) (l:List Ch) (D:DataW Value) (w wx:World) (a:Option Addr) (k c cnt:Nat):Prop:=∃ (left:Lit→Bool) (out:List Ch),k=out.length∧wx.ranges Tryz.prog 9 RH b r n D left cnt∧MP B b n l wx D∧CRW B n0 wx (.slice a k c) out∧a.isSome=true∧Below n0 w wx∧(out.Pairwise fun x y=>x.key≠y.key)∧(∀ c∈out,c∈l∧left (kl c.key)=false)∧(∀ c∈l,left (kl c.key)=false→c∈out)∧out.length+cnt≤l.length
theorem ft_iter {B r:Nat} {w w':World} {o:Obj} (hg:w.grownBy w' (some r)) (hm:w.heap[r]?=some o) (ho:∀ cs t fz,o≠.cells cs t fz) (hB:B≤r):FT B w w':=by
 have hs:=(lO hm)
 refine ⟨⟨hg.os,hg.tape,hg.output,hg.size,fun i hi=>hg.block i (by omega) (fun e=>by simp at e;omega)⟩,fun i cs fz e=>?_⟩
 rw [hg.block i (lO e) (fun q=>?_),e]
 simp at q
 subst q
 rw [hm] at e
 simp only [oI] at e
 exact ho _ _ _ e
theorem aC6 {P:Program} {k:TypeId} {R:Value→Option (DataW Value×List MemPlace)} {w:World} {b r n cnt:Nat} {D:DataW Value} {left:Lit→Bool} (h:w.ranges P k R b r n D left cnt):∃ o,w.heap[r]?=some o∧∀ cs t fz,o≠.cells cs t fz:=by
 obtain ⟨es,clock,since,seen,c0,hb,F,hs,rfl,hr,_⟩:=h
 exact ⟨_,hr,fun _ _ _ e=>by cases e⟩
theorem SOL.step {B b r n n0 cnt k c:Nat} {l:List Ch} {D:DataW Value} {w wx:World} {a:Option Addr} (h:SOL B b r n n0 l D w wx a k c cnt) (hB:B≤n0) (hr:n0≤r) :
  (cnt=0∧(Instr.next (.pointer (some ⟨r,0,none⟩)) false 0).run Tryz.prog wx=.ok (.tuple #[.bool false]) wx∧∃ out,k=out.length∧CRW B n0 wx (.slice a k c) out∧(out.Pairwise fun x y=>x.key≠y.key)∧(∀ c,c∈out↔c∈l)) ∨
  ∃ (s:ByteArray) (x:CE) (ch:Ch) (w':World) (cnt':Nat),cnt'<cnt∧(Instr.next (.pointer (some ⟨r,0,none⟩)) false 0).run Tryz.prog wx=.ok (.tuple #[.bool true,.string s,.agg (f4 x).toArray]) w'∧(Instr.entry (.pointer (some ⟨r,0,none⟩))).run Tryz.prog w'=.ok (.tuple #[.string s,.agg (f4 x).toArray]) w'∧EvC B w' x ch∧Below n0 w w' ∧
   ∃ out,k=out.length∧CRW B n0 w' (.slice a k c) out∧∀ (w2:World) (a2:Option Addr) (c2:Nat),CRW B n0 w2 (.slice a2 (k+1) c2) (out++[ch])→a2.isSome=true→w'.grownBy w2 (Value.slice a k c).ownBlock→FT B w' w2→Below n0 w' w2→SOL B b r n n0 l D w w2 a2 (k+1) c2 cnt':=by
 obtain ⟨left,out,hk,hrg,hM,hrow,has,hbl,hpw,ho1,ho2,hcn⟩:=h
 rcases hrg.next keyedS 0 with ⟨h0,hl0,hrun⟩ | ⟨key,v,kk,y,w',cnt',hkey,hlk,hv,hat,hrun,hrg2,hlt,hgr,hsz,hen⟩
 ·exact Or.inl ⟨h0,hrun,out,hk,hrow,hpw,fun c=>⟨fun q=>(ho1 c q).1,fun q=>ho2 c q (hl0 _)⟩⟩
 ·obtain ⟨us,rfl,rfl,_⟩:=Maps.keyOf_str Tryz.underlying9 hkey
  obtain ⟨ch,hch,hke⟩:=hM.has _ (Maps.has_true_of_atKey hat)
  obtain ⟨x,hx,hax⟩:=hM.at_ ch hch
  have hy:y=(.held v,[]):=by
   have:=hv
   unfold RH at this
   exact (Option.some.inj this).symm
  have hvx:v=.agg (f4 x).toArray:=by
   have e1:=hat (.held v)
   rw [hke,hax,hy] at e1
   exact (DataW.held.inj e1).symm
  subst hvx
  obtain ⟨o,ho,hoc⟩:=aC6 hrg
  have hft:FT B wx w':=ft_iter hgr ho hoc (by omega)
  have hnr:∀ i,(Value.slice a k c).ownBlock=some i→w'.heap[i]?=wx.heap[i]?:=fun i hi=>by
   obtain ⟨_,q2,cur,q3⟩:=hrow.blk hi
   refine hgr.block i q2 (fun e=>?_)
   simp at e
   subst e
   rw [ho] at q3
   simp only [oI] at q3
   exact hoc _ _ _ q3
  have hM2:MP B b n l w' D:=⟨hrg2.owns,fun d hd=>by
   obtain ⟨z,z1,z2⟩:=hM.at_ d hd
   exact ⟨z,z1.ft hft,z2⟩,hM.has,hM.srt,hM.siz⟩
  have hbl2:Below n0 w w':=hbl.trans ((Below.refl n0 _).grown hgr (by have:=hbl.size;have:=hrg.lt;omega) (fun i hi=>by simp at hi;omega))
  refine Or.inr ⟨_,x,ch,w',cnt',hlt,hrun,hen,hx.ft hft,hbl2,out,hk,hrow.keep hft hnr,fun w2 a2 c2 h1 h2 h3 h4 h5=>?_⟩
  have nb:some b≠(Value.slice a k c).ownBlock:=fun e=>by
   obtain ⟨_,_,cur,q3⟩:=(hrow.keep hft hnr).blk e.symm
   obtain ⟨es,ck,q4,_⟩:=hM2.own
   rw [q3] at q4
   cases q4
  have nr:some r≠(Value.slice a k c).ownBlock:=fun e=>by
   obtain ⟨_,_,cur,q3⟩:=(hrow.keep hft hnr).blk e.symm
   obtain ⟨o2,ho2,hoc2⟩:=aC6 hrg2
   rw [ho2] at q3
   simp only [oI] at q3
   exact hoc2 _ _ _ q3
  have hrg3:=hrg2.kept h3 nb nr
  have hnew:ch∉out:=fun q=>by
   have:=(ho1 ch q).2
   rw [←hke,hlk] at this
   cases this
  refine ⟨_,out++[ch],by simp [hk],hrg3,⟨hrg3.owns,fun d hd=>by
   obtain ⟨z,z1,z2⟩:=hM2.at_ d hd
   exact ⟨z,z1.ft h4,z2⟩,hM.has,hM.srt,hM.siz⟩,h1,h2,hbl2.trans h5,?_,?_,?_,by simp;omega⟩
  ·rw [List.pairwise_append]
   refine ⟨hpw,by simp,fun p hp q hq=>?_⟩
   simp at hq
   subst hq
   intro e
   have:=hM.srt.inj (ho1 p hp).1 hch e
   subst this
   exact hnew hp
  ·intro d hd
   rcases List.mem_append.1 hd with hd | hd
   ·exact ⟨(ho1 d hd).1,by rw [(ho1 d hd).2];rfl⟩
   ·simp at hd
    subst hd
    refine ⟨hch,?_⟩
    rw [←hke]
    simp [Lit.sameKey]
  ·intro d hd hq
   by_cases q:left (kl d.key)=false
   ·exact List.mem_append_left _ (ho2 d hd q)
   ·have q:left (kl d.key)=true:=by simpa using q
    rw [q,Bool.true_and] at hq
    have e:(kl d.key).sameKey (Lit.string us)=true:=by simpa using hq
    have e:=Go.WideAt.sameKey_eq e
    rw [hke] at e
    have:=hM.srt.inj hd hch (kl_inj (hM.byte hd) (hM.byte hch) e)
    subst this
    exact List.mem_append_right _ (by simp)
theorem sorted_ok {B b n:Nat} {l:List Ch} {w:World} {D:DataW Value} (h:MP B b n l w D) (hB:B≤w.heap.size) (hl:l.length≤1000) :
  Calls Tryz.prog 48 #[.map (some b)] w fun e w'=>∃ v,e=.returned v∧CRW B w.heap.size w' v l∧Below w.heap.size w w':=by
 have lt:∀ {k:Nat} {o:Obj} {ww:World},ww.heap[k]?=some o→k<ww.heap.size:=fun e=>(lO e)
 obtain ⟨i0,hi,hz0,hz1,hz2⟩:=info_parts aCz
 have HM:=hide h
 have HB:=hide hB
 have HL:=hide hl
 have HSZ:=hide h.siz
 have HOW:=hide h.own
 clear h hB hl
 obtain ⟨sz,hsz⟩:∃ sz,Maps.size D=sz:=⟨_,rfl⟩
 rw [hsz] at HSZ
 have HSD:=hide hsz
 clear hsz
 go_enter Tryz.func48,Tryz.ntmps48
 go_wp2_with (first | (at_len;refine wpList_len_own _ rfl _ 99 rfl 9 39 Tryz.underlying99 RH b n D rfl HOW.out ?_;rw [HSD.out]) | (at_make;refine wpList_make_own _ rfl _ _ 32 rfl w.heap.size 39 i0 (.agg #[.int .i64 0,.slice none 0 0,.slice none 0 0,.bool false]) 4 Tryz.underlying32 hi hz0 hz1 .i64 .i64 (sz:Int) sz rfl rfl rfl (by rw [hz2];have:=HSZ.out;have:=HL.out;omega) (by have:=HSZ.out;have:=HL.out;unfold maxLen;omega) (nR _) ?_;intro w1 ho1 hg1;have HO1:=hide ho1;have HG1:=hide hg1;clear ho1 hg1) | (at_range;refine wpList_range_own _ rfl _ 99 rfl 9 39 keyedS Tryz.underlying99 RH b n D rfl (HOW.out.kept HG1.out (by simp)) ?_;intro w2 hrg2 hg2 hs2;have HRG2:=hide hrg2;have HG2:=hide hg2;clear hrg2 hg2 hs2))
 have HR0:Hid (w.heap.size≤w1.heap.size):=HG1.out.size
 have HB1:Hid (Below w.heap.size w w1):=⟨HG1.out.os,HG1.out.tape,HG1.out.output,HG1.out.size,fun i hi=>HG1.out.block i hi (by simp)⟩
 have HB2:Hid (Below w1.heap.size w1 w2):=⟨HG2.out.os,HG2.out.tape,HG2.out.output,HG2.out.size,fun i hi=>HG2.out.block i hi (by simp)⟩
 have HST:Hid (SOL B b w1.heap.size n w.heap.size l D w w2 (some ⟨w.heap.size,0,none⟩) 0 sz sz):=by
  have hM2:=(HM.out.later HB1.out HB.out).later HB2.out (by have:=HB.out;have:=HR0.out;omega)
  have hrow:CRW B w.heap.size w1 (.slice (some ⟨w.heap.size,0,none⟩) 0 sz) []:=⟨[],rfl,HO1.out,fun i c x h=>by simp at h⟩
  refine ⟨_,[],rfl,by rw [←HSD.out];exact HRG2.out,hM2,hrow.later HB2.out (by have:=HB.out;have:=HR0.out;omega),rfl,HB1.out.trans (HB2.out.mono HR0.out),List.Pairwise.nil,(fun c hc=>by simp at hc),fun c hc hq=>?_,by have:=HSZ.out;simp;omega⟩
  obtain ⟨x,_,hx⟩:=hM2.at_ c hc
  rw [Maps.has_true_of_atKey hx] at hq
  cases hq
 clear HRG2 HG2 HG1 HO1
 go_frame
 generalize hn0:w.heap.size=n0 at *
 generalize hn1:w1.heap.size=r at *
 go_loopg [3] sz (fun gh s3 wx=>∃ a k c,s3=.slice a k c∧SOL B b r n n0 l D w wx a k c gh)
 case atStart=>exact ⟨_,_,_,rfl,HST.out⟩
 case round =>
  obtain ⟨a,k,c,rfl,hS⟩:=hrel
  have HK:Hid (k≤1000):=by
   obtain ⟨left,out,e1,_,_,_,_,_,_,_,_,e2⟩:=hS
   show k≤1000
   have:=HL.out
   omega
  rcases hS.step HB.out HR0.out with ⟨h0,hrun,out,hk,hrow,hpw,hmem⟩ | ⟨s,x,ch,w3,cnt',hlt,hrun,hen,hx,hb3,out,hk,hrow,hcont⟩
  ·obtain ⟨g,ea⟩:∃ g,a=some ⟨g,0,none⟩:=by
    obtain ⟨left,o2,_,_,_,_,has,_⟩:=hS
    obtain ⟨_,_,⟨_,q⟩,_⟩:=hrow
    rcases q with ⟨e,_⟩ | ⟨g,_,_,e,_⟩
    ·simp only [Value.slice.injEq] at e
     rw [e.1] at has
     cases has
    ·simp only [Value.slice.injEq] at e
     exact ⟨g,e.1⟩
   subst ea
   have HBW:Hid (Below n0 w wr):=by
    obtain ⟨_,_,_,_,_,_,_,q,_⟩:=hS
    exact q
   have hsrt:=(HM.out).srt
   subst hk
   have HSO:=hide (sortRow_ok hrow HB.out (by have:=HK.out;omega) hpw)
   have HMM:=hide hmem
   have HSR:=hide hsrt
   clear hrow hpw hmem hsrt hS
   go_wp2_with fail
   refine HSO.out.mono ?_
   rintro e w4 ⟨rfl,F',hp,hs,hr4,hf4,hb4,hk4⟩
   have HR4:=hide hr4
   have HB4:Hid (Below n0 w w4):=HBW.out.trans hb4
   have HE:Hid (F'=l):=hs.uniq HSR.out (fun c=>by rw [hp.mem_iff];exact HMM.out c)
   clear hr4 hf4 hb4 hk4 hp hs HSO
   go_wp2
   go_ret
   refine ⟨_,rfl,?_,?_⟩
   ·rw [hn0,←HE.out]
    exact HR4.out
   ·rw [hn0]
    exact HB4.out
  ·obtain ⟨xc,x2,x3⟩:=x
   obtain ⟨e2,⟨ka,kc,e3,hbk⟩,⟨va,vc,e4,hbv⟩⟩:=hx
   dsimp only at e2 e3 e4 hbk hbv
   subst e2 e3 e4
   obtain ⟨⟨csp,key,val,cg⟩,rfl⟩:∃ d:Ch,d=xc:=⟨_,rfl⟩
   dsimp only at hbk hbv
   obtain ⟨kn,hkn⟩:∃ kn,key.length=kn:=⟨_,rfl⟩
   obtain ⟨vn,hvn⟩:∃ vn,val.length=vn:=⟨_,rfl⟩
   replace hrun:(Instr.next (.pointer (some ⟨r,0,none⟩)) false 0).run Tryz.prog wr=.ok (.tuple #[.bool true,.string s,.agg #[.int .i64 csp,.slice ka kn kc,.slice va vn vc,.bool cg]]) w3:=by rw [←hkn,←hvn];exact hrun
   replace hen:(Instr.entry (.pointer (some ⟨r,0,none⟩))).run Tryz.prog w3=.ok (.tuple #[.string s,.agg #[.int .i64 csp,.slice ka kn kc,.slice va vn vc,.bool cg]]) w3:=by rw [←hkn,←hvn];exact hen
   have HKL:=hide hkn
   have HVL:=hide hvn
   rw [hkn] at hbk
   rw [hvn] at hbv
   clear hkn hvn
   have HBw:Hid (B≤w3.heap.size):=by show B≤_;have:=hb3.size;have:=HB.out;omega
   have hbx:Below w3.heap.size w3 (w3.alloc (.cells #[.int .i64 csp,.slice ka kn kc,.slice va vn vc,.bool cg] 39)):=aAb w3 _
   have HRB:Hid ((w3.alloc (.cells #[.int .i64 csp,.slice ka kn kc,.slice va vn vc,.bool cg] 39)).heap[w3.heap.size]?=some (.cells #[.int .i64 csp,.slice ka kn kc,.slice va vn vc,.bool cg] 39 (0,0))):=aAf [Obj.cells #[.int .i64 csp,.slice ka kn kc,.slice va vn vc,.bool cg] 39] w3 0 _ rfl
   have HBK:=hide (hbk.later hbx HBw.out)
   have HBV:=hide (hbv.later hbx HBw.out)
   have HROW:=hide (hrow.later hbx HBw.out)
   have HBX:=hide hbx
   have HB3:=hide hb3
   have HCO:=hide hcont
   have HKO:=hide hk
   have HLT:=hide hlt
   have HN3:Hid (n0≤w3.heap.size):=by show n0≤_;have:=hb3.size;omega
   clear hbx hbk hbv hrow hcont hk hS hb3 hlt
   go_upto_region 5 with fail
   clear hrun hen
   generalize hw4:(w3.alloc (.cells #[.int .i64 csp,.slice ka kn kc,.slice va vn vc,.bool cg] 39))=w4 at *
   have HN4:Hid (w3.heap.size≤w4.heap.size):=HBX.out.size
   have HFT3:Hid (FT B w3 w4):=FT.of HBX.out HBw.out
   generalize hn3:w3.heap.size=n3 at *
   have HW4:=hide hw4
   clear hw4
   have d0:w4.cell? ⟨n3,0,none⟩=some (.int .i64 csp):=aAa HRB.out
   have d1:w4.cell? ⟨n3,1,none⟩=some (.slice ka kn kc):=aAa HRB.out
   have d2:w4.cell? ⟨n3,2,none⟩=some (.slice va vn vc):=aAa HRB.out
   have d3:w4.cell? ⟨n3,3,none⟩=some (.bool cg):=aAa HRB.out
   have HBw4:Hid (B≤w4.heap.size):=by show B≤_;have:=HBw.out;have:=HN4.out;omega
   have hby:Below w4.heap.size w4 (w4.alloc (.cells #[.int .i64 csp,.slice ka kn kc,.slice va vn vc,.bool cg] 39)):=aAb w4 _
   have HRB5:Hid ((w4.alloc (.cells #[.int .i64 csp,.slice ka kn kc,.slice va vn vc,.bool cg] 39)).heap[w4.heap.size]?=some (.cells #[.int .i64 csp,.slice ka kn kc,.slice va vn vc,.bool cg] 39 (0,0))):=aAf [Obj.cells #[.int .i64 csp,.slice ka kn kc,.slice va vn vc,.bool cg] 39] w4 0 _ rfl
   have HROW5:=hide (HROW.out.later hby HBw4.out)
   have HEV:Hid (EvC B (w4.alloc (.cells #[.int .i64 csp,.slice ka kn kc,.slice va vn vc,.bool cg] 39)) (⟨csp,key,val,cg⟩,.slice ka kn kc,.slice va vn vc) ⟨csp,key,val,cg⟩):=⟨rfl,⟨ka,kc,by show Value.slice ka kn kc=.slice ka key.length kc;rw [HKL.out],by show BK B _ ka key.length kc key;rw [HKL.out];exact HBK.out.later hby HBw4.out⟩,⟨va,vc,by show Value.slice va vn vc=.slice va val.length vc;rw [HVL.out],by show BK B _ va val.length vc val;rw [HVL.out];exact HBV.out.later hby HBw4.out⟩⟩
   have HBY:=hide hby
   clear hby
   go_wp2_with (at_builtin;refine aBo (by rfl) (.tmp 15) (.tmp 17) rfl (v:=.slice a k c) (u:=.slice (some ⟨w4.heap.size,0,none⟩) 1 1) (F:=out) (G:=[⟨csp,key,val,cg⟩]) rfl rfl HROW5.out (RvK.one (x:=(⟨csp,key,val,cg⟩,.slice ka kn kc,.slice va vn vc)) aA0 HRB5.out HEV.out) HB.out (by have:=HBY.out.size;have:=HN3.out;have:=HN4.out;omega) (by have:=HK.out;have:=HKO.out;show out.length+1≤_;omega) ?_;intro v6 w6 hr6 hf6 hk6 hb6 ho6;have HR6:=hide hr6;have HF6:=hide hf6;have HK6:=hide hk6;have HB6:=hide hb6;have HO6:=hide ho6;clear hr6 hf6 hk6 hb6 ho6)
   obtain ⟨a6,c6,e6⟩:=HR6.out.form
   rw [lA,←HKO.out] at e6
   have e6:v6=.slice a6 (k+1) c6:=e6
   subst e6
   go_roundg cnt'
   case measure=>exact HLT.out
   case rel =>
    refine ⟨a6,k+1,c6,rfl,HCO.out _ _ _ HR6.out ?_ ⟨?_,?_,?_,?_,?_⟩ ((HFT3.out.trans (FT.of HBY.out HBw4.out)).trans HF6.out) ?_⟩
    ·cases a6 with
     | some z=>rfl
     | none =>
      obtain ⟨kv,_,⟨_,q⟩,_⟩:=HR6.out
      rcases q with ⟨e,e'⟩ | ⟨g,cap,cur,e,_⟩
      ·simp at e'
      ·cases e
    ·exact (HB6.out.os.trans HBY.out.os).trans HBX.out.os
    ·exact (HB6.out.tape.trans HBY.out.tape).trans HBX.out.tape
    ·exact (HB6.out.output.trans HBY.out.output).trans HBX.out.output
    ·have h1:=HBX.out.size;have h2:=HBY.out.size;have h3:=HB6.out.size;omega
    ·intro i hi hne
     have h1:=HBX.out.size;have h2:=HBY.out.size
     rw [HK6.out i (by omega) (fun e=>hne e.symm),HBY.out.block i (by omega),HBX.out.block i (by omega)]
    ·exact ((HBX.out.mono (by have:=HN3.out;omega)).trans (HBY.out.mono (by have:=HN3.out;have:=HN4.out;omega))).trans HB6.out
end Go.Proofs.YthgleplmbnkacaaGreat
set_option linter.unusedVariables false
namespace Go.Proofs.YthgleplmbnkacaaGreat
open Go.RowKit
theorem fld_pair (sp:Int) (k v:Value) (g:Bool) (ww:World):(Instr.field 39 (.agg #[.int .i64 sp,k,v,.bool g]) 0).run Tryz.prog ww=.ok (.agg #[.int .i64 sp,k,v]) ww:=by
 kernel_rfl
theorem firstLaid_ok {B B1 most:Nat} {w:World} {v:Value} {l:List Ch} (h:CRW B B1 w v l) (hB:B≤w.heap.size) (hl:l.length≤1000) :
  Calls Tryz.prog 47 #[v,.int .i64 (most:Int)] w fun e w'=>∃ v',e=.returned v'∧PSW B w.heap.size w' v' (laidF most [] l)∧Below w.heap.size w w':=by
 obtain ⟨ra,rc,ev⟩:=h.form
 subst ev
 have HD:=hide h
 have HBB:=hide hB
 clear h hB
 obtain ⟨N,hN⟩:∃ N,l.length=N:=⟨_,rfl⟩
 have HN:=hide hN
 rw [hN] at hl
 rw [hN]
 clear hN
 go_enter Tryz.func47,Tryz.ntmps47
 go_wp2_with fail
 go_step3
 go_wp2_with fail
 go_step3
 generalize hn0:w.heap.size=n0 at *
 go_wp2_with fail
 go_loopg [5,10] N (fun gh s5 s10 wx=>∃ j:Nat,j+gh=N∧s10=.int .i64 (j:Int)∧∃ a k c,s5=.slice a k c∧∃ F:List Ch,F.length=k∧k≤j∧PSW B n0 wx (.slice a k c) F∧Below n0 w wx∧laidF most F (l.drop j)=laidF most [] l)
 case atStart=>exact ⟨0,by omega,rfl,none,0,0,rfl,[],rfl,by omega,RwK.nil _ _ _ _ _ _,Below.refl _ _,rfl⟩
 case round =>
  obtain ⟨j,hj,rfl,a,k,c,rfl,F,hFk,hkj,hrow,hbl,hla⟩:=hrel
  have HFK:=hide hFk
  have HROW:=hide hrow
  have HBL:=hide hbl
  have HLA:=hide hla
  clear hFk hrow hbl hla
  by_cases hjn:j<N
  ·have xj:(j:Int)<(N:Int):=by omega
   obtain ⟨ch,hcj⟩:∃ c,l[j]?=some c:=⟨_,gE (by rw [HN.out];exact hjn)⟩
   have HDR:Hid (l.drop j=ch::l.drop (j+1)):=by
    show _=_
    rw [List.drop_eq_getElem_cons (by rw [HN.out];exact hjn)]
    congr 1
    exact (List.getElem?_eq_some_iff.1 hcj).2
   obtain ⟨g,cap,x,e1,hx,hcell⟩:=HD.out.at aA0 hcj
   obtain ⟨xc,xk,xv⟩:=x
   have HXX:Hid (EvC B w (xc,xk,xv) ch):=hx
   obtain ⟨e2,⟨ka,kc,e3,hbk⟩,⟨va,vc,e4,hbv⟩⟩:=hx
   dsimp only at e2 e3 e4
   subst e2
   simp only [Value.slice.injEq] at e1
   obtain ⟨rfl,_,rfl⟩:=e1
   have hg:g<n0:=by
    have:=hcell 0 (by omega)
    by_cases q:g<n0
    ·exact q
    ·rw [show w.cell? ⟨g,j*4+0,none⟩=none from by
      unfold World.cell?
      rw [show w.heap[g]?=none from Array.getElem?_eq_none (by omega)]] at this
     simp [f4] at this
   have cc:∀ i,i<4→wr.cell? ⟨g,j*4+i,none⟩=(f4 (xc,xk,xv))[i]?:=fun i hi=>by
    rw [←hcell i hi]
    exact World.cell?_of_block (HBL.out.block g hg)
   have c0:wr.cell? ⟨g,j*4,none⟩=some (.int .i64 xc.sp):=cc 0 (by omega)
   have c1:wr.cell? ⟨g,j*4+1,none⟩=some xk:=cc 1 (by omega)
   have c2:wr.cell? ⟨g,j*4+2,none⟩=some xv:=cc 2 (by omega)
   have c3:wr.cell? ⟨g,j*4+3,none⟩=some (.bool xc.gone):=cc 3 (by omega)
   obtain ⟨kn,hkn⟩:∃ kn,xc.key.length=kn:=⟨_,rfl⟩
   obtain ⟨vn,hvn⟩:∃ vn,xc.val.length=vn:=⟨_,rfl⟩
   rw [hkn] at e3
   rw [hvn] at e4
   subst e3 e4
   clear hcell cc hbk hbv hkn hvn
   have HBW:Hid (B≤wr.heap.size):=by show B≤_;have:=HBL.out.size;have:=HBB.out;omega
   have hbw0:Below w.heap.size w wr:=by rw [hn0];exact HBL.out
   have HXR:Hid (EvC B wr (xc,.slice ka kn kc,.slice va vn vc) xc):=HXX.out.ft (FT.of hbw0 (by rw [hn0];exact HBB.out))
   clear hbw0 HXX
   obtain ⟨csp,hcsp⟩:∃ s,xc.sp=s:=⟨_,rfl⟩
   obtain ⟨cg,hcg⟩:∃ s,xc.gone=s:=⟨_,rfl⟩
   rw [hcsp] at c0
   rw [hcg] at c3
   have HCS:=hide hcsp
   have HCG:=hide hcg
   clear hcsp hcg
   have HBOX:Hid (Below wr.heap.size wr (wr.alloc (.cells #[.int .i64 csp,.slice ka kn kc,.slice va vn vc,.bool cg] 39))):=aAb wr _
   have HRB:Hid ((wr.alloc (.cells #[.int .i64 csp,.slice ka kn kc,.slice va vn vc,.bool cg] 39)).heap[wr.heap.size]?=some (.cells #[.int .i64 csp,.slice ka kn kc,.slice va vn vc,.bool cg] 39 (0,0))):=aAf [Obj.cells #[.int .i64 csp,.slice ka kn kc,.slice va vn vc,.bool cg] 39] wr 0 _ rfl
   have HX2:=hide (HXR.out.ft (FT.of HBOX.out HBW.out))
   have HROW2:=hide (HROW.out.later HBOX.out HBW.out)
   have HB2:Hid (Below n0 w (wr.alloc (.cells #[.int .i64 csp,.slice ka kn kc,.slice va vn vc,.bool cg] 39))):=HBL.out.trans (HBOX.out.mono (by have:=HBL.out.size;omega))
   clear HXR HROW HBL
   go_upto_region 5 with fail
   clear c0 c1 c2 c3
   generalize (wr.alloc (.cells #[.int .i64 csp,.slice ka kn kc,.slice va vn vc,.bool cg] 39))=w2 at *
   have HSZ:Hid (wr.heap.size≤w2.heap.size):=HBOX.out.size
   have HBW2:Hid (B≤w2.heap.size):=by show B≤_;have:=HSZ.out;have:=HBW.out;omega
   have HN2:Hid (n0≤w2.heap.size):=by show n0≤_;have:=HB2.out.size;omega
   generalize hnb:wr.heap.size=nb at *
   have d0:w2.cell? ⟨nb,0,none⟩=some (.int .i64 csp):=aAa HRB.out
   have d1:w2.cell? ⟨nb,1,none⟩=some (.slice ka kn kc):=aAa HRB.out
   have d2:w2.cell? ⟨nb,2,none⟩=some (.slice va vn vc):=aAa HRB.out
   have d3:w2.cell? ⟨nb,3,none⟩=some (.bool cg):=aAa HRB.out
   by_cases q1:k=most
   ·have HE:Hid (laidF most [] l=F):=by
     show _=_
     rw [←HLA.out,HDR.out]
     unfold laidF
     rw [if_pos (by rw [HFK.out];exact q1)]
    have q1':((k:Int) == (most:Int))=true:=by rw [q1];exact beq_self_eq_true _
    clear q1
    go_wp2
    unfold Exit.noGoto
    go_ret
    refine ⟨_,rfl,?_,?_⟩
    ·rw [HE.out,hn0];exact HROW2.out
    ·rw [hn0];exact HB2.out
   ·have q1':((k:Int) == (most:Int))=false:=by
     rw [beq_eq_false_iff_ne];omega
    have HFM:Hid (¬ F.length=most):=by show ¬ _;rw [HFK.out];exact q1
    clear q1
    cases hcg:cg with
    | true =>
     subst hcg
     go_wp2
     go_roundg (gk-1)
     case measure=>omega
     case rel =>
      refine ⟨j+1,by omega,rfl,a,k,c,rfl,F,HFK.out,by omega,HROW2.out,HB2.out,?_⟩
      rw [←HLA.out,HDR.out]
      conv=>rhs;unfold laidF
      rw [if_neg HFM.out,HCG.out,if_pos rfl]
    | false =>
     subst hcg
     have HCP:Hid (Calls Tryz.prog 55 #[.agg #[.int .i64 csp,.slice ka kn kc,.slice va vn vc,.bool false]] w2 fun e w'=>∃ y,e=.returned (.agg (f4 y).toArray)∧EvC B w' y xc∧Below w2.heap.size w2 w'):=by
      have:=aDs HX2.out HBW2.out
      unfold f4 at this
      dsimp only at this
      rw [HCS.out,HCG.out] at this
      exact this
     go_wp2_with fail
     refine HCP.out.mono ?_
     rintro e w3 ⟨y,rfl,hy,hb3⟩
     obtain ⟨yc,yk,yv⟩:=y
     have HY:=hide hy
     obtain ⟨e2,⟨ka2,kc2,e3,_⟩,⟨va2,vc2,e4,_⟩⟩:=hy
     dsimp only at e2 e3 e4
     obtain ⟨kn2,hkn2⟩:∃ n,xc.key.length=n:=⟨_,rfl⟩
     obtain ⟨vn2,hvn2⟩:∃ n,xc.val.length=n:=⟨_,rfl⟩
     rw [hkn2] at e3
     rw [hvn2] at e4
     subst e2 e3 e4
     unfold f4
     dsimp only
     rw [HCS.out,HCG.out]
     have hfl:=fun ww=>fld_pair csp (.slice ka2 kn2 kc2) (.slice va2 vn2 vc2) false ww
     have HBX3:=hide (aAb w3 (.cells #[.int .i64 csp,.slice ka2 kn2 kc2,.slice va2 vn2 vc2] 35))
     have HBW3:Hid (B≤w3.heap.size):=by show B≤_;have:=hb3.size;have:=HBW2.out;omega
     have HN3:Hid (n0≤w3.heap.size):=by show n0≤_;have:=hb3.size;have:=HN2.out;omega
     have HROW3:=hide ((HROW2.out.later hb3 HBW2.out).later HBX3.out HBW3.out)
     have HB3:Hid (Below n0 w w3):=HB2.out.trans (hb3.mono HN2.out)
     have HB4:Hid (Below n0 w (w3.alloc (.cells #[.int .i64 csp,.slice ka2 kn2 kc2,.slice va2 vn2 vc2] 35))):=HB3.out.trans (HBX3.out.mono HN3.out)
     have HRB3:Hid ((w3.alloc (.cells #[.int .i64 csp,.slice ka2 kn2 kc2,.slice va2 vn2 vc2] 35)).heap[w3.heap.size]?=some (.cells #[.int .i64 csp,.slice ka2 kn2 kc2,.slice va2 vn2 vc2] 35 (0,0))):=aAf [Obj.cells #[.int .i64 csp,.slice ka2 kn2 kc2,.slice va2 vn2 vc2] 35] w3 0 _ rfl
     have HYR:Hid (RvK 3 f3 B (w3.alloc (.cells #[.int .i64 csp,.slice ka2 kn2 kc2,.slice va2 vn2 vc2] 35)) (.slice (some ⟨w3.heap.size,0,none⟩) 1 1) [yc]):=by
      refine RvK.one (x:=(yc,.slice ka2 kn2 kc2,.slice va2 vn2 vc2)) f3_len (t:=35) (fz:=(0,0)) ?_ (HY.out.ft (FT.of HBX3.out HBW3.out))
      unfold f3
      dsimp only
      rw [HCS.out]
      exact HRB3.out
     clear hb3 hkn2 hvn2
     go_wp2_with (at_builtin;refine aBn (by rfl) (.tmp 23) (.tmp 27) rfl (v:=.slice a k c) (u:=.slice (some ⟨w3.heap.size,0,none⟩) 1 1) (F:=F) (G:=[yc]) rfl rfl HROW3.out HYR.out HBB.out (by have:=HBX3.out.size;have:=HN3.out;omega) (by have:=HFK.out;show F.length+1≤_;omega) ?_;intro v6 w6 hr6 hf6 hk6 hb6 ho6;have HR6:=hide hr6;have HB6:=hide hb6;clear hr6 hf6 hk6 hb6 ho6)
     obtain ⟨a6,c6,e6⟩:=HR6.out.form
     rw [lA,HFK.out] at e6
     have e6:v6=.slice a6 (k+1) c6:=e6
     subst e6
     go_roundg (gk-1)
     case measure=>omega
     case rel =>
      refine ⟨j+1,by omega,rfl,a6,k+1,c6,rfl,F++[yc],by rw [lA,HFK.out];rfl,by omega,HR6.out,HB4.out.trans HB6.out,?_⟩
      rw [←HLA.out,HDR.out]
      conv=>rhs;unfold laidF
      rw [if_neg HFM.out,HCG.out,if_neg (by simp)]
  ·have xj:¬ (j:Int)<(N:Int):=by omega
   have HE:Hid (laidF most [] l=F):=by
    show _=_
    rw [←HLA.out,List.drop_eq_nil_of_le (by rw [HN.out];omega)]
    rfl
   go_wp2
   go_ret
   refine ⟨_,rfl,?_,?_⟩
   ·rw [HE.out,hn0];exact HROW.out
   ·rw [hn0];exact HBL.out
theorem aCk {B db ls:Nat} {v:Value} {cs:List Ch} {w:World} (h:DD B db ls v cs w) (hl:cs.length≤1000) :
  Calls Tryz.prog 25 #[.pointer (some ⟨db,0,none⟩)] w fun e w'=>∃ v',e=.returned v'∧CRW B w.heap.size w' v' (chgC cs 16)∧Below w.heap.size w w':=by
 have HD:=hide h
 have HL:=hide hl
 have HBB:Hid (B≤w.heap.size):=by show B≤_;have:=h.hB;have:=h.bw;omega
 clear h hl
 obtain ⟨n0,hn0⟩:∃ n0,w.heap.size=n0:=⟨_,rfl⟩
 have HN0:=hide hn0
 rw [hn0] at HBB ⊢
 clear hn0
 go_enter Tryz.func25,Tryz.ntmps25
 go_wp2_with fail
 go_loopg [3,7] 16 (fun gh s3 s7 wx=>∃ j:Nat,j+gh=16∧s7=.int .i64 (j:Int)∧∃ a k c,s3=.slice a k c∧∃ F:List Ch,F.length=k∧F=chgC cs j∧CRW B n0 wx (.slice a k c) F∧Below n0 w wx)
 case atStart=>exact ⟨0,by omega,rfl,none,0,0,rfl,[],rfl,rfl,RwK.nil _ _ _ _ _ _,Below.refl _ _⟩
 case round =>
  obtain ⟨j,hj,rfl,a,k,c,rfl,F,hFk,hF,hrow,hbl⟩:=hrel
  have HF:=hide hF
  have HFK:=hide hFk
  have HROW:=hide hrow
  have HBL:=hide hbl
  have HFL:Hid (F.length≤16000):=by
   show _≤_
   rw [hF]
   have h1:=chg_len cs j
   have h2:=HL.out
   have h3:j*cs.length≤16*1000:=Nat.mul_le_mul (by omega) h2
   omega
  clear hFk hF hrow hbl
  by_cases hjn:j<16
  ·have xj:(j:Int)<16:=by omega
   have HDR:=hide (HD.out.later (w':=wr) (by rw [HN0.out];exact HBL.out))
   have HLA:=hide (last_ok (sp:=(j:Int)) HDR.out (BK.nil B wr) (BK.nil B wr) HL.out)
   have HBW:Hid (B≤wr.heap.size):=by show B≤_;have:=HBL.out.size;have:=HBB.out;have:=HN0.out;omega
   have HNW:Hid (n0≤wr.heap.size):=by show n0≤_;have:=HBL.out.size;have:=HN0.out;omega
   go_wp2_with fail
   refine HLA.out.mono ?_
   rintro e w2 ⟨b,n,D,rfl,hM,_,_,hb2⟩
   have hL1:(lastL (inR (j:Int) [] []) cs).length≤1000:=by have:=aCy (inR (j:Int) [] []) cs;have:=HL.out;omega
   have HNX:Hid (chgC cs (j+1)=F++lastL (inR (j:Int) [] []) cs):=by show _=_;rw [HF.out];rfl
   generalize lastL (inR (j:Int) [] []) cs=L at *
   have HBW2:Hid (B≤w2.heap.size):=by show B≤_;have:=hb2.size;have:=HBW.out;omega
   have HNW2:Hid (n0≤w2.heap.size):=by show n0≤_;have:=hb2.size;have:=HNW.out;omega
   have HSO:=hide (sorted_ok hM HBW2.out hL1)
   have HROW2:=hide (HROW.out.later hb2 HBW.out)
   have HB2:Hid (Below n0 w w2):=HBL.out.trans (hb2.mono HNW.out)
   have HL1:=hide hL1
   clear hM hb2 hL1 HLA HROW HBL HDR
   go_wp2_with fail
   refine HSO.out.mono ?_
   rintro e w3 ⟨v3,rfl,hr3,hb3⟩
   have HROW3:=hide (HROW2.out.later hb3 HBW2.out)
   have HB3:Hid (Below n0 w w3):=HB2.out.trans (hb3.mono HNW2.out)
   have HR3:=hide hr3
   have HNE:Hid (∀ i,v3.ownBlock=some i→(Value.slice a k c).ownBlock≠some i):=by
    intro i h1 h2
    have:=(hr3.blk h1).1
    have:=(HROW2.out.blk h2).2.1
    omega
   obtain ⟨ra,rc,e3⟩:=hr3.form
   obtain ⟨M,hM⟩:∃ M,L.length=M:=⟨_,rfl⟩
   rw [hM] at e3
   subst e3
   have HM:=hide hM
   have HM1:Hid (M≤1000):=by show M≤_;rw [←hM];exact HL1.out
   clear hM hr3 hb3 HSO HROW2 HB2
   generalize w2.heap.size=m2 at *
   go_wp2_with fail
   go_loopg [3,15] M (fun gh s3 s15 wx=>∃ i:Nat,i+gh=M∧s15=.int .i64 (i:Int)∧∃ a k c,s3=.slice a k c∧k=F.length+i∧CRW B n0 wx (.slice a k c) (F++L.take i)∧Below n0 w wx∧CRW B m2 wx (.slice ra M rc) L∧(∀ i,(Value.slice ra M rc).ownBlock=some i→(Value.slice a k c).ownBlock≠some i))
   case atStart=>exact ⟨0,by omega,rfl,a,k,c,rfl,by rw [HFK.out];rfl,by rw [List.take_zero,List.append_nil];exact HROW3.out,HB3.out,HR3.out,HNE.out⟩
   case round =>
    obtain ⟨i,hi,rfl,a,k,c,rfl,hk,hrow,hbl,hr,hne⟩:=hrel
    have HK:=hide hk
    have HROW:=hide hrow
    have HBL:=hide hbl
    have HR:=hide hr
    have HNQ:=hide hne
    have HBW:Hid (B≤wr.heap.size):=by show B≤_;have:=hbl.size;have:=HBB.out;have:=HN0.out;omega
    have HNW:Hid (n0≤wr.heap.size):=by show n0≤_;have:=hbl.size;have:=HN0.out;omega
    clear hk hrow hbl hr hne HROW3 HB3 HR3 HNE
    by_cases hin:i<M
    ·have xi:(i:Int)<(M:Int):=by omega
     obtain ⟨ch,hcj⟩:∃ c,L[i]?=some c:=⟨_,gE (by rw [HM.out];exact hin)⟩
     have HTK:Hid (F++L.take (i+1)=(F++L.take i)++[ch]):=by show _=_;rw [List.take_add_one,hcj,List.append_assoc];rfl
     obtain ⟨g,cap,x,e1,hx,hcell⟩:=HR.out.at aA0 hcj
     obtain ⟨xc,xk,xv⟩:=x
     have HXR:=hide hx
     obtain ⟨e2,⟨ka,kc,e3,hbk⟩,⟨va,vc,e4,hbv⟩⟩:=hx
     dsimp only at e2 e3 e4
     subst e2
     simp only [Value.slice.injEq] at e1
     obtain ⟨rfl,hml,rfl⟩:=e1
     clear hml
     have hM1:M≤1000:=HM1.out
     have c0:wr.cell? ⟨g,i*4,none⟩=some (.int .i64 xc.sp):=hcell 0 (by omega)
     have c1:wr.cell? ⟨g,i*4+1,none⟩=some xk:=hcell 1 (by omega)
     have c2:wr.cell? ⟨g,i*4+2,none⟩=some xv:=hcell 2 (by omega)
     have c3:wr.cell? ⟨g,i*4+3,none⟩=some (.bool xc.gone):=hcell 3 (by omega)
     obtain ⟨kn,hkn⟩:∃ kn,xc.key.length=kn:=⟨_,rfl⟩
     obtain ⟨vn,hvn⟩:∃ vn,xc.val.length=vn:=⟨_,rfl⟩
     rw [hkn] at e3
     rw [hvn] at e4
     subst e3 e4
     clear hcell hbk hbv hkn hvn
     obtain ⟨csp,hcsp⟩:∃ s,xc.sp=s:=⟨_,rfl⟩
     obtain ⟨cg,hcg⟩:∃ s,xc.gone=s:=⟨_,rfl⟩
     rw [hcsp] at c0
     rw [hcg] at c3
     have HCS:=hide hcsp
     have HCG:=hide hcg
     clear hcsp hcg
     have HBOX:Hid (Below wr.heap.size wr (wr.alloc (.cells #[.int .i64 csp,.slice ka kn kc,.slice va vn vc,.bool cg] 39))):=aAb wr _
     have HRB:Hid ((wr.alloc (.cells #[.int .i64 csp,.slice ka kn kc,.slice va vn vc,.bool cg] 39)).heap[wr.heap.size]?=some (.cells #[.int .i64 csp,.slice ka kn kc,.slice va vn vc,.bool cg] 39 (0,0))):=aAf [Obj.cells #[.int .i64 csp,.slice ka kn kc,.slice va vn vc,.bool cg] 39] wr 0 _ rfl
     have HX2:=hide (HXR.out.ft (FT.of HBOX.out HBW.out))
     have HROW2:=hide (HROW.out.later HBOX.out HBW.out)
     have HR2:=hide (HR.out.later HBOX.out HBW.out)
     have HB2:Hid (Below n0 w (wr.alloc (.cells #[.int .i64 csp,.slice ka kn kc,.slice va vn vc,.bool cg] 39))):=HBL.out.trans (HBOX.out.mono HNW.out)
     clear HXR HROW HBL HR
     go_upto_region 8 with fail
     clear c0 c1 c2 c3
     generalize (wr.alloc (.cells #[.int .i64 csp,.slice ka kn kc,.slice va vn vc,.bool cg] 39))=w2 at *
     have HSZ:Hid (wr.heap.size≤w2.heap.size):=HBOX.out.size
     have HBW2:Hid (B≤w2.heap.size):=by show B≤_;have:=HSZ.out;have:=HBW.out;omega
     have HN2:Hid (n0≤w2.heap.size):=by show n0≤_;have:=HSZ.out;have:=HNW.out;omega
     generalize hnb:wr.heap.size=nb at *
     have d0:w2.cell? ⟨nb,0,none⟩=some (.int .i64 csp):=aAa HRB.out
     have d1:w2.cell? ⟨nb,1,none⟩=some (.slice ka kn kc):=aAa HRB.out
     have d2:w2.cell? ⟨nb,2,none⟩=some (.slice va vn vc):=aAa HRB.out
     have d3:w2.cell? ⟨nb,3,none⟩=some (.bool cg):=aAa HRB.out
     have HCP:Hid (Calls Tryz.prog 55 #[.agg #[.int .i64 csp,.slice ka kn kc,.slice va vn vc,.bool cg]] w2 fun e w'=>∃ y,e=.returned (.agg (f4 y).toArray)∧EvC B w' y xc∧Below w2.heap.size w2 w'):=by
      have:=aDs HX2.out HBW2.out
      unfold f4 at this
      dsimp only at this
      rw [HCS.out,HCG.out] at this
      exact this
     go_wp2_with fail
     refine HCP.out.mono ?_
     rintro e w3 ⟨y,rfl,hy,hb3⟩
     obtain ⟨yc,yk,yv⟩:=y
     have HY:=hide hy
     obtain ⟨e2,⟨ka2,kc2,e3,_⟩,⟨va2,vc2,e4,_⟩⟩:=hy
     dsimp only at e2 e3 e4
     obtain ⟨kn2,hkn2⟩:∃ n,xc.key.length=n:=⟨_,rfl⟩
     obtain ⟨vn2,hvn2⟩:∃ n,xc.val.length=n:=⟨_,rfl⟩
     rw [hkn2] at e3
     rw [hvn2] at e4
     subst e2 e3 e4
     unfold f4
     dsimp only
     rw [HCS.out,HCG.out]
     have HBX3:=hide (aAb w3 (.cells #[.int .i64 csp,.slice ka2 kn2 kc2,.slice va2 vn2 vc2,.bool cg] 39))
     have HBW3:Hid (B≤w3.heap.size):=by show B≤_;have:=hb3.size;have:=HBW2.out;omega
     have HN3:Hid (n0≤w3.heap.size):=by show n0≤_;have:=hb3.size;have:=HN2.out;omega
     have HROW3:=hide ((HROW2.out.later hb3 HBW2.out).later HBX3.out HBW3.out)
     have HR3:=hide ((HR2.out.later hb3 HBW2.out).later HBX3.out HBW3.out)
     have HB3:Hid (Below n0 w w3):=HB2.out.trans (hb3.mono HN2.out)
     have HB4:Hid (Below n0 w (w3.alloc (.cells #[.int .i64 csp,.slice ka2 kn2 kc2,.slice va2 vn2 vc2,.bool cg] 39))):=HB3.out.trans (HBX3.out.mono HN3.out)
     have HRB3:Hid ((w3.alloc (.cells #[.int .i64 csp,.slice ka2 kn2 kc2,.slice va2 vn2 vc2,.bool cg] 39)).heap[w3.heap.size]?=some (.cells #[.int .i64 csp,.slice ka2 kn2 kc2,.slice va2 vn2 vc2,.bool cg] 39 (0,0))):=aAf [Obj.cells #[.int .i64 csp,.slice ka2 kn2 kc2,.slice va2 vn2 vc2,.bool cg] 39] w3 0 _ rfl
     have HYR:Hid (RvK 4 f4 B (w3.alloc (.cells #[.int .i64 csp,.slice ka2 kn2 kc2,.slice va2 vn2 vc2,.bool cg] 39)) (.slice (some ⟨w3.heap.size,0,none⟩) 1 1) [yc]):=by
      refine RvK.one (x:=(yc,.slice ka2 kn2 kc2,.slice va2 vn2 vc2)) aA0 (t:=39) (fz:=(0,0)) ?_ (HY.out.ft (FT.of HBX3.out HBW3.out))
      unfold f4
      dsimp only
      rw [HCS.out,HCG.out]
      exact HRB3.out
     have HKL:Hid ((F++L.take i).length=k):=by show _=_;rw [lA,List.length_take,HK.out,HM.out];omega
     clear hb3 hkn2 hvn2
     go_wp2_with (at_builtin;refine aBo (by rfl) (.tmp 19) (.tmp 22) rfl (v:=.slice a k c) (u:=.slice (some ⟨w3.heap.size,0,none⟩) 1 1) (F:=F++L.take i) (G:=[yc]) rfl rfl HROW3.out HYR.out HBB.out (by have:=HBX3.out.size;have:=HN3.out;omega) (by have:=HKL.out;have:=HK.out;have:=HFL.out;have:=HM1.out;show (F++L.take i).length+1≤_;omega) ?_;intro v6 w6 hr6 hf6 hk6 hb6 ho6;have HR6:=hide hr6;have HB6:=hide hb6;have HF6:=hide hf6;have HK6:=hide hk6;have HO6:=hide ho6;clear hr6 hf6 hk6 hb6 ho6)
     obtain ⟨a6,c6,e6⟩:=HR6.out.form
     rw [lA,HKL.out] at e6
     have e6:v6=.slice a6 (k+1) c6:=e6
     subst e6
     go_roundg (gk-1)
     case measure=>omega
     case rel =>
      refine ⟨i+1,by omega,rfl,a6,k+1,c6,rfl,by have:=HK.out;omega,?_,HB4.out.trans HB6.out,?_,?_⟩
      ·rw [HTK.out];exact HR6.out
      ·refine HR3.out.keep HF6.out fun q hq=>HK6.out q (HR3.out.blk hq).2.1 (HNQ.out q hq)
      ·intro q hq h6
       rcases HO6.out with e | e
       ·rw [e] at h6
        exact HNQ.out q hq h6
       ·rw [e] at h6
        have:=(HR3.out.blk hq).2.1
        simp only [oI] at h6
        omega
    ·have xi:¬ (i:Int)<(M:Int):=by omega
     have HE:Hid (F++L.take i=chgC cs (j+1)):=by show _=_;rw [HNX.out,List.take_of_length_le (by rw [HM.out];omega)]
     go_wp2
     go_roundg (16-(j+1))
     case measure=>omega
     case rel =>
      refine ⟨j+1,by omega,rfl,a,k,c,rfl,F++L.take i,?_,HE.out,HROW.out,HBL.out⟩
      rw [lA,List.length_take,HK.out,HM.out];omega
  ·have xj:¬ (j:Int)<16:=by omega
   have e16:j=16:=by omega
   have HE:Hid (F=chgC cs 16):=by show _=_;rw [HF.out,e16]
   clear e16
   go_wp2
   go_ret
   refine ⟨_,rfl,?_,HBL.out⟩
   rw [←HE.out]
   exact HROW.out
theorem enough_ok {m:Nat} {w:World} (hm:m≤1000):Calls Tryz.prog 46 #[.int .i64 1000,.int .i64 (m:Int)] w fun e w'=>e=.returned (.int .i64 (1000+(m:Int)))∧w'=w:=by
 have h1:(m:Int)≤1000:=by omega
 have h2:(0:Int)≤(m:Int):=by omega
 have h3:min (1000:Int) (9223372036854775807-(m:Int))=1000:=by omega
 have h4:(if 9223372036854775807-(m:Int)<1000 then 9223372036854775807-(m:Int) else 1000)=1000:=by rw [if_neg (by omega)]
 have h5:(if (1000:Int)<9223372036854775807-(m:Int) then 1000 else 9223372036854775807-(m:Int))=1000:=by rw [if_pos (by omega)]
 clear hm
 go_enter Tryz.func46,Tryz.ntmps46
 go_wp2
 go_ret
 exact ⟨rfl,rfl⟩
theorem rangeD_ok [Gd] {B p q g ls N c u db:Nat} {W w:World} {v:Value} {cs:List Ch} (hL:LS B p q g ls N c u [] W w) (h:DD B db ls v cs w) (hl:cs.length≤1000) {sp:Nat} (hsp:sp<16) :
  Calls Tryz.prog 15 #[.pointer (some ⟨db,0,none⟩),.int .i64 (sp:Int),.slice none 0 0,.slice none 0 0,.int .i64 1000] w fun e w'=>∃ v',e=.returned (.tuple #[v',.int .i64 0])∧PSW B w.heap.size w' v' (rngC cs sp [] [] 1000)∧Below w.heap.size w w':=by
 have lt:∀ {k:Nat} {o:Obj} {ww:World},ww.heap[k]?=some o→k<ww.heap.size:=fun e=>(lO e)
 have HBB:Hid (B≤w.heap.size):=by show B≤_;have:=h.hB;have:=h.bw;omega
 have HLA:=hide (last_ok (sp:=(sp:Int)) h (BK.nil B w) (BK.nil B w) hl)
 have HLL:Hid ((lastL (inR (sp:Int) [] []) cs).length≤1000):=by show _≤_;have:=aCy (inR (sp:Int) [] []) cs;omega
 have HRN:Hid (rngC cs sp [] [] 1000=laidF 1000 [] (lastL (inR (sp:Int) [] []) cs)):=rfl
 generalize lastL (inR (sp:Int) [] []) cs=L at *
 have HD:=hide h
 have HL:=hide hL
 have hs1:(sp:Int)<16:=by omega
 clear h hL hl hsp
 go_enter Tryz.func15,Tryz.ntmps15
 go_wp2_with fail
 refine HLA.out.mono ?_
 rintro e w2 ⟨b,n,D,rfl,hM,_,_,hb2⟩
 have HB2:=hide hb2
 have HM:=hide hM
 have HD2:=hide (HD.out.later hb2)
 have HCB:=hide HD2.out.blk
 have HBW2:Hid (B≤w2.heap.size):=by show B≤_;have:=hb2.size;have:=HBB.out;omega
 obtain ⟨M,hMs⟩:∃ M,Maps.size D=M:=⟨_,rfl⟩
 have HSZ:=hide hMs
 have HML:Hid (L.length=M):=by show _=_;rw [←hMs];exact hM.siz.symm
 have HM1:Hid (M≤1000):=by show _≤_;rw [←HML.out];exact HLL.out
 have hrg:rge (sp:Int) 0 0 (1000+(M:Int))=0:=by
  have e1:isSp (sp:Int)=true:=decide_eq_true ⟨by omega,by omega⟩
  unfold rge
  rw [e1,decide_eq_true (show (0:Int)≤1000+(M:Int) by omega)]
  rfl
 have HLD:=hide ((HL.out.later hb2).later (Below.refl _ w2).drew)
 have HEN:=hide (enough_ok (w:=w2.drew) HM1.out)
 have HRA:=hide (HLD.out.RangeE (BK.nil B w2.drew) (BK.nil B w2.drew) (sp:Int) (1000+(M:Int)))
 rw [hrg] at HRA
 have HX:Hid ((fun wx=>wx.cell? ⟨db,0,none⟩=some (.pointer (some ⟨ls,0,none⟩))∧∀ ty,(Builtin.len_ #[99] ty #[.map (some b)]).run Tryz.prog wx=.ok (.int .i64 (M:Int)) wx) w2.drew):=⟨aAa (show w2.drew.heap[db]?=_ from HCB.out),fun ty=>by rw [←HSZ.out];exact (hM.later (Below.refl _ w2).drew HBW2.out).own.len Tryz.underlying99 ty⟩
 clear hb2 hM hMs hrg HLA
 go_upto_region 2 with fail
 refine wp_region_noPanic ?_
 refine wp_region_held_drew (S:=fun wx=>wx.cell? ⟨db,0,none⟩=some (.pointer (some ⟨ls,0,none⟩))∧∀ ty,(Builtin.len_ #[99] ty #[.map (some b)]).run Tryz.prog wx=.ok (.int .i64 (M:Int)) wx) (by kernel_rfl) HX.out (fun hHeld=>?_)
 refine aAc (i:=0) (d:=25) (v:=?va0) (by kernel_rfl) (by kernel_rfl) (by kernel_rfl) (by kernel_rfl) (fun _ _ _ h=>h) ?hya0 (by assumption) ?resta0
 case hya0 =>
  intro oi ho
  simp only [List.getElem?_toArray,List.getElem?_cons_zero,oI] at ho
  subst ho
  refine Or.inl ⟨by rfl,?_⟩
  intro wx hSw
  try dsimp only at hSw
  obtain ⟨hs1,hs2⟩:=hSw
  go_simp
  try rfl
 try simp only [Act.put,siT,scZ,scS]
 refine aAc (i:=1) (d:=26) (v:=?va1) (by kernel_rfl) (by kernel_rfl) (by kernel_rfl) (by kernel_rfl) (fun _ _ _ h=>h) ?hya1 (by assumption) ?resta1
 case hya1 =>
  intro oi ho
  simp only [List.getElem?_toArray,List.getElem?_cons_succ,List.getElem?_cons_zero,oI] at ho
  subst ho
  refine Or.inl ⟨by rfl,?_⟩
  intro wx hSw
  try dsimp only at hSw
  obtain ⟨hs1,hs2⟩:=hSw
  go_simp
  try rfl
 try simp only [Act.put,siT,scZ,scS]
 refine aAc (i:=2) (d:=27) (v:=?va2) (by kernel_rfl) (by kernel_rfl) (by kernel_rfl) (by kernel_rfl) (fun _ _ _ h=>h) ?hya2 (by assumption) ?resta2
 case hya2 =>
  intro oi ho
  simp only [List.getElem?_toArray,List.getElem?_cons_succ,List.getElem?_cons_zero,oI] at ho
  subst ho
  refine Or.inl ⟨by rfl,?_⟩
  intro wx hSw
  try dsimp only at hSw
  obtain ⟨hs1,hs2⟩:=hSw
  go_simp
  try rfl
 try simp only [Act.put,siT,scZ,scS]
 refine aAc (i:=3) (d:=28) (v:=?va3) (by kernel_rfl) (by kernel_rfl) (by kernel_rfl) (by kernel_rfl) (fun _ _ _ h=>h) ?hya3 (by assumption) ?resta3
 case hya3 =>
  intro oi ho
  simp only [List.getElem?_toArray,List.getElem?_cons_succ,List.getElem?_cons_zero,oI] at ho
  subst ho
  refine Or.inl ⟨by rfl,?_⟩
  intro wx hSw
  try dsimp only at hSw
  obtain ⟨hs1,hs2⟩:=hSw
  go_simp
  try rfl
 try simp only [Act.put,siT,scZ,scS]
 refine aAc (i:=4) (d:=29) (v:=?va4) (by kernel_rfl) (by kernel_rfl) (by kernel_rfl) (by kernel_rfl) (fun _ _ _ h=>h) ?hya4 (by assumption) ?resta4
 case hya4 =>
  intro oi ho
  simp only [List.getElem?_toArray,List.getElem?_cons_succ,List.getElem?_cons_zero,oI] at ho
  subst ho
  refine Or.inl ⟨by rfl,?_⟩
  intro wx hSw
  try dsimp only at hSw
  obtain ⟨hs1,hs2⟩:=hSw
  go_simp
  try rfl
 try simp only [Act.put,siT,scZ,scS]
 refine aAc (i:=5) (d:=30) (v:=?va5) (by kernel_rfl) (by kernel_rfl) (by kernel_rfl) (by kernel_rfl) (fun _ _ _ h=>h) ?hya5 (by assumption) ?resta5
 case hya5 =>
  intro oi ho
  simp only [List.getElem?_toArray,List.getElem?_cons_succ,List.getElem?_cons_zero,oI] at ho
  subst ho
  refine Or.inl ⟨by rfl,?_⟩
  intro wx hSw
  try dsimp only at hSw
  obtain ⟨hs1,hs2⟩:=hSw
  go_simp
  try rfl
 try simp only [Act.put,siT,scZ,scS]
 refine aAc (i:=6) (d:=31) (v:=?va6) (by kernel_rfl) (by kernel_rfl) (by kernel_rfl) (by kernel_rfl) (fun _ _ _ h=>h) ?hya6 (by assumption) ?resta6
 case hya6 =>
  intro oi ho
  simp only [List.getElem?_toArray,List.getElem?_cons_succ,List.getElem?_cons_zero,oI] at ho
  subst ho
  refine Or.inl ⟨by rfl,?_⟩
  intro wx hSw
  try dsimp only at hSw
  obtain ⟨hs1,hs2⟩:=hSw
  go_simp
  try rfl
 try simp only [Act.put,siT,scZ,scS]
 refine aAc (i:=7) (d:=32) (v:=?va7) (by kernel_rfl) (by kernel_rfl) (by kernel_rfl) (by kernel_rfl) (fun _ _ _ h=>h) ?hya7 (by assumption) ?resta7
 case hya7 =>
  intro oi ho
  simp only [List.getElem?_toArray,List.getElem?_cons_succ,List.getElem?_cons_zero,oI] at ho
  subst ho
  refine Or.inl ⟨by rfl,?_⟩
  intro wx hSw
  try dsimp only at hSw
  obtain ⟨hs1,hs2⟩:=hSw
  go_simp
  try rfl
 try simp only [Act.put,siT,scZ,scS]
 refine aAc (i:=8) (d:=33) (v:=?va8) (by kernel_rfl) (by kernel_rfl) (by kernel_rfl) (by kernel_rfl) (fun _ _ _ h=>h) ?hya8 (by assumption) ?resta8
 case hya8 =>
  intro oi ho
  simp only [List.getElem?_toArray,List.getElem?_cons_succ,List.getElem?_cons_zero,oI] at ho
  subst ho
  refine Or.inl ⟨by rfl,?_⟩
  intro wx hSw
  try dsimp only at hSw
  obtain ⟨hs1,hs2⟩:=hSw
  go_simp
  try rfl
 try simp only [Act.put,siT,scZ,scS]
 refine aAc (i:=9) (d:=34) (v:=?va9) (by kernel_rfl) (by kernel_rfl) (by kernel_rfl) (by kernel_rfl) (fun _ _ _ h=>h) ?hya9 (by assumption) ?resta9
 case hya9 =>
  intro oi ho
  simp only [List.getElem?_toArray,List.getElem?_cons_succ,List.getElem?_cons_zero,oI] at ho
  subst ho
  refine Or.inl ⟨by rfl,?_⟩
  intro wx hSw
  try dsimp only at hSw
  obtain ⟨hs1,hs2⟩:=hSw
  go_simp
  try rfl
 try simp only [Act.put,siT,scZ,scS]
 refine wpAnyH_cm 10 ?_;intro K hK
 go_simp
 refine HEN.out.mono ?_
 rintro e w3 ⟨rfl,hw3⟩
 subst hw3
 refine hK.out _ _ HX.out (fun hHeld=>?_)
 clear hK K
 try simp only [Act.put,siT,scZ,scS]
 refine wpAnyH_cm 11 ?_;intro K hK
 go_simp
 refine HRA.out.mono ?_
 rintro e w4 ⟨rfl,hb4⟩
 have hb4:Below w2.heap.size w2 w4:=⟨hb4.os,hb4.tape,hb4.output,hb4.size,hb4.block⟩
 have HM4:=hide (HM.out.later hb4 HBW2.out)
 have HB4:Hid (Below w.heap.size w w4):=HB2.out.trans (hb4.mono HB2.out.size)
 have HBW4:Hid (B≤w4.heap.size):=by show B≤_;have:=hb4.size;have:=HBW2.out;omega
 clear hHeld
 have HX4:Hid ((fun wx=>True) w4):=trivial
 refine hK.out _ _ ?_ (fun hHeld=>?_)
 ·exact ⟨(hb4.cell (lt HCB.out)).trans HX.out.1,fun ty=>by rw [←HSZ.out];exact HM4.out.own.len Tryz.underlying99 ty⟩
 clear hK K
 try simp only [Act.put,siT,scZ,scS]
 refine wpAnyH_tk 12 24 ?_
 refine wpAnyH_tk 13 37 ?_
 refine wpAnyH_tk 14 38 ?_
 refine wpAnyH_tk 15 13 ?_
 refine wpAnyH_tk 16 14 ?_
 refine wpAnyH_done (by kernel_rfl) ?_ _
 refine NoPanic.normal ?_
 clear HX HEN HRA
 go_wp2_with fail
 go_loopg [44] 0 (fun gh s44 wx=>s44=.int .i64 0∧wx=w4)
 case atStart=>exact ⟨rfl,rfl⟩
 case round =>
  obtain ⟨rfl,hw⟩:=hrel
  have hw:=hw.symm
  subst hw
  have HSO:=hide (sorted_ok HM4.out HBW4.out HLL.out)
  go_wp2_with fail
  refine HSO.out.mono ?_
  rintro e w5 ⟨v5,rfl,hr5,hb5⟩
  have HB5:Hid (Below w.heap.size w w5):=HB4.out.trans (hb5.mono HB4.out.size)
  have HFL:=hide (firstLaid_ok (most:=1000) hr5 (by have:=hb5.size;have:=HBW4.out;omega) HLL.out)
  have HS5:Hid (w.heap.size≤w5.heap.size):=HB5.out.size
  clear hr5 hb5 HSO
  go_wp2_with fail
  refine HFL.out.mono ?_
  rintro e w6 ⟨v6,rfl,hr6,hb6⟩
  have HR6:=hide hr6
  have HB6:Hid (Below w.heap.size w w6):=HB5.out.trans (hb6.mono HS5.out)
  clear hr6 hb6 HFL
  go_wp2
  go_ret2
  refine ⟨v6,rfl,?_,HB6.out⟩
  rw [HRN.out]
  exact HR6.out.mono fun i hi=>by have:=(HR6.out.blk hi).1;have:=HS5.out;omega
theorem zeroC_len (K:Nat):(Builtin.zeroCells (Value.agg #[.int .i64 0,.slice none 0 0,.slice none 0 0,.bool false]).cells K).toList.length=K*4:=by
 rw [Array.length_toList,size_zeroCells];rfl
theorem zeroC_one (K:Nat):∀ u∈(Builtin.zeroCells (Value.agg #[.int .i64 0,.slice none 0 0,.slice none 0 0,.bool false]).cells K).toList,u.oneCell'=true:=by
 intro u hu
 simp only [Builtin.zeroCells,Array.toList_map,List.mem_map] at hu
 obtain ⟨i,_,rfl⟩:=hu
 show ((Value.agg #[.int .i64 0,.slice none 0 0,.slice none 0 0,.bool false]).cells[i % 4]!).oneCell'=true
 rcases (by omega:i % 4=0∨i % 4=1∨i % 4=2∨i % 4=3) with h | h | h | h<;>rw [h]<;>rfl
theorem aD1 {w:World} {g o c K:Nat} {ty:TypeId} {cur:Array Value} (hg:w.heap[g]?=some (.cells cur 39 (0,0))) (hl:o+K*4≤cur.size) (hK:0<K) :
  ∃ zs:List Value,zs.length=K*4∧(Builtin.clear_ #[32] ty #[.slice (some ⟨g,o,none⟩) K c]).run Tryz.prog w=.ok (.tuple #[]) (w.setRow g (cur.toList.take o++zs++cur.toList.drop (o+K*4)).toArray):=by
 obtain ⟨zs,hzs⟩:∃ zs,zs=(Builtin.zeroCells (Value.agg #[.int .i64 0,.slice none 0 0,.slice none 0 0,.bool false]).cells K).toList:=⟨_,rfl⟩
 have hzl:zs.length=K*4:=by rw [hzs];exact zeroC_len K
 have hst:=run_storeCells_at Tryz.prog g o 39 zs 0 cur w hg (by rw [hzl];omega) (by rw [hzs];exact zeroC_one K)
 obtain ⟨i0,hi0,hz0,hz1,hz2⟩:=info_parts aCz
 have hz:(zeroValue 39).run Tryz.prog w=.ok (.agg #[.int .i64 0,.slice none 0 0,.slice none 0 0,.bool false]) w:=by
  simp [zeroValue,typeInfo,hi0,hz0]
 refine ⟨zs,hzl,?_⟩
 rw [hzl] at hst
 simp only [Nat.add_zero] at hst
 obtain ⟨k,rfl⟩:∃ k,K=k+1:=⟨K-1,by omega⟩
 simp [Builtin.clear_,run_underlying Tryz.underlying32,hz,←hzs,hst]
theorem cdel_ok {w:World} {g L C i:Nat} {cs:List Value} (hg:w.heap[g]?=some (.cells cs.toArray 39 (0,0))) (hl:cs.length=C*4) (hL:L≤C) (hC:C≤9223372036854775807) (hi:i<L) :
  Calls Tryz.prog 51 #[.slice (some ⟨g,0,none⟩) L C,.int .i64 (i:Int),.int .i64 (L:Int)] w fun e w'=>e=.returned (.slice (some ⟨g,0,none⟩) i C)∧(∃ row:List Value,row.length=C*4∧row.take (i*4)=cs.take (i*4)∧w'.heap[g]?=some (.cells row.toArray 39 (0,0)))∧(∀ k,k≠g→w'.heap[k]?=w.heap[k]?)∧∀ B,B≤g→Below B w w':=by
 obtain ⟨i0,hi0,hz0,hz1,hz2⟩:=info_parts aCz
 obtain ⟨A,hA⟩:∃ A:Addr,(if C=L then some (⟨g,0,none⟩:Addr) else some ⟨g,L*4,none⟩)=some A:=by
  by_cases h:C=L
  ·exact ⟨_,by rw [if_pos h]⟩
  ·exact ⟨_,by rw [if_neg h]⟩
 obtain ⟨news,hnews⟩:∃ news:List Value,news=[]:=⟨_,rfl⟩
 have hsrc:Hid (∀ t u,news[t]?=some u→w.drew.cell? (A.add t)=some u):=fun t u hu=>by rw [hnews] at hu;simp at hu
 have s1:Hid (news.length=0*4):=by rw [hnews];rfl
 have s2:Hid (∀ u∈news,u.oneCell'=true):=fun u hu=>by rw [hnews] at hu;simp at hu
 have s3:Hid (∀ t,t<news.length→(w.drew.cell? ⟨g,0+i*4+t,none⟩).isSome=true∧w.drew.frozen? ⟨g,0+i*4+t,none⟩=false):=fun t ht=>by rw [hnews] at ht;simp at ht
 have hW1':=setCells_row (w:=w.drew) (o:=0+i*4) (vs:=news) hg (by rw [hnews];simp;omega) s2.out
 obtain ⟨W1,hW1⟩:∃ W1,W1=w.drew.setCells g (0+i*4) news:=⟨_,rfl⟩
 rw [←hW1] at hW1'
 have hW2:W1=w.drew:=by
  rw [hW1',hnews]
  simp only [List.append_nil,List.length_nil,Nat.add_zero,List.take_append_drop]
  exact setRow_self w.drew g _ _ (0,0) hg
 have hh1:W1.heap[g]?=some (.cells cs.toArray 39 (0,0)):=by rw [hW2];exact hg
 obtain ⟨K,hK⟩:∃ K,K=L-i:=⟨_,rfl⟩
 obtain ⟨zs,hzl,hcl0⟩:=aD1 (ty:=0) (c:=C-i) (o:=i*4) (K:=K) hh1 (by rw [hK];simp [hl];omega) (by omega)
 have hcl:∀ ty,(Builtin.clear_ #[32] ty #[.slice (some ⟨g,i*4,none⟩) K (C-i)]).run Tryz.prog W1=.ok (.tuple #[]) (W1.setRow g (cs.toArray.toList.take (i*4)++zs++cs.toArray.toList.drop (i*4+K*4)).toArray):=fun ty=>hcl0
 clear hcl0
 obtain ⟨row,hrow⟩:∃ row,row=cs.toArray.toList.take (i*4)++zs++cs.toArray.toList.drop (i*4+K*4):=⟨_,rfl⟩
 rw [←hrow] at hcl
 have HPO:Hid ((∃ row:List Value,row.length=C*4∧row.take (i*4)=cs.take (i*4)∧(W1.setRow g row.toArray).heap[g]?=some (.cells row.toArray 39 (0,0)))∧True):=⟨⟨row,by rw [hrow];simp [hzl,hl];omega,by rw [hrow,List.append_assoc,List.take_left' (by simp [hl];omega)],setRow_at hh1⟩,trivial⟩
 have HP1:Hid (row.length=C*4):=by show _=_;rw [hrow];simp [hzl,hl];omega
 have HP2:Hid (row.take (i*4)=cs.take (i*4)):=by show _=_;rw [hrow,List.append_assoc,List.take_left' (by simp [hl];omega)]
 have HP3:Hid ((W1.setRow g row.toArray).heap[g]?=some (.cells row.toArray 39 (0,0))):=setRow_at hh1
 have HP4:Hid (∀ k,k≠g→(W1.setRow g row.toArray).heap[k]?=w.heap[k]?):=fun k hk=>by rw [setRow_other W1 g k _ hk,hW2];rfl
 have HP5:Hid (∀ B,B≤g→Below B w (W1.setRow g row.toArray)):=fun B hB=>by
  refine below_setRow ?_ hB _
  rw [hW2]
  exact (Below.refl B w).drew
 have hW:Hid (W1=w.drew.setCells g (0+i*4) news):=hW1
 have k0:(0:Int)≤(i:Int):=by omega
 have k1:(i:Int)≤(L:Int):=by omega
 have k2:(L:Int)≤(C:Int):=by omega
 have k3:(i:Int)≤(C:Int):=by omega
 have k4:¬ (i:Int)=(L:Int):=by omega
 have k4':((i:Int) == (L:Int))=false:=by rw [beq_eq_false_iff_ne];exact k4
 have k5:¬ C=i:=by omega
 have k6:i≤L:=by omega
 have k8:¬ L=i:=by omega
 have k9:¬ i=L:=by omega
 have k10:(0:Int)≤(L:Int):=by omega
 have k11:(L:Int)≤(L:Int):=by omega
 have k12:¬ (i:Int)<0:=by omega
 have k13:¬ (L:Int)<(i:Int):=by omega
 have k14:¬ (C:Int)<(L:Int):=by omega
 have k7:i≤C:=by omega
 have hKL:L-i=K:=hK.symm
 have hLL:L-L=0:=by omega
 have hi0':i+0=i:=rfl
 clear hW1 hW1' hW2 hh1 hg hnews hl HPO hrow hzl hK
 go_enter Tryz.func51,Tryz.ntmps51
 go_wp2_with fail
 go_region_law (refine step_append_room rfl (.tmp 22) (.tmp 25) 32 rfl 39 i0 4 Tryz.underlying32 hi0 hz1 g 0 i C (by simp [Act.eval,Act.put]) A 0 (C-L) news (by simp [Act.eval,Act.put]) s1.out hsrc.out s2.out (by omega) s3.out ?_;rw [←hW.out])
 go_wp2
 go_ret
 exact ⟨rfl,⟨row,HP1.out,HP2.out,HP3.out⟩,HP4.out,HP5.out⟩
theorem cdel_same {w:World} {a:Option Addr} {L C:Nat} (hL:L≤C) (hC:C≤9223372036854775807) (ha:a=none→L=0∧C=0) :
  Calls Tryz.prog 51 #[.slice a L C,.int .i64 (L:Int),.int .i64 (L:Int)] w fun e w'=>e=.returned (.slice a L C)∧w'=w:=by
 have k0:(0:Int)≤(L:Int):=by omega
 have k2:(L:Int)≤(C:Int):=by omega
 cases a with
 | none =>
  obtain ⟨rfl,rfl⟩:=ha rfl
  go_enter Tryz.func51,Tryz.ntmps51
  go_wp2
  go_ret
  exact ⟨rfl,rfl⟩
 | some A =>
  clear ha
  go_enter Tryz.func51,Tryz.ntmps51
  go_wp2
  go_ret
  exact ⟨rfl,rfl⟩
theorem rC_take (f:CE→List Value) (hf:∀ x,(f x).length=4):∀ (kv:List CE) (m:Nat),(rC f kv).take (m*4)=rC f (kv.take m)
 | [],m=>by simp [rC]
 | x::kv,0=>by simp [rC]
 | x::kv,m+1=>by
  show (f x++rC f kv).take ((m+1)*4)=f x++rC f (kv.take m)
  have e:(m+1)*4=(f x).length+m*4:=by rw [hf];omega
  rw [e,List.take_length_add_append,rC_take f hf kv m]
theorem delRow_ok {B B1 m:Nat} {w:World} {v:Value} {cs:List Ch} (h:CRW B B1 w v cs) (hB:B≤B1) (hm:m≤cs.length) :
  Calls Tryz.prog 51 #[v,.int .i64 (m:Int),.int .i64 (cs.length:Int)] w fun e w'=>∃ v',e=.returned v'∧CRW B B1 w' v' (cs.take m)∧FT B w w'∧(∀ i,v.ownBlock≠some i→w'.heap[i]?=w.heap[i]?)∧v'.ownBlock=v.ownBlock∧Below B1 w w':=by
 have h0:=h
 obtain ⟨kv,hkl,⟨hxl,hor⟩,hev⟩:=h
 rcases hor with ⟨e,hn⟩ | ⟨g,cap,cur,e,hg1,hg,hnc,hcm,hsz,htk⟩
 ·have e0:cs=[]:=List.eq_nil_of_length_eq_zero hn
  subst e0
  have em:m=0:=by simpa using hm
  subst em e
  refine (cdel_same (w:=w) (a:=none) (L:=0) (C:=0) (by omega) (by omega) (fun _=>⟨rfl,rfl⟩)).mono ?_
  rintro e w' ⟨rfl,rfl⟩
  exact ⟨_,rfl,by simpa using h0,FT.refl _ _,fun _ _=>rfl,rfl,Below.refl _ _⟩
 ·subst e
  have hcm':cap≤9223372036854775807:=by unfold maxLen at hcm;omega
  by_cases hml:m=cs.length
  ·subst hml
   refine (cdel_same (w:=w) (a:=some ⟨g,0,none⟩) hnc hcm' (fun e=>by cases e)).mono ?_
   rintro e w' ⟨rfl,rfl⟩
   exact ⟨_,rfl,by rw [List.take_length];exact h0,FT.refl _ _,fun _ _=>rfl,rfl,Below.refl _ _⟩
  ·have hg':w.heap[g]?=some (.cells cur.toList.toArray 39 (0,0)):=by simpa using hg
   refine (cdel_ok (i:=m) hg' (by simpa using hsz) hnc hcm' (by omega)).mono ?_
   rintro e w' ⟨rfl,⟨row,hrl,hrt,hrg⟩,hoth,hbel⟩
   have hft:FT B w w':=⟨hbel B (by omega),fun i c0 fz e=>by
    by_cases q:i=g
    ·subst q
     rw [hg] at e
     simp only [oI,cI] at e
     exact absurd e.2.1 (by decide)
    ·rw [hoth i q];exact e⟩
   refine ⟨_,rfl,⟨kv.take m,by rw [List.length_take,List.length_take];omega,⟨?_,Or.inr ⟨g,cap,row.toArray,?_,hg1,hrg,?_,hcm,by simpa using hrl,?_⟩⟩,fun i c x h1 h2=>?_⟩,hft,fun i hi=>hoth i (fun q=>hi (by rw [q];rfl)),rfl,hbel B1 hg1⟩
   ·rw [rC_len aA0,List.length_take,List.length_take,hkl]
   ·rw [List.length_take,Nat.min_eq_left hm]
   ·rw [List.length_take];omega
   ·rw [List.length_take,Nat.min_eq_left hm,List.toList_toArray,hrt,←rC_take f4 aA0,←htk,List.take_take,Nat.min_eq_left (by omega)]
   ·rw [List.getElem?_take] at h1 h2
    split at h1
    ·rename_i q
     rw [if_pos q] at h2
     exact (hev i c x h1 h2).ft hft
    ·cases h1
theorem back_ok {B db ls m:Nat} {v:Value} {cs:List Ch} {w:World} (h:DD B db ls v cs w) (hl:cs.length≤1000) (hm:m≤cs.length) :
  Calls Tryz.prog 19 #[.pointer (some ⟨db,0,none⟩),.int .i64 (m:Int)] w fun e w'=>∃ v',e=.returned (.int .i64 0)∧DD B db ls v' (cs.take m) w'∧DFr B db v w v' w':=by
 obtain ⟨ra,rc,e⟩:=h.slice
 obtain ⟨N,hN⟩:∃ N,cs.length=N:=⟨_,rfl⟩
 have HBW:Hid (B≤w.heap.size):=by show B≤_;have:=h.hB;have:=h.bw;omega
 have HDL:=hide (delRow_ok (h.row.later (w':=w.drew) (Below.refl _ _).drew HBW.out) (by have:=h.hB;omega) hm)
 rw [hN] at HDL e hl hm
 subst e
 have HBL:=hide h.blk
 have HDB:=hide h.hB
 have HND:Hid ((Value.slice ra N rc).ownBlock≠some db):=fun e=>by have:=(h.row.blk e).1;omega
 have HFD:Hid (FT B w w.drew):=FT.of (Below.refl _ _).drew HBW.out
 have HX:Hid ((fun wx:World=>True) w.drew):=trivial
 have c1:w.cell? ⟨db,1,none⟩=some (.slice ra N rc):=aAa h.blk
 have m0:¬ (m:Int)<0:=by omega
 have m1:¬ (N:Int)<(m:Int):=by omega
 have m2:decide ((m:Int)<0)=false:=decide_eq_false m0
 clear h hN
 go_enter Tryz.func19,Tryz.ntmps19
 go_wp2_with fail
 clear c1
 refine wp_region_noPanic ?_
 refine wp_region_held_drew (S:=fun wx=>True) (by kernel_rfl) HX.out (fun hHeld=>?_)
 refine wpAnyH_tk 0 16 ?_
 refine wpAnyH_tk 1 17 ?_
 refine wpAnyH_tk 2 18 ?_
 refine wpAnyH_tk 3 19 ?_
 refine wpAnyH_tk 5 21 ?_
 refine wpAnyH_tk 6 22 ?_
 refine wpAnyH_tk 7 23 ?_
 refine wpAnyH_tk 8 24 ?_
 have c2:w.drew.cell? ⟨db,1,none⟩=some (.slice ra N rc):=aAa (show w.drew.heap[db]?=_ from HBL.out)
 have c2':w.cell? ⟨db,1,none⟩=some (.slice ra N rc):=c2
 refine aAs (i:=4) (j:=9) (by kernel_rfl) (by kernel_rfl) (by kernel_rfl) ?ba ?bb
 case ba =>
  intro o ho K hK
  simp only [List.getElem?_toArray,List.getElem?_cons_succ,List.getElem?_cons_zero,oI] at ho
  subst ho
  go_simp
  clear hHeld
  refine hK.out _ _ trivial (fun hHeld=>?_)
  clear hK K
  try simp only [Act.put,siT,scZ,scS]
  refine wpAnyH_cm 9 ?_;intro K hK
  go_simp
  clear hHeld
  refine hK.out _ _ trivial (fun hHeld=>?_)
  clear hK K
  try simp only [Act.put,siT,scZ,scS]
  clear c2 c2'
  refine wpAnyH_tk 10 26 ?_
  refine wpAnyH_cm 11 ?_;intro K hK
  go_simp
  refine HDL.out.mono ?_
  rintro e w3 ⟨v3,rfl,hr3,hf3,hk3,ho3,hb3⟩
  have HR3:=hide hr3
  have HF3:=hide hf3
  have HK3:=hide hk3
  have HO3:=hide ho3
  have HB3:=hide hb3
  have HT3:Hid (w3.heap[db]?=some (.cells #[.pointer (some ⟨ls,0,none⟩),.slice ra N rc] 102 (0,0))):=(hk3 db HND.out).trans HBL.out
  obtain ⟨a5,p5,hv5⟩:=hr3.form
  obtain ⟨m5,hm5⟩:∃ m5,(cs.take m).length=m5:=⟨_,rfl⟩
  rw [hm5] at hv5
  subst hv5
  clear hr3 hf3 hk3 ho3 hb3 hm5 hHeld
  refine hK.out _ _ trivial (fun hHeld=>?_)
  clear hK K
  try simp only [Act.put,siT,scZ,scS]
  refine wpAnyH_tk 12 28 ?_
  refine wpAnyH_tk 13 29 ?_
  have y1:w3.cell? ⟨db,1,none⟩=some (.slice ra N rc):=aAa HT3.out
  have yf1:w3.frozen? ⟨db,1,none⟩=false:=aAd HT3.out
  refine wpAnyH_cm 14 ?_;intro K hK
  go_simp
  have HT6:Hid ((w3.setCell ⟨db,1,none⟩ (.slice a5 m5 p5)).heap[db]?=some (.cells #[.pointer (some ⟨ls,0,none⟩),.slice a5 m5 p5] 102 (0,0))):=heap_setCell_same _ _ _ _ _ _ HT3.out
  clear hHeld
  refine hK.out _ _ trivial (fun hHeld=>?_)
  clear hK K
  try simp only [Act.put,siT,scZ,scS]
  refine wpAnyH_done (by kernel_rfl) ?_ _
  refine NoPanic.normal ?_
  go_wp2
  go_ret
  have hf6:FT B w3 (w3.setCell ⟨db,1,none⟩ (.slice a5 m5 p5)):=ft1 HT3.out (by decide) HDB.out
  refine ⟨.slice a5 m5 p5,rfl,⟨HT6.out,HR3.out.keep hf6 (fun i hi=>heap_setCell_other _ _ _ _ (by
   show i≠db
   have:=(HR3.out.blk hi).1
   omega)),HDB.out⟩,⟨(HFD.out.trans HF3.out).trans hf6,fun i hi h1 h2=>?_,fun i hi=>?_⟩⟩
  ·rw [heap_setCell_other _ _ _ _ (show i≠db from h1),HK3.out i h2]
   rfl
  ·rw [HO3.out] at hi
   exact Or.inl hi
 case bb =>
  intro o ho K hK
  simp only [List.getElem?_toArray,List.getElem?_cons_succ,List.getElem?_cons_zero,oI] at ho
  subst ho
  go_simp
  clear hHeld
  refine hK.out _ _ trivial (fun hHeld=>?_)
  clear hK K
  try simp only [Act.put,siT,scZ,scS]
  refine wpAnyH_tk 10 26 ?_
  refine wpAnyH_cm 4 ?_;intro K hK
  go_simp
  clear hHeld
  refine hK.out _ _ trivial (fun hHeld=>?_)
  clear hK K
  try simp only [Act.put,siT,scZ,scS]
  clear c2 c2'
  refine wpAnyH_cm 11 ?_;intro K hK
  go_simp
  refine HDL.out.mono ?_
  rintro e w3 ⟨v3,rfl,hr3,hf3,hk3,ho3,hb3⟩
  have HR3:=hide hr3
  have HF3:=hide hf3
  have HK3:=hide hk3
  have HO3:=hide ho3
  have HB3:=hide hb3
  have HT3:Hid (w3.heap[db]?=some (.cells #[.pointer (some ⟨ls,0,none⟩),.slice ra N rc] 102 (0,0))):=(hk3 db HND.out).trans HBL.out
  obtain ⟨a5,p5,hv5⟩:=hr3.form
  obtain ⟨m5,hm5⟩:∃ m5,(cs.take m).length=m5:=⟨_,rfl⟩
  rw [hm5] at hv5
  subst hv5
  clear hr3 hf3 hk3 ho3 hb3 hm5 hHeld
  refine hK.out _ _ trivial (fun hHeld=>?_)
  clear hK K
  try simp only [Act.put,siT,scZ,scS]
  refine wpAnyH_tk 12 28 ?_
  refine wpAnyH_tk 13 29 ?_
  have y1:w3.cell? ⟨db,1,none⟩=some (.slice ra N rc):=aAa HT3.out
  have yf1:w3.frozen? ⟨db,1,none⟩=false:=aAd HT3.out
  refine wpAnyH_cm 14 ?_;intro K hK
  go_simp
  have HT6:Hid ((w3.setCell ⟨db,1,none⟩ (.slice a5 m5 p5)).heap[db]?=some (.cells #[.pointer (some ⟨ls,0,none⟩),.slice a5 m5 p5] 102 (0,0))):=heap_setCell_same _ _ _ _ _ _ HT3.out
  clear hHeld
  refine hK.out _ _ trivial (fun hHeld=>?_)
  clear hK K
  try simp only [Act.put,siT,scZ,scS]
  refine wpAnyH_done (by kernel_rfl) ?_ _
  refine NoPanic.normal ?_
  go_wp2
  go_ret
  have hf6:FT B w3 (w3.setCell ⟨db,1,none⟩ (.slice a5 m5 p5)):=ft1 HT3.out (by decide) HDB.out
  refine ⟨.slice a5 m5 p5,rfl,⟨HT6.out,HR3.out.keep hf6 (fun i hi=>heap_setCell_other _ _ _ _ (by
   show i≠db
   have:=(HR3.out.blk hi).1
   omega)),HDB.out⟩,⟨(HFD.out.trans HF3.out).trans hf6,fun i hi h1 h2=>?_,fun i hi=>?_⟩⟩
  ·rw [heap_setCell_other _ _ _ _ (show i≠db from h1),HK3.out i h2]
   rfl
  ·rw [HO3.out] at hi
   exact Or.inl hi
theorem all_ok [Gd] {B p q g ls N c u db:Nat} {W w:World} {v:Value} {cs:List Ch} (hL:LS B p q g ls N c u [] W w) (h:DD B db ls v cs w) (hl:cs.length≤1000) :
  Calls Tryz.prog 31 #[.pointer (some ⟨db,0,none⟩)] w fun e w'=>∃ v',e=.returned v'∧PSW B w.heap.size w' v' (allC cs 16)∧Below w.heap.size w w':=by
 have HD:=hide h
 have HS:=hide hL
 have HL:=hide hl
 have HBB:Hid (B≤w.heap.size):=by show B≤_;have:=h.hB;have:=h.bw;omega
 clear h hL hl
 obtain ⟨n0,hn0⟩:∃ n0,w.heap.size=n0:=⟨_,rfl⟩
 have HN0:=hide hn0
 rw [hn0] at HBB ⊢
 clear hn0
 go_enter Tryz.func31,Tryz.ntmps31
 go_wp2_with fail
 go_loopg [3,4] 16 (fun gh s3 s4 wx=>∃ j:Nat,j+gh=16∧s4=.int .i64 (j:Int)∧∃ a k c,s3=.slice a k c∧∃ F:List Ch,F.length=k∧F=allC cs j∧PSW B n0 wx (.slice a k c) F∧Below n0 w wx)
 case atStart=>exact ⟨0,by omega,rfl,none,0,0,rfl,[],rfl,rfl,RwK.nil _ _ _ _ _ _,Below.refl _ _⟩
 case round =>
  obtain ⟨j,hj,rfl,a,k,c2,rfl,F,hFk,hF,hrow,hbl⟩:=hrel
  have HF:=hide hF
  have HFK:=hide hFk
  have HROW:=hide hrow
  have HBL:=hide hbl
  have HFL:Hid (F.length≤16000):=by
   show _≤_
   rw [hF]
   have h1:=all_len cs j
   have h2:=HL.out
   have h3:j*cs.length≤16*1000:=Nat.mul_le_mul (by omega) h2
   omega
  clear hFk hF hrow hbl
  by_cases hjn:j<16
  ·have xj:(j:Int)<16:=by omega
   have hbw:Below w.heap.size w wr:=by rw [HN0.out];exact HBL.out
   have HRA:=hide (rangeD_ok (HS.out.later hbw) (HD.out.later hbw) HL.out hjn)
   have HBW:Hid (B≤wr.heap.size):=by show B≤_;have:=HBL.out.size;have:=HBB.out;have:=HN0.out;omega
   have HNW:Hid (n0≤wr.heap.size):=by show n0≤_;have:=HBL.out.size;have:=HN0.out;omega
   have HNX:Hid (allC cs (j+1)=F++rngC cs (j:Int) [] [] 1000):=by show _=_;rw [HF.out];rfl
   have HRL:Hid ((rngC cs (j:Int) [] [] 1000).length≤1000):=by show _≤_;have:=rng_len cs (j:Int) [] [] 1000;have:=HL.out;omega
   generalize rngC cs (j:Int) [] [] 1000=G at *
   clear hbw
   go_wp2_with fail
   refine HRA.out.mono ?_
   rintro e w2 ⟨v2,rfl,hr2,hb2⟩
   have HR2:=hide (hr2.rv f3_len)
   have HROW2:=hide (HROW.out.later hb2 HBW.out)
   have HB2:Hid (Below n0 w w2):=HBL.out.trans (hb2.mono HNW.out)
   have HN2:Hid (n0≤w2.heap.size):=by show n0≤_;have:=hb2.size;have:=HNW.out;omega
   clear hr2 hb2 HRA
   go_wp2_with (at_builtin;refine aBn (by rfl) (.tmp 17) (.tmp 18) rfl (v:=.slice a k c2) (u:=v2) (F:=F) (G:=G) rfl rfl HROW2.out HR2.out HBB.out HN2.out (by have:=HFL.out;have:=HRL.out;omega) ?_;intro v6 w6 hr6 hf6 hk6 hb6 ho6;have HR6:=hide hr6;have HB6:=hide hb6;clear hr6 hf6 hk6 hb6 ho6)
   obtain ⟨a6,c6,e6⟩:=HR6.out.form
   obtain ⟨k6,hk6⟩:∃ k6,(F++G).length=k6:=⟨_,rfl⟩
   rw [hk6] at e6
   subst e6
   have HK6:=hide hk6
   clear hk6
   go_roundg (gk-1)
   case measure=>omega
   case rel=>exact ⟨j+1,by omega,rfl,a6,k6,c6,rfl,F++G,HK6.out,HNX.out.symm,HR6.out,HB2.out.trans HB6.out⟩
  ·have xj:¬ (j:Int)<16:=by omega
   have e16:j=16:=by omega
   have HE:Hid (F=allC cs 16):=by show _=_;rw [HF.out,e16]
   clear e16
   go_wp2
   go_ret
   refine ⟨_,rfl,?_,HBL.out⟩
   rw [←HE.out]
   exact HROW.out
theorem bk_cst {B g:Nat} {w:World} {x:Nat} {fz:Nat×Nat} (h:w.heap[g]?=some (.cells #[.int .u8 (x:Int)] 5 fz)) (hx:x<256):BK B w (some ⟨g,0,none⟩) 1 1 [x]:=by
 refine ⟨BS.of rfl (by omega) (by omega) (by omega) (by simpa using hx) ?_,fun y hy=>?_⟩
 ·intro i hi
  obtain rfl:i=0:=by omega
  rw [cell_of_row w g _ _ _ _ h]
  rfl
 ·simp only [oI] at hy
  subst hy
  exact Or.inr ⟨_,_,h⟩
def tc1:Ch:=⟨1,[107],[107],false⟩
def tc2:Ch:=⟨1,[107],[],true⟩
theorem aBv:addC [] tc1=[tc1]∧addC [tc1] tc2=[tc1,tc2]∧getC [tc1,tc2] 1 [107]=some tc2∧[tc1,tc2].take 1=[tc1]∧getC [tc1] 1 [107]=some tc1∧(chgC [tc1] 16).length=1:=⟨by decide,by decide,by decide,by decide,by decide,by decide⟩
theorem told13 (w:World):Calls Tryz.prog 29 #[] w fun e w'=>e=.returned (.bool true)∧Below w.heap.size w w':=by
 letI:Gd:=⟨fun _=>False⟩
 have lt:∀ {k:Nat} {o:Obj} {ww:World},ww.heap[k]?=some o→k<ww.heap.size:=fun e=>(lO e)
 have HNW:=hide (lnew_ok w (fun _ h=>False.elim h))
 obtain ⟨B,hB⟩:∃ B,w.heap.size=B:=⟨_,rfl⟩
 rw [hB] at HNW ⊢
 have HB:=hide hB
 clear hB
 go_enter Tryz.func29,Tryz.ntmps29
 go_wp2_with fail
 refine HNW.out.mono ?_
 rintro e w1 ⟨p,q,g,ls,db,w0,rfl,hd1,hb1⟩
 have HD1:=hide hd1
 clear hd1 hb1 HNW
 go_wp2_with fail
 refine (dnew_nil w1).mono ?_
 rintro e w9 ⟨rfl,hw⟩
 have hw:=hw.symm
 subst hw
 clear hw
 have kc1:=Lib.run_convert_bytes_const (P:=Tryz.prog) w1 33 5 #[.int .u8 107] 1 1 Tryz.underlying33 Tryz.underlying5
 go_upto_region 6 with fail
 clear kc1
 have HBX:=hide (aAb w1 (.cells #[.int .u8 107] 5 (1,2)))
 have HK2:Hid (BK B (w1.alloc (.cells #[.int .u8 107] 5 (1,2))) (some ⟨w1.heap.size,0,none⟩) 1 1 [107]):=bk_cst (x:=107) (heap_alloc_new w1 _) (by decide)
 have HD2:=hide (HD1.out.later HBX.out)
 generalize w1.alloc (.cells #[.int .u8 107] 5 (1,2))=w2 at *
 generalize w1.heap.size=L at *
 clear HBX HD1
 have HP:=hide (aEd (sp:=1) HD2.out.dd HK2.out HK2.out (by decide))
 go_wp2_with fail
 refine HP.out.mono ?_
 rintro e w3 ⟨v3,rfl,hd3,hf3⟩
 rw [show addC [] ⟨1,[107],[107],false⟩=[tc1] from aBv.1] at hd3
 have HD3:=hide (HD2.out.fr hd3 hf3)
 have HK3:=hide (HK2.out.ft hf3.ft)
 clear hd3 hf3 HP HD2 HK2
 have HM:=hide (mark_ok HD3.out.dd)
 go_wp2_with fail
 refine HM.out.mono ?_
 rintro e w9 ⟨rfl,hw⟩
 have hw:=hw.symm
 subst hw
 clear hw HM
 have HP:=hide (ddel_any (sp:=1) HD3.out.dd HK3.out (by decide))
 go_wp2_with fail
 refine HP.out.mono ?_
 rintro e w4 ⟨v4,rfl,hd4,hf4⟩
 rw [show addC [tc1] ⟨1,[107],[],true⟩=[tc1,tc2] from aBv.2.1] at hd4
 have HD4:=hide (HD3.out.fr hd4 hf4)
 have HK4:=hide (HK3.out.ft hf4.ft)
 clear hd4 hf4 HP HD3 HK3
 have HG:=hide (dget_ok (sp:=1) HD4.out.now HD4.out.dd (by decide) HK4.out (by decide))
 rw [aBv.2.2.1] at HG
 go_wp2_with fail
 refine HG.out.mono ?_
 rintro e w5 ⟨⟨vv5,is5,rfl,hg5⟩,hb5⟩
 obtain ⟨rfl,rfl⟩:vv5=.slice none 0 0∧is5=false:=hg5
 have HD5:=hide (HD4.out.later hb5)
 have HK5:=hide (HK4.out.later hb5 HD4.out.bw)
 clear hb5 HG HD4 HK4
 have HBK:=hide (back_ok (m:=1) HD5.out.dd (by decide) (by decide))
 rw [aBv.2.2.2.1] at HBK
 go_wp2_with fail
 refine HBK.out.mono ?_
 rintro e w6 ⟨v6,rfl,hd6,hf6⟩
 have HD6:=hide (HD5.out.fr hd6 hf6)
 have HK6:=hide (HK5.out.ft hf6.ft)
 clear hd6 hf6 HBK HD5 HK5
 have HG:=hide (dget_ok (sp:=1) HD6.out.now HD6.out.dd (by decide) HK6.out (by decide))
 rw [aBv.2.2.2.2.1] at HG
 go_wp2_with fail
 refine HG.out.mono ?_
 rintro e w7 ⟨⟨vv7,is7,rfl,hg7⟩,hb7⟩
 obtain ⟨rfl,⟨a7,c7,e7,hv7⟩⟩:is7=true∧KV B w7 vv7 [107]:=hg7
 have e7:vv7=.slice a7 1 c7:=e7
 subst e7
 have HD7:=hide (HD6.out.later hb7)
 have HK7:=hide (HK6.out.later hb7 HD6.out.bw)
 have HV7:Hid (BK B w7 a7 1 c7 [107]):=hv7
 clear hb7 hv7 HG HD6 HK6
 have HG:=hide (HD7.out.now.GetE HK7.out 1)
 rw [show wrg 1 1 0=0 from by decide] at HG
 go_wp2_with fail
 refine HG.out.mono ?_
 rintro e w8 ⟨rfl,hb8⟩
 have HD8:=hide (HD7.out.later hb8)
 have HV8:=hide (HV7.out.later hb8 HD7.out.bw)
 clear hb8 HG HD7 HV7 HK7
 have hcv:(convert 33 9 (.slice a7 1 c7)).run Tryz.prog w8=.ok (.string ⟨#[107]⟩) w8:=run_text HV8.out.1
 have HC:=hide (aCk HD8.out.dd (by decide))
 go_wp2_with fail
 refine HC.out.mono ?_
 rintro e w9 ⟨v9,rfl,hr9,hb9⟩
 obtain ⟨a9,c9,e9⟩:=hr9.form
 rw [aBv.2.2.2.2.2] at e9
 subst e9
 have HD9:=hide (HD8.out.later hb9)
 have HP:=hide (aEd (sp:=1) HD9.out.dd (BK.nil B w9) (BK.nil B w9) (by decide))
 rw [show refE 1 0 0=1 from by decide] at HP
 clear hr9 hb9 HC HD8 HV8 hcv
 go_wp2_with fail
 refine HP.out.mono ?_
 rintro e w10 ⟨v10,rfl,hd10,hf10⟩
 have HBE:Hid (Below B w w10):=(HD9.out.fr hd10 hf10).bel
 clear hd10 hf10 HP HD9
 go_wp2
 go_ret
 exact ⟨rfl,HBE.out⟩
end Go.Proofs.YthgleplmbnkacaaGreat
