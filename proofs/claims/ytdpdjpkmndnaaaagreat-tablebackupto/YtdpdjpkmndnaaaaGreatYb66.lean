import Derived.Test.YtdpdjpkmndnaaaaGreatYb60
import Derived.Sort.KeysCollected
set_option maxRecDepth 100000
set_option maxHeartbeats 16000000
set_option linter.unusedVariables false
namespace Go.Proofs.YtdpdjpkmndnaaaaGreat
open Go.RowKit Go.Shelf _root_.Go.Proofs.Tryz
variable {B b c k n:Nat} {a:Option Addr} {w w':World}
def SOL (B b r n n0:Nat) (l:List Ch) (D:DataW Value) (w wx:World) (a:Option Addr) (k c cnt:Nat):Prop:=∃ (left:Lit->Bool) (out:List Ch),k=out.length/\wx.ranges prog 9 RH b r n D left cnt/\MP B b n l wx D/\CRW B n0 wx (.slice a k c) out/\a.isSome=true/\Below n0 w wx/\(out.Pairwise fun x y=>x.key≠y.key)/\(∀ c∈out,c∈l/\left (kl c.key)=false)/\(∀ c∈l,left (kl c.key)=false->c∈out)/\out.length+cnt<=l.length
theorem bRq {r:Nat} {o:Obj} (hg:w.grownBy w' (some r)) (hm:w.heap[r]?=some o) (ho:∀ cs t fz,o≠.cells cs t fz) (hB:B<=r):FT B w w':=by
 have hs:=(lO hm);refine ⟨⟨hg.os,hg.tape,hg.output,hg.size,fun i hi=>hg.block i (by omega) (fun e=>by simp at e;omega)⟩,fun i cs fz e=>?_⟩;rw [hg.block i (lO e) (fun q=>?_),e];simp at q;subst q;rw [hm] at e;simp only [oI] at e;exact ho _ _ _ e
theorem aH6 {P:Program} {k:TypeId} {R:Value->Option (DataW Value×List MemPlace)} {r cnt:Nat} {D:DataW Value} {left:Lit->Bool} (h:w.ranges P k R b r n D left cnt):∃ o,w.heap[r]?=some o/\∀ cs t fz,o≠.cells cs t fz:=by
 obtain ⟨es,clock,since,seen,c0,hb,F,hs,rfl,hr,_⟩:=h;exact ⟨_,hr,fun _ _ _ e=>by cases e⟩
theorem SOL.step {r n0 cnt:Nat} {l:List Ch} {D:DataW Value} {wx:World} (h:SOL B b r n n0 l D w wx a k c cnt) (hB:B<=n0) (hr:n0<=r) :
  (cnt=0/\(Instr.next (.pointer (some ⟨r,0,none⟩)) false 0).run prog wx=.ok (.tuple #[.bool false]) wx/\∃ out,k=out.length/\CRW B n0 wx (.slice a k c) out/\(out.Pairwise fun x y=>x.key≠y.key)/\(∀ c,c∈out↔c∈l)) \/
  ∃ (s:ByteArray) (x:CE) (ch:Ch) (w':World) (cnt':Nat),cnt'<cnt/\(Instr.next (.pointer (some ⟨r,0,none⟩)) false 0).run prog wx=.ok (.tuple #[.bool true,.string s,.agg (f4 x).toArray]) w'/\(Instr.entry (.pointer (some ⟨r,0,none⟩))).run prog w'=.ok (.tuple #[.string s,.agg (f4 x).toArray]) w'/\EvC B w' x ch/\Below n0 w w' /\
   ∃ out,k=out.length/\CRW B n0 w' (.slice a k c) out/\∀ (w2:World) (a2:Option Addr) (c2:Nat),CRW B n0 w2 (.slice a2 (k+1) c2) (out++[ch])->a2.isSome=true->w'.grownBy w2 (Value.slice a k c).ownBlock->FT B w' w2->Below n0 w' w2->SOL B b r n n0 l D w w2 a2 (k+1) c2 cnt':=by
 obtain ⟨left,out,hk,hrg,hM,hrow,has,hbl,hpw,ho1,ho2,hcn⟩:=h;rcases hrg.next bCu 0 with ⟨h0,hl0,hrun⟩ | ⟨key,v,kk,y,w',cnt',hkey,hlk,hv,hat,hrun,hrg2,hlt,hgr,hsz,hen⟩
 ·exact Or.inl ⟨h0,hrun,out,hk,hrow,hpw,fun c=>⟨fun q=>(ho1 c q).1,fun q=>ho2 c q (hl0 _)⟩⟩
 ·obtain ⟨us,rfl,rfl,_⟩:=Maps.keyOf_str underlying9 hkey;obtain ⟨ch,hch,hke⟩:=hM.has _ (Maps.has_true_of_atKey hat);obtain ⟨x,hx,hax⟩:=hM.at_ ch hch;have hy:y=(.held v,[]):=by
   have:=hv;unfold RH at this;exact (Option.some.inj this).symm
  have hvx:v=.agg (f4 x).toArray:=by
   have e1:=hat (.held v);rw [hke,hax,hy] at e1;exact (DataW.held.inj e1).symm
  subst hvx;obtain ⟨o,ho,hoc⟩:=aH6 hrg;have hft:FT B wx w':=bRq hgr ho hoc (by omega);have hnr:∀ i,(Value.slice a k c).ownBlock=some i->w'.heap[i]?=wx.heap[i]?:=fun i hi=>by
   obtain ⟨_,q2,cur,q3⟩:=hrow.blk hi;refine hgr.block i q2 (fun e=>?_);simp at e;subst e;rw [ho] at q3;simp only [oI] at q3;exact hoc _ _ _ q3
  have hM2:MP B b n l w' D:=⟨hrg2.owns,fun d hd=>by
   obtain ⟨z,z1,z2⟩:=hM.at_ d hd
   exact ⟨z,z1.ft hft,z2⟩,hM.has,hM.srt,hM.siz⟩
  have hbl2:Below n0 w w':=hbl.trans ((kBh n0 _).grown hgr (by have:=hbl.size;have:=hrg.lt;omega) (fun i hi=>by simp at hi;omega));refine Or.inr ⟨_,x,ch,w',cnt',hlt,hrun,hen,hx.ft hft,hbl2,out,hk,hrow.keep hft hnr,fun w2 a2 c2 h1 h2 h3 h4 h5=>?_⟩;have nb:some b≠(Value.slice a k c).ownBlock:=fun e=>by
   obtain ⟨_,_,cur,q3⟩:=(hrow.keep hft hnr).blk e.symm;obtain ⟨es,ck,q4,_⟩:=hM2.own;rw [q3] at q4;cases q4
  have nr:some r≠(Value.slice a k c).ownBlock:=fun e=>by
   obtain ⟨_,_,cur,q3⟩:=(hrow.keep hft hnr).blk e.symm;obtain ⟨o2,ho2,hoc2⟩:=aH6 hrg2;rw [ho2] at q3;simp only [oI] at q3;exact hoc2 _ _ _ q3
  have hrg3:=hrg2.kept h3 nb nr;have hnew:ch∉out:=fun q=>by
   have:=(ho1 ch q).2;rw [<-hke,hlk] at this;cases this
  refine ⟨_,out++[ch],by simp [hk],hrg3,⟨hrg3.owns,fun d hd=>by
   obtain ⟨z,z1,z2⟩:=hM2.at_ d hd
   exact ⟨z,z1.ft h4,z2⟩,hM.has,hM.srt,hM.siz⟩,h1,h2,hbl2.trans h5,?_,?_,?_,by simp;omega⟩
  ·rw [List.pairwise_append];refine ⟨hpw,by simp,fun p hp q hq=>?_⟩;simp at hq;subst hq;intro e;have:=hM.srt.inj (ho1 p hp).1 hch e;subst this;exact hnew hp
  ·intro d hd;rcases kAz.1 hd with hd | hd
   ·exact ⟨(ho1 d hd).1,by rw [(ho1 d hd).2];rfl⟩
   ·simp at hd;subst hd;refine ⟨hch,?_⟩;rw [<-hke];simp [Lit.sameKey]
  ·intro d hd hq;by_cases q:left (kl d.key)=false
   ·exact List.mem_append_left _ (ho2 d hd q)
   ·have q:left (kl d.key)=true:=by simpa using q
    rw [q,Bool.true_and] at hq;have e:(kl d.key).sameKey (Lit.string us)=true:=by simpa using hq
    have e:=Go.WideAt.sameKey_eq e;rw [hke] at e;have:=hM.srt.inj hd hch (bKh (hM.byte hd) (hM.byte hch) e);subst this;exact List.mem_append_right _ (by simp)
theorem bIo {l:List Ch} {D:DataW Value} (h:MP B b n l w D) (hB:B<=w.heap.size) (hl:l.length<=1000) :
  Calls prog 79 #[.map (some b)] w fun e w'=>∃ v,e=.returned v/\CRW B w.heap.size w' v l/\Below w.heap.size w w':=by
 obtain ⟨i0,hi,hz0,hz1,hz2⟩:=info_parts aKp;have HM:=zH h;have HB:=zH hB;have HL:=zH hl;have HSZ:=zH h.siz;have HOW:=zH h.own;clear h hB hl;obtain ⟨sz,hsz⟩:∃ sz,Maps.size D=sz:=⟨_,rfl⟩;rw [hsz] at HSZ;have HSD:=zH hsz;clear hsz;go_enter func79,ntmps79;go_wp2_with (first | (at_len;refine wpList_len_own _ rfl _ 161 rfl 9 164 underlying161 RH b n D rfl HOW.o ?_;rw [HSD.o]) | (at_make;refine wpList_make_own _ rfl _ _ 122 rfl w.heap.size 164 i0 (.agg #[.int .i64 0,.slice none 0 0,.slice none 0 0,.bool false]) 4 underlying122 hi hz0 hz1 .i64 .i64 (sz:Int) sz rfl rfl rfl (by rw [hz2];have:=HSZ.o;have:=HL.o;omega) (by have:=HSZ.o;have:=HL.o;unfold maxLen;omega) (nR _) ?_;intro w1 ho1 hg1;have HO1:=zH ho1;have HG1:=zH hg1;clear ho1 hg1) | (at_range;refine wpList_range_own _ rfl _ 161 rfl 9 164 bCu underlying161 RH b n D rfl (HOW.o.kept HG1.o (by simp)) ?_;intro w2 hrg2 hg2 hs2;have HRG2:=zH hrg2;have HG2:=zH hg2;clear hrg2 hg2 hs2));have HR0:Hid (w.heap.size<=w1.heap.size):=HG1.o.size;have HB1:Hid (Below w.heap.size w w1):=⟨HG1.o.os,HG1.o.tape,HG1.o.output,HG1.o.size,fun i hi=>HG1.o.block i hi (by simp)⟩;have HB2:Hid (Below w1.heap.size w1 w2):=⟨HG2.o.os,HG2.o.tape,HG2.o.output,HG2.o.size,fun i hi=>HG2.o.block i hi (by simp)⟩;have HST:Hid (SOL B b w1.heap.size n w.heap.size l D w w2 (some ⟨w.heap.size,0,none⟩) 0 sz sz):=by
  have hM2:=(HM.o.later HB1.o HB.o).later HB2.o (by have:=HB.o;have:=HR0.o;omega);have hrow:CRW B w.heap.size w1 (.slice (some ⟨w.heap.size,0,none⟩) 0 sz) []:=⟨[],rfl,HO1.o,fun i c x h=>by simp at h⟩;refine ⟨_,[],rfl,by rw [<-HSD.o];exact HRG2.o,hM2,hrow.later HB2.o (by have:=HB.o;have:=HR0.o;omega),rfl,HB1.o.trans (HB2.o.mono HR0.o),List.Pairwise.nil,(fun c hc=>by simp at hc),fun c hc hq=>?_,by have:=HSZ.o;simp;omega⟩;obtain ⟨x,_,hx⟩:=hM2.at_ c hc;rw [Maps.has_true_of_atKey hx] at hq;cases hq
 clear HRG2 HG2 HG1 HO1;go_frame;generalize hn0:w.heap.size=n0 at *;generalize hn1:w1.heap.size=r at *;go_loopg [3] sz (fun gh s3 wx=>∃ a k c,s3=.slice a k c/\SOL B b r n n0 l D w wx a k c gh)
 case atStart=>exact ⟨_,_,_,rfl,HST.o⟩
 case round =>
  obtain ⟨a,k,c,rfl,hS⟩:=hrel;have HK:Hid (k<=1000):=by
   obtain ⟨left,out,e1,_,_,_,_,_,_,_,_,e2⟩:=hS;show k<=1000;have:=HL.o;omega
  rcases hS.step HB.o HR0.o with ⟨h0,hrun,out,hk,hrow,hpw,hmem⟩ | ⟨s,x,ch,w3,cnt',hlt,hrun,hen,hx,hb3,out,hk,hrow,hcont⟩
  ·obtain ⟨g,ea⟩:∃ g,a=some ⟨g,0,none⟩:=by
    obtain ⟨left,o2,_,_,_,_,has,_⟩:=hS;obtain ⟨_,_,⟨_,q⟩,_⟩:=hrow;rcases q with ⟨e,_⟩ | ⟨g,_,_,e,_⟩
    ·simp only [kBl] at e;rw [e.1] at has;cases has
    ·simp only [kBl] at e;exact ⟨g,e.1⟩
   subst ea;have HBW:Hid (Below n0 w wr):=by
    obtain ⟨_,_,_,_,_,_,_,q,_⟩:=hS;exact q
   have hsrt:=(HM.o).srt;subst hk;have HSO:=zH (bGv hrow HB.o (by have:=HK.o;omega) hpw);have HMM:=zH hmem;have HSR:=zH hsrt;clear hrow hpw hmem hsrt hS;go_wp2_with fail;refine HSO.o.mono ?_;rintro e w4 ⟨rfl,F',hp,hs,hr4,hf4,hb4,hk4⟩;have HR4:=zH hr4;have HB4:Hid (Below n0 w w4):=HBW.o.trans hb4;have HE:Hid (F'=l):=hs.uniq HSR.o (fun c=>by rw [hp.mem_iff];exact HMM.o c);clear hr4 hf4 hb4 hk4 hp hs HSO;go_wp2;go_ret;refine ⟨_,rfl,?_,?_⟩
   ·rw [hn0,<-HE.o];exact HR4.o
   ·rw [hn0];exact HB4.o
  ·obtain ⟨xc,x2,x3⟩:=x;obtain ⟨e2,⟨ka,kc,e3,hbk⟩,⟨va,vc,e4,hbv⟩⟩:=hx;dsimp only at e2 e3 e4 hbk hbv;subst e2 e3 e4;obtain ⟨⟨csp,key,val,cg⟩,rfl⟩:∃ d:Ch,d=xc:=⟨_,rfl⟩;dsimp only at hbk hbv;obtain ⟨kn,hkn⟩:∃ kn,key.length=kn:=⟨_,rfl⟩;obtain ⟨vn,hvn⟩:∃ vn,val.length=vn:=⟨_,rfl⟩
   replace hrun:(Instr.next (.pointer (some ⟨r,0,none⟩)) false 0).run prog wr=.ok (.tuple #[.bool true,.string s,.agg #[.int .i64 csp,.slice ka kn kc,.slice va vn vc,.bool cg]]) w3:=by rw [<-hkn,<-hvn];exact hrun
   replace hen:(Instr.entry (.pointer (some ⟨r,0,none⟩))).run prog w3=.ok (.tuple #[.string s,.agg #[.int .i64 csp,.slice ka kn kc,.slice va vn vc,.bool cg]]) w3:=by rw [<-hkn,<-hvn];exact hen
   have HKL:=zH hkn;have HVL:=zH hvn;rw [hkn] at hbk;rw [hvn] at hbv;clear hkn hvn;have HBw:Hid (B<=w3.heap.size):=by show B<=_;have:=hb3.size;have:=HB.o;omega
   have hbx:Below w3.heap.size w3 (w3.alloc (.cells #[.int .i64 csp,.slice ka kn kc,.slice va vn vc,.bool cg] 164)):=aAk w3 _;have HRB:Hid ((w3.alloc (.cells #[.int .i64 csp,.slice ka kn kc,.slice va vn vc,.bool cg] 164)).heap[w3.heap.size]?=some (.cells #[.int .i64 csp,.slice ka kn kc,.slice va vn vc,.bool cg] 164 (0,0))):=aAp [Obj.cells #[.int .i64 csp,.slice ka kn kc,.slice va vn vc,.bool cg] 164] w3 0 _ rfl;have HBK:=zH (hbk.later hbx HBw.o);have HBV:=zH (hbv.later hbx HBw.o);have HROW:=zH (hrow.later hbx HBw.o);have HBX:=zH hbx;have HB3:=zH hb3;have HCO:=zH hcont;have HKO:=zH hk;have HLT:=zH hlt;have HN3:Hid (n0<=w3.heap.size):=by show n0<=_;have:=hb3.size;omega
   clear hbx hbk hbv hrow hcont hk hS hb3 hlt;go_upto_region 5 with fail;clear hrun hen;generalize hw4:(w3.alloc (.cells #[.int .i64 csp,.slice ka kn kc,.slice va vn vc,.bool cg] 164))=w4 at *;have HN4:Hid (w3.heap.size<=w4.heap.size):=HBX.o.size;have HFT3:Hid (FT B w3 w4):=FT.of HBX.o HBw.o;generalize hn3:w3.heap.size=n3 at *;have HW4:=zH hw4;clear hw4;have d0:w4.cell? ⟨n3,0,none⟩=some (.int .i64 csp):=aAd HRB.o;have d1:w4.cell? ⟨n3,1,none⟩=some (.slice ka kn kc):=aAd HRB.o;have d2:w4.cell? ⟨n3,2,none⟩=some (.slice va vn vc):=aAd HRB.o;have d3:w4.cell? ⟨n3,3,none⟩=some (.bool cg):=aAd HRB.o;have HBw4:Hid (B<=w4.heap.size):=by show B<=_;have:=HBw.o;have:=HN4.o;omega
   have hby:Below w4.heap.size w4 (w4.alloc (.cells #[.int .i64 csp,.slice ka kn kc,.slice va vn vc,.bool cg] 164)):=aAk w4 _;have HRB5:Hid ((w4.alloc (.cells #[.int .i64 csp,.slice ka kn kc,.slice va vn vc,.bool cg] 164)).heap[w4.heap.size]?=some (.cells #[.int .i64 csp,.slice ka kn kc,.slice va vn vc,.bool cg] 164 (0,0))):=aAp [Obj.cells #[.int .i64 csp,.slice ka kn kc,.slice va vn vc,.bool cg] 164] w4 0 _ rfl;have HROW5:=zH (HROW.o.later hby HBw4.o);have HEV:Hid (EvC B (w4.alloc (.cells #[.int .i64 csp,.slice ka kn kc,.slice va vn vc,.bool cg] 164)) (⟨csp,key,val,cg⟩,.slice ka kn kc,.slice va vn vc) ⟨csp,key,val,cg⟩):=⟨rfl,⟨ka,kc,by show Value.slice ka kn kc=.slice ka key.length kc;rw [HKL.o],by show BK B _ ka key.length kc key;rw [HKL.o];exact HBK.o.later hby HBw4.o⟩,⟨va,vc,by show Value.slice va vn vc=.slice va val.length vc;rw [HVL.o],by show BK B _ va val.length vc val;rw [HVL.o];exact HBV.o.later hby HBw4.o⟩⟩;have HBY:=zH hby;clear hby;go_wp2_with (at_builtin;refine aHu (by rfl) (.tmp 15) (.tmp 17) rfl (v:=.slice a k c) (u:=.slice (some ⟨w4.heap.size,0,none⟩) 1 1) (F:=out) (G:=[⟨csp,key,val,cg⟩]) rfl rfl HROW5.o (RvK.one (x:=(⟨csp,key,val,cg⟩,.slice ka kn kc,.slice va vn vc)) aBi HRB5.o HEV.o) HB.o (by have:=HBY.o.size;have:=HN3.o;have:=HN4.o;omega) (by have:=HK.o;have:=HKO.o;show out.length+1<=_;omega) ?_;intro v6 w6 hr6 hf6 hk6 hb6 ho6;have HR6:=zH hr6;have HF6:=zH hf6;have HK6:=zH hk6;have HB6:=zH hb6;have HO6:=zH ho6;clear hr6 hf6 hk6 hb6 ho6);obtain ⟨a6,c6,e6⟩:=HR6.o.form;rw [lA,<-HKO.o] at e6;have e6:v6=.slice a6 (k+1) c6:=e6;subst e6;go_roundg cnt'
   case measure=>exact HLT.o
   case rel =>
    refine ⟨a6,k+1,c6,rfl,HCO.o _ _ _ HR6.o ?_ ⟨?_,?_,?_,?_,?_⟩ ((HFT3.o.trans (FT.of HBY.o HBw4.o)).trans HF6.o) ?_⟩
    ·cases a6 with
     | some z=>rfl
     | none =>
      obtain ⟨kv,_,⟨_,q⟩,_⟩:=HR6.o;rcases q with ⟨e,e'⟩ | ⟨g,cap,cur,e,_⟩
      ·simp at e'
      ·cases e
    ·exact (HB6.o.os.trans HBY.o.os).trans HBX.o.os
    ·exact (HB6.o.tape.trans HBY.o.tape).trans HBX.o.tape
    ·exact (HB6.o.output.trans HBY.o.output).trans HBX.o.output
    ·have h1:=HBX.o.size;have h2:=HBY.o.size;have h3:=HB6.o.size;omega
    ·intro i hi hne;have h1:=HBX.o.size;have h2:=HBY.o.size;rw [HK6.o i (by omega) (fun e=>hne e.symm),HBY.o.block i (by omega),HBX.o.block i (by omega)]
    ·exact ((HBX.o.mono (by have:=HN3.o;omega)).trans (HBY.o.mono (by have:=HN3.o;have:=HN4.o;omega))).trans HB6.o
end Go.Proofs.YtdpdjpkmndnaaaaGreat
set_option linter.unusedVariables false
namespace Go.Proofs.YtdpdjpkmndnaaaaGreat
open Go.RowKit _root_.Go.Proofs.Tryz
variable {B B1 N c db g k ls m most p q u:Nat} {W w:World} {cs:List Ch} {v:Value}
theorem bOf (sp:Int) (k v:Value) (g:Bool) (ww:World):(Instr.field 164 (.agg #[.int .i64 sp,k,v,.bool g]) 0).run prog ww=.ok (.agg #[.int .i64 sp,k,v]) ww:=by
 kernel_rfl
theorem bC6 {l:List Ch} (h:CRW B B1 w v l) (hB:B<=w.heap.size) (hl:l.length<=1000) :
  Calls prog 78 #[v,.int .i64 (most:Int)] w fun e w'=>∃ v',e=.returned v'/\PSW B w.heap.size w' v' (bA9 most [] l)/\Below w.heap.size w w':=by
 obtain ⟨ra,rc,ev⟩:=h.form;subst ev;have HD:=zH h;have HBB:=zH hB;clear h hB;obtain ⟨N,hN⟩:∃ N,l.length=N:=⟨_,rfl⟩;have HN:=zH hN;rw [hN] at hl;rw [hN];clear hN;go_enter func78,ntmps78;go_wp2_with fail;go_step3;go_wp2_with fail;go_step3;generalize hn0:w.heap.size=n0 at *;go_wp2_with fail;go_loopg [5,10] N (fun gh s5 s10 wx=>∃ j:Nat,j+gh=N/\s10=.int .i64 (j:Int)/\∃ a k c,s5=.slice a k c/\∃ F:List Ch,F.length=k/\k<=j/\PSW B n0 wx (.slice a k c) F/\Below n0 w wx/\bA9 most F (l.drop j)=bA9 most [] l)
 case atStart=>exact ⟨0,by omega,rfl,none,0,0,rfl,[],rfl,by omega,RwK.nil _ _ _ _ _ _,kBh _ _,rfl⟩
 case round =>
  obtain ⟨j,hj,rfl,a,k,c,rfl,F,hFk,hkj,hrow,hbl,hla⟩:=hrel;have HFK:=zH hFk;have HROW:=zH hrow;have HBL:=zH hbl;have HLA:=zH hla;clear hFk hrow hbl hla;by_cases hjn:j<N
  ·have xj:(j:Int)<(N:Int):=by omega
   obtain ⟨ch,hcj⟩:∃ c,l[j]?=some c:=⟨_,gE (by rw [HN.o];exact hjn)⟩;have HDR:Hid (l.drop j=ch::l.drop (j+1)):=by
    show _=_;rw [kAy (by rw [HN.o];exact hjn)]
    congr 1
    exact (kAx.1 hcj).2
   obtain ⟨g,cap,x,e1,hx,hcell⟩:=HD.o.at aBi hcj;obtain ⟨xc,xk,xv⟩:=x;have HXX:Hid (EvC B w (xc,xk,xv) ch):=hx;obtain ⟨e2,⟨ka,kc,e3,hbk⟩,⟨va,vc,e4,hbv⟩⟩:=hx;dsimp only at e2 e3 e4;subst e2;simp only [kBl] at e1;obtain ⟨rfl,_,rfl⟩:=e1;have hg:g<n0:=by
    have:=hcell 0 (by omega);by_cases q:g<n0
    ·exact q
    ·rw [show w.cell? ⟨g,j*4+0,none⟩=none from by
      unfold World.cell?
      rw [show w.heap[g]?=none from Array.getElem?_eq_none (by omega)]] at this
     simp [f4] at this
   have cc:∀ i,i<4->wr.cell? ⟨g,j*4+i,none⟩=(f4 (xc,xk,xv))[i]?:=fun i hi=>by
    rw [<-hcell i hi];exact kBp (HBL.o.block g hg)
   have c0:wr.cell? ⟨g,j*4,none⟩=some (.int .i64 xc.sp):=cc 0 (by omega);have c1:wr.cell? ⟨g,j*4+1,none⟩=some xk:=cc 1 (by omega);have c2:wr.cell? ⟨g,j*4+2,none⟩=some xv:=cc 2 (by omega);have c3:wr.cell? ⟨g,j*4+3,none⟩=some (.bool xc.gone):=cc 3 (by omega);obtain ⟨kn,hkn⟩:∃ kn,xc.key.length=kn:=⟨_,rfl⟩;obtain ⟨vn,hvn⟩:∃ vn,xc.val.length=vn:=⟨_,rfl⟩;rw [hkn] at e3;rw [hvn] at e4;subst e3 e4;clear hcell cc hbk hbv hkn hvn;have HBW:Hid (B<=wr.heap.size):=by show B<=_;have:=HBL.o.size;have:=HBB.o;omega
   have hbw0:Below w.heap.size w wr:=by rw [hn0];exact HBL.o
   have HXR:Hid (EvC B wr (xc,.slice ka kn kc,.slice va vn vc) xc):=HXX.o.ft (FT.of hbw0 (by rw [hn0];exact HBB.o));clear hbw0 HXX;obtain ⟨csp,hcsp⟩:∃ s,xc.sp=s:=⟨_,rfl⟩;obtain ⟨cg,hcg⟩:∃ s,xc.gone=s:=⟨_,rfl⟩;rw [hcsp] at c0;rw [hcg] at c3;have HCS:=zH hcsp;have HCG:=zH hcg;clear hcsp hcg;have HBOX:Hid (Below wr.heap.size wr (wr.alloc (.cells #[.int .i64 csp,.slice ka kn kc,.slice va vn vc,.bool cg] 164))):=aAk wr _;have HRB:Hid ((wr.alloc (.cells #[.int .i64 csp,.slice ka kn kc,.slice va vn vc,.bool cg] 164)).heap[wr.heap.size]?=some (.cells #[.int .i64 csp,.slice ka kn kc,.slice va vn vc,.bool cg] 164 (0,0))):=aAp [Obj.cells #[.int .i64 csp,.slice ka kn kc,.slice va vn vc,.bool cg] 164] wr 0 _ rfl;have HX2:=zH (HXR.o.ft (FT.of HBOX.o HBW.o));have HROW2:=zH (HROW.o.later HBOX.o HBW.o);have HB2:Hid (Below n0 w (wr.alloc (.cells #[.int .i64 csp,.slice ka kn kc,.slice va vn vc,.bool cg] 164))):=HBL.o.trans (HBOX.o.mono (by have:=HBL.o.size;omega));clear HXR HROW HBL;go_upto_region 5 with fail;clear c0 c1 c2 c3;generalize (wr.alloc (.cells #[.int .i64 csp,.slice ka kn kc,.slice va vn vc,.bool cg] 164))=w2 at *;have HSZ:Hid (wr.heap.size<=w2.heap.size):=HBOX.o.size;have HBW2:Hid (B<=w2.heap.size):=by show B<=_;have:=HSZ.o;have:=HBW.o;omega
   have HN2:Hid (n0<=w2.heap.size):=by show n0<=_;have:=HB2.o.size;omega
   generalize hnb:wr.heap.size=nb at *;have d0:w2.cell? ⟨nb,0,none⟩=some (.int .i64 csp):=aAd HRB.o;have d1:w2.cell? ⟨nb,1,none⟩=some (.slice ka kn kc):=aAd HRB.o;have d2:w2.cell? ⟨nb,2,none⟩=some (.slice va vn vc):=aAd HRB.o;have d3:w2.cell? ⟨nb,3,none⟩=some (.bool cg):=aAd HRB.o;by_cases q1:k=most
   ·have HE:Hid (bA9 most [] l=F):=by
     show _=_;rw [<-HLA.o,HDR.o];unfold bA9;rw [kAg (by rw [HFK.o];exact q1)]
    have q1':((k:Int) == (most:Int))=true:=by rw [q1];exact beq_self_eq_true _
    clear q1;go_wp2;unfold Exit.noGoto;go_ret;refine ⟨_,rfl,?_,?_⟩
    ·rw [HE.o,hn0];exact HROW2.o
    ·rw [hn0];exact HB2.o
   ·have q1':((k:Int) == (most:Int))=false:=by
     rw [beq_eq_false_iff_ne];omega
    have HFM:Hid (¬ F.length=most):=by show ¬ _;rw [HFK.o];exact q1
    clear q1
    cases hcg:cg with
    | true =>
     subst hcg;go_wp2;go_roundg (gk-1)
     case measure=>omega
     case rel =>
      refine ⟨j+1,by omega,rfl,a,k,c,rfl,F,HFK.o,by omega,HROW2.o,HB2.o,?_⟩;rw [<-HLA.o,HDR.o]
      conv=>rhs;unfold bA9
      rw [kAb HFM.o,HCG.o,kAg rfl]
    | false =>
     subst hcg;have HCP:Hid (Calls prog 123 #[.agg #[.int .i64 csp,.slice ka kn kc,.slice va vn vc,.bool false]] w2 fun e w'=>∃ y,e=.returned (.agg (f4 y).toArray)/\EvC B w' y xc/\Below w2.heap.size w2 w'):=by
      have:=bHo HX2.o HBW2.o;unfold f4 at this;dsimp only at this;rw [HCS.o,HCG.o] at this;exact this
     go_wp2_with fail;refine HCP.o.mono ?_;rintro e w3 ⟨y,rfl,hy,hb3⟩;obtain ⟨yc,yk,yv⟩:=y;have HY:=zH hy;obtain ⟨e2,⟨ka2,kc2,e3,_⟩,⟨va2,vc2,e4,_⟩⟩:=hy;dsimp only at e2 e3 e4;obtain ⟨kn2,hkn2⟩:∃ n,xc.key.length=n:=⟨_,rfl⟩;obtain ⟨vn2,hvn2⟩:∃ n,xc.val.length=n:=⟨_,rfl⟩;rw [hkn2] at e3;rw [hvn2] at e4;subst e2 e3 e4;unfold f4;dsimp only;rw [HCS.o,HCG.o];have hfl:=fun ww=>bOf csp (.slice ka2 kn2 kc2) (.slice va2 vn2 vc2) false ww;have HBX3:=zH (aAk w3 (.cells #[.int .i64 csp,.slice ka2 kn2 kc2,.slice va2 vn2 vc2] 99));have HBW3:Hid (B<=w3.heap.size):=by show B<=_;have:=hb3.size;have:=HBW2.o;omega
     have HN3:Hid (n0<=w3.heap.size):=by show n0<=_;have:=hb3.size;have:=HN2.o;omega
     have HROW3:=zH ((HROW2.o.later hb3 HBW2.o).later HBX3.o HBW3.o);have HB3:Hid (Below n0 w w3):=HB2.o.trans (hb3.mono HN2.o);have HB4:Hid (Below n0 w (w3.alloc (.cells #[.int .i64 csp,.slice ka2 kn2 kc2,.slice va2 vn2 vc2] 99))):=HB3.o.trans (HBX3.o.mono HN3.o);have HRB3:Hid ((w3.alloc (.cells #[.int .i64 csp,.slice ka2 kn2 kc2,.slice va2 vn2 vc2] 99)).heap[w3.heap.size]?=some (.cells #[.int .i64 csp,.slice ka2 kn2 kc2,.slice va2 vn2 vc2] 99 (0,0))):=aAp [Obj.cells #[.int .i64 csp,.slice ka2 kn2 kc2,.slice va2 vn2 vc2] 99] w3 0 _ rfl;have HYR:Hid (RvK 3 f3 B (w3.alloc (.cells #[.int .i64 csp,.slice ka2 kn2 kc2,.slice va2 vn2 vc2] 99)) (.slice (some ⟨w3.heap.size,0,none⟩) 1 1) [yc]):=by
      refine RvK.one (x:=(yc,.slice ka2 kn2 kc2,.slice va2 vn2 vc2)) bC8 (t:=99) (fz:=(0,0)) ?_ (HY.o.ft (FT.of HBX3.o HBW3.o));unfold f3;dsimp only;rw [HCS.o];exact HRB3.o
     clear hb3 hkn2 hvn2;go_wp2_with (at_builtin;refine aHt (by rfl) (.tmp 23) (.tmp 27) rfl (v:=.slice a k c) (u:=.slice (some ⟨w3.heap.size,0,none⟩) 1 1) (F:=F) (G:=[yc]) rfl rfl HROW3.o HYR.o HBB.o (by have:=HBX3.o.size;have:=HN3.o;omega) (by have:=HFK.o;show F.length+1<=_;omega) ?_;intro v6 w6 hr6 hf6 hk6 hb6 ho6;have HR6:=zH hr6;have HB6:=zH hb6;clear hr6 hf6 hk6 hb6 ho6);obtain ⟨a6,c6,e6⟩:=HR6.o.form;rw [lA,HFK.o] at e6;have e6:v6=.slice a6 (k+1) c6:=e6;subst e6;go_roundg (gk-1)
     case measure=>omega
     case rel =>
      refine ⟨j+1,by omega,rfl,a6,k+1,c6,rfl,F++[yc],by rw [lA,HFK.o];rfl,by omega,HR6.o,HB4.o.trans HB6.o,?_⟩;rw [<-HLA.o,HDR.o]
      conv=>rhs;unfold bA9
      rw [kAb HFM.o,HCG.o,kAb (by simp)]
  ·have xj:¬ (j:Int)<(N:Int):=by omega
   have HE:Hid (bA9 most [] l=F):=by
    show _=_;rw [<-HLA.o,kA7 (by rw [HN.o];omega)];rfl
   go_wp2;go_ret;refine ⟨_,rfl,?_,?_⟩
   ·rw [HE.o,hn0];exact HROW.o
   ·rw [hn0];exact HBL.o
theorem bHl (hm:m<=1000) (hk:k<=1000) (hk1:1<=k):Calls prog 77 #[.int .i64 (k:Int),.int .i64 (m:Int)] w fun e w'=>e=.returned (.int .i64 ((k:Int)+(m:Int)))/\w'=w:=by
 have h0:(k:Int)<=1000:=by omega
 have h6:(0:Int)<(k:Int):=by omega
 have h7:¬ (k:Int)<=0:=by omega
 have h1:(m:Int)<=1000:=by omega
 have h2:(0:Int)<=(m:Int):=by omega
 have h3:min (k:Int) (9223372036854775807-(m:Int))=(k:Int):=by omega
 have h4:(if 9223372036854775807-(m:Int)<(k:Int) then 9223372036854775807-(m:Int) else (k:Int))=(k:Int):=by rw [kAb (by omega)]
 have h5:(if (k:Int)<9223372036854775807-(m:Int) then (k:Int) else 9223372036854775807-(m:Int))=(k:Int):=by rw [kAg (by omega)]
 clear hm hk hk1;go_enter func77,ntmps77;go_wp2;go_ret;exact ⟨rfl,rfl⟩
theorem aBr [Gd] (hL:LS B p q g ls N c u [] W w) (h:DD B db ls v cs w) (hl:cs.length<=1000) {sp:Nat} (hsp:sp<16) {la ha:Option Addr} {ln lc hn hc most:Nat} {lo hi:List Nat} (hlo:BK B w la ln lc lo) (hhi:BK B w ha hn hc hi) (hln:ln<=60) (hhn:hn<=60) (hmo:most<=1000) (hm1:1<=most) :
  Calls prog 40 #[.pointer (some ⟨db,0,none⟩),.int .i64 (sp:Int),.slice la ln lc,.slice ha hn hc,.int .i64 (most:Int)] w fun e w'=>∃ v',e=.returned (.tuple #[v',.int .i64 0])/\PSW B w.heap.size w' v' (bBc cs sp lo hi most)/\Below w.heap.size w w':=by
 have HBB:Hid (B<=w.heap.size):=by show B<=_;have:=h.hB;have:=h.bw;omega
 have HLA:=zH (bRd (sp:=(sp:Int)) h hlo hhi hl);have HLL:Hid ((bAr (inR (sp:Int) lo hi) cs).length<=1000):=by show _<=_;have:=bNv (inR (sp:Int) lo hi) cs;omega
 have HRN:Hid (bBc cs sp lo hi most=bA9 most [] (bAr (inR (sp:Int) lo hi) cs)):=rfl;generalize bAr (inR (sp:Int) lo hi) cs=L at *;have HD:=zH h;have HL:=zH hL;have hs1:(sp:Int)<16:=by omega
 have HLO:=zH hlo;have HHI:=zH hhi;have HMO:=zH hmo;have HM2:=zH hm1;have hs2:(0:Int)<=(most:Int):=by omega
 have hrge:Hid (∀ M:Nat,rge (sp:Int) ln hn ((most:Int)+(M:Int))=0):=by
  intro M;have e1:isSp (sp:Int)=true:=kAc ⟨by omega,by omega⟩;unfold rge;rw [e1,kAc (show (0:Int)<=(most:Int)+(M:Int) by omega),kAd (show ¬ 60<ln by omega),kAd (show ¬ 60<hn by omega)];rfl
 clear h hL hl hsp hlo hhi hln hhn hmo hm1;go_enter func40,ntmps40;go_wp2_with fail;refine HLA.o.mono ?_;rintro e w2 ⟨b,n,D,rfl,hM,_,_,hb2⟩;have HB2:=zH hb2;have HM:=zH hM;have HD2:=zH (HD.o.later hb2);have HCB:=zH HD2.o.blk;have HBW2:Hid (B<=w2.heap.size):=by show B<=_;have:=hb2.size;have:=HBB.o;omega
 obtain ⟨M,hMs⟩:∃ M,Maps.size D=M:=⟨_,rfl⟩;have HSZ:=zH hMs;have HML:Hid (L.length=M):=by show _=_;rw [<-hMs];exact hM.siz.symm
 have HM1:Hid (M<=1000):=by show _<=_;rw [<-HML.o];exact HLL.o
 have hrg:=hrge.out M;have HLD:=zH ((HL.o.later hb2).later (kBh _ w2).drew);have HEN:=zH (bHl (w:=w2.drew) HM1.o HMO.o HM2.o);have HRA:=zH (HLD.o.RangeE ((HLO.o.later hb2 HBB.o).later (kBh _ w2).drew HBW2.o) ((HHI.o.later hb2 HBB.o).later (kBh _ w2).drew HBW2.o) (sp:Int) ((most:Int)+(M:Int)));rw [hrg] at HRA;have HX:Hid ((fun wx=>wx.cell? ⟨db,0,none⟩=some (.pointer (some ⟨ls,0,none⟩))/\∀ ty,(Builtin.len_ #[161] ty #[.map (some b)]).run prog wx=.ok (.int .i64 (M:Int)) wx) w2.drew):=⟨aAd (show w2.drew.heap[db]?=_ from HCB.o),fun ty=>by rw [<-HSZ.o];exact (hM.later (kBh _ w2).drew HBW2.o).own.len underlying161 ty⟩;clear hb2 hM hMs hrg HLA;go_upto_region 2 with fail;refine kBj ?_;refine kBi (S:=fun wx=>wx.cell? ⟨db,0,none⟩=some (.pointer (some ⟨ls,0,none⟩))/\∀ ty,(Builtin.len_ #[161] ty #[.map (some b)]).run prog wx=.ok (.int .i64 (M:Int)) wx) (by kernel_rfl) HX.o (fun hHeld=>?_);refine aAi (i:=0) (d:=25) (v:=?va0) (by kernel_rfl) (by kernel_rfl) (by kernel_rfl) (by kernel_rfl) (fun _ _ _ h=>h) ?hya0 (by assumption) ?resta0
 case hya0 =>
  intro oi ho;simp only [tG,zG,oI] at ho;subst ho;refine Or.inl ⟨by rfl,?_⟩;intro wx hSw
  try dsimp only at hSw
  obtain ⟨hs1,hs2⟩:=hSw;go_simp
  try rfl
 try simp only [Act.put,siT,scZ,scS]
 refine aAi (i:=1) (d:=26) (v:=?va1) (by kernel_rfl) (by kernel_rfl) (by kernel_rfl) (by kernel_rfl) (fun _ _ _ h=>h) ?hya1 (by assumption) ?resta1
 case hya1 =>
  intro oi ho;simp only [tG,sG,zG,oI] at ho;subst ho;refine Or.inl ⟨by rfl,?_⟩;intro wx hSw
  try dsimp only at hSw
  obtain ⟨hs1,hs2⟩:=hSw;go_simp
  try rfl
 try simp only [Act.put,siT,scZ,scS]
 refine aAi (i:=2) (d:=27) (v:=?va2) (by kernel_rfl) (by kernel_rfl) (by kernel_rfl) (by kernel_rfl) (fun _ _ _ h=>h) ?hya2 (by assumption) ?resta2
 case hya2 =>
  intro oi ho;simp only [tG,sG,zG,oI] at ho;subst ho;refine Or.inl ⟨by rfl,?_⟩;intro wx hSw
  try dsimp only at hSw
  obtain ⟨hs1,hs2⟩:=hSw;go_simp
  try rfl
 try simp only [Act.put,siT,scZ,scS]
 refine aAi (i:=3) (d:=28) (v:=?va3) (by kernel_rfl) (by kernel_rfl) (by kernel_rfl) (by kernel_rfl) (fun _ _ _ h=>h) ?hya3 (by assumption) ?resta3
 case hya3 =>
  intro oi ho;simp only [tG,sG,zG,oI] at ho;subst ho;refine Or.inl ⟨by rfl,?_⟩;intro wx hSw
  try dsimp only at hSw
  obtain ⟨hs1,hs2⟩:=hSw;go_simp
  try rfl
 try simp only [Act.put,siT,scZ,scS]
 refine aAi (i:=4) (d:=29) (v:=?va4) (by kernel_rfl) (by kernel_rfl) (by kernel_rfl) (by kernel_rfl) (fun _ _ _ h=>h) ?hya4 (by assumption) ?resta4
 case hya4 =>
  intro oi ho;simp only [tG,sG,zG,oI] at ho;subst ho;refine Or.inl ⟨by rfl,?_⟩;intro wx hSw
  try dsimp only at hSw
  obtain ⟨hs1,hs2⟩:=hSw;go_simp
  try rfl
 try simp only [Act.put,siT,scZ,scS]
 refine aAi (i:=5) (d:=30) (v:=?va5) (by kernel_rfl) (by kernel_rfl) (by kernel_rfl) (by kernel_rfl) (fun _ _ _ h=>h) ?hya5 (by assumption) ?resta5
 case hya5 =>
  intro oi ho;simp only [tG,sG,zG,oI] at ho;subst ho;refine Or.inl ⟨by rfl,?_⟩;intro wx hSw
  try dsimp only at hSw
  obtain ⟨hs1,hs2⟩:=hSw;go_simp
  try rfl
 try simp only [Act.put,siT,scZ,scS]
 refine aAi (i:=6) (d:=31) (v:=?va6) (by kernel_rfl) (by kernel_rfl) (by kernel_rfl) (by kernel_rfl) (fun _ _ _ h=>h) ?hya6 (by assumption) ?resta6
 case hya6 =>
  intro oi ho;simp only [tG,sG,zG,oI] at ho;subst ho;refine Or.inl ⟨by rfl,?_⟩;intro wx hSw
  try dsimp only at hSw
  obtain ⟨hs1,hs2⟩:=hSw;go_simp
  try rfl
 try simp only [Act.put,siT,scZ,scS]
 refine aAi (i:=7) (d:=32) (v:=?va7) (by kernel_rfl) (by kernel_rfl) (by kernel_rfl) (by kernel_rfl) (fun _ _ _ h=>h) ?hya7 (by assumption) ?resta7
 case hya7 =>
  intro oi ho;simp only [tG,sG,zG,oI] at ho;subst ho;refine Or.inl ⟨by rfl,?_⟩;intro wx hSw
  try dsimp only at hSw
  obtain ⟨hs1,hs2⟩:=hSw;go_simp
  try rfl
 try simp only [Act.put,siT,scZ,scS]
 refine aAi (i:=8) (d:=33) (v:=?va8) (by kernel_rfl) (by kernel_rfl) (by kernel_rfl) (by kernel_rfl) (fun _ _ _ h=>h) ?hya8 (by assumption) ?resta8
 case hya8 =>
  intro oi ho;simp only [tG,sG,zG,oI] at ho;subst ho;refine Or.inl ⟨by rfl,?_⟩;intro wx hSw
  try dsimp only at hSw
  obtain ⟨hs1,hs2⟩:=hSw;go_simp
  try rfl
 try simp only [Act.put,siT,scZ,scS]
 refine aAi (i:=9) (d:=34) (v:=?va9) (by kernel_rfl) (by kernel_rfl) (by kernel_rfl) (by kernel_rfl) (fun _ _ _ h=>h) ?hya9 (by assumption) ?resta9
 case hya9 =>
  intro oi ho;simp only [tG,sG,zG,oI] at ho;subst ho;refine Or.inl ⟨by rfl,?_⟩;intro wx hSw
  try dsimp only at hSw
  obtain ⟨hs1,hs2⟩:=hSw;go_simp
  try rfl
 try simp only [Act.put,siT,scZ,scS]
 refine aAf 10 ?_;intro K hK;go_simp;refine HEN.o.mono ?_;rintro e w3 ⟨rfl,hw3⟩;subst hw3;refine hK.out _ _ HX.o (fun hHeld=>?_);clear hK K
 try simp only [Act.put,siT,scZ,scS]
 refine aAf 11 ?_;intro K hK;go_simp;refine HRA.o.mono ?_;rintro e w4 ⟨rfl,hb4⟩;have hb4:Below w2.heap.size w2 w4:=⟨hb4.os,hb4.tape,hb4.output,hb4.size,hb4.block⟩;have HM4:=zH (HM.o.later hb4 HBW2.o);have HB4:Hid (Below w.heap.size w w4):=HB2.o.trans (hb4.mono HB2.o.size);have HBW4:Hid (B<=w4.heap.size):=by show B<=_;have:=hb4.size;have:=HBW2.o;omega
 clear hHeld;have HX4:Hid ((fun wx=>True) w4):=trivial;refine hK.out _ _ ?_ (fun hHeld=>?_)
 ·exact ⟨(hb4.cell (lO HCB.o)).trans HX.o.1,fun ty=>by rw [<-HSZ.o];exact HM4.o.own.len underlying161 ty⟩
 clear hK K
 try simp only [Act.put,siT,scZ,scS]
 refine aAb 12 24 ?_;refine aAb 13 37 ?_;refine aAb 14 38 ?_;refine aAb 15 13 ?_;refine aAb 16 14 ?_;refine kBn (by kernel_rfl) ?_ _;refine kBk ?_;clear HX HEN HRA;go_wp2_with fail;go_loopg [44] 0 (fun gh s44 wx=>s44=.int .i64 0/\wx=w4)
 case atStart=>exact ⟨rfl,rfl⟩
 case round =>
  obtain ⟨rfl,hw⟩:=hrel;have hw:=hw.symm;subst hw;have HSO:=zH (bIo HM4.o HBW4.o HLL.o);go_wp2_with fail;refine HSO.o.mono ?_;rintro e w5 ⟨v5,rfl,hr5,hb5⟩;have HB5:Hid (Below w.heap.size w w5):=HB4.o.trans (hb5.mono HB4.o.size);have HFL:=zH (bC6 (most:=most) hr5 (by have:=hb5.size;have:=HBW4.o;omega) HLL.o);have HS5:Hid (w.heap.size<=w5.heap.size):=HB5.o.size;clear hr5 hb5 HSO;go_wp2_with fail;refine HFL.o.mono ?_;rintro e w6 ⟨v6,rfl,hr6,hb6⟩;have HR6:=zH hr6;have HB6:Hid (Below w.heap.size w w6):=HB5.o.trans (hb6.mono HS5.o);clear hr6 hb6 HFL;go_wp2;go_ret2;refine ⟨v6,rfl,?_,HB6.o⟩;rw [HRN.o];exact HR6.o.mono fun i hi=>by have:=(HR6.o.blk hi).1;have:=HS5.o;omega
end Go.Proofs.YtdpdjpkmndnaaaaGreat
