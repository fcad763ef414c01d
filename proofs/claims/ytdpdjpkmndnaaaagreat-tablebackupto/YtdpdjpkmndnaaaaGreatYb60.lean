import Derived.Deep.LoopGhost
import Derived.Test.YtdpdjpkmndnaaaaGreatYb57
import Derived.Maps.RangeWalk
import Derived.Maps.OwnSet
import Derived.StringKeys
set_option maxRecDepth 100000
set_option maxHeartbeats 16000000
set_option linter.unusedVariables false
namespace Go.Proofs.YtdpdjpkmndnaaaaGreat
open Go.RowKit _root_.Go.Proofs.Tryz
def kl (xs:List Nat):Lit:=.string (str xs).data.toList
theorem bE4 (xs:List Nat):(str xs).data.toList=xs.map UInt8.ofNat:=by
 simp [str,strOfNums,Function.comp_def]
theorem bKh {a b:List Nat} (ha:∀ n∈a,n<256) (hb:∀ n∈b,n<256) (h:kl a=kl b):a=b:=by
 unfold kl at h;rw [bE4,bE4] at h;have h:=Lit.string.inj h;have as8:∀ {a:List Nat},(∀ n∈a,n<256)->(a.map UInt8.ofNat).map UInt8.toNat=a:=by
  intro a h;rw [List.map_map]
  conv=>rhs;rw [<-List.map_id a]
  apply List.map_congr_left;intro n hn;have:=h n hn;simp only [Function.comp,UInt8.toNat_ofNat',id];omega
 rw [<-as8 ha,<-as8 hb,h]
def RH (v:Value):Option (DataW Value×List MemPlace):=some (.held v,[])
structure MP (B b n:Nat) (l:List Ch) (w:World) (D:DataW Value):Prop where
 own:w.ownsMap prog 9 RH b n D
 at_:∀ c∈l,∃ x,EvC B w x c/\∀ z,D.atKey (kl c.key) z=.held (.agg (f4 x).toArray)
 has:∀ k,Maps.has D k=true->∃ c∈l,k=kl c.key
 srt:SrC l
 siz:Maps.size D=l.length
theorem bCu:Maps.Keyed prog 9:=Maps.string_keyed underlying9
theorem grown_of {w w':World} (h:Below w.heap.size w w'):w.grownBy w' none:=⟨h.os,h.tape,h.output,h.size,fun i hi _=>h.block i hi⟩
section
variable {B b n:Nat} {l:List Ch} {w w':World} {D:DataW Value}
theorem EvC.byte {x:CE} {c:Ch} (h:EvC B w x c):∀ n∈c.key,n<256:=by
 obtain ⟨_,⟨_,_,_,hb⟩,_⟩:=h;exact hb.1.hbyte
theorem MP.byte (h:MP B b n l w D) {c:Ch} (hc:c∈l):∀ n∈c.key,n<256:=by
 obtain ⟨x,hx,_⟩:=h.at_ c hc;exact hx.byte
theorem MP.bw (h:MP B b n l w D):b<w.heap.size:=h.own.lt
theorem MP.later (h:MP B b n l w D) (hb:Below w.heap.size w w') (hB:B<=w.heap.size):MP B b n l w' D :=
 ⟨h.own.kept (grown_of hb) (by simp),fun c hc=>by
  obtain ⟨x,h1,h2⟩:=h.at_ c hc
  exact ⟨x,h1.ft (FT.of hb hB),h2⟩,h.has,h.srt,h.siz⟩
theorem MP.made (B:Nat) (w:World):MP B w.heap.size 0 [] (w.alloc (.map #[] 0)) (.map []) :=
 ⟨World.ownsMap_made w _ _ _,(fun c hc=>by simp at hc),(fun k hk=>by simp [Maps.has] at hk),List.Pairwise.nil,rfl⟩
theorem bTl {es:Array MapEntry} {ck:Nat} (hg:w.grownBy w' (some b)) (hm:w.heap[b]?=some (.map es ck)) (hB:B<=b):FT B w w':=by
 have hs:=(lO hm);refine ⟨⟨hg.os,hg.tape,hg.output,hg.size,fun i hi=>hg.block i (by omega) (fun e=>by simp at e;omega)⟩,fun i cs fz e=>?_⟩;rw [hg.block i (lO e) (fun q=>?_),e];simp at q;subst q;rw [hm] at e;cases e
theorem MP.put (h:MP B b n l w D) {x:CE} {c:Ch} (hx:EvC B w x c) (hB:B<=b) (ho:w'.ownsMap prog 9 RH b (n+1) (D.put (kl c.key) (.held (.agg (f4 x).toArray)))) (hg:w.grownBy w' (some b)):MP B b (n+1) (bBy c l) w' (D.put (kl c.key) (.held (.agg (f4 x).toArray))):=by
 have ht:=h.own.tidy bCu;have hk:Go.WideAt.IsKeyLit (kl c.key):=trivial;have hft:FT B w w':=by
  obtain ⟨es,ck,hm,_⟩:=h.own;exact bTl hg hm hB
 refine ⟨ho,fun d hd=>?_,fun k hk2=>?_,h.srt.ins,?_⟩
 ·rcases (aCu h.srt).1 hd with rfl | ⟨hd,hne⟩
  ·exact ⟨x,hx.ft hft,fun z=>Maps.atKey_put_same ht.isMap hk _ z⟩
  ·obtain ⟨y,h1,h2⟩:=h.at_ d hd;exact ⟨y,h1.ft hft,fun z=>by rw [Maps.atKey_put_other (fun e=>hne (bKh h1.byte hx.byte e))];exact h2 z⟩
 ·by_cases q:k=kl c.key
  ·exact ⟨c,(aCu h.srt).2 (Or.inl rfl),q⟩
  ·rw [Maps.has_put_other q] at hk2;obtain ⟨d,hd,e⟩:=h.has k hk2;refine ⟨d,(aCu h.srt).2 (Or.inr ⟨hd,fun e2=>q (by rw [e,e2])⟩),e⟩
 ·rw [Maps.size_put ht,h.siz];have hin:Maps.has D (kl c.key)=true↔∃ d∈l,d.key=c.key:=by
   constructor
   ·intro q;obtain ⟨d,hd,e⟩:=h.has _ q;exact ⟨d,hd,(bKh hx.byte (h.byte hd) e).symm⟩
   ·rintro ⟨d,hd,e⟩;obtain ⟨y,_,h2⟩:=h.at_ d hd;rw [<-e];exact Maps.has_true_of_atKey h2
  have hlen:∀ {l:List Ch},SrC l->(bBy c l).length=if (∃ d∈l,d.key=c.key) then l.length else l.length+1:=by
   intro l
   induction l with
   | nil=>intro _;simp [bBy]
   | cons e l ih =>
    intro hs;have h1:=(kAw.1 hs).1;have ih:=ih (kAw.1 hs).2;have lt_ne:∀ {a b:List Nat},bAb a b<0->b≠a:=fun q e=>by rw [e,aAu] at q;omega
    unfold bBy;by_cases q1:bAb c.key e.key<0
    ·rw [kAg q1,kAb ?_]
     ·simp
     ·rintro ⟨d,hd,e2⟩;rcases kAv.1 hd with rfl | hd
      ·exact lt_ne q1 e2
      ·exact lt_ne (aA6 q1 (h1 d hd)) e2
    ·rw [kAb q1];by_cases q2:bAb c.key e.key=0
     ·rw [kAg q2,kAg ⟨e,kAn,(aDr q2).symm⟩];simp
     ·rw [kAb q2,List.length_cons,ih];have iff:(∃ d∈e::l,d.key=c.key)↔∃ d∈l,d.key=c.key:=by
       constructor
       ·rintro ⟨d,hd,e2⟩;rcases kAv.1 hd with rfl | hd
        ·exact absurd (by rw [e2,aAu]) q2
        ·exact ⟨d,hd,e2⟩
       ·rintro ⟨d,hd,e2⟩;exact ⟨d,kAl _ hd,e2⟩
      by_cases q3:∃ d∈l,d.key=c.key
      ·rw [kAg q3,kAg (iff.2 q3)];simp
      ·rw [kAb q3,kAb (fun q=>q3 (iff.1 q))];simp
  rw [hlen h.srt];by_cases q:Maps.has D (kl c.key)=true
  ·rw [kAg q,kAg (hin.1 q)]
  ·rw [kAb q,kAb (fun e=>q (hin.2 e))]
end
end Go.Proofs.YtdpdjpkmndnaaaaGreat
set_option maxRecDepth 100000
set_option maxHeartbeats 16000000
set_option linter.unusedVariables false
namespace Go.Proofs.YtdpdjpkmndnaaaaGreat
open Go.RowKit _root_.Go.Proofs.Tryz
variable {B db g hc hn kc kn lc ln ls n p q:Nat} {W w w':World} {cs:List Ch} {ka:Option Addr} {key:List Nat} {sp:Int} {v:Value}
theorem bRd {la ha:Option Addr} {lo hi:List Nat} (h:DD B db ls v cs w) (hlo:BK B w la ln lc lo) (hhi:BK B w ha hn hc hi) (hl:cs.length<=1000) :
  Calls prog 75 #[.pointer (some ⟨db,0,none⟩),.int .i64 sp,.slice la ln lc,.slice ha hn hc] w fun e w'=>∃ b n D,e=.returned (.map (some b))/\MP B b n (bAr (inR sp lo hi) cs) w' D/\w.heap.size<=b/\n<=cs.length/\Below w.heap.size w w':=by
 have HBB:Hid (B<=w.heap.size):=by show B<=_;have:=h.hB;have:=h.bw;omega
 obtain ⟨ra,rc,ev⟩:=h.slice;subst ev;have HD:=zH h;have HLO:=zH hlo;have HHI:=zH hhi;have HHL:=zH hhi.1.hlen;have HM0:Hid (MP B w.heap.size 0 [] (w.alloc (.map #[] 0)) (.map [])):=MP.made B w;have HBX:Hid (Below w.heap.size w (w.alloc (.map #[] 0))):=aAk w _;have x1:w.cell? ⟨db,1,none⟩=some (.slice ra cs.length rc):=aAd h.blk;have x1':(w.alloc (.map #[] 0)).cell? ⟨db,1,none⟩=some (.slice ra cs.length rc):=aAd ((HBX.o.block db h.bw).trans h.blk);clear h hlo hhi;obtain ⟨N,hN⟩:∃ N,cs.length=N:=⟨_,rfl⟩;have HN:=zH hN;rw [hN] at x1 x1' hl;clear hN;have hmm:=@run_makeMap prog;go_enter func75,ntmps75;go_wp2_with fail;go_step3;go_wp2_with fail;go_step3;clear hmm;have x2:=x1';generalize w.alloc (.map #[] 0)=w1 at *;generalize hn0:w.heap.size=n0 at *;clear x1 x1';go_wp2_with fail;clear x2;go_loopg [18] N (fun gh s18 wx=>∃ j:Nat,j+gh=N/\s18=.int .i64 (j:Int)/\∃ n D,n<=j/\MP B n0 n (bAr (inR sp lo hi) (cs.take j)) wx D/\Below n0 w wx)
 case atStart=>exact ⟨0,by omega,rfl,0,_,by omega,HM0.o,HBX.o⟩
 case round =>
  obtain ⟨j,hj,rfl,n,D,hnj,hMP,hbr⟩:=hrel;have HMP:=zH hMP;have HBR:=zH hbr;clear hMP hbr;by_cases hjn:j<N
  ·have xj:(j:Int)<(N:Int):=by omega
   obtain ⟨c,hcj⟩:∃ c,cs[j]?=some c:=⟨_,gE (by rw [HN.o];exact hjn)⟩;have HTK:Hid (cs.take (j+1)=cs.take j++[c]):=by show _=_;rw [kAs,hcj];rfl
   obtain ⟨g,cap,x,e1,hx,hcell⟩:=HD.o.row.at aBi hcj;obtain ⟨xc,xk,xv⟩:=x;obtain ⟨e2,⟨ka,kc,e3,hbk⟩,⟨va,vc,e4,hbv⟩⟩:=hx;dsimp only at e2 e3 e4;subst e2 e3 e4;simp only [kBl] at e1;obtain ⟨rfl,_,rfl⟩:=e1;have hg:g<n0:=by
    have:=hcell 0 (by omega);by_cases q:g<n0
    ·exact q
    ·rw [show w.cell? ⟨g,j*4+0,none⟩=none from by
      unfold World.cell?
      rw [show w.heap[g]?=none from Array.getElem?_eq_none (by omega)]] at this
     simp [f4] at this
   have cc:∀ i,i<4->wr.cell? ⟨g,j*4+i,none⟩=(f4 (xc,.slice ka xc.key.length kc,.slice va xc.val.length vc))[i]?:=fun i hi=>by
    rw [<-hcell i hi];exact kBp (HBR.o.block g hg)
   have c0:wr.cell? ⟨g,j*4,none⟩=some (.int .i64 xc.sp):=cc 0 (by omega);have c1:wr.cell? ⟨g,j*4+1,none⟩=some (.slice ka xc.key.length kc):=cc 1 (by omega);have c2:wr.cell? ⟨g,j*4+2,none⟩=some (.slice va xc.val.length vc):=cc 2 (by omega);have c3:wr.cell? ⟨g,j*4+3,none⟩=some (.bool xc.gone):=cc 3 (by omega);have HBw:Hid (B<=n0):=HBB.o;have hbw0:Below w.heap.size w wr:=by rw [hn0];exact HBR.o
   have HBK:=zH (hbk.later hbw0 (by rw [hn0];exact HBw.o));have HBV:=zH (hbv.later hbw0 (by rw [hn0];exact HBw.o));have HLR:=zH (HLO.o.later hbw0 (by rw [hn0];exact HBw.o));have HHR:=zH (HHI.o.later hbw0 (by rw [hn0];exact HBw.o));clear hcell cc hbk hbv hbw0;obtain ⟨⟨csp,key,val,cg⟩,rfl⟩:∃ d:Ch,d=xc:=⟨_,rfl⟩;dsimp only at c0 c1 c2 c3 HBK HBV;have HKN:Hid (∃ kn,key.length=kn):=⟨_,rfl⟩;obtain ⟨kn,hkn⟩:=HKN.o;obtain ⟨vn,hvn⟩:∃ vn,val.length=vn:=⟨_,rfl⟩;have HKL:=zH hkn;have HVL:=zH hvn;rw [hkn] at c1 HBK;rw [hvn] at c2 HBV;clear HKN hkn hvn;have HBB2:Hid (B<=wr.heap.size):=by show B<=_;have:=HBR.o.size;have:=HBw.o;omega
   have HBOX:Hid (Below wr.heap.size wr (wr.alloc (.cells #[.int .i64 csp,.slice ka kn kc,.slice va vn vc,.bool cg] 164))):=aAk wr _;have HRB:Hid ((wr.alloc (.cells #[.int .i64 csp,.slice ka kn kc,.slice va vn vc,.bool cg] 164)).heap[wr.heap.size]?=some (.cells #[.int .i64 csp,.slice ka kn kc,.slice va vn vc,.bool cg] 164 (0,0))):=aAp [Obj.cells #[.int .i64 csp,.slice ka kn kc,.slice va vn vc,.bool cg] 164] wr 0 _ rfl;have HMB:=zH (HMP.o.later HBOX.o HBB2.o);have HK2:=zH (HBK.o.later HBOX.o HBB2.o);have HV2:=zH (HBV.o.later HBOX.o HBB2.o);have HL2:=zH (HLR.o.later HBOX.o HBB2.o);have HH2:=zH (HHR.o.later HBOX.o HBB2.o);have HB2:Hid (Below n0 w (wr.alloc (.cells #[.int .i64 csp,.slice ka kn kc,.slice va vn vc,.bool cg] 164))):=HBR.o.trans (HBOX.o.mono (by have:=HBR.o.size;omega));have HNW:Hid (n0<(wr.alloc (.cells #[.int .i64 csp,.slice ka kn kc,.slice va vn vc,.bool cg] 164)).heap.size):=by have:=HMB.o.bw;exact this
   go_upto_region 5 with fail;clear c0 c1 c2 c3;generalize (wr.alloc (.cells #[.int .i64 csp,.slice ka kn kc,.slice va vn vc,.bool cg] 164))=w2 at *;generalize hnb:wr.heap.size=nb at *;have d0:w2.cell? ⟨nb,0,none⟩=some (.int .i64 csp):=aAd HRB.o;have d1:w2.cell? ⟨nb,1,none⟩=some (.slice ka kn kc):=aAd HRB.o;have d2:w2.cell? ⟨nb,2,none⟩=some (.slice va vn vc):=aAd HRB.o;have d3:w2.cell? ⟨nb,3,none⟩=some (.bool cg):=aAd HRB.o;have HNO:Hid (inR sp lo hi ⟨csp,key,val,cg⟩=false->∃ j':Nat,j'+(gk-1)=N/\(.int .i64 ((j:Int)+1):Value)=.int .i64 j'/\∃ n D,n<=j'/\MP B n0 n (bAr (inR sp lo hi) (cs.take j')) w2 D/\Below n0 w w2):=by
    intro hq;refine ⟨j+1,by omega,rfl,n,D,by omega,?_,HB2.o⟩;rw [HTK.o,aB7 hq];exact HMB.o
   have HCL:=zH (aA9 ka la kn kc ln lc key lo w2 HK2.o.1 HL2.o.1);have HCH:=zH (aA9 ka ha kn kc hn hc key hi w2 HK2.o.1 HH2.o.1);obtain ⟨ks,hks⟩:∃ ks,str key=ks:=⟨_,rfl⟩;have hcv:(convert 97 9 (.slice ka kn kc)).run prog w2=.ok (.string ks) w2:=by rw [<-hks];exact run_text HK2.o.1
   have HKEY:Hid (keyOf prog 9 (.string ks)=some (kl key)):=by
    show _=_;rw [<-hks];exact Go.WideMaps.keyOf_string_mk underlying9 (by rw [bMx];have:=HK2.o.1.hroom;have:=HKL.o;unfold maxLen;omega)
   have HEV:Hid (EvC B w2 (⟨csp,key,val,cg⟩,.slice ka kn kc,.slice va vn vc) ⟨csp,key,val,cg⟩):=⟨rfl,⟨ka,kc,by show Value.slice ka kn kc=.slice ka key.length kc;rw [HKL.o],by show BK B w2 ka key.length kc key;rw [HKL.o];exact HK2.o⟩,⟨va,vc,by show Value.slice va vn vc=.slice va val.length vc;rw [HVL.o],by show BK B w2 va val.length vc val;rw [HVL.o];exact HV2.o⟩⟩;clear hks;by_cases q1:csp=sp
   ·subst q1;by_cases q2:bAb key lo<0
    ·have HP:Hid (inR csp lo hi ⟨csp,key,val,cg⟩=false):=by show _=_;unfold inR;simp;intro _;omega
     generalize bAb key lo=t at *;go_wp2_with fail;refine HCL.o.mono ?_;rintro e w3 ⟨rfl,e3⟩;have e3:=e3.symm;subst e3;clear e3;go_wp2;go_roundg (gk-1)
     case measure=>omega
     case rel=>exact HNO.o HP.o
    ·by_cases q3:hn=0
     ·have HP:Hid (inR csp lo hi ⟨csp,key,val,cg⟩=true):=by
       show _=_;have e0:hi=[]:=kAf (by rw [HHL.o];exact q3);unfold inR;simp [e0];omega
      generalize bAb key lo=t at *;subst q3;go_wp2_with fail;refine HCL.o.mono ?_;rintro e w3 ⟨rfl,e3⟩;have e3:=e3.symm;subst e3;clear e3;go_wp2_with (at_mapUpdate;refine wpList_mapUpdate_own _ rfl _ _ _ 161 rfl 9 164 bCu underlying161 RH n0 n D rfl HMB.o.own (by unfold maxLen;omega) _ _ (kl key) rfl rfl HKEY.o (.held (.agg (f4 (⟨csp,key,val,cg⟩,.slice ka kn kc,.slice va vn vc)).toArray)) [] rfl ?_;intro w3 ho3 hg3;have HO3:=zH ho3;have HG3:=zH hg3;clear ho3 hg3);go_roundg (gk-1)
      case measure=>omega
      case rel =>
       refine ⟨j+1,by omega,rfl,n+1,D.put (kl key) (.held (.agg (f4 (⟨csp,key,val,cg⟩,.slice ka kn kc,.slice va vn vc)).toArray)),by omega,?_,HB2.o.trans ((kBh n0 _).grown HG3.o (by have:=HNW.o;omega) (fun k hk=>by cases hk;exact nR _))⟩;rw [HTK.o,aBu HP.o];exact HMB.o.put HEV.o HBw.o HO3.o HG3.o
     ·have q3':(0:Int)<(hn:Int):=by omega
      by_cases q4:bAb key hi<0
      ·have HP:Hid (inR csp lo hi ⟨csp,key,val,cg⟩=true):=by show _=_;unfold inR;simp [q4];omega
       have q4':¬ bAb key hi≥0:=by omega
       generalize bAb key lo=t at *;generalize bAb key hi=t2 at *;clear q3;go_wp2_with fail;refine HCL.o.mono ?_;rintro e w3 ⟨rfl,e3⟩;have e3:=e3.symm;subst e3;clear e3;go_wp2_with fail;refine HCH.o.mono ?_;rintro e w3 ⟨rfl,e3⟩;have e3:=e3.symm;subst e3;clear e3;go_wp2_with (at_mapUpdate;refine wpList_mapUpdate_own _ rfl _ _ _ 161 rfl 9 164 bCu underlying161 RH n0 n D rfl HMB.o.own (by unfold maxLen;omega) _ _ (kl key) rfl rfl HKEY.o (.held (.agg (f4 (⟨csp,key,val,cg⟩,.slice ka kn kc,.slice va vn vc)).toArray)) [] rfl ?_;intro w3 ho3 hg3;have HO3:=zH ho3;have HG3:=zH hg3;clear ho3 hg3);go_roundg (gk-1)
       case measure=>omega
       case rel =>
        refine ⟨j+1,by omega,rfl,n+1,D.put (kl key) (.held (.agg (f4 (⟨csp,key,val,cg⟩,.slice ka kn kc,.slice va vn vc)).toArray)),by omega,?_,HB2.o.trans ((kBh n0 _).grown HG3.o (by have:=HNW.o;omega) (fun k hk=>by cases hk;exact nR _))⟩;rw [HTK.o,aBu HP.o];exact HMB.o.put HEV.o HBw.o HO3.o HG3.o
      ·have HP:Hid (inR csp lo hi ⟨csp,key,val,cg⟩=false):=by
        show _=_;have e0:¬ hi=[]:=fun e=>q3 (by rw [<-HHL.o,e];rfl);unfold inR;simp [e0];intro _;omega
       have q4':bAb key hi≥0:=by omega
       generalize bAb key lo=t at *;generalize bAb key hi=t2 at *;clear q3;go_wp2_with fail;refine HCL.o.mono ?_;rintro e w3 ⟨rfl,e3⟩;have e3:=e3.symm;subst e3;clear e3;go_wp2_with fail;refine HCH.o.mono ?_;rintro e w3 ⟨rfl,e3⟩;have e3:=e3.symm;subst e3;clear e3;go_wp2;go_roundg (gk-1)
       case measure=>omega
       case rel=>exact HNO.o HP.o
   ·have HP:Hid (inR sp lo hi ⟨csp,key,val,cg⟩=false):=by show _=_;unfold inR;simp [q1]
    go_wp2;go_roundg (gk-1)
    case measure=>omega
    case rel=>exact HNO.o HP.o
  ·have ej:j=N:=by omega
   have HM:=HMP.o;rw [ej,<-HN.o,List.take_length] at HM;have HM:=zH HM;have xj:¬ (j:Int)<(N:Int):=by omega
   go_wp2
   try rw [Exit.noGoto_ret]
   go_ret;exact ⟨n0,n,D,rfl,HM.o,by omega,by rw [HN.o];omega,by rw [hn0];exact HBR.o⟩
def bA8 (cs:List Ch) (sp:Int) (key:List Nat):Nat->Option Ch
 | 0=>none
 | n+1=>match cs[n]? with
  | some c=>if c.sp=sp/\c.key=key then some c else bA8 cs sp key n
  | none=>none
def bF6 (cs:List Ch) (sp:Int) (key:List Nat):Option Ch:=bA8 cs sp key cs.length
theorem aF3 {c:Ch} (h:cs[n]?=some c) (h1:c.sp=sp) (h2:c.key=key):bA8 cs sp key (n+1)=some c:=by
 unfold bA8;rw [h];exact kAg ⟨h1,h2⟩
theorem aHn {c:Ch} (h:cs[n]?=some c) (h1:¬ (c.sp=sp/\c.key=key)):bA8 cs sp key (n+1)=bA8 cs sp key n:=by
 show (match cs[n]? with | some c=>if c.sp=sp/\c.key=key then some c else bA8 cs sp key n | none=>none)=_;rw [h];exact kAb h1
def GtO (B:Nat) (o:Option Ch) (vv:Value) (is:Bool) (w':World):Prop:=match o with
 | none=>vv=.slice none 0 0/\is=false
 | some c=>if c.gone=true then vv=.slice none 0 0/\is=false else is=true/\KV B w' vv c.val
def GtD (B:Nat) (o:Option Ch) (e:Ending) (w':World):Prop:=∃ vv is,e=.returned (.tuple #[vv,.bool is,.int .i64 0])/\GtO B o vv is w'
theorem GtD.no {o:Option Ch} (h:o=none):GtD B o (.returned (.tuple #[.slice none 0 0,.bool false,.int .i64 0])) w':=by
 subst h;exact ⟨_,_,rfl,rfl,rfl⟩
theorem GtD.gone {o:Option Ch} {c:Ch} (h:o=some c) (hg:c.gone=true):GtD B o (.returned (.tuple #[.slice none 0 0,.bool false,.int .i64 0])) w':=by
 subst h;refine ⟨_,_,rfl,?_⟩;show if c.gone=true then _ else _
 rw [kAg hg];exact ⟨rfl,rfl⟩
theorem GtD.yes {o:Option Ch} {c:Ch} {vv:Value} (h:o=some c) (hg:c.gone=false) (hv:KV B w' vv c.val):GtD B o (.returned (.tuple #[vv,.bool true,.int .i64 0])) w':=by
 subst h;refine ⟨_,_,rfl,?_⟩;show if c.gone=true then _ else _
 rw [kAb (by rw [hg];decide)];exact ⟨rfl,hv⟩
theorem bLk [Gd] {N0 c0 u0:Nat} (hL:LS B p q g ls N0 c0 u0 [] W w) (h:DD B db ls v cs w) (hl:cs.length<=1000) (hk:BK B w ka kn kc key) (hr:wrg sp kn 0=0) :
  Calls prog 81 #[.pointer (some ⟨db,0,none⟩),.int .i64 sp,.slice ka kn kc] w fun e w'=>GtD B (bF6 cs sp key) e w'/\Below w.heap.size w w':=by
 have HBB:Hid (B<=w.heap.size):=by show B<=_;have:=h.hB;have:=h.bw;omega
 obtain ⟨ra,rc,ev⟩:=h.slice;have HGT:=zH (hL.GetE hk sp);rw [hr] at HGT;subst ev;have HD:=zH h;have HK:=zH hk;have y0:w.cell? ⟨db,0,none⟩=some (.pointer (some ⟨ls,0,none⟩)):=aAd h.blk;clear h hL hk hr;obtain ⟨N,hN⟩:∃ N,cs.length=N:=⟨_,rfl⟩;have HN:=zH hN;have HG0:Hid (bF6 cs sp key=bA8 cs sp key N):=by show _=_;rw [<-hN];rfl
 generalize bF6 cs sp key=go at *;rw [hN] at hl HD;clear hN;go_enter func81,ntmps81;go_wp2_with fail;go_step3;go_wp2_with fail;refine HGT.o.mono ?_;rintro e w1 ⟨rfl,hb1⟩;have HD1:=zH (HD.o.later hb1);have HK1:=zH (HK.o.later hb1 HBB.o);have HB1:=zH hb1;have HBB1:Hid (B<=w1.heap.size):=by show B<=_;have:=hb1.size;have:=HBB.o;omega
 have x1:w1.cell? ⟨db,1,none⟩=some (.slice ra N rc):=aAd HD1.o.blk;clear y0 hb1 HGT HD HK;generalize hn0:w.heap.size=n0 at *;go_wp2_with fail;go_step3;go_wp2_with fail;clear x1;have HWW:Hid (n0<=w1.heap.size):=by show n0<=_;rw [<-hn0];exact HB1.o.size
 go_loopg [9,10,12] N (fun gh s9 s10 s12 wx=>s9=.slice none 0 0/\s10=.bool false/\s12=.int .i64 ((gh:Int)-1)/\gh<=N/\go=bA8 cs sp key gh/\Below w1.heap.size w1 wx)
 case atStart=>exact ⟨rfl,rfl,rfl,nR _,HG0.o,kBh _ _⟩
 case round =>
  obtain ⟨rfl,rfl,rfl,hj,hgo,hbr⟩:=hrel;have HGO:=zH hgo;have HBR:=zH hbr;clear hgo hbr;by_cases hjn:0<gk
  ·obtain ⟨j,rfl⟩:∃ j,gk=j+1:=⟨gk-1,by omega⟩;obtain ⟨cc,hcj⟩:∃ c,cs[j]?=some c:=⟨_,gE (by rw [HN.o];omega)⟩;have HYES:Hid (cc.sp=sp->cc.key=key->go=some cc):=fun q1 q2=>HGO.o.trans (aF3 hcj q1 q2)
   have HNO:Hid (¬ (cc.sp=sp/\cc.key=key)->go=bA8 cs sp key j):=fun q=>HGO.o.trans (aHn hcj q);obtain ⟨g',cap,x,e1,hx,hcell⟩:=HD1.o.row.at aBi hcj;obtain ⟨xc,xk,xv⟩:=x;have hx2:=hx;obtain ⟨e2,⟨ka2,kc2,e3,hbk⟩,⟨va,vc,e4,hbv⟩⟩:=hx;dsimp only at e2 e3 e4;subst e2;simp only [kBl] at e1;obtain ⟨rfl,zz1,rfl⟩:=e1;clear zz1;have hg:g'<w1.heap.size:=by
    have:=hcell 0 (by omega);by_cases q:g'<w1.heap.size
    ·exact q
    ·rw [show w1.cell? ⟨g',j*4+0,none⟩=none from by
      unfold World.cell?
      rw [show w1.heap[g']?=none from Array.getElem?_eq_none (by omega)]] at this
     simp [f4] at this
   have ccl:∀ i,i<4->wr.cell? ⟨g',j*4+i,none⟩=(f4 (xc,xk,xv))[i]?:=fun i hi=>by
    rw [<-hcell i hi];exact kBp (HBR.o.block g' hg)
   have c0:wr.cell? ⟨g',j*4,none⟩=some (.int .i64 xc.sp):=ccl 0 (by omega);have c1:wr.cell? ⟨g',j*4+1,none⟩=some xk:=ccl 1 (by omega);have c2:wr.cell? ⟨g',j*4+2,none⟩=some xv:=ccl 2 (by omega);have c3:wr.cell? ⟨g',j*4+3,none⟩=some (.bool xc.gone):=ccl 3 (by omega);have x1:wr.cell? ⟨db,1,none⟩=some (.slice (some ⟨g',0,none⟩) N rc):=(HBR.o.cell (lO HD1.o.blk)).trans (aAd HD1.o.blk);obtain ⟨kn2,hkn⟩:∃ kn,xc.key.length=kn:=⟨_,rfl⟩;obtain ⟨vn,hvn⟩:∃ vn,xc.val.length=vn:=⟨_,rfl⟩;have HBW:Hid (B<=wr.heap.size):=by show B<=_;have:=HBR.o.size;have:=HBB1.o;omega
   rw [hkn] at e3 hbk;rw [hvn] at e4 hbv;subst e3 e4;have HKR:=zH (hbk.later HBR.o HBB1.o);have HVR:=zH (hbv.later HBR.o HBB1.o);have HKK:=zH (HK1.o.later HBR.o HBB1.o);obtain ⟨csp,hcsp⟩:∃ s,xc.sp=s:=⟨_,rfl⟩;obtain ⟨cg,hcg⟩:∃ s,xc.gone=s:=⟨_,rfl⟩;rw [hcsp] at c0;rw [hcg] at c3;have HCS:=zH hcsp;have HCG:=zH hcg;have HKN:=zH hkn;have HVN:=zH hvn;clear hcsp hcg hkn hvn hcell ccl hbk hbv hx2 hcj;have HBOX:Hid (Below wr.heap.size wr (wr.alloc (.cells #[.int .i64 csp,.slice ka2 kn2 kc2,.slice va vn vc,.bool cg] 164))):=aAk wr _;have HRB:Hid ((wr.alloc (.cells #[.int .i64 csp,.slice ka2 kn2 kc2,.slice va vn vc,.bool cg] 164)).heap[wr.heap.size]?=some (.cells #[.int .i64 csp,.slice ka2 kn2 kc2,.slice va vn vc,.bool cg] 164 (0,0))):=kBm wr _;have HK2:=zH (HKR.o.later HBOX.o HBW.o);have HV2:=zH (HVR.o.later HBOX.o HBW.o);have HKY:=zH (HKK.o.later HBOX.o HBW.o);have HB2:Hid (Below w1.heap.size w1 (wr.alloc (.cells #[.int .i64 csp,.slice ka2 kn2 kc2,.slice va vn vc,.bool cg] 164))):=HBR.o.trans (HBOX.o.mono HBR.o.size);have ej:(((j+1:Nat):Int)-1)=(j:Int):=by omega
   have x0:(0:Int)<=(j:Int):=by omega
   have xn:(j:Int)<(N:Int):=by omega
   rw [ej];clear ej HKR HVR HKK;go_upto_region 9 with fail;clear c0 c1 c2 c3 x1;generalize (wr.alloc (.cells #[.int .i64 csp,.slice ka2 kn2 kc2,.slice va vn vc,.bool cg] 164))=w2 at *;have HSZ:Hid (wr.heap.size<=w2.heap.size):=HBOX.o.size;have HBW2:Hid (B<=w2.heap.size):=by show B<=_;have:=HSZ.o;have:=HBW.o;omega
   generalize hnb:wr.heap.size=nb at *;have d0:w2.cell? ⟨nb,0,none⟩=some (.int .i64 csp):=aAd HRB.o;have d1:w2.cell? ⟨nb,1,none⟩=some (.slice ka2 kn2 kc2):=aAd HRB.o;have d2:w2.cell? ⟨nb,2,none⟩=some (.slice va vn vc):=aAd HRB.o;have d3:w2.cell? ⟨nb,3,none⟩=some (.bool cg):=aAd HRB.o;by_cases q1:csp=sp
   ·subst q1;have HEQ:=zH (aCp ka2 ka kn2 kc2 kn kc xc.key key w2 HK2.o.1 HKY.o.1);by_cases q2:xc.key=key
    ·have HGS:Hid (go=some xc):=HYES.o HCS.o q2;rw [kAc q2] at HEQ;clear q2;go_wp2_with fail;refine HEQ.o.mono ?_;rintro e w3 ⟨rfl,e3⟩;have e3:=e3.symm;subst e3;clear e3
     cases cg with
     | true =>
      go_wp2;unfold Exit.noGoto;go_ret3;refine ⟨GtD.gone HGS.o HCG.o,?_⟩
      first | exact HB1.o.trans (HB2.o.mono HWW.o) | (rw [hn0];exact HB1.o.trans (HB2.o.mono HWW.o))
     | false =>
      have HCN:=zH (aB9 va vn vc xc.val w2 HV2.o.1);go_wp2_with fail;refine HCN.o.mono ?_;rintro e w3 ⟨v3,rfl,ho3,hb3⟩;have HKV:Hid (KV B w3 v3 xc.val):=by
       obtain ⟨a3,c3,e3,hk3⟩:=BK.owned (B:=B) ho3 (by have:=HV2.o.1.hroom;have:=HV2.o.1.hlen;omega) HV2.o.1.hbyte;exact ⟨a3,c3,e3,hk3⟩
      have HB3:Hid (Below w1.heap.size w1 w3):=HB2.o.trans (hb3.mono HB2.o.size);clear ho3 hb3 HCN;go_wp2;unfold Exit.noGoto;go_ret3;refine ⟨GtD.yes HGS.o HCG.o HKV.o,?_⟩
      first | exact HB1.o.trans (HB3.o.mono HWW.o) | (rw [hn0];exact HB1.o.trans (HB3.o.mono HWW.o))
    ·have HGS:Hid (go=bA8 cs csp key j):=HNO.o fun q=>q2 q.2
     rw [kAd q2] at HEQ;clear q2;go_wp2_with fail;refine HEQ.o.mono ?_;rintro e w3 ⟨rfl,e3⟩;have e3:=e3.symm;subst e3;clear e3;go_wp2;go_roundg j
     case measure=>omega
     case rel=>exact ⟨rfl,rfl,rfl,by omega,HGS.o,HB2.o⟩
   ·have HGS:Hid (go=bA8 cs sp key j):=HNO.o fun q=>q1 (HCS.o.symm.trans q.1)
    go_wp2;go_roundg j
    case measure=>omega
    case rel=>exact ⟨rfl,rfl,rfl,by omega,HGS.o,HB2.o⟩
  ·have e0:gk=0:=by omega
   subst e0;have HE:Hid (go=none):=HGO.o;go_wp2;unfold Exit.noGoto;go_ret3;refine ⟨GtD.no HE.o,?_⟩
   first | exact HB1.o.trans (HBR.o.mono HWW.o) | (rw [hn0];exact HB1.o.trans (HBR.o.mono HWW.o))
end Go.Proofs.YtdpdjpkmndnaaaaGreat
set_option maxRecDepth 100000
set_option maxHeartbeats 16000000
set_option linter.unusedVariables false
namespace Go.Proofs.YtdpdjpkmndnaaaaGreat
open Go.RowKit Go.Shelf _root_.Go.Proofs.Tryz
variable {B:Nat} {W w:World}
abbrev SE (B:Nat) (w:World):={x:CE // EvC B w x x.1}
instance (B:Nat) (w:World):Inhabited (SE B w):=⟨⟨(⟨0,[],[],false⟩,.slice none 0 0,.slice none 0 0),rfl,⟨none,0,rfl,BK.nil B w⟩,⟨none,0,rfl,BK.nil B w⟩⟩⟩
def bGe {B:Nat} {w:World} (x:SE B w):List Value:=f4 x.1
def cfE {B:Nat} {w:World} (x y:SE B w):Int:=bAb x.1.1.key y.1.1.key
theorem bVv:Sort.SWO (ltOf (cfE (B:=B) (w:=w))) where
 irrefl x:=by simp [ltOf,cfE,aAu]
 trans x y z h1 h2:=kAc (aA6 (of_decide_eq_true h1) (of_decide_eq_true h2))
 ntrans x y z h1 h2:=by
  have h1:¬ bAb x.1.1.key y.1.1.key<0:=of_decide_eq_false h1;have h2:¬ bAb y.1.1.key z.1.1.key<0:=of_decide_eq_false h2;refine kAd (fun h3:bAb x.1.1.key z.1.1.key<0=>?_);rcases aK2 x.1.1.key y.1.1.key with q | q | q
  ·omega
  ·rw [aDr q] at h3;exact h2 h3
  ·have h4:bAb y.1.1.key x.1.1.key<0:=aK1.1 (by omega);exact h2 (aA6 h4 h3)
theorem bSq {α:Type} [Inhabited α] (enc:α->List Value) (k:Nat) (w:World) (blk m:Nat) (dk:Array α) (os:Array Obj) {cur:Array Value} {te:TypeId} (hb:w.heap[blk]?=some (.cells cur te (0,0))) :
  (sortWorldK enc k w blk 0 m dk os).os=w.os/\(sortWorldK enc k w blk 0 m dk os).tape=w.tape/\(sortWorldK enc k w blk 0 m dk os).output=w.output/\w.heap.size<=(sortWorldK enc k w blk 0 m dk os).heap.size /\
  (∀ i,i<w.heap.size->i≠blk->(sortWorldK enc k w blk 0 m dk os).heap[i]?=w.heap[i]?) /\
  (sortWorldK enc k w blk 0 m dk os).heap[blk]?=some (.cells (Sort.putCells id 0 (Sort.flatK enc k dk) cur) te (0,0)):=by
 have hlt:=(lO hb);refine ⟨rfl,rfl,rfl,?_,fun i hi hne=>?_,?_⟩
 ·simp [sortWorldK,Sort.grow,Sort.putRowK,Sort.putRow,Sort.mapBlock,Sort.ahead]
 ·simp only [sortWorldK,Sort.grow,Sort.putRowK,Sort.putRow,Sort.mapBlock,Sort.ahead];rw [Array.getElem?_append_left (by simpa using hi),Array.getElem?_modify,kAb (fun e=>hne e.symm)]
 ·simp only [sortWorldK,Sort.grow,Sort.putRowK,Sort.putRow,Sort.mapBlock,Sort.ahead];rw [Array.getElem?_append_left (by simpa using hlt),Array.getElem?_modify,kAg rfl,hb];rfl
theorem bO5 {α:Type} [Inhabited α] (enc:α->List Value) (k:Nat) (w:World) (blk m:Nat) (dk:Array α) (os:Array Obj) {cur:Array Value} {te B:Nat} (hb:w.heap[blk]?=some (.cells cur te (0,0))) (hB:B<=blk) (hte:te≠5):FT B w (sortWorldK enc k w blk 0 m dk os):=by
 obtain ⟨h1,h2,h3,h4,h5,h6⟩:=bSq enc k w blk m dk os hb;have hlt:=(lO hb);refine ⟨⟨h1,h2,h3,h4,fun i hi=>h5 i (by omega) (by omega)⟩,fun i cs fz e=>?_⟩;rw [h5 i (lO e) (fun q=>?_),e];subst q;rw [hb] at e;simp only [oI,cI] at e;exact hte e.2.1
theorem bQe (x y:SE B w) (hf:FT B w W) :
  Calls prog 125 #[.agg (bGe x).toArray,.agg (bGe y).toArray] W fun e w'=>e=.returned (.int .i64 (cfE x y))/\∃ q os',w'=Sort.grow (W.drewN q) os':=by
 obtain ⟨⟨xc,x2,x3⟩,hx⟩:=x;obtain ⟨⟨yc,y2,y3⟩,hy⟩:=y;obtain ⟨_,⟨xa,xn,e1,hx1⟩,⟨xb,xm,e2,hx2⟩⟩:=hx;obtain ⟨_,⟨ya,yn,e3,hy1⟩,⟨yb,ym,e4,hy2⟩⟩:=hy;dsimp only at e1 e2 e3 e4;subst e1 e2 e3 e4;show Calls prog 125 #[.agg #[.int .i64 xc.sp,.slice xa xc.key.length xn,.slice xb xc.val.length xm,.bool xc.gone],.agg #[.int .i64 yc.sp,.slice ya yc.key.length yn,.slice yb yc.val.length ym,.bool yc.gone]] W fun e w'=>e=.returned (.int .i64 (bAb xc.key yc.key))/\_;have hbx:∀ o1 o2:Obj,Below W.heap.size W ((W.alloc o1).alloc o2):=fun o1 o2=>(aA3 [o1,o2] W).1;have hc:∀ o1 o2:Obj,Calls prog 117 #[.slice xa xc.key.length xn,.slice ya yc.key.length yn] ((W.alloc o1).alloc o2) fun e w'=>e=.returned (.int .i64 (bAb xc.key yc.key))/\w'=(W.alloc o1).alloc o2:=fun o1 o2=>by
  have hB:B<=W.heap.size\/W.heap.size<B:=by omega
  have f2:∀ {a n c xs},BK B w a n c xs->BS ((W.alloc o1).alloc o2) a n c xs:=fun {a n c xs} h=>by
   have h1:=h.ft hf;refine ⟨h1.1.hlen,h1.1.hcap,h1.1.hroom,h1.1.hmax,h1.1.hbyte,h1.1.hnil,fun z hz i hi=>?_⟩;have h2:=h1.1.hcell z hz i hi;rw [<-h2];refine kBp ?_;have e:(z.add i).block=z.block:=by unfold Addr.add;split<;>rfl
   rw [e];refine (hbx o1 o2).block _ ?_;by_cases q:z.block<W.heap.size
   ·exact q
   ·exfalso;unfold World.cell? at h2;rw [e,show W.heap[z.block]?=none from Array.getElem?_eq_none (by omega)] at h2;cases h2
  exact aA9 _ _ _ _ _ _ _ _ _ (f2 hx1) (f2 hy1)
 have HC:=zH hc;clear hc hbx hx1 hx2 hy1 hy2;generalize bAb xc.key yc.key=r at *;generalize xc.key.length=n1 at *;generalize yc.key.length=n2 at *;go_enter func125,ntmps125;go_wp2_with fail;refine (HC.o _ _).mono ?_;rintro e w' ⟨rfl,rfl⟩;go_wp2;go_ret;exact ⟨rfl,0,_,by rw [Sort.alloc_eq_grow,Sort.alloc_eq_grow,Sort.grow_grow];rfl⟩
end Go.Proofs.YtdpdjpkmndnaaaaGreat
set_option linter.unusedVariables false
namespace Go.Proofs.YtdpdjpkmndnaaaaGreat
open Go.RowKit Go.Shelf _root_.Go.Proofs.Tryz
theorem bK9 {B:Nat} {w:World} (d:List (SE B w)):(Sort.flatK bGe 4 d.toArray).toList=rC f4 (d.map (·.1)):=by
 have hl:(Sort.flatK bGe 4 d.toArray).size=d.length*4:=by rw [Sort.size_flatK];simp
 apply List.ext_getElem?;intro t;by_cases ht:t<d.length*4
 ·have hi:t / 4<d.length:=by omega
  have hj:t % 4<4:=Nat.mod_lt _ (by omega);have e:=bJd aBi (kv:=d.map (·.1)) (i:=t / 4) (x:=d[t / 4].1) (by rw [kAq,gE hi];rfl) (t % 4) hj;rw [show t / 4*4+t % 4=t by omega] at e;rw [e,kBe,Array.getElem?_eq_getElem (by omega)];have g:=Sort.get_flatK bGe 4 d.toArray t (by simpa using ht);rw [getElem!_pos _ t (by omega)] at g;rw [g];have e2:(d.toArray[t / 4]!)=d[t / 4]:=by rw [getElem!_pos _ _ (by simpa using hi)];simp
  rw [e2];show some ((f4 d[t / 4].1)[t % 4]!)=(f4 d[t / 4].1)[t % 4]?;rw [gE (by rw [aBi];exact hj),getElem!_pos]
 ·rw [kA6 (by rw [Array.length_toList];omega),kA6 (by rw [bJc aBi,kAp];omega)]
theorem bM8 {X cur:Array Value} (h:X.size<=cur.size):(Sort.putCells id 0 X cur).size=cur.size/\(Sort.putCells id 0 X cur).toList.take X.size=X.toList:=by
 have hs:(Sort.putCells id 0 X cur).size=cur.size:=by simp [Sort.putCells]
 refine ⟨hs,?_⟩;apply List.ext_getElem?;intro t;rw [List.getElem?_take];by_cases ht:t<X.size
 ·rw [kAg ht,kBe,kBe,Array.getElem?_eq_getElem (by omega),Array.getElem?_eq_getElem ht];simp only [Sort.putCells,Array.getElem_mapIdx];rw [kAg ⟨kAm _,by omega⟩];rw [Nat.sub_zero,getElem!_pos _ t ht];rfl
 ·rw [kAb ht,kA6 (by rw [Array.length_toList];omega)]
theorem bKe {B:Nat} {w:World}:∀ (kv:List CE),(∀ x∈kv,EvC B w x x.1)->∃ d:List (SE B w),d.map (·.1)=kv
 | [],_=>⟨[],rfl⟩
 | x::kv,h=>by
  obtain ⟨d,hd⟩:=bKe kv (fun y hy=>h y (kAl _ hy))
  exact ⟨⟨x,h x kAn⟩::d,by rw [List.map_cons,hd]⟩
theorem bGv {B B1 g cap:Nat} {w:World} {F:List Ch} (h:CRW B B1 w (.slice (some ⟨g,0,none⟩) F.length cap) F) (hB:B<=B1) (hl:F.length<=100000) (hd:F.Pairwise fun x y=>x.key≠y.key) :
  Calls prog 124 #[.slice (some ⟨g,0,none⟩) F.length cap,.func (.func 125) #[] #[]] w fun e w'=>e=.returned (.tuple #[])/\∃ F',F'.Perm F/\SrC F'/\CRW B B1 w' (.slice (some ⟨g,0,none⟩) F.length cap) F'/\FT B w w'/\Below B1 w w'/\∀ i,i<w.heap.size->i≠g->w'.heap[i]?=w.heap[i]?:=by
 obtain ⟨kv,hkl,⟨hlen,hown⟩,hall⟩:=h;rcases hown with ⟨e,_⟩ | ⟨g',cap',cur,e,hBg,hg,hnc,hcm,hcs,htake⟩
 ·cases e
 simp only [kBl,oI,Addr.mk.injEq] at e;obtain ⟨⟨rfl,_⟩,_,rfl⟩:=e;have hkv:∀ x∈kv,EvC B w x x.1:=by
  intro x hx;obtain ⟨i,hi⟩:=kBc hx;obtain ⟨c,hc⟩:∃ c,F[i]?=some c:=⟨_,gE (by have:=(lL hi);omega)⟩;have:=hall i c x hc hi;rw [this.1];exact this
 have hF:kv.map (·.1)=F:=by
  apply List.ext_getElem?;intro i;rw [kAq];by_cases q:i<F.length
  ·obtain ⟨x,hx⟩:∃ x,kv[i]?=some x:=⟨_,gE (by omega)⟩;obtain ⟨c,hc⟩:∃ c,F[i]?=some c:=⟨_,gE q⟩;rw [hx,hc,Option.map_some,(hall i c x hc hx).1]
  ·rw [kA6 (by omega),kA6 (by omega)];rfl
 obtain ⟨d,hdk⟩:=bKe kv hkv;have hds:d.length=F.length:=by rw [<-hkl,<-hdk,kAp]
 have hflat:(Sort.flatK bGe 4 d.toArray).toList=rC f4 kv:=by rw [bK9,hdk]
 have hH:Sort.HoldsK bGe 4 w g 0 d.toArray:=by
  intro j hj;rw [Sort.size_flatK] at hj;simp only [List.size_toArray] at hj;rw [Nat.zero_add];refine ⟨?_,aAm hg⟩;rw [aAd hg,getElem!_pos _ j (by rw [Sort.size_flatK];simpa using hj)];have e1:(cur.toList.take (F.length*4))[j]?=(Sort.flatK bGe 4 d.toArray).toList[j]?:=by rw [htake,hflat]
  rw [List.getElem?_take,kAg (by omega),kBe,kBe] at e1;rw [e1];exact Array.getElem?_eq_getElem (by rw [Sort.size_flatK];simpa using hj)
 have eg:∀ args w,(callFunc 125 args).run prog w=.ok (.enter 125 args) w:=enters_of func125 (by kernel_rfl) rfl;have hcon:=AnyQ.slices_SortFunc bT8 4 isAgg164 sizeOf164 (bGe (B:=B) (w:=w)) (fun x=>aBi x.1) (fun x v hv=>x.2.one4 v hv) cfE bVv 125 #[] g 0 cap d.toArray w eg (fun m os dk hs x y=>bQe x y (bO5 _ 4 w g m dk os hg (by omega) (by decide))) hH (lO hg) (by simp;omega);have hsz:d.toArray.size=F.length:=by simpa using hds
 rw [hsz] at hcon;change Calls prog 124 _ _ _ at hcon;refine hcon.mono ?_;rintro e w' ⟨rfl,d',m,os,hp,hs,rfl⟩;refine ⟨rfl,?_⟩;have hd's:d'.size=F.length:=by rw [hp.1,hsz]
 have hperm:d'.toList.Perm d:=by
  have:=hp.2.2;rw [Array.extract_eq_self_of_le (by omega),Array.extract_eq_self_of_le (by omega)] at this;simpa using this
 obtain ⟨k1,k2,k3,k4,k5,k6⟩:=bSq (bGe (B:=B) (w:=w)) 4 w g m d' os hg;have hft:=bO5 (bGe (B:=B) (w:=w)) 4 w g m d' os hg (show B<=g by omega) (by decide);have hXs:(Sort.flatK bGe 4 d').size=F.length*4:=by rw [Sort.size_flatK,hd's]
 obtain ⟨p1,p2⟩:=bM8 (X:=Sort.flatK bGe 4 d') (cur:=cur) (by rw [hXs,hcs];exact Nat.mul_le_mul_right _ hnc);have hflat':(Sort.flatK bGe 4 d').toList=rC f4 (d'.toList.map (·.1)):=bK9 d'.toList;have hpF:(d'.toList.map (·.1.1)).Perm F:=by
  have:=hperm.map (fun x:SE B w=>x.1.1);rw [show d.map (fun x:SE B w=>x.1.1)=F by rw [<-hF,<-hdk,List.map_map];rfl] at this;exact this
 have hml:(d'.toList.map (·.1.1)).length=F.length:=hpF.length_eq;refine ⟨d'.toList.map (·.1.1),hpF,?_,⟨d'.toList.map (·.1),by simp,⟨?_,Or.inr ⟨g,cap,_,by rw [hml],hBg,k6,by rw [hml];exact hnc,hcm,by rw [p1];exact hcs,?_⟩⟩,fun i c x h1 h2=>?_⟩,hft,⟨k1,k2,k3,k4,fun i hi=>k5 i (by have:=(lO hg);omega) (by omega)⟩,k5⟩
 ·have hdist:(d'.toList.map (·.1.1)).Pairwise fun x y=>x.key≠y.key:=(hpF.pairwise_iff (fun {a b} h=>Ne.symm h)).2 hd
  rw [SrC,List.pairwise_iff_getElem];intro i j hi hj hij;have hne:=List.pairwise_iff_getElem.1 hdist i j hi hj hij;simp only [kAp,Array.length_toList] at hi hj;have:=hs i j (kAm _) hij (by omega);rw [getElem!_pos _ j (by omega),getElem!_pos _ i (by omega)] at this;have:=of_decide_eq_false this;simp only [List.getElem_map,Array.getElem_toList] at hne ⊢;have this:¬ bAb d'[j].1.1.key d'[i].1.1.key<0:=this;rcases aK2 d'[i].1.1.key d'[j].1.1.key with q | q | q
  ·omega
  ·exact absurd (aDr q) hne
  ·exact absurd (aK1.1 (show 0<bAb d'[i].1.1.key d'[j].1.1.key by omega)) this
 ·rw [bJc aBi];simp
 ·rw [hml,<-hXs,p2,hflat']
 ·rw [kAq] at h1 h2;obtain ⟨z,hz,rfl⟩:=Option.map_eq_some_iff.1 h1;rw [hz] at h2;cases h2;exact z.2.ft hft
end Go.Proofs.YtdpdjpkmndnaaaaGreat
