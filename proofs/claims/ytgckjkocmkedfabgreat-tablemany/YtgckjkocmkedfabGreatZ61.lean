import Derived.Deep.LoopGhost
import Derived.Test.YtgckjkocmkedfabGreatZ59
import Derived.Maps.RangeWalk
import Derived.Maps.OwnSet
import Derived.StringKeys
set_option maxRecDepth 100000
set_option maxHeartbeats 16000000
set_option linter.unusedVariables false
namespace Go.Proofs.YtgckjkocmkedfabGreat
open Go.RowKit
def kl (xs:List Nat):Lit:=.string (str xs).data.toList
theorem str_list (xs:List Nat):(str xs).data.toList=xs.map UInt8.ofNat:=by
 simp [str,strOfNums,Function.comp_def]
theorem kl_inj {a b:List Nat} (ha:∀ n∈a,n<256) (hb:∀ n∈b,n<256) (h:kl a=kl b):a=b:=by
 unfold kl at h
 rw [str_list,str_list] at h
 have h:=Lit.string.inj h
 have as8:∀ {a:List Nat},(∀ n∈a,n<256)→(a.map UInt8.ofNat).map UInt8.toNat=a:=by
  intro a h
  rw [List.map_map]
  conv=>rhs;rw [←List.map_id a]
  apply List.map_congr_left
  intro n hn
  have:=h n hn
  simp only [Function.comp,UInt8.toNat_ofNat',id]
  omega
 rw [←as8 ha,←as8 hb,h]
def RH (v:Value):Option (DataW Value×List MemPlace):=some (.held v,[])
structure MP (B b n:Nat) (l:List Ch) (w:World) (D:DataW Value):Prop where
 own:w.ownsMap Tryz.prog 9 RH b n D
 at_:∀ c∈l,∃ x,EvC B w x c∧∀ z,D.atKey (kl c.key) z=.held (.agg (f4 x).toArray)
 has:∀ k,Maps.has D k=true→∃ c∈l,k=kl c.key
 srt:SrC l
 siz:Maps.size D=l.length
theorem keyedS:Maps.Keyed Tryz.prog 9:=Maps.string_keyed Tryz.underlying9
theorem grown_of {w w':World} (h:Below w.heap.size w w'):w.grownBy w' none:=⟨h.os,h.tape,h.output,h.size,fun i hi _=>h.block i hi⟩
section
variable {B b n:Nat} {l:List Ch} {w w':World} {D:DataW Value}
theorem EvC.byte {x:CE} {c:Ch} (h:EvC B w x c):∀ n∈c.key,n<256:=by
 obtain ⟨_,⟨_,_,_,hb⟩,_⟩:=h
 exact hb.1.hbyte
theorem MP.byte (h:MP B b n l w D) {c:Ch} (hc:c∈l):∀ n∈c.key,n<256:=by
 obtain ⟨x,hx,_⟩:=h.at_ c hc
 exact hx.byte
theorem MP.bw (h:MP B b n l w D):b<w.heap.size:=h.own.lt
theorem MP.later (h:MP B b n l w D) (hb:Below w.heap.size w w') (hB:B≤w.heap.size):MP B b n l w' D :=
 ⟨h.own.kept (grown_of hb) (by simp),fun c hc=>by
  obtain ⟨x,h1,h2⟩:=h.at_ c hc
  exact ⟨x,h1.ft (FT.of hb hB),h2⟩,h.has,h.srt,h.siz⟩
theorem MP.made (B:Nat) (w:World):MP B w.heap.size 0 [] (w.alloc (.map #[] 0)) (.map []) :=
 ⟨World.ownsMap_made w _ _ _,(fun c hc=>by simp at hc),(fun k hk=>by simp [Maps.has] at hk),List.Pairwise.nil,rfl⟩
theorem ft_map {es:Array MapEntry} {ck:Nat} (hg:w.grownBy w' (some b)) (hm:w.heap[b]?=some (.map es ck)) (hB:B≤b):FT B w w':=by
 have hs:=(lO hm)
 refine ⟨⟨hg.os,hg.tape,hg.output,hg.size,fun i hi=>hg.block i (by omega) (fun e=>by simp at e;omega)⟩,fun i cs fz e=>?_⟩
 rw [hg.block i (lO e) (fun q=>?_),e]
 simp at q
 subst q
 rw [hm] at e
 cases e
theorem MP.put (h:MP B b n l w D) {x:CE} {c:Ch} (hx:EvC B w x c) (hB:B≤b) (ho:w'.ownsMap Tryz.prog 9 RH b (n+1) (D.put (kl c.key) (.held (.agg (f4 x).toArray)))) (hg:w.grownBy w' (some b)):MP B b (n+1) (insC c l) w' (D.put (kl c.key) (.held (.agg (f4 x).toArray))):=by
 have ht:=h.own.tidy keyedS
 have hk:Go.WideAt.IsKeyLit (kl c.key):=trivial
 have hft:FT B w w':=by
  obtain ⟨es,ck,hm,_⟩:=h.own
  exact ft_map hg hm hB
 refine ⟨ho,fun d hd=>?_,fun k hk2=>?_,h.srt.ins,?_⟩
 ·rcases (aCb h.srt).1 hd with rfl | ⟨hd,hne⟩
  ·exact ⟨x,hx.ft hft,fun z=>Maps.atKey_put_same ht.isMap hk _ z⟩
  ·obtain ⟨y,h1,h2⟩:=h.at_ d hd
   exact ⟨y,h1.ft hft,fun z=>by rw [Maps.atKey_put_other (fun e=>hne (kl_inj h1.byte hx.byte e))];exact h2 z⟩
 ·by_cases q:k=kl c.key
  ·exact ⟨c,(aCb h.srt).2 (Or.inl rfl),q⟩
  ·rw [Maps.has_put_other q] at hk2
   obtain ⟨d,hd,e⟩:=h.has k hk2
   refine ⟨d,(aCb h.srt).2 (Or.inr ⟨hd,fun e2=>q (by rw [e,e2])⟩),e⟩
 ·rw [Maps.size_put ht,h.siz]
  have hin:Maps.has D (kl c.key)=true↔∃ d∈l,d.key=c.key:=by
   constructor
   ·intro q
    obtain ⟨d,hd,e⟩:=h.has _ q
    exact ⟨d,hd,(kl_inj hx.byte (h.byte hd) e).symm⟩
   ·rintro ⟨d,hd,e⟩
    obtain ⟨y,_,h2⟩:=h.at_ d hd
    rw [←e]
    exact Maps.has_true_of_atKey h2
  have hlen:∀ {l:List Ch},SrC l→(insC c l).length=if (∃ d∈l,d.key=c.key) then l.length else l.length+1:=by
   intro l
   induction l with
   | nil=>intro _;simp [insC]
   | cons e l ih =>
    intro hs
    have h1:=(List.pairwise_cons.1 hs).1
    have ih:=ih (List.pairwise_cons.1 hs).2
    have lt_ne:∀ {a b:List Nat},cmpB a b<0→b≠a:=fun q e=>by rw [e,aAq] at q;omega
    unfold insC
    by_cases q1:cmpB c.key e.key<0
    ·rw [if_pos q1,if_neg ?_]
     ·simp
     ·rintro ⟨d,hd,e2⟩
      rcases List.mem_cons.1 hd with rfl | hd
      ·exact lt_ne q1 e2
      ·exact lt_ne (aA0 q1 (h1 d hd)) e2
    ·rw [if_neg q1]
     by_cases q2:cmpB c.key e.key=0
     ·rw [if_pos q2,if_pos ⟨e,List.mem_cons_self,(aC4 q2).symm⟩]
      simp
     ·rw [if_neg q2,List.length_cons,ih]
      have iff:(∃ d∈e::l,d.key=c.key)↔∃ d∈l,d.key=c.key:=by
       constructor
       ·rintro ⟨d,hd,e2⟩
        rcases List.mem_cons.1 hd with rfl | hd
        ·exact absurd (by rw [e2,aAq]) q2
        ·exact ⟨d,hd,e2⟩
       ·rintro ⟨d,hd,e2⟩
        exact ⟨d,List.mem_cons_of_mem _ hd,e2⟩
      by_cases q3:∃ d∈l,d.key=c.key
      ·rw [if_pos q3,if_pos (iff.2 q3)];simp
      ·rw [if_neg q3,if_neg (fun q=>q3 (iff.1 q))];simp
  rw [hlen h.srt]
  by_cases q:Maps.has D (kl c.key)=true
  ·rw [if_pos q,if_pos (hin.1 q)]
  ·rw [if_neg q,if_neg (fun e=>q (hin.2 e))]
end
end Go.Proofs.YtgckjkocmkedfabGreat
set_option maxRecDepth 100000
set_option maxHeartbeats 16000000
set_option linter.unusedVariables false
namespace Go.Proofs.YtgckjkocmkedfabGreat
open Go.RowKit
theorem last_ok {B db ls ln lc hn hc:Nat} {sp:Int} {v:Value} {la ha:Option Addr} {lo hi:List Nat} {cs:List Ch} {w:World} (h:DD B db ls v cs w) (hlo:BK B w la ln lc lo) (hhi:BK B w ha hn hc hi) (hl:cs.length≤1000) :
  Calls Tryz.prog 64 #[.pointer (some ⟨db,0,none⟩),.int .i64 sp,.slice la ln lc,.slice ha hn hc] w fun e w'=>∃ b n D,e=.returned (.map (some b))∧MP B b n (lastL (inR sp lo hi) cs) w' D∧w.heap.size≤b∧n≤cs.length∧Below w.heap.size w w':=by
 have lt:∀ {k:Nat} {o:Obj} {ww:World},ww.heap[k]?=some o→k<ww.heap.size:=fun e=>(lO e)
 have HBB:Hid (B≤w.heap.size):=by show B≤_;have:=h.hB;have:=h.bw;omega
 obtain ⟨ra,rc,ev⟩:=h.slice
 subst ev
 have HD:=hide h
 have HLO:=hide hlo
 have HHI:=hide hhi
 have HHL:=hide hhi.1.hlen
 have HM0:Hid (MP B w.heap.size 0 [] (w.alloc (.map #[] 0)) (.map [])):=MP.made B w
 have HBX:Hid (Below w.heap.size w (w.alloc (.map #[] 0))):=aAh w _
 have x1:w.cell? ⟨db,1,none⟩=some (.slice ra cs.length rc):=aAc h.blk
 have x1':(w.alloc (.map #[] 0)).cell? ⟨db,1,none⟩=some (.slice ra cs.length rc):=aAc ((HBX.out.block db h.bw).trans h.blk)
 clear h hlo hhi
 obtain ⟨N,hN⟩:∃ N,cs.length=N:=⟨_,rfl⟩
 have HN:=hide hN
 rw [hN] at x1 x1' hl
 clear hN
 have hmm:=@run_makeMap Tryz.prog
 go_enter Tryz.func64,Tryz.ntmps64
 go_wp2_with fail
 go_step3
 go_wp2_with fail
 go_step3
 clear hmm
 have x2:=x1'
 generalize w.alloc (.map #[] 0)=w1 at *
 generalize hn0:w.heap.size=n0 at *
 clear x1 x1'
 go_wp2_with fail
 clear x2
 go_loopg [18] N (fun gh s18 wx=>∃ j:Nat,j+gh=N∧s18=.int .i64 (j:Int)∧∃ n D,n≤j∧MP B n0 n (lastL (inR sp lo hi) (cs.take j)) wx D∧Below n0 w wx)
 case atStart=>exact ⟨0,by omega,rfl,0,_,by omega,HM0.out,HBX.out⟩
 case round =>
  obtain ⟨j,hj,rfl,n,D,hnj,hMP,hbr⟩:=hrel
  have HMP:=hide hMP
  have HBR:=hide hbr
  clear hMP hbr
  by_cases hjn:j<N
  ·have xj:(j:Int)<(N:Int):=by omega
   obtain ⟨c,hcj⟩:∃ c,cs[j]?=some c:=⟨_,gE (by rw [HN.out];exact hjn)⟩
   have HTK:Hid (cs.take (j+1)=cs.take j++[c]):=by show _=_;rw [List.take_add_one,hcj];rfl
   obtain ⟨g,cap,x,e1,hx,hcell⟩:=HD.out.row.at aBc hcj
   obtain ⟨xc,xk,xv⟩:=x
   obtain ⟨e2,⟨ka,kc,e3,hbk⟩,⟨va,vc,e4,hbv⟩⟩:=hx
   dsimp only at e2 e3 e4
   subst e2 e3 e4
   simp only [Value.slice.injEq] at e1
   obtain ⟨rfl,_,rfl⟩:=e1
   have hg:g<n0:=by
    have:=hcell 0 (by omega)
    by_cases q:g<n0
    ·exact q
    ·rw [show w.cell? ⟨g,j*4+0,none⟩=none from by
      unfold World.cell?
      rw [show w.heap[g]?=none from Array.getElem?_eq_none (by omega)]] at this
     simp [f4] at this
   have cc:∀ i,i<4→wr.cell? ⟨g,j*4+i,none⟩=(f4 (xc,.slice ka xc.key.length kc,.slice va xc.val.length vc))[i]?:=fun i hi=>by
    rw [←hcell i hi]
    exact World.cell?_of_block (HBR.out.block g hg)
   have c0:wr.cell? ⟨g,j*4,none⟩=some (.int .i64 xc.sp):=cc 0 (by omega)
   have c1:wr.cell? ⟨g,j*4+1,none⟩=some (.slice ka xc.key.length kc):=cc 1 (by omega)
   have c2:wr.cell? ⟨g,j*4+2,none⟩=some (.slice va xc.val.length vc):=cc 2 (by omega)
   have c3:wr.cell? ⟨g,j*4+3,none⟩=some (.bool xc.gone):=cc 3 (by omega)
   have HBw:Hid (B≤n0):=HBB.out
   have hbw0:Below w.heap.size w wr:=by rw [hn0];exact HBR.out
   have HBK:=hide (hbk.later hbw0 (by rw [hn0];exact HBw.out))
   have HBV:=hide (hbv.later hbw0 (by rw [hn0];exact HBw.out))
   have HLR:=hide (HLO.out.later hbw0 (by rw [hn0];exact HBw.out))
   have HHR:=hide (HHI.out.later hbw0 (by rw [hn0];exact HBw.out))
   clear hcell cc hbk hbv hbw0
   obtain ⟨⟨csp,key,val,cg⟩,rfl⟩:∃ d:Ch,d=xc:=⟨_,rfl⟩
   dsimp only at c0 c1 c2 c3 HBK HBV
   have HKN:Hid (∃ kn,key.length=kn):=⟨_,rfl⟩
   obtain ⟨kn,hkn⟩:=HKN.out
   obtain ⟨vn,hvn⟩:∃ vn,val.length=vn:=⟨_,rfl⟩
   have HKL:=hide hkn
   have HVL:=hide hvn
   rw [hkn] at c1 HBK
   rw [hvn] at c2 HBV
   clear HKN hkn hvn
   have HBB2:Hid (B≤wr.heap.size):=by show B≤_;have:=HBR.out.size;have:=HBw.out;omega
   have HBOX:Hid (Below wr.heap.size wr (wr.alloc (.cells #[.int .i64 csp,.slice ka kn kc,.slice va vn vc,.bool cg] 127))):=aAh wr _
   have HRB:Hid ((wr.alloc (.cells #[.int .i64 csp,.slice ka kn kc,.slice va vn vc,.bool cg] 127)).heap[wr.heap.size]?=some (.cells #[.int .i64 csp,.slice ka kn kc,.slice va vn vc,.bool cg] 127 (0,0))):=aAm [Obj.cells #[.int .i64 csp,.slice ka kn kc,.slice va vn vc,.bool cg] 127] wr 0 _ rfl
   have HMB:=hide (HMP.out.later HBOX.out HBB2.out)
   have HK2:=hide (HBK.out.later HBOX.out HBB2.out)
   have HV2:=hide (HBV.out.later HBOX.out HBB2.out)
   have HL2:=hide (HLR.out.later HBOX.out HBB2.out)
   have HH2:=hide (HHR.out.later HBOX.out HBB2.out)
   have HB2:Hid (Below n0 w (wr.alloc (.cells #[.int .i64 csp,.slice ka kn kc,.slice va vn vc,.bool cg] 127))):=HBR.out.trans (HBOX.out.mono (by have:=HBR.out.size;omega))
   have HNW:Hid (n0<(wr.alloc (.cells #[.int .i64 csp,.slice ka kn kc,.slice va vn vc,.bool cg] 127)).heap.size):=by have:=HMB.out.bw;exact this
   go_upto_region 5 with fail
   clear c0 c1 c2 c3
   generalize (wr.alloc (.cells #[.int .i64 csp,.slice ka kn kc,.slice va vn vc,.bool cg] 127))=w2 at *
   generalize hnb:wr.heap.size=nb at *
   have d0:w2.cell? ⟨nb,0,none⟩=some (.int .i64 csp):=aAc HRB.out
   have d1:w2.cell? ⟨nb,1,none⟩=some (.slice ka kn kc):=aAc HRB.out
   have d2:w2.cell? ⟨nb,2,none⟩=some (.slice va vn vc):=aAc HRB.out
   have d3:w2.cell? ⟨nb,3,none⟩=some (.bool cg):=aAc HRB.out
   have HNO:Hid (inR sp lo hi ⟨csp,key,val,cg⟩=false→∃ j':Nat,j'+(gk-1)=N∧(.int .i64 ((j:Int)+1):Value)=.int .i64 j'∧∃ n D,n≤j'∧MP B n0 n (lastL (inR sp lo hi) (cs.take j')) w2 D∧Below n0 w w2):=by
    intro hq
    refine ⟨j+1,by omega,rfl,n,D,by omega,?_,HB2.out⟩
    rw [HTK.out,aBu hq]
    exact HMB.out
   have HCL:=hide (aA3 ka la kn kc ln lc key lo w2 HK2.out.1 HL2.out.1)
   have HCH:=hide (aA3 ka ha kn kc hn hc key hi w2 HK2.out.1 HH2.out.1)
   obtain ⟨ks,hks⟩:∃ ks,str key=ks:=⟨_,rfl⟩
   have hcv:(convert 82 9 (.slice ka kn kc)).run Tryz.prog w2=.ok (.string ks) w2:=by rw [←hks];exact run_text HK2.out.1
   have HKEY:Hid (keyOf Tryz.prog 9 (.string ks)=some (kl key)):=by
    show _=_
    rw [←hks]
    exact Go.WideMaps.keyOf_string_mk Tryz.underlying9 (by rw [str_size];have:=HK2.out.1.hroom;have:=HKL.out;unfold maxLen;omega)
   have HEV:Hid (EvC B w2 (⟨csp,key,val,cg⟩,.slice ka kn kc,.slice va vn vc) ⟨csp,key,val,cg⟩):=⟨rfl,⟨ka,kc,by show Value.slice ka kn kc=.slice ka key.length kc;rw [HKL.out],by show BK B w2 ka key.length kc key;rw [HKL.out];exact HK2.out⟩,⟨va,vc,by show Value.slice va vn vc=.slice va val.length vc;rw [HVL.out],by show BK B w2 va val.length vc val;rw [HVL.out];exact HV2.out⟩⟩
   clear hks
   by_cases q1:csp=sp
   ·subst q1
    by_cases q2:cmpB key lo<0
    ·have HP:Hid (inR csp lo hi ⟨csp,key,val,cg⟩=false):=by show _=_;unfold inR;simp;intro _;omega
     generalize cmpB key lo=t at *
     go_wp2_with fail
     refine HCL.out.mono ?_
     rintro e w3 ⟨rfl,e3⟩
     have e3:=e3.symm
     subst e3
     clear e3
     go_wp2
     go_roundg (gk-1)
     case measure=>omega
     case rel=>exact HNO.out HP.out
    ·by_cases q3:hn=0
     ·have HP:Hid (inR csp lo hi ⟨csp,key,val,cg⟩=true):=by
       show _=_
       have e0:hi=[]:=List.eq_nil_of_length_eq_zero (by rw [HHL.out];exact q3)
       unfold inR;simp [e0];omega
      generalize cmpB key lo=t at *
      subst q3
      go_wp2_with fail
      refine HCL.out.mono ?_
      rintro e w3 ⟨rfl,e3⟩
      have e3:=e3.symm
      subst e3
      clear e3
      go_wp2_with (at_mapUpdate;refine wpList_mapUpdate_own _ rfl _ _ _ 122 rfl 9 127 keyedS Tryz.underlying122 RH n0 n D rfl HMB.out.own (by unfold maxLen;omega) _ _ (kl key) rfl rfl HKEY.out (.held (.agg (f4 (⟨csp,key,val,cg⟩,.slice ka kn kc,.slice va vn vc)).toArray)) [] rfl ?_;intro w3 ho3 hg3;have HO3:=hide ho3;have HG3:=hide hg3;clear ho3 hg3)
      go_roundg (gk-1)
      case measure=>omega
      case rel =>
       refine ⟨j+1,by omega,rfl,n+1,D.put (kl key) (.held (.agg (f4 (⟨csp,key,val,cg⟩,.slice ka kn kc,.slice va vn vc)).toArray)),by omega,?_,HB2.out.trans ((Below.refl n0 _).grown HG3.out (by have:=HNW.out;omega) (fun k hk=>by cases hk;exact nR _))⟩
       rw [HTK.out,aBh HP.out]
       exact HMB.out.put HEV.out HBw.out HO3.out HG3.out
     ·have q3':(0:Int)<(hn:Int):=by omega
      by_cases q4:cmpB key hi<0
      ·have HP:Hid (inR csp lo hi ⟨csp,key,val,cg⟩=true):=by show _=_;unfold inR;simp [q4];omega
       have q4':¬ cmpB key hi≥0:=by omega
       generalize cmpB key lo=t at *
       generalize cmpB key hi=t2 at *
       clear q3
       go_wp2_with fail
       refine HCL.out.mono ?_
       rintro e w3 ⟨rfl,e3⟩
       have e3:=e3.symm
       subst e3
       clear e3
       go_wp2_with fail
       refine HCH.out.mono ?_
       rintro e w3 ⟨rfl,e3⟩
       have e3:=e3.symm
       subst e3
       clear e3
       go_wp2_with (at_mapUpdate;refine wpList_mapUpdate_own _ rfl _ _ _ 122 rfl 9 127 keyedS Tryz.underlying122 RH n0 n D rfl HMB.out.own (by unfold maxLen;omega) _ _ (kl key) rfl rfl HKEY.out (.held (.agg (f4 (⟨csp,key,val,cg⟩,.slice ka kn kc,.slice va vn vc)).toArray)) [] rfl ?_;intro w3 ho3 hg3;have HO3:=hide ho3;have HG3:=hide hg3;clear ho3 hg3)
       go_roundg (gk-1)
       case measure=>omega
       case rel =>
        refine ⟨j+1,by omega,rfl,n+1,D.put (kl key) (.held (.agg (f4 (⟨csp,key,val,cg⟩,.slice ka kn kc,.slice va vn vc)).toArray)),by omega,?_,HB2.out.trans ((Below.refl n0 _).grown HG3.out (by have:=HNW.out;omega) (fun k hk=>by cases hk;exact nR _))⟩
        rw [HTK.out,aBh HP.out]
        exact HMB.out.put HEV.out HBw.out HO3.out HG3.out
      ·have HP:Hid (inR csp lo hi ⟨csp,key,val,cg⟩=false):=by
        show _=_
        have e0:¬ hi=[]:=fun e=>q3 (by rw [←HHL.out,e];rfl)
        unfold inR;simp [e0];intro _;omega
       have q4':cmpB key hi≥0:=by omega
       generalize cmpB key lo=t at *
       generalize cmpB key hi=t2 at *
       clear q3
       go_wp2_with fail
       refine HCL.out.mono ?_
       rintro e w3 ⟨rfl,e3⟩
       have e3:=e3.symm
       subst e3
       clear e3
       go_wp2_with fail
       refine HCH.out.mono ?_
       rintro e w3 ⟨rfl,e3⟩
       have e3:=e3.symm
       subst e3
       clear e3
       go_wp2
       go_roundg (gk-1)
       case measure=>omega
       case rel=>exact HNO.out HP.out
   ·have HP:Hid (inR sp lo hi ⟨csp,key,val,cg⟩=false):=by show _=_;unfold inR;simp [q1]
    go_wp2
    go_roundg (gk-1)
    case measure=>omega
    case rel=>exact HNO.out HP.out
  ·have ej:j=N:=by omega
   have HM:=HMP.out
   rw [ej,←HN.out,List.take_length] at HM
   have HM:=hide HM
   have xj:¬ (j:Int)<(N:Int):=by omega
   go_wp2
   try rw [Exit.noGoto_ret]
   go_ret
   exact ⟨n0,n,D,rfl,HM.out,by omega,by rw [HN.out];omega,by rw [hn0];exact HBR.out⟩
def lookC (cs:List Ch) (sp:Int) (key:List Nat):Nat→Option Ch
 | 0=>none
 | n+1=>match cs[n]? with
  | some c=>if c.sp=sp∧c.key=key then some c else lookC cs sp key n
  | none=>none
def getC (cs:List Ch) (sp:Int) (key:List Nat):Option Ch:=lookC cs sp key cs.length
theorem aEz {cs:List Ch} {sp:Int} {key:List Nat} {n:Nat} {c:Ch} (h:cs[n]?=some c) (h1:c.sp=sp) (h2:c.key=key):lookC cs sp key (n+1)=some c:=by
 unfold lookC
 rw [h]
 exact if_pos ⟨h1,h2⟩
theorem aF9 {cs:List Ch} {sp:Int} {key:List Nat} {n:Nat} {c:Ch} (h:cs[n]?=some c) (h1:¬ (c.sp=sp∧c.key=key)):lookC cs sp key (n+1)=lookC cs sp key n:=by
 show (match cs[n]? with | some c=>if c.sp=sp∧c.key=key then some c else lookC cs sp key n | none=>none)=_
 rw [h]
 exact if_neg h1
def GtO (B:Nat) (o:Option Ch) (vv:Value) (is:Bool) (w':World):Prop:=match o with
 | none=>vv=.slice none 0 0∧is=false
 | some c=>if c.gone=true then vv=.slice none 0 0∧is=false else is=true∧KV B w' vv c.val
def GtD (B:Nat) (o:Option Ch) (e:Ending) (w':World):Prop:=∃ vv is,e=.returned (.tuple #[vv,.bool is,.int .i64 0])∧GtO B o vv is w'
theorem GtD.no {B:Nat} {o:Option Ch} {w':World} (h:o=none):GtD B o (.returned (.tuple #[.slice none 0 0,.bool false,.int .i64 0])) w':=by
 subst h
 exact ⟨_,_,rfl,rfl,rfl⟩
theorem GtD.gone {B:Nat} {o:Option Ch} {c:Ch} {w':World} (h:o=some c) (hg:c.gone=true):GtD B o (.returned (.tuple #[.slice none 0 0,.bool false,.int .i64 0])) w':=by
 subst h
 refine ⟨_,_,rfl,?_⟩
 show if c.gone=true then _ else _
 rw [if_pos hg]
 exact ⟨rfl,rfl⟩
theorem GtD.yes {B:Nat} {o:Option Ch} {c:Ch} {vv:Value} {w':World} (h:o=some c) (hg:c.gone=false) (hv:KV B w' vv c.val):GtD B o (.returned (.tuple #[vv,.bool true,.int .i64 0])) w':=by
 subst h
 refine ⟨_,_,rfl,?_⟩
 show if c.gone=true then _ else _
 rw [if_neg (by rw [hg];decide)]
 exact ⟨rfl,hv⟩
theorem dget_ok [Gd] {B p q g ls N0 c0 u0 db kn kc:Nat} {sp:Int} {W w:World} {v:Value} {cs:List Ch} {ka:Option Addr} {key:List Nat} (hL:LS B p q g ls N0 c0 u0 [] W w) (h:DD B db ls v cs w) (hl:cs.length≤1000) (hk:BK B w ka kn kc key) (hr:wrg sp kn 0=0) :
  Calls Tryz.prog 76 #[.pointer (some ⟨db,0,none⟩),.int .i64 sp,.slice ka kn kc] w fun e w'=>GtD B (getC cs sp key) e w'∧Below w.heap.size w w':=by
 have lt:∀ {k:Nat} {o:Obj} {ww:World},ww.heap[k]?=some o→k<ww.heap.size:=fun e=>(lO e)
 have HBB:Hid (B≤w.heap.size):=by show B≤_;have:=h.hB;have:=h.bw;omega
 obtain ⟨ra,rc,ev⟩:=h.slice
 have HGT:=hide (hL.GetE hk sp)
 rw [hr] at HGT
 subst ev
 have HD:=hide h
 have HK:=hide hk
 have y0:w.cell? ⟨db,0,none⟩=some (.pointer (some ⟨ls,0,none⟩)):=aAc h.blk
 clear h hL hk hr
 obtain ⟨N,hN⟩:∃ N,cs.length=N:=⟨_,rfl⟩
 have HN:=hide hN
 have HG0:Hid (getC cs sp key=lookC cs sp key N):=by show _=_;rw [←hN];rfl
 generalize getC cs sp key=go at *
 rw [hN] at hl HD
 clear hN
 go_enter Tryz.func76,Tryz.ntmps76
 go_wp2_with fail
 go_step3
 go_wp2_with fail
 refine HGT.out.mono ?_
 rintro e w1 ⟨rfl,hb1⟩
 have HD1:=hide (HD.out.later hb1)
 have HK1:=hide (HK.out.later hb1 HBB.out)
 have HB1:=hide hb1
 have HBB1:Hid (B≤w1.heap.size):=by show B≤_;have:=hb1.size;have:=HBB.out;omega
 have x1:w1.cell? ⟨db,1,none⟩=some (.slice ra N rc):=aAc HD1.out.blk
 clear y0 hb1 HGT HD HK
 generalize hn0:w.heap.size=n0 at *
 go_wp2_with fail
 go_step3
 go_wp2_with fail
 clear x1
 have HWW:Hid (n0≤w1.heap.size):=by show n0≤_;rw [←hn0];exact HB1.out.size
 go_loopg [9,10,12] N (fun gh s9 s10 s12 wx=>s9=.slice none 0 0∧s10=.bool false∧s12=.int .i64 ((gh:Int)-1)∧gh≤N∧go=lookC cs sp key gh∧Below w1.heap.size w1 wx)
 case atStart=>exact ⟨rfl,rfl,rfl,nR _,HG0.out,Below.refl _ _⟩
 case round =>
  obtain ⟨rfl,rfl,rfl,hj,hgo,hbr⟩:=hrel
  have HGO:=hide hgo
  have HBR:=hide hbr
  clear hgo hbr
  by_cases hjn:0<gk
  ·obtain ⟨j,rfl⟩:∃ j,gk=j+1:=⟨gk-1,by omega⟩
   obtain ⟨cc,hcj⟩:∃ c,cs[j]?=some c:=⟨_,gE (by rw [HN.out];omega)⟩
   have HYES:Hid (cc.sp=sp→cc.key=key→go=some cc):=fun q1 q2=>HGO.out.trans (aEz hcj q1 q2)
   have HNO:Hid (¬ (cc.sp=sp∧cc.key=key)→go=lookC cs sp key j):=fun q=>HGO.out.trans (aF9 hcj q)
   obtain ⟨g',cap,x,e1,hx,hcell⟩:=HD1.out.row.at aBc hcj
   obtain ⟨xc,xk,xv⟩:=x
   have hx2:=hx
   obtain ⟨e2,⟨ka2,kc2,e3,hbk⟩,⟨va,vc,e4,hbv⟩⟩:=hx
   dsimp only at e2 e3 e4
   subst e2
   simp only [Value.slice.injEq] at e1
   obtain ⟨rfl,zz1,rfl⟩:=e1
   clear zz1
   have hg:g'<w1.heap.size:=by
    have:=hcell 0 (by omega)
    by_cases q:g'<w1.heap.size
    ·exact q
    ·rw [show w1.cell? ⟨g',j*4+0,none⟩=none from by
      unfold World.cell?
      rw [show w1.heap[g']?=none from Array.getElem?_eq_none (by omega)]] at this
     simp [f4] at this
   have ccl:∀ i,i<4→wr.cell? ⟨g',j*4+i,none⟩=(f4 (xc,xk,xv))[i]?:=fun i hi=>by
    rw [←hcell i hi]
    exact World.cell?_of_block (HBR.out.block g' hg)
   have c0:wr.cell? ⟨g',j*4,none⟩=some (.int .i64 xc.sp):=ccl 0 (by omega)
   have c1:wr.cell? ⟨g',j*4+1,none⟩=some xk:=ccl 1 (by omega)
   have c2:wr.cell? ⟨g',j*4+2,none⟩=some xv:=ccl 2 (by omega)
   have c3:wr.cell? ⟨g',j*4+3,none⟩=some (.bool xc.gone):=ccl 3 (by omega)
   have x1:wr.cell? ⟨db,1,none⟩=some (.slice (some ⟨g',0,none⟩) N rc):=(HBR.out.cell (lt HD1.out.blk)).trans (aAc HD1.out.blk)
   obtain ⟨kn2,hkn⟩:∃ kn,xc.key.length=kn:=⟨_,rfl⟩
   obtain ⟨vn,hvn⟩:∃ vn,xc.val.length=vn:=⟨_,rfl⟩
   have HBW:Hid (B≤wr.heap.size):=by show B≤_;have:=HBR.out.size;have:=HBB1.out;omega
   rw [hkn] at e3 hbk
   rw [hvn] at e4 hbv
   subst e3 e4
   have HKR:=hide (hbk.later HBR.out HBB1.out)
   have HVR:=hide (hbv.later HBR.out HBB1.out)
   have HKK:=hide (HK1.out.later HBR.out HBB1.out)
   obtain ⟨csp,hcsp⟩:∃ s,xc.sp=s:=⟨_,rfl⟩
   obtain ⟨cg,hcg⟩:∃ s,xc.gone=s:=⟨_,rfl⟩
   rw [hcsp] at c0
   rw [hcg] at c3
   have HCS:=hide hcsp
   have HCG:=hide hcg
   have HKN:=hide hkn
   have HVN:=hide hvn
   clear hcsp hcg hkn hvn hcell ccl hbk hbv hx2 hcj
   have HBOX:Hid (Below wr.heap.size wr (wr.alloc (.cells #[.int .i64 csp,.slice ka2 kn2 kc2,.slice va vn vc,.bool cg] 127))):=aAh wr _
   have HRB:Hid ((wr.alloc (.cells #[.int .i64 csp,.slice ka2 kn2 kc2,.slice va vn vc,.bool cg] 127)).heap[wr.heap.size]?=some (.cells #[.int .i64 csp,.slice ka2 kn2 kc2,.slice va vn vc,.bool cg] 127 (0,0))):=heap_alloc_new wr _
   have HK2:=hide (HKR.out.later HBOX.out HBW.out)
   have HV2:=hide (HVR.out.later HBOX.out HBW.out)
   have HKY:=hide (HKK.out.later HBOX.out HBW.out)
   have HB2:Hid (Below w1.heap.size w1 (wr.alloc (.cells #[.int .i64 csp,.slice ka2 kn2 kc2,.slice va vn vc,.bool cg] 127))):=HBR.out.trans (HBOX.out.mono HBR.out.size)
   have ej:(((j+1:Nat):Int)-1)=(j:Int):=by omega
   have x0:(0:Int)≤(j:Int):=by omega
   have xn:(j:Int)<(N:Int):=by omega
   rw [ej]
   clear ej HKR HVR HKK
   go_upto_region 9 with fail
   clear c0 c1 c2 c3 x1
   generalize (wr.alloc (.cells #[.int .i64 csp,.slice ka2 kn2 kc2,.slice va vn vc,.bool cg] 127))=w2 at *
   have HSZ:Hid (wr.heap.size≤w2.heap.size):=HBOX.out.size
   have HBW2:Hid (B≤w2.heap.size):=by show B≤_;have:=HSZ.out;have:=HBW.out;omega
   generalize hnb:wr.heap.size=nb at *
   have d0:w2.cell? ⟨nb,0,none⟩=some (.int .i64 csp):=aAc HRB.out
   have d1:w2.cell? ⟨nb,1,none⟩=some (.slice ka2 kn2 kc2):=aAc HRB.out
   have d2:w2.cell? ⟨nb,2,none⟩=some (.slice va vn vc):=aAc HRB.out
   have d3:w2.cell? ⟨nb,3,none⟩=some (.bool cg):=aAc HRB.out
   by_cases q1:csp=sp
   ·subst q1
    have HEQ:=hide (aB6 ka2 ka kn2 kc2 kn kc xc.key key w2 HK2.out.1 HKY.out.1)
    by_cases q2:xc.key=key
    ·have HGS:Hid (go=some xc):=HYES.out HCS.out q2
     rw [decide_eq_true q2] at HEQ
     clear q2
     go_wp2_with fail
     refine HEQ.out.mono ?_
     rintro e w3 ⟨rfl,e3⟩
     have e3:=e3.symm
     subst e3
     clear e3
     cases cg with
     | true =>
      go_wp2
      unfold Exit.noGoto
      go_ret3
      refine ⟨GtD.gone HGS.out HCG.out,?_⟩
      first | exact HB1.out.trans (HB2.out.mono HWW.out) | (rw [hn0];exact HB1.out.trans (HB2.out.mono HWW.out))
     | false =>
      have HCN:=hide (aBw va vn vc xc.val w2 HV2.out.1)
      go_wp2_with fail
      refine HCN.out.mono ?_
      rintro e w3 ⟨v3,rfl,ho3,hb3⟩
      have HKV:Hid (KV B w3 v3 xc.val):=by
       obtain ⟨a3,c3,e3,hk3⟩:=BK.owned (B:=B) ho3 (by have:=HV2.out.1.hroom;have:=HV2.out.1.hlen;omega) HV2.out.1.hbyte
       exact ⟨a3,c3,e3,hk3⟩
      have HB3:Hid (Below w1.heap.size w1 w3):=HB2.out.trans (hb3.mono HB2.out.size)
      clear ho3 hb3 HCN
      go_wp2
      unfold Exit.noGoto
      go_ret3
      refine ⟨GtD.yes HGS.out HCG.out HKV.out,?_⟩
      first | exact HB1.out.trans (HB3.out.mono HWW.out) | (rw [hn0];exact HB1.out.trans (HB3.out.mono HWW.out))
    ·have HGS:Hid (go=lookC cs csp key j):=HNO.out fun q=>q2 q.2
     rw [decide_eq_false q2] at HEQ
     clear q2
     go_wp2_with fail
     refine HEQ.out.mono ?_
     rintro e w3 ⟨rfl,e3⟩
     have e3:=e3.symm
     subst e3
     clear e3
     go_wp2
     go_roundg j
     case measure=>omega
     case rel=>exact ⟨rfl,rfl,rfl,by omega,HGS.out,HB2.out⟩
   ·have HGS:Hid (go=lookC cs sp key j):=HNO.out fun q=>q1 (HCS.out.symm.trans q.1)
    go_wp2
    go_roundg j
    case measure=>omega
    case rel=>exact ⟨rfl,rfl,rfl,by omega,HGS.out,HB2.out⟩
  ·have e0:gk=0:=by omega
   subst e0
   have HE:Hid (go=none):=HGO.out
   go_wp2
   unfold Exit.noGoto
   go_ret3
   refine ⟨GtD.no HE.out,?_⟩
   first | exact HB1.out.trans (HBR.out.mono HWW.out) | (rw [hn0];exact HB1.out.trans (HBR.out.mono HWW.out))
end Go.Proofs.YtgckjkocmkedfabGreat
