import Derived.Test.YtmmcebojbbdfmaaGreatY13
import Derived.Test.YtmmcebojbbdfmaaGreatY10
set_option maxRecDepth 100000
set_option maxHeartbeats 16000000
set_option linter.unusedVariables false
namespace Go.Proofs.YtmmcebojbbdfmaaGreat
open Go.RowKit _root_.Go.Proofs.Tryz
variable {B b cap len m n o pos:Nat} {a:Option Addr} {v:Value} {w w2 wr:World} {xs:List Nat}
def rtF:Nat->List Nat->Option (List Nat×Nat)
 | 0,_=>none
 | f+1,xs=>if xs.length<3 then none else if valHi (xs.take 3)=0 then some ([],3) else if vr (valHi (xs.take 3)-1) then (rtF f (xs.drop 3)).map (fun p=>((valHi (xs.take 3)-1)::p.1,p.2+3)) else none
def rt (xs:List Nat):Option (List Nat×Nat):=rtF (xs.length+1) xs
theorem aFs:∀ (f:Nat) (xs:List Nat),xs.length<f->rtF f xs=rt xs
 | 0,xs,h=>by omega
 | f+1,xs,h=>by
  unfold rt
  simp only [rtF]
  split
  ·rfl
  ·rename_i hl
   split
   ·rfl
   ·split
    ·rw [aFs f _ (by rw [List.length_drop];omega),aFs xs.length _ (by rw [List.length_drop];omega)]
    ·rfl
 termination_by f=>f
theorem rt_eq (xs:List Nat):rt xs=if xs.length<3 then none else if valHi (xs.take 3)=0 then some ([],3) else if vr (valHi (xs.take 3)-1) then (rt (xs.drop 3)).map (fun p=>((valHi (xs.take 3)-1)::p.1,p.2+3)) else none:=by
 conv=>lhs;unfold rt
 simp only [rtF];split
 ·rfl
 ·rename_i hl
  rw [aFs xs.length _ (by rw [List.length_drop];omega)]
theorem run_textK (h:BS w a len cap xs) :
  (convert 26 136 (.slice a len cap)).run prog w=.ok (.string (str xs)) w:=by
 rcases Nat.eq_zero_or_pos len with h0 | h0
 ·have hx:xs=[]:=List.eq_nil_of_length_eq_zero (by have:=h.hlen;omega);subst hx h0
  cases a with
  | none=>exact run_convert_bytes_nil w _ _ underlying26 underlying5 0 cap _ underlying136
  | some x =>
   rw [run_convert_bytes_string w _ _ _ _ 0 cap underlying26 underlying5 underlying136];rw [run_bytesToString w x 0 cap [] (by simpa using run_loadCells_list (P:=prog) w x [] (by simp))];rfl
 ·obtain ⟨b,o,rfl,_,hc⟩:=h.place h0;exact run_convert_bytes_arg w _ _ underlying26 underlying5 b o len cap (xs.map Int.ofNat) (by simpa using h.hlen) (fun i hi=>by rw [getD_map];exact hc i hi) _ underlying136
theorem str_u8 (l:List UInt8):str (l.map UInt8.toNat)=⟨l.toArray⟩:=by
 apply ByteArray.ext;have e:∀ l:List UInt8,List.map ((fun (n:Int)=>UInt8.ofNat n.toNat) ∘ Int.ofNat ∘ UInt8.toNat) l=l:=fun l=>by
  induction l with
  | nil=>rfl
  | cons a l ih=>rw [List.map_cons,ih];simp
 simp [str,strOfNums,e]
theorem text_ownF {l:List UInt8} (h:w.ownsRowF B 5 1 v n (Lib.byteCells l)) (hr:n<=140737488355328):(convert 26 136 v).run prog w=.ok (.string ⟨l.toArray⟩) w:=by
 have hl:l.length=n:=by have:=h.1;rw [Lib.byteCells_length] at this;omega
 rcases h.2 with ⟨rfl,h0⟩ | ⟨g,cap,cur,fz,rfl,h1,h2,h3,h4,h5,h6,h7⟩
 ·have e:l=[]:=List.eq_nil_of_length_eq_zero (by omega);subst e;exact run_textK (BS.none w none 0 (by omega) (fun _=>rfl))
 ·unfold maxLen at h5;have hb:BS w (some ⟨g,0,none⟩) n cap (l.map UInt8.toNat):=by
   refine BS.of (by simp [hl]) h4 hr (by omega) ?_ ?_
   ·intro m hm;simp only [List.mem_map] at hm;obtain ⟨a,_,rfl⟩:=hm;exact a.toNat_lt
   ·intro i hi;have:=h.cells (g:=g) rfl i (.int .u8 ((l.map UInt8.toNat).getD i 0:Nat)) (by simp [Lib.byteCells,hl,hi]);rw [add_plain] at this;exact this
  rw [run_textK hb,str_u8]
def RTR (o:Option (List Nat×Nat)):Value:=match o with
 | none=>.tuple #[.string ⟨#[]⟩,.int .i64 0,.bool false]
 | some (rs,k)=>.tuple #[.string ⟨(encs rs).toArray⟩,.int .i64 (k:Nat),.bool true]
theorem bs_drop (h:BS w (some ⟨b,o,none⟩) len cap xs) (p:Nat) (hp:p<=len) (hcell:∀ i,i<len->w.cell? ⟨b,o+i,none⟩=some (.int .u8 (xs.getD i 0:Nat))):BS w (some ⟨b,o+p,none⟩) (len-p) (cap-p) (xs.drop p):=by
 have h1:=h.hlen;have h2:=h.hcap;have h3:=h.hroom;have h4:=h.hmax;refine BS.of (by rw [List.length_drop];omega) (by omega) (by omega) (by omega) (fun n hn=>h.hbyte n (List.mem_of_mem_drop hn)) (fun i hi=>?_);rw [Nat.add_assoc,hcell (p+i) (by omega)];simp [List.getD_eq_getElem?_getD,List.getElem?_drop]
theorem encs_snoc (a:List Nat) (r:Nat):encs (a++[r])=encs a++enc r:=by simp [encs]
theorem aE0 (rs:List Nat):(encs rs).length<=4*rs.length:=by
 induction rs with
 | nil=>simp [encs]
 | cons r rs ih =>
  have:=aE1 r;have e:(encs (r::rs)).length=(enc r).length+(encs rs).length:=by simp [encs]
  simp only [List.length_cons];omega
structure TR (w:World) (xs:List Nat) (wr:World) (v:Value) (pos:Nat) (pre:List Nat):Prop where
 own:wr.ownsRowF w.heap.size 5 1 v (encs pre).length (Lib.byteCells (encs pre))
 bel:Below w.heap.size w wr
 at3:pos=3*pre.length
 rest:rt xs=(rt (xs.drop pos)).map (fun p=>(pre++p.1,pos+p.2))
theorem TR.step {v2:Value} {pre:List Nat} {o:Obj} (h:TR w xs wr v pos pre) (ho:w2.ownsRowF w.heap.size 5 1 v2 ((encs pre).length+(Lib.runeCells (m:Int)).length) (Lib.byteCells (encs pre)++Lib.runeCells (m:Int)))
  (hg:(wr.alloc o).grownBy w2 v.ownBlock) (hr:rt (xs.drop pos)=(rt ((xs.drop pos).drop 3)).map (fun p=>(m::p.1,p.2+3))):TR w xs w2 v2 (pos+3) (pre++[m]):=by
 refine ⟨?_,(h.bel.alloc h.bel.size o).grown hg (by have:=h.bel.size;simp;omega) (fun k hk=>(h.own.lt k hk).1),by have:=h.at3;simp;omega,?_⟩
 ·have e:encs (pre++[m])=encs pre++Lib.encodeRune (m:Int):=encs_snoc pre m;rw [e,lA,Lib.byteCells_append,Lib.byteCells_encodeRune,<-Lib.runeCells_length];exact ho
 ·rw [h.rest,hr,List.drop_drop,Option.map_map]
  congr 1
  funext p
  simp only [Function.comp,Prod.mk.injEq,List.append_assoc,List.cons_append,List.nil_append];exact ⟨trivial,by omega⟩
theorem aFv (b o len cap:Nat) (xs:List Nat) (w:World) (h:BS w (some ⟨b,o,none⟩) len cap xs) (hl:len<=33554432) (hb:0<len->b<w.heap.size) (hc:∀ i,i<len->w.cell? ⟨b,o+i,none⟩=some (.int .u8 (xs.getD i 0:Nat))) :
  Calls prog 117 #[.slice (some ⟨b,o,none⟩) len cap] w fun e w'=>e=.returned (RTR (rt xs))/\Below w.heap.size w w':=by
 have hcap:=h.hcap;have hlen:=h.hlen;have hmax:=h.hmax;have HX:=hidr h;have HC:=hidr hc;have HL:=hidr hlen;clear h hc hlen;go_enter func117,ntmps117;go_wp2;go_loopw [3,5] (fun z v wr=>∃ (pos:Nat) (pre:List Nat),z=.int .i64 pos/\pos<=len/\TR w xs wr v pos pre) (fun z _ _=>len-(intOf z).toNat)
 case atStart =>
  refine ⟨0,[],rfl,by omega,⟨World.ownsRowF_nil _ _ _ _,Below.refl _ _,rfl,?_⟩⟩;rw [List.drop_zero]
  cases rt xs<;>simp
 case round =>
  obtain ⟨pos,pre,rfl,hp,hT⟩:=hrel;have HT:=hidr hT;have H3:=hidr hT.at3;clear hT;have hBSd:BS wr (some ⟨b,o+pos,none⟩) (len-pos) (cap-pos) (xs.drop pos):=by
   refine bs_drop ⟨HX.out.hlen,HX.out.hcap,HX.out.hroom,HX.out.hmax,HX.out.hbyte,HX.out.hnil,?_⟩ pos hp ?_
   ·intro x hx i hi;simp only [oI] at hx;subst hx;rw [add_plain,HT.out.bel.cell (hb (by omega)),HC.out i hi]
   ·intro i hi;rw [HT.out.bel.cell (hb (by omega)),HC.out i hi]
  have HD:=hidr hBSd;have hld:(xs.drop pos).length=len-pos:=by rw [List.length_drop,HL.out]
  have HLD:=hidr hld;clear hBSd hld;have p0:(0:Int)<=(pos:Int):=by omega
  have p1:(pos:Int)<=(len:Int):=by omega
  by_cases hs:len-pos<3
  ·have e1:hiN (xs.drop pos) 3=0:=if_pos (by rw [HLD.out];exact hs);have e2:hiOk (xs.drop pos) 3=false:=by unfold hiOk;rw [HLD.out];simp;omega
   have hrt:rt xs=none:=by rw [HT.out.rest,rt_eq,if_pos (by rw [HLD.out];exact hs)];rfl
   have HRT:=hidr hrt;clear hrt;have cH:=fun ww (hh:BS ww (some ⟨b,o+pos,none⟩) (len-pos) (cap-pos) (xs.drop pos))=>aAw (some ⟨b,o+pos,none⟩) (len-pos) (cap-pos) (xs.drop pos) 3 ww hh (by omega) (by omega)
   rw [e1,e2] at cH;clear e1 e2;by_cases hcp:pos<cap
   ·have hcp':(pos:Int)<(cap:Int):=by omega
    go_wp2_with (go_at_call 116;refine (cH _ HD.out).mono ?_;rintro e w1 ⟨rfl,hw1⟩;have hw1:=hw1.symm;subst hw1);go_ret3;rw [HRT.out];exact ⟨rfl,HT.out.bel⟩
   ·have e3:pos=cap:=by omega
    have e4:len=cap:=by omega
    subst e3 e4;have cN:=fun ww=>aAw (some ⟨b,o,none⟩) 0 0 [] 3 ww (BS.none ww (some ⟨b,o,none⟩) 0 (by omega) (fun h=>by cases h)) (by omega) (by omega)
    have e5:hiN [] 3=0:=by decide
    have e6:hiOk [] 3=false:=by decide
    rw [e5,e6] at cN;clear cH e5 e6;go_wp2_with (go_at_call 116;refine (cN _).mono ?_;rintro e w1 ⟨rfl,hw1⟩;have hw1:=hw1.symm;subst hw1);go_ret3;rw [HRT.out];exact ⟨rfl,HT.out.bel⟩
  ·have hcp':(pos:Int)<(cap:Int):=by omega
   obtain ⟨n,Hn⟩:∃ n,Hid (valHi ((xs.drop pos).take 3)=n):=⟨_,rfl⟩;have hn:n<16777216:=by
    rw [<-Hn.out];have h1:=aDp ((xs.drop pos).take 3) fun m hm=>HX.out.hbyte m (List.mem_of_mem_drop (List.mem_of_mem_take hm))
    have h2:((xs.drop pos).take 3).length<=3:=by rw [List.length_take];omega
    exact Nat.lt_of_lt_of_le h1 (nT (Nat.pow_le_pow_right (by decide) h2) (by decide))
   have e1:hiN (xs.drop pos) 3=n:=by rw [<-Hn.out];exact if_neg (by rw [HLD.out];exact hs)
   have e2:hiOk (xs.drop pos) 3=true:=by unfold hiOk;rw [HLD.out];simp;omega
   have HRQ:=hidr (rt_eq (xs.drop pos));rw [HLD.out,if_neg hs,Hn.out] at HRQ;have cH:=fun ww (hh:BS ww (some ⟨b,o+pos,none⟩) (len-pos) (cap-pos) (xs.drop pos))=>aAw (some ⟨b,o+pos,none⟩) (len-pos) (cap-pos) (xs.drop pos) 3 ww hh (by omega) (by omega)
   rw [e1,e2] at cH;clear e1 e2;by_cases hz:n=0
   ·subst hz;have hrt:rt xs=some (pre,pos+3):=by rw [HT.out.rest,HRQ.out,if_pos rfl];simp
    have HRT:=hidr hrt;clear hrt;have hcv:=text_ownF HT.out.own (by have:=aE0 pre;have:=H3.out;omega);go_wp2_with (go_at_call 116;refine (cH _ HD.out).mono ?_;rintro e w1 ⟨rfl,hw1⟩;have hw1:=hw1.symm;subst hw1);go_ret3;rw [HRT.out];exact ⟨by simp [RTR],HT.out.bel⟩
   ·have hz':((n:Int) == 0)=false:=by simp;omega
    have hn1:1<=n:=by omega
    obtain ⟨m,hm⟩:∃ m:Nat,(n:Int)-1=(m:Int):=⟨n-1,by omega⟩;have hmn:n-1=m:=by omega
    rw [hmn] at HRQ;have hm0:(m:Int)<16777215:=by omega
    have hw64:IntKind.u64.wrap ((n:Int)-1)=(m:Int):=by rw [IntKind.wrap_u64];omega
    have hn0:(1:Int)<=(n:Int):=by omega
    have hn9:(n:Int)<16777216:=by omega
    have HNN:=hidr hn;have HSS:=hidr hs;clear hn hn1 hs hmn;by_cases hv:vr m
    ·have hvr:Lib.validRune (m:Int)=true:=by unfold Lib.validRune;unfold vr at hv;simp;omega
     have HV:=hidr hv;have HZ:=hidr hz;clear hz hv;have cA:=fun ww vv (hh:ww.ownsRowF w.heap.size 5 1 vv (encs pre).length (Lib.byteCells (encs pre))) (hq:w.heap.size<=ww.heap.size)=>utf8_AppendRune_row w.heap.size vv (encs pre).length (Lib.byteCells (encs pre)) (m:Int) (by omega) (by omega) ww hh (by have:=aE0 pre;have:=H3.out;omega) hq
     have HA:=hidr cA;clear cA
     go_wp2_with (first
      | (go_at_call 116;refine (cH _ HD.out).mono ?_;rintro e w1 ⟨rfl,hw1⟩;have hw1:=hw1.symm;subst hw1)
      | (go_at_call 124;refine (utf8_ValidRune (m:Int) _).mono ?_;rintro e w1 ⟨rfl,hw1⟩;have hw1:=hw1.symm;subst hw1)
      | (go_at_call 125;refine (HA.out _ _ HT.out.own HT.out.bel.size).mono ?_;rintro e w2 ⟨v2,rfl,ho2,o2,hg2⟩;have HO2:=hidr ho2;have HG2:=hidr hg2;clear ho2 hg2))
     go_roundw
     case rel =>
      refine ⟨pos+3,pre++[m],by go_num,by have:=HSS.out;omega,?_⟩;refine TR.step HT.out HO2.out HG2.out ?_;rw [HRQ.out,if_neg HZ.out,if_pos HV.out]
     case measure=>simp [intOf];have:=HSS.out;omega
    ·have hvr:Lib.validRune (m:Int)=false:=by unfold Lib.validRune;unfold vr at hv;simp;omega
     have hrt:rt xs=none:=by rw [HT.out.rest,HRQ.out,if_neg hz,if_neg hv];rfl
     have HRT:=hidr hrt;clear hrt hz hv
     go_wp2_with (first
      | (go_at_call 116;refine (cH _ HD.out).mono ?_;rintro e w1 ⟨rfl,hw1⟩;have hw1:=hw1.symm;subst hw1)
      | (go_at_call 124;refine (utf8_ValidRune (m:Int) _).mono ?_;rintro e w1 ⟨rfl,hw1⟩;have hw1:=hw1.symm;subst hw1))
     go_ret3;rw [HRT.out];exact ⟨rfl,HT.out.bel⟩
theorem aDx (a:Option Addr) (cap:Nat) (w:World) (hc:cap<=9223372036854775807) (hn:a=none->cap=0) :
  Calls prog 117 #[.slice a 0 cap] w fun e w'=>e=.returned (RTR (rt []))/\Below w.heap.size w w':=by
 have cN:=fun a cap ww (hc:cap<=9223372036854775807) (hn:a=none->cap=0)=>aAw a 0 cap [] 3 ww (BS.none ww a cap hc hn) (by omega) (by omega)
 have e5:hiN [] 3=0:=by decide
 have e6:hiOk [] 3=false:=by decide
 have e7:rt []=none:=by decide
 rw [e5,e6] at cN;rw [e7]
 cases a with
 | none =>
  have:=hn rfl;subst this;go_enter func117,ntmps117;go_wp2;refine wp_loop_rounds 1 ?_;rw [rounds_succ];go_wp2_with (go_at_call 116;refine (cN none 0 _ (by omega) (fun _=>rfl)).mono ?_;rintro e w1 ⟨rfl,hw1⟩;have hw1:=hw1.symm;subst hw1);go_ret3;exact ⟨rfl,Below.refl _ _⟩
 | some x =>
  go_enter func117,ntmps117;go_wp2;refine wp_loop_rounds 1 ?_;rw [rounds_succ];go_wp2_with (go_at_call 116;refine (cN _ _ _ (by omega) (fun h=>by cases h)).mono ?_;rintro e w1 ⟨rfl,hw1⟩;have hw1:=hw1.symm;subst hw1)
  all_goals go_ret3
  all_goals exact ⟨rfl,Below.refl _ _⟩
theorem readText_any (a:Option Addr) (len cap:Nat) (xs:List Nat) (w:World) (h:BS w a len cap xs) (hl:len<=33554432) :
  Calls prog 117 #[.slice a len cap] w fun e w'=>e=.returned (RTR (rt xs))/\Below w.heap.size w w':=by
 rcases Nat.eq_zero_or_pos len with h0 | h0
 ·have hx:xs=[]:=List.eq_nil_of_length_eq_zero (by have:=h.hlen;omega);subst hx h0;exact aDx a cap w h.hmax h.hnil
 ·obtain ⟨b,o,rfl,hbl,hc⟩:=h.place h0;exact aFv b o len cap xs w h hl (fun _=>hbl) hc
end Go.Proofs.YtmmcebojbbdfmaaGreat
