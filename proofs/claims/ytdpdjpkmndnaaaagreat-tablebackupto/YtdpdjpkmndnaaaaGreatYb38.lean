import Derived.Test.YtdpdjpkmndnaaaaGreatYb8
import Derived.Test.YtdpdjpkmndnaaaaGreatYb3
set_option maxRecDepth 100000
set_option maxHeartbeats 16000000
set_option linter.unusedVariables false
namespace Go.Proofs.YtdpdjpkmndnaaaaGreat
open Go.RowKit _root_.Go.Proofs.Tryz
variable {B b cap len m n o pos:Nat} {a:Option Addr} {pre xs:List Nat} {v:Value} {w w2 wr:World}
def rtF:Nat->List Nat->Option (List Nat×Nat)
 | 0,_=>none
 | f+1,xs=>if xs.length<3 then none else if bAg (xs.take 3)=0 then some ([],3) else if vr (bAg (xs.take 3)-1) then (rtF f (xs.drop 3)).map (fun p=>((bAg (xs.take 3)-1)::p.1,p.2+3)) else none
def rt (xs:List Nat):Option (List Nat×Nat):=rtF (xs.length+1) xs
theorem aJ5:∀ (f:Nat) (xs:List Nat),xs.length<f->rtF f xs=rt xs
 | 0,xs,h=>by omega
 | f+1,xs,h=>by
  unfold rt
  simp only [rtF]
  split
  ·rfl
  ·rename_i hl
   split
   ·rfl
   ·split
    ·rw [aJ5 f _ (by rw [kAk];omega),aJ5 xs.length _ (by rw [kAk];omega)]
    ·rfl
 termination_by f=>f
theorem bDw (xs:List Nat):rt xs=if xs.length<3 then none else if bAg (xs.take 3)=0 then some ([],3) else if vr (bAg (xs.take 3)-1) then (rt (xs.drop 3)).map (fun p=>((bAg (xs.take 3)-1)::p.1,p.2+3)) else none:=by
 conv=>lhs;unfold rt
 simp only [rtF];split
 ·rfl
 ·rename_i hl
  rw [aJ5 xs.length _ (by rw [kAk];omega)]
theorem bCf (h:BS w a len cap xs) :
  (convert 97 231 (.slice a len cap)).run prog w=.ok (.string (str xs)) w:=by
 rcases Nat.eq_zero_or_pos len with h0 | h0
 ·have hx:xs=[]:=kAf (by have:=h.hlen;omega);subst hx h0
  cases a with
  | none=>exact run_convert_bytes_nil w _ _ underlying97 underlying5 0 cap _ underlying231
  | some x =>
   rw [run_convert_bytes_string w _ _ _ _ 0 cap underlying97 underlying5 underlying231];rw [run_bytesToString w x 0 cap [] (by simpa using run_loadCells_list (P:=prog) w x [] (by simp))];rfl
 ·obtain ⟨b,o,rfl,_,hc⟩:=h.place h0;exact run_convert_bytes_arg w _ _ underlying97 underlying5 b o len cap (xs.map Int.ofNat) (by simpa using h.hlen) (fun i hi=>by rw [getD_map];exact hc i hi) _ underlying231
theorem bSp (l:List UInt8):str (l.map UInt8.toNat)=⟨l.toArray⟩:=by
 apply ByteArray.ext;have e:∀ l:List UInt8,List.map ((fun (n:Int)=>UInt8.ofNat n.toNat) ∘ Int.ofNat ∘ UInt8.toNat) l=l:=fun l=>by
  induction l with
  | nil=>rfl
  | cons a l ih=>rw [List.map_cons,ih];simp
 simp [str,strOfNums,e]
theorem bIh {l:List UInt8} (h:w.ownsRowF B 5 1 v n (Lib.byteCells l)) (hr:n<=140737488355328):(convert 97 231 v).run prog w=.ok (.string ⟨l.toArray⟩) w:=by
 have hl:l.length=n:=by have:=h.1;rw [Lib.byteCells_length] at this;omega
 rcases h.2 with ⟨rfl,h0⟩ | ⟨g,cap,cur,fz,rfl,h1,h2,h3,h4,h5,h6,h7⟩
 ·have e:l=[]:=kAf (by omega);subst e;exact bCf (BS.none w none 0 (by omega) (fun _=>rfl))
 ·unfold maxLen at h5;have hb:BS w (some ⟨g,0,none⟩) n cap (l.map UInt8.toNat):=by
   refine BS.of (by simp [hl]) h4 hr (by omega) ?_ ?_
   ·intro m hm;simp only [List.mem_map] at hm;obtain ⟨a,_,rfl⟩:=hm;exact a.toNat_lt
   ·intro i hi;have:=h.cells (g:=g) rfl i (.int .u8 ((l.map UInt8.toNat).getD i 0:Nat)) (by simp [Lib.byteCells,hl,hi]);rw [add_plain] at this;exact this
  rw [bCf hb,bSp]
def RTR (o:Option (List Nat×Nat)):Value:=match o with
 | none=>.tuple #[.string ⟨#[]⟩,.int .i64 0,.bool false]
 | some (rs,k)=>.tuple #[.string ⟨(encs rs).toArray⟩,.int .i64 (k:Nat),.bool true]
theorem bEs (h:BS w (some ⟨b,o,none⟩) len cap xs) (p:Nat) (hp:p<=len) (hcell:∀ i,i<len->w.cell? ⟨b,o+i,none⟩=some (.int .u8 (xs.getD i 0:Nat))):BS w (some ⟨b,o+p,none⟩) (len-p) (cap-p) (xs.drop p):=by
 have h1:=h.hlen;have h2:=h.hcap;have h3:=h.hroom;have h4:=h.hmax;refine BS.of (by rw [kAk];omega) (by omega) (by omega) (by omega) (fun n hn=>h.hbyte n (kBa hn)) (fun i hi=>?_);rw [Nat.add_assoc,hcell (p+i) (by omega)];simp [List.getElem?_drop]
theorem bLd (a:List Nat) (r:Nat):encs (a++[r])=encs a++bAq r:=by simp [encs]
theorem aIr (rs:List Nat):(encs rs).length<=4*rs.length:=by
 induction rs with
 | nil=>simp [encs]
 | cons r rs ih =>
  have:=aIt r;have e:(encs (r::rs)).length=(bAq r).length+(encs rs).length:=by simp [encs]
  simp only [List.length_cons];omega
structure TR (w:World) (xs:List Nat) (wr:World) (v:Value) (pos:Nat) (pre:List Nat):Prop where
 own:wr.ownsRowF w.heap.size 5 1 v (encs pre).length (Lib.byteCells (encs pre))
 bel:Below w.heap.size w wr
 at3:pos=3*pre.length
 rest:rt xs=(rt (xs.drop pos)).map (fun p=>(pre++p.1,pos+p.2))
theorem TR.step {v2:Value} {o:Obj} (h:TR w xs wr v pos pre) (ho:w2.ownsRowF w.heap.size 5 1 v2 ((encs pre).length+(Lib.runeCells (m:Int)).length) (Lib.byteCells (encs pre)++Lib.runeCells (m:Int)))
  (hg:(wr.alloc o).grownBy w2 v.ownBlock) (hr:rt (xs.drop pos)=(rt ((xs.drop pos).drop 3)).map (fun p=>(m::p.1,p.2+3))):TR w xs w2 v2 (pos+3) (pre++[m]):=by
 refine ⟨?_,(h.bel.alloc h.bel.size o).grown hg (by have:=h.bel.size;simp;omega) (fun k hk=>(h.own.lt k hk).1),by have:=h.at3;simp;omega,?_⟩
 ·have e:encs (pre++[m])=encs pre++Lib.encodeRune (m:Int):=bLd pre m;rw [e,lA,Lib.byteCells_append,Lib.byteCells_encodeRune,<-Lib.runeCells_length];exact ho
 ·rw [h.rest,hr,List.drop_drop,Option.map_map]
  congr 1
  funext p
  simp only [Function.comp,Prod.mk.injEq,kAu,List.cons_append,List.nil_append];exact ⟨trivial,by omega⟩
theorem aKb (b o len cap:Nat) (xs:List Nat) (w:World) (h:BS w (some ⟨b,o,none⟩) len cap xs) (hl:len<=33554432) (hb:0<len->b<w.heap.size) (hc:∀ i,i<len->w.cell? ⟨b,o+i,none⟩=some (.int .u8 (xs.getD i 0:Nat))) :
  Calls prog 230 #[.slice (some ⟨b,o,none⟩) len cap] w fun e w'=>e=.returned (RTR (rt xs))/\Below w.heap.size w w':=by
 have hcap:=h.hcap;have hlen:=h.hlen;have hmax:=h.hmax;have HX:=bAv h;have HC:=bAv hc;have HL:=bAv hlen;clear h hc hlen;go_enter func230,ntmps230;go_wp2;go_loopw [3,5] (fun z v wr=>∃ (pos:Nat) (pre:List Nat),z=.int .i64 pos/\pos<=len/\TR w xs wr v pos pre) (fun z _ _=>len-(intOf z).toNat)
 case atStart =>
  refine ⟨0,[],rfl,by omega,⟨World.ownsRowF_nil _ _ _ _,kBh _ _,rfl,?_⟩⟩;rw [List.drop_zero]
  cases rt xs<;>simp
 case round =>
  obtain ⟨pos,pre,rfl,hp,hT⟩:=hrel;have HT:=bAv hT;have H3:=bAv hT.at3;clear hT;have hBSd:BS wr (some ⟨b,o+pos,none⟩) (len-pos) (cap-pos) (xs.drop pos):=by
   refine bEs ⟨HX.o.hlen,HX.o.hcap,HX.o.hroom,HX.o.hmax,HX.o.hbyte,HX.o.hnil,?_⟩ pos hp ?_
   ·intro x hx i hi;simp only [oI] at hx;subst hx;rw [add_plain,HT.o.bel.cell (hb (by omega)),HC.o i hi]
   ·intro i hi;rw [HT.o.bel.cell (hb (by omega)),HC.o i hi]
  have HD:=bAv hBSd;have hld:(xs.drop pos).length=len-pos:=by rw [kAk,HL.o]
  have HLD:=bAv hld;clear hBSd hld;have p0:(0:Int)<=(pos:Int):=by omega
  have p1:(pos:Int)<=(len:Int):=by omega
  by_cases hs:len-pos<3
  ·have e1:hiN (xs.drop pos) 3=0:=kAg (by rw [HLD.o];exact hs);have e2:bBu (xs.drop pos) 3=false:=by unfold bBu;rw [HLD.o];simp;omega
   have hrt:rt xs=none:=by rw [HT.o.rest,bDw,kAg (by rw [HLD.o];exact hs)];rfl
   have HRT:=bAv hrt;clear hrt;have cH:=fun ww (hh:BS ww (some ⟨b,o+pos,none⟩) (len-pos) (cap-pos) (xs.drop pos))=>aA7 (some ⟨b,o+pos,none⟩) (len-pos) (cap-pos) (xs.drop pos) 3 ww hh (by omega) (by omega);rw [e1,e2] at cH;clear e1 e2;by_cases hcp:pos<cap
   ·have hcp':(pos:Int)<(cap:Int):=by omega
    go_wp2_with (go_at_call 229;refine (cH _ HD.o).mono ?_;rintro e w1 ⟨rfl,hw1⟩;have hw1:=hw1.symm;subst hw1);go_ret3;rw [HRT.o];exact ⟨rfl,HT.o.bel⟩
   ·have e3:pos=cap:=by omega
    have e4:len=cap:=by omega
    subst e3 e4;have cN:=fun ww=>aA7 (some ⟨b,o,none⟩) 0 0 [] 3 ww (BS.none ww (some ⟨b,o,none⟩) 0 (by omega) (fun h=>by cases h)) (by omega) (by omega);have e5:hiN [] 3=0:=by decide
    have e6:bBu [] 3=false:=by decide
    rw [e5,e6] at cN;clear cH e5 e6;go_wp2_with (go_at_call 229;refine (cN _).mono ?_;rintro e w1 ⟨rfl,hw1⟩;have hw1:=hw1.symm;subst hw1);go_ret3;rw [HRT.o];exact ⟨rfl,HT.o.bel⟩
  ·have hcp':(pos:Int)<(cap:Int):=by omega
   obtain ⟨n,Hn⟩:∃ n,Hid (bAg ((xs.drop pos).take 3)=n):=⟨_,rfl⟩;have hn:n<16777216:=by
    rw [<-Hn.out];have h1:=aFe ((xs.drop pos).take 3) fun m hm=>HX.o.hbyte m (kBa (kA2 hm));have h2:((xs.drop pos).take 3).length<=3:=by rw [kAt];omega
    exact kAi h1 (nT (kA9 (by decide) h2) (by decide))
   have e1:hiN (xs.drop pos) 3=n:=by rw [<-Hn.out];exact kAb (by rw [HLD.o];exact hs)
   have e2:bBu (xs.drop pos) 3=true:=by unfold bBu;rw [HLD.o];simp;omega
   have HRQ:=bAv (bDw (xs.drop pos));rw [HLD.o,kAb hs,Hn.out] at HRQ;have cH:=fun ww (hh:BS ww (some ⟨b,o+pos,none⟩) (len-pos) (cap-pos) (xs.drop pos))=>aA7 (some ⟨b,o+pos,none⟩) (len-pos) (cap-pos) (xs.drop pos) 3 ww hh (by omega) (by omega);rw [e1,e2] at cH;clear e1 e2;by_cases hz:n=0
   ·subst hz;have hrt:rt xs=some (pre,pos+3):=by rw [HT.o.rest,HRQ.o,kAg rfl];simp
    have HRT:=bAv hrt;clear hrt;have hcv:=bIh HT.o.own (by have:=aIr pre;have:=H3.o;omega);go_wp2_with (go_at_call 229;refine (cH _ HD.o).mono ?_;rintro e w1 ⟨rfl,hw1⟩;have hw1:=hw1.symm;subst hw1);go_ret3;rw [HRT.o];exact ⟨by simp [RTR],HT.o.bel⟩
   ·have hz':((n:Int) == 0)=false:=by simp;omega
    have hn1:1<=n:=by omega
    obtain ⟨m,hm⟩:∃ m:Nat,(n:Int)-1=(m:Int):=⟨n-1,by omega⟩;have hmn:n-1=m:=by omega
    rw [hmn] at HRQ;have hm0:(m:Int)<16777215:=by omega
    have hw64:IntKind.u64.wrap ((n:Int)-1)=(m:Int):=by rw [IntKind.wrap_u64];omega
    have hn0:(1:Int)<=(n:Int):=by omega
    have hn9:(n:Int)<16777216:=by omega
    have HNN:=bAv hn;have HSS:=bAv hs;clear hn hn1 hs hmn;by_cases hv:vr m
    ·have hvr:Lib.validRune (m:Int)=true:=by unfold Lib.validRune;unfold vr at hv;simp;omega
     have HV:=bAv hv;have HZ:=bAv hz;clear hz hv;have cA:=fun ww vv (hh:ww.ownsRowF w.heap.size 5 1 vv (encs pre).length (Lib.byteCells (encs pre))) (hq:w.heap.size<=ww.heap.size)=>utf8_AppendRune_row w.heap.size vv (encs pre).length (Lib.byteCells (encs pre)) (m:Int) (by omega) (by omega) ww hh (by have:=aIr pre;have:=H3.o;omega) hq
     have HA:=bAv cA;clear cA
     go_wp2_with (first
      | (go_at_call 229;refine (cH _ HD.o).mono ?_;rintro e w1 ⟨rfl,hw1⟩;have hw1:=hw1.symm;subst hw1)
      | (go_at_call 239;refine (utf8_ValidRune (m:Int) _).mono ?_;rintro e w1 ⟨rfl,hw1⟩;have hw1:=hw1.symm;subst hw1)
      | (go_at_call 240;refine (HA.o _ _ HT.o.own HT.o.bel.size).mono ?_;rintro e w2 ⟨v2,rfl,ho2,o2,hg2⟩;have HO2:=bAv ho2;have HG2:=bAv hg2;clear ho2 hg2))
     go_roundw
     case rel =>
      refine ⟨pos+3,pre++[m],by go_num,by have:=HSS.o;omega,?_⟩;refine TR.step HT.o HO2.o HG2.o ?_;rw [HRQ.o,kAb HZ.o,kAg HV.o]
     case measure=>simp [intOf];have:=HSS.o;omega
    ·have hvr:Lib.validRune (m:Int)=false:=by unfold Lib.validRune;unfold vr at hv;simp;omega
     have hrt:rt xs=none:=by rw [HT.o.rest,HRQ.o,kAb hz,kAb hv];rfl
     have HRT:=bAv hrt;clear hrt hz hv
     go_wp2_with (first
      | (go_at_call 229;refine (cH _ HD.o).mono ?_;rintro e w1 ⟨rfl,hw1⟩;have hw1:=hw1.symm;subst hw1)
      | (go_at_call 239;refine (utf8_ValidRune (m:Int) _).mono ?_;rintro e w1 ⟨rfl,hw1⟩;have hw1:=hw1.symm;subst hw1))
     go_ret3;rw [HRT.o];exact ⟨rfl,HT.o.bel⟩
theorem aFt (a:Option Addr) (cap:Nat) (w:World) (hc:cap<=9223372036854775807) (hn:a=none->cap=0) :
  Calls prog 230 #[.slice a 0 cap] w fun e w'=>e=.returned (RTR (rt []))/\Below w.heap.size w w':=by
 have cN:=fun a cap ww (hc:cap<=9223372036854775807) (hn:a=none->cap=0)=>aA7 a 0 cap [] 3 ww (BS.none ww a cap hc hn) (by omega) (by omega);have e5:hiN [] 3=0:=by decide
 have e6:bBu [] 3=false:=by decide
 have e7:rt []=none:=by decide
 rw [e5,e6] at cN;rw [e7]
 cases a with
 | none =>
  have:=hn rfl;subst this;go_enter func230,ntmps230;go_wp2;refine wp_loop_rounds 1 ?_;rw [rounds_succ];go_wp2_with (go_at_call 229;refine (cN none 0 _ (by omega) (fun _=>rfl)).mono ?_;rintro e w1 ⟨rfl,hw1⟩;have hw1:=hw1.symm;subst hw1);go_ret3;exact ⟨rfl,kBh _ _⟩
 | some x =>
  go_enter func230,ntmps230;go_wp2;refine wp_loop_rounds 1 ?_;rw [rounds_succ];go_wp2_with (go_at_call 229;refine (cN _ _ _ (by omega) (fun h=>by cases h)).mono ?_;rintro e w1 ⟨rfl,hw1⟩;have hw1:=hw1.symm;subst hw1)
  all_goals go_ret3
  all_goals exact ⟨rfl,kBh _ _⟩
theorem bCk (a:Option Addr) (len cap:Nat) (xs:List Nat) (w:World) (h:BS w a len cap xs) (hl:len<=33554432) :
  Calls prog 230 #[.slice a len cap] w fun e w'=>e=.returned (RTR (rt xs))/\Below w.heap.size w w':=by
 rcases Nat.eq_zero_or_pos len with h0 | h0
 ·have hx:xs=[]:=kAf (by have:=h.hlen;omega);subst hx h0;exact aFt a cap w h.hmax h.hnil
 ·obtain ⟨b,o,rfl,hbl,hc⟩:=h.place h0;exact aKb b o len cap xs w h hl (fun _=>hbl) hc
end Go.Proofs.YtdpdjpkmndnaaaaGreat
