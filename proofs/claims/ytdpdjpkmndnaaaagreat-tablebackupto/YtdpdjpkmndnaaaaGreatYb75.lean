import Derived.Test.YtdpdjpkmndnaaaaGreatYb73
set_option maxRecDepth 100000
set_option maxHeartbeats 16000000
set_option linter.unusedVariables false
namespace Go.Proofs.YtdpdjpkmndnaaaaGreat
open Go.RowKit _root_.Go.Proofs.Tryz
variable {B bx c cap cc cl d db g hc i j kc kn lc len ls n num p q te xc xl:Nat} {T:List Tbl} {W w w' w0:World} {a ca ka xa:Option Addr} {cs:List Ch} {dv v:Value} {es:List SEt} {hi lo x:Val} {nm:ByteArray} {r:List Val} {s:Sch}
theorem aGb {t:Tbl} (h1:tAt T nm=some i) (h2:T[i]?=some t):delO T nm x=if x.err≠0 then ⟨T,[],62⟩ else match rowAt t.rows x with
 | none=>⟨T,[],4⟩
 | some r=>⟨bA5 T i t (cutV x t.rows),bA2 i t.s r,0⟩:=by
 unfold delO;rw [h1];dsimp only;rw [h2];rfl
theorem aIw (h1:tAt T nm=none):delO T nm x=⟨T,[],60⟩:=by unfold delO;rw [h1]
theorem aD1 (w:World) (a b:Obj):Below w.heap.size w ((w.alloc a).alloc b):=(aAg w a).trans ((aAg _ b).mono (aAg w a).size)
theorem bGu [Gd] (h:DR B p q g ls db v cs W w0 w) (I:Inv cs T) (hl:cs.length<=990) (nm:ByteArray) (hx:x.ok) (hxs:x.2.2.size<=1048576) :
  Calls prog 27 #[.pointer (some ⟨db,0,none⟩),.string nm,.agg #[.int .i64 x.1,.int .i64 x.2.1,.string x.2.2]] w fun e w'=>OpR B p q g ls db v cs W w0 w (delO T nm x) e w':=by
 have HD:=aAc h;have HI:=aAc I;have HLN:Hid (cs.length<=1000):=by show _<=_;omega
 have HLM:=aAc hl;obtain ⟨w1,hw1⟩:∃ w1,w1=w.alloc (.cells #[.int .i64 x.1,.int .i64 x.2.1,.string x.2.2] 36):=⟨_,rfl⟩;have hb1:Below w.heap.size w w1:=by rw [hw1];exact aAg w _
 have HK1:Hid (w1.heap[w.heap.size]?=some (.cells #[.int .i64 x.1,.int .i64 x.2.1,.string x.2.2] 36 (0,0))):=by show _=_;rw [hw1];exact boxed w _
 have HB1:=aAc hb1;have HFI:=aAc (aJo (h.later hb1) I (by omega) nm hx hxs);have HW1:=aAc hw1;have k0:w1.cell? ⟨w.heap.size,0,none⟩=some (.int .i64 x.1):=aAa HK1.o;have k1:w1.cell? ⟨w.heap.size,1,none⟩=some (.int .i64 x.2.1):=aAa HK1.o;have k2:w1.cell? ⟨w.heap.size,2,none⟩=some (.string x.2.2):=aAa HK1.o;clear h I hl hx hxs hb1 hw1;go_enter func27,ntmps27;go_upto_region 1 with fail;rw [<-HW1.o];clear HW1;go_wp2_with fail;refine HFI.o.mono ?_;rintro e w2 ⟨hfi,hb2⟩;have HB2:Hid (Below w.heap.size w w2):=HB1.o.trans (hb2.mono HB1.o.size);have HFR:=aAc hfi;clear hfi hb2 HFI k0 k1 k2 HK1
 cases hta:tAt T nm with
 | none =>
  have he:=HFR.o.1 hta;unfold zT zR at he;subst he;have HTA:=aAc hta;have hbx:=aD1 w2 (.cells #[.pointer none,.int .u8 0,.string ⟨#[]⟩,.slice none 0 0,.slice none 0 0] 101) (.cells #[.slice none 0 0,.slice none 0 0] 119);have HB3:=aAc (HB2.o.trans (hbx.mono HB2.o.size));clear hbx hta HFR;go_wp2;go_ret;rw [aIw HTA.o];exact OpR.no HD.o HB3.o
 | some i =>
  obtain ⟨t,hti,htn,htm⟩:=aAy hta;subst htn;have hft:=HFR.o.2 i t hta hti;have HTA:=aAc hta;have HTI:=aAc hti;have HOK:=aAc (HI.o.ok t htm);have HIO:=aAc (aGb (x:=x) hta hti);have HTM:=aAc htm;clear hta hti htm HFR;by_cases hf0:x.err=0
  ·obtain ⟨ca,cc,xa,xc,fa,fn,fc,ga,gc,he,hsc,hgq⟩:=hft.2 hf0;unfold bIk at he;have HX0:=aAc hf0;have hx0:TRX w2.heap.size (w2.heap.size+1) (.pointer (some ⟨db,0,none⟩)) i t.s.nm ca t.s.cs.length cc xa t.s.xs.length xc (.slice fa fn fc) ga fn gc w2 ((w2.alloc (.cells #[.pointer (some ⟨db,0,none⟩),.int .u8 (i:Int),.string t.s.nm,.slice ca t.s.cs.length cc,.slice xa t.s.xs.length xc] 101)).alloc (.cells #[.slice fa fn fc,.slice ga fn gc] 119)):=TRX.new w2;have HX3:=aAc hx0;have HSC3:=aAc (hsc.later hx0.be);have HGQ3:=aAc (hgq.later hx0.be);have HB3:=aAc (HB2.o.trans (hx0.be.mono HB2.o.size));have HD3:=aAc (HD.o.later HB3.o)
   cases hra:rowAt t.rows x with
   | none =>
    rw [hra] at he;have he:e=.returned (.tuple #[.agg #[.pointer (some ⟨db,0,none⟩),.int .u8 (i:Int),.string t.s.nm,.slice ca t.s.cs.length cc,.slice xa t.s.xs.length xc],.agg #[.slice fa fn fc,.slice ga fn gc],.int .i64 4]):=he;subst he;have HRA:=aAc hra;clear hft hf0 hsc hgq hx0 hra;go_wp2;go_ret;rw [HIO.o,kAb (by rw [HX0.o];simp),HRA.o];exact OpR.no HD.o HB3.o
   | some r =>
    rw [hra] at he;have he:e=.returned (.tuple #[.agg #[.pointer (some ⟨db,0,none⟩),.int .u8 (i:Int),.string t.s.nm,.slice ca t.s.cs.length cc,.slice xa t.s.xs.length xc],.agg #[.slice fa fn fc,.slice ga fn gc],.int .i64 0]):=he;subst he;have HRA:=aAc hra;obtain ⟨hrm,hrf⟩:=aBy hra;obtain ⟨hfn,hrh,hf9⟩:=HGQ3.o.2 r hra;clear hf9;have HRO:=aAc (HI.o.row t HTM.o r hrm);have HRH3:=aAc hrh;have HFN:=aAc hfn;clear hft hf0 hsc hgq hx0 hra hrm hrf hrh hfn;go_upto_region 2 with fail;generalize (w2.alloc (.cells #[.pointer (some ⟨db,0,none⟩),.int .u8 (i:Int),.string t.s.nm,.slice ca t.s.cs.length cc,.slice xa t.s.xs.length xc] 101)).alloc (.cells #[.slice fa fn fc,.slice ga fn gc] 119)=w3 at *;generalize w2.heap.size=L at *;have hch:=aDs (dv:=.pointer (some ⟨db,0,none⟩)) (nm:=t.s.nm) (ca:=ca) (cl:=t.s.cs.length) (cc:=cc) (gone:=true) B (show i<256 by have:=(lL HTI.o);have:=HI.o.len;omega) HOK.o HRO.o HSC3.o.x HRH3.o.p HRH3.o.v.hvs;rw [<-HFN.o] at hch;have HCH:=aAc hch;obtain ⟨y0,y1,y2,y3,y4,m0,m1⟩:=HX3.o.sm;clear hch;go_wp2_with fail;refine HCH.o.mono ?_;rintro e w5 ⟨vl,rfl,hcr,hb5⟩;have HD5:=aAc (HD3.o.later hb5);have HB5:=aAc (HB3.o.trans (hb5.mono HB3.o.size));have hll:cs.length+(chL (bAh i t.s r) (bAm r) true).length<=1000:=by
     rw [aK4];have:=aDd i r HOK.o;have:=HLM.o;omega
    obtain ⟨la,lc,el,hcall⟩:=aFb HD5.o.dd HD3.o.dd rfl hcr hll (aK3 HOK.o HRO.o);rw [bGp] at hcall;subst el;have HCA:=aAc hcall;clear hcr hb5 hcall hll HCH y0 y1 y2 y3 y4 m0 m1;generalize (chL (bAh i t.s r) (bAm r) true).length=kl at *;go_wp2_with fail;refine HCA.o.mono ?_;rintro e w6 ⟨v6,rfl,hd6,hf6⟩;have HR6:Hid (OpR B p q g ls db v cs W w0 w (delO T t.s.nm x) (.returned (.int .i64 0)) w6):=by
     rw [HIO.o,kAb (by rw [HX0.o];simp),HRA.o];exact ⟨v6,rfl,HD5.o.fr hd6 hf6,(DFr.of HB5.o HD.o.bw).trans hf6⟩
    clear hd6 hf6 HCA;go_wp2;go_ret;exact HR6.o
  ·have he:=hft.1 hf0;unfold zT zR at he;subst he;have HX0:=aAc hf0;have hbx:=aD1 w2 (.cells #[.pointer none,.int .u8 0,.string ⟨#[]⟩,.slice none 0 0,.slice none 0 0] 101) (.cells #[.slice none 0 0,.slice none 0 0] 119);have HB3:=aAc (HB2.o.trans (hbx.mono HB2.o.size));clear hbx hft hf0;go_wp2;go_ret;rw [HIO.o,kAg HX0.o];exact OpR.no HD.o HB3.o
def lenO (T:List Tbl) (nm:ByteArray):Int×Int:=match tAt T nm with
 | none=>(0,60)
 | some i=>match T[i]? with
  | none=>(0,60)
  | some t=>((t.rows.length:Int),0)
def bEk (T:List Tbl) (nm:ByteArray) (x:Val):Option (List Val)×Int:=match tAt T nm with
 | none=>(none,60)
 | some i=>match T[i]? with
  | none=>(none,60)
  | some t=>if x.err≠0 then (none,62) else match rowAt t.rows x with
   | none=>(none,4)
   | some r=>(some r,0)
theorem aCo {t:Tbl} (h1:tAt T nm=some i) (h2:T[i]?=some t):bEk T nm x=(if x.err≠0 then (none,62) else match rowAt t.rows x with
   | none=>(none,4)
   | some r=>(some r,0):Option (List Val)×Int):=by
 unfold bEk;rw [h1];dsimp only;rw [h2]
theorem bC3 (h1:tAt T nm=none):bEk T nm x=(none,60):=by unfold bEk;rw [h1]
def bVo (B:Nat) (o:Option (List Val)) (ec:Int) (e:Ending) (w':World):Prop:=∃ a n c,e=.returned (.tuple #[.slice a n c,.int .i64 ec])/\SVK fV 3 w' a n c (o.getD [])/\∀ ad,a=some ad->B<=ad.block
def TlR (o:Option (List Val)) (ec:Int) (e:Ending) (w':World):Prop:=∃ a n c,e=.returned (.tuple #[.slice a n c,.int .i64 ec])/\SVK fV 3 w' a n c (o.getD [])
theorem aH1 [Gd] (h:DR B p q g ls db v cs W w0 w) (I:Inv cs T) (hl:cs.length<=1000) (nm:ByteArray) (hx:x.ok) (hxs:x.2.2.size<=1048576) :
  Calls prog 24 #[.pointer (some ⟨db,0,none⟩),.string nm,.agg #[.int .i64 x.1,.int .i64 x.2.1,.string x.2.2]] w fun e w'=>bVo w.heap.size (bEk T nm x).1 (bEk T nm x).2 e w'/\Below w.heap.size w w':=by
 have HD:=aAc h;have HI:=aAc I;have HLN:Hid (cs.length<=1000):=by show _<=_;omega
 obtain ⟨w1,hw1⟩:∃ w1,w1=w.alloc (.cells #[.int .i64 x.1,.int .i64 x.2.1,.string x.2.2] 36):=⟨_,rfl⟩;have hb1:Below w.heap.size w w1:=by rw [hw1];exact aAg w _
 have HK1:Hid (w1.heap[w.heap.size]?=some (.cells #[.int .i64 x.1,.int .i64 x.2.1,.string x.2.2] 36 (0,0))):=by show _=_;rw [hw1];exact boxed w _
 have HB1:=aAc hb1;have HFI:=aAc (aJo (h.later hb1) I (by omega) nm hx hxs);have HW1:=aAc hw1;have k0:w1.cell? ⟨w.heap.size,0,none⟩=some (.int .i64 x.1):=aAa HK1.o;have k1:w1.cell? ⟨w.heap.size,1,none⟩=some (.int .i64 x.2.1):=aAa HK1.o;have k2:w1.cell? ⟨w.heap.size,2,none⟩=some (.string x.2.2):=aAa HK1.o;obtain ⟨go,hgo⟩:∃ go,bEk T nm x=go:=⟨_,rfl⟩;have HGO:=aAc hgo;rw [hgo];clear h I hl hx hxs hb1 hw1 hgo;go_enter func24,ntmps24;go_upto_region 1 with fail;rw [<-HW1.o];clear HW1;go_wp2_with fail;refine HFI.o.mono ?_;rintro e w2 ⟨hfi,hb2⟩;have HB2:Hid (Below w.heap.size w w2):=HB1.o.trans (hb2.mono HB1.o.size);have HFR:=aAc hfi;clear hfi hb2 HFI k0 k1 k2 HK1;have hany:∃ dp dn ds da db1 dc ea eb ec1 fa fn fc ga gc ec,e=.returned (.tuple #[.agg #[.pointer dp,.int .u8 dn,.string ds,.slice da db1 dc,.slice ea eb ec1],.agg #[.slice fa fn fc,.slice ga fn gc],.int .i64 ec])/\ec=go.2/\SVK fV 3 w2 fa fn fc (go.1.getD [])/\∀ ad,fa=some ad->w.heap.size<=ad.block:=by
  cases hta:tAt T nm with
  | none =>
   have he:=HFR.o.1 hta;unfold zT zR at he;refine ⟨_,_,_,_,_,_,_,_,_,none,0,0,none,0,60,he,?_,?_,?_⟩
   ·rw [<-HGO.o,bC3 hta]
   ·rw [<-HGO.o,bC3 hta];exact SVK.nil _ _ _
   ·intro ad q;cases q
  | some i =>
   obtain ⟨t,hti,htn,htm⟩:=aAy hta;subst htn;have hft:=HFR.o.2 i t hta hti;by_cases hf0:x.err=0
   ·obtain ⟨ca,cc,xa,xc,fa,fn,fc,ga,gc,he,hsc,hgq⟩:=hft.2 hf0;unfold bIk at he
    cases hra:rowAt t.rows x with
    | none =>
     rw [hra] at he;obtain ⟨rfl,rfl,rfl,rfl,rfl⟩:=hgq.1 hra;refine ⟨_,_,_,_,_,_,_,_,_,none,0,0,none,0,4,he,?_,?_,?_⟩
     ·rw [<-HGO.o,aCo hta hti,kAb (by rw [hf0];simp),hra]
     ·rw [<-HGO.o,aCo hta hti,kAb (by rw [hf0];simp),hra];exact SVK.nil _ _ _
     ·intro ad q;cases q
    | some r =>
     rw [hra] at he;obtain ⟨hfn,hrh,hf9⟩:=hgq.2 r hra;refine ⟨_,_,_,_,_,_,_,_,_,fa,fn,fc,ga,gc,0,he,?_,?_,?_⟩
     ·rw [<-HGO.o,aCo hta hti,kAb (by rw [hf0];simp),hra]
     ·rw [<-HGO.o,aCo hta hti,kAb (by rw [hf0];simp),hra,hfn];exact hrh.p
     ·exact fun ad q=>nT HB1.o.size (hf9 ad q)
   ·have he:=hft.1 hf0;unfold zT zR at he;refine ⟨_,_,_,_,_,_,_,_,_,none,0,0,none,0,62,he,?_,?_,?_⟩
    ·rw [<-HGO.o,aCo hta hti,kAg hf0]
    ·rw [<-HGO.o,aCo hta hti,kAg hf0];exact SVK.nil _ _ _
    ·intro ad q;cases q
 obtain ⟨dp,dn,ds,da,db1,dc,ea,eb,ec1,fa,fn,fc,ga,gc,ec,rfl,hec,hsv,hfr9⟩:=hany;have HFR9:=aAc hfr9;have HEC:=aAc hec;have hb3:=aD1 w2 (.cells #[.pointer dp,.int .u8 dn,.string ds,.slice da db1 dc,.slice ea eb ec1] 101) (.cells #[.slice fa fn fc,.slice ga fn gc] 119);have HB3:=aAc (HB2.o.trans (hb3.mono HB2.o.size));have HS3:=aAc (hsv.later hb3);have m0:((w2.alloc (.cells #[.pointer dp,.int .u8 dn,.string ds,.slice da db1 dc,.slice ea eb ec1] 101)).alloc (.cells #[.slice fa fn fc,.slice ga fn gc] 119)).cell? ⟨w2.heap.size+1,0,none⟩=some (.slice fa fn fc):=aAa (heap_alloc2_new w2 _ _);clear hsv hec hb3 HFR hfr9;go_upto_region 2 with fail;generalize (w2.alloc (.cells #[.pointer dp,.int .u8 dn,.string ds,.slice da db1 dc,.slice ea eb ec1] 101)).alloc (.cells #[.slice fa fn fc,.slice ga fn gc] 119)=w3 at *;generalize w2.heap.size+1=Q at *;go_wp2;go_ret2;exact ⟨⟨fa,fn,fc,by rw [<-HEC.o];rfl,HS3.o,HFR9.o⟩,HB3.o⟩
theorem bGt [Gd] (h:DR B p q g ls db v cs W w0 w) (I:Inv cs T) (hl:cs.length<=1000) (nm:ByteArray) (hx:x.ok) (hxs:x.2.2.size<=1048576) :
  Calls prog 24 #[.pointer (some ⟨db,0,none⟩),.string nm,.agg #[.int .i64 x.1,.int .i64 x.2.1,.string x.2.2]] w fun e w'=>TlR (bEk T nm x).1 (bEk T nm x).2 e w'/\Below w.heap.size w w':=(aH1 h I hl nm hx hxs).mono fun e w' hh=>by obtain ⟨⟨a,n,c,h1,h2,_⟩,h3⟩:=hh;exact ⟨⟨a,n,c,h1,h2⟩,h3⟩
theorem bEa:∀ {l m:List (List Nat)},(l.Pairwise fun a b=>a≠b)->(∀ x∈l,x∈m)->l.length<=m.length
 | [],_,_,_=>kAm _
 | x::l,m,hp,h=>by
  obtain ⟨h1,h2⟩:=kAw.1 hp
  have hx:=h x kAn
  have:=bEa (l:=l) (m:=m.erase x) h2 fun y hy=>(List.mem_erase_of_ne (fun e=>h1 y hy e.symm)).2 (h y (kAl _ hy))
  rw [List.length_erase_of_mem hx] at this
  have:=List.length_pos_of_mem hx
  simp only [List.length_cons]
  omega
theorem Inv.names_len (I:Inv cs T):(bAj cs 0).length=T.length:=by
 have h1:((bAj cs 0).map Ch.key).length<=(T.map fun t=>slK t.s.nm).length:=by
  refine bEa ?_ fun x hx=>?_
  ·rw [List.pairwise_map];exact (aJz cs 0).imp fun {a b} hab e=>by rw [e,aAu] at hab;omega
  ·obtain ⟨c,hc,rfl⟩:=List.mem_map.1 hx;obtain ⟨i,t,h2,rfl⟩:=(I.l0 c).1 hc;exact List.mem_map.2 ⟨t,at_mem h2,rfl⟩
 have h2:(T.map fun t=>slK t.s.nm).length<=((bAj cs 0).map Ch.key).length:=by
  refine bEa ?_ fun x hx=>?_
  ·rw [List.pairwise_map,List.pairwise_iff_getElem];intro i j hi hj hij e;have:=I.nm i j _ _ (gE hi) (gE hj) (bDr e);omega
  ·obtain ⟨t,ht,rfl⟩:=List.mem_map.1 hx;obtain ⟨i,hi⟩:=kBc ht;exact List.mem_map.2 ⟨⟨0,slK t.s.nm,i::encS t.s,false⟩,(I.l0 _).2 ⟨i,t,hi,rfl⟩,rfl⟩
 rw [kAp,kAp] at h1 h2;omega
theorem bI1 (I:Inv cs T):bBc cs 0 [] [] 4=bAj cs 0:=by
 rw [aE6];have e:(bAj cs 0).filter (fun c=>inK [] [] c.key)=bAj cs 0:=by
  rw [List.filter_eq_self];intro c _;unfold inK;rw [kAc (aGc c.key)];rfl
 rw [e];exact kAh (by rw [I.names_len];exact I.len)
def fN (s:ByteArray):List Value:=[.string s]
theorem bLb (s:ByteArray):(fN s).length=1:=rfl
theorem bKr:(prog.info? 9).map (fun i=>(i.zero,i.size,i.bytes))=some (some (.string ⟨#[]⟩),1,16):=by kernel_rfl
theorem bUo:(madeCells (Value.string ⟨#[]⟩).cells (0*1)).toList=(List.replicate 0 (⟨#[]⟩:ByteArray)).flatMap fN:=by kernel_rfl
theorem bUn:(madeCells (Value.string ⟨#[]⟩).cells (1*1)).toList=(List.replicate 1 (⟨#[]⟩:ByteArray)).flatMap fN:=by kernel_rfl
theorem bUm:(madeCells (Value.string ⟨#[]⟩).cells (2*1)).toList=(List.replicate 2 (⟨#[]⟩:ByteArray)).flatMap fN:=by kernel_rfl
theorem bUl:(madeCells (Value.string ⟨#[]⟩).cells (3*1)).toList=(List.replicate 3 (⟨#[]⟩:ByteArray)).flatMap fN:=by kernel_rfl
theorem bUk:(madeCells (Value.string ⟨#[]⟩).cells (4*1)).toList=(List.replicate 4 (⟨#[]⟩:ByteArray)).flatMap fN:=by kernel_rfl
theorem bKa (h:n<=4):(madeCells (Value.string ⟨#[]⟩).cells (n*1)).toList=(List.replicate n (⟨#[]⟩:ByteArray)).flatMap fN:=by
 have:n=0\/n=1\/n=2\/n=3\/n=4:=by omega
 rcases this with rfl | rfl | rfl | rfl | rfl
 ·exact bUo
 ·exact bUn
 ·exact bUm
 ·exact bUl
 ·exact bUk
def bPj (cs:List Ch):List ByteArray:=(bAj cs 0).map fun c=>str c.key
theorem bB6 [Gd] (h:DR B p q g ls db v cs W w0 w) (I:Inv cs T) (hl:cs.length<=1000) :
  Calls prog 14 #[.pointer (some ⟨db,0,none⟩)] w fun e w'=>∃ a c,e=.returned (.tuple #[.slice a T.length c,.int .i64 0])/\SVK fN 1 w' a T.length c (bPj cs)/\Below w.heap.size w w'/\∀ ad,a=some ad->w.heap.size<=ad.block:=by
 have hrg:=aBr (sp:=0) (most:=4) h.now h.dd hl (by omega) (BK.nil B w) (BK.nil B w) (by omega) (by omega) (by omega) (by omega);rw [show bBc cs ((0:Nat):Int) [] [] 4=bBc cs 0 [] [] 4 from rfl,bI1 I] at hrg;have HRG:=aAc hrg;obtain ⟨F,hF⟩:∃ F,bAj cs 0=F:=⟨_,rfl⟩;obtain ⟨n,hn⟩:∃ n,T.length=n:=⟨_,rfl⟩;have HFN:Hid (F.length=n):=by show _=_;rw [<-hF,I.names_len,hn]
 have HN4:Hid (n<=4):=by show _<=_;rw [<-hn];exact I.len
 have HNM:Hid (bPj cs=F.map fun c=>str c.key):=by show _=_;rw [<-hF];rfl
 have HBW:=aAc h.bw;rw [hF] at HRG;rw [hn];obtain ⟨N,hN⟩:∃ N,w.heap.size=N:=⟨_,rfl⟩;have HNN:=aAc hN;rw [hN];clear hrg h I hl hF hn;go_enter func14,ntmps14;go_wp2_with fail;refine HRG.o.mono ?_;rintro e w2 ⟨v2,rfl,hps,hb2⟩;obtain ⟨pa,pc,ev⟩:=hps.form;rw [HFN.o] at ev;subst ev;have HPS:=aAc (bPn hps);have HB2:Hid (Below N w w2):=by show Below N w w2;rw [<-hN];exact hb2
 have HBW2:Hid (B<=w2.heap.size/\N<=w2.heap.size):=⟨nT HBW.o hb2.size,by rw [<-hN];exact hb2.size⟩;clear hps hb2 HRG;obtain ⟨i0,hi,hz0,hz1',hz2⟩:=info_parts bKr;have hn4:n<=4:=HN4.o;go_upto_region 7 with (refine wpList_make_full w2 rfl _ _ 44 rfl w2.heap.size 9 i0 (.string ⟨#[]⟩) 1 underlying44 hi hz0 hz1' .i64 .i64 (n:Int) (n:Int) n rfl rfl rfl rfl (by rw [hz2];omega) (by unfold maxLen;omega) (nR _) ?_;intro w3 ho3 hg3;rw [bKa hn4] at ho3;have HO3:=aAc ho3;have HG3:Hid (Below w2.heap.size w2 w3):=(kBh _ _).grown hg3 (nR _) (fun _ q=>nomatch q);clear ho3 hg3);have HPS3:=aAc (HPS.o.later HG3.o HBW2.o.1);have HB3:Hid (Below N w w3):=HB2.o.trans (HG3.o.mono HBW2.o.2);have HBG:Hid (B<=w2.heap.size/\N<=w2.heap.size):=HBW2.o;clear HG3 HPS HB2 HBW2 hi hz0 hz1' hz2;generalize w2.heap.size=g2 at *
 obtain ⟨ns,hns⟩:∃ ns,ns=F.map fun c=>str c.key:=⟨_,rfl⟩;have HNS:=aAc hns;have HNL:Hid (ns.length=n):=by show _=_;rw [hns,kAp];exact HFN.o
 clear hns;rw [show List.replicate n (⟨#[]⟩:ByteArray)=bBn ⟨#[]⟩ ns 0 from by rw [aFn,HNL.o]] at HO3;go_wp2_with fail;go_loopg [24] n (fun gh s24 wx=>∃ j:Nat,j+gh=n/\s24=.int .i64 (j:Int)/\wx.ownsRow g2 9 1 (.slice (some ⟨g2,0,none⟩) n n) n ((bBn ⟨#[]⟩ ns j).flatMap fN)/\PSW B 0 wx (.slice pa n pc) F/\Below N w wx)
 case atStart=>exact ⟨0,by omega,rfl,HO3.o,HPS3.o,HB3.o⟩
 case round =>
  obtain ⟨j,hj,rfl,ho1,hps,hbe⟩:=hrel;have HO1:=aAc ho1;have HPS:=aAc hps;have HBE:=aAc hbe;clear ho1 hps hbe HO3 HPS3 HB3;by_cases hjn:j<n
  ·have xj:(j:Int)<(n:Int):=by omega
   have xj0:(0:Int)<=(j:Int):=by omega
   have x6:(n:Int)<=9223372036854775807:=by omega
   obtain ⟨ch,hch⟩:∃ c,F[j]?=some c:=⟨_,gE (by rw [HFN.o];exact hjn)⟩;obtain ⟨g9,k9,x9,e9,hev,hcell⟩:=HPS.o.at bC8 hch;obtain ⟨xc9,xk9,xv9⟩:=x9;obtain ⟨ex9,⟨ka,kc,e3,hbk⟩,⟨vva,vvc,e4,_⟩⟩:=hev;dsimp only at ex9 e3 e4;subst ex9;simp only [kBl] at e9;obtain ⟨rfl,zz9,rfl⟩:=e9;clear zz9;have c0:wr.cell? ⟨g9,j*3,none⟩=some (.int .i64 xc9.sp):=hcell 0 (by omega);have c1:wr.cell? ⟨g9,j*3+1,none⟩=some xk9:=hcell 1 (by omega);have c2:wr.cell? ⟨g9,j*3+2,none⟩=some xv9:=hcell 2 (by omega);subst e3 e4;have hcap:n<=pc:=by
    obtain ⟨kv,_,⟨_,ho⟩,_⟩:=HPS.o;rcases ho with ⟨e,h0⟩ | ⟨g',cap',cur',e,_,_,h7,_⟩
    ·rw [HFN.o] at h0;omega
    ·simp only [kBl] at e;have:=HFN.o;omega
   have hBr:B<=wr.heap.size:=nT HBW.o (by have:=HBE.o.size;have:=HNN.o;omega);have hbx:=aAg wr (.cells #[.int .i64 xc9.sp,.slice ka xc9.key.length kc,.slice vva xc9.val.length vvc] 99);have HO2:=aAc (aAq HO1.o hbx);have HPS2:=aAc (HPS.o.later hbx hBr);have HBE2:Hid (Below N w (wr.alloc (.cells #[.int .i64 xc9.sp,.slice ka xc9.key.length kc,.slice vva xc9.val.length vvc] 99))):=HBE.o.trans (hbx.mono (by have:=HBE.o.size;have:=HNN.o;omega));have HR3:Hid ((wr.alloc (.cells #[.int .i64 xc9.sp,.slice ka xc9.key.length kc,.slice vva xc9.val.length vvc] 99)).heap[wr.heap.size]?=some (.cells #[.int .i64 xc9.sp,.slice ka xc9.key.length kc,.slice vva xc9.val.length vvc] 99 (0,0))):=boxed wr _;have hbk2:=hbk.later hbx hBr;have HNA:Hid (ns[j]?=some (str xc9.key)):=by show _=_;rw [HNS.o,kAq,hch];rfl
   have HNX:=aAc (aFo (z:=(⟨#[]⟩:ByteArray)) HNA.o);have HAZ:Hid ((bBn (⟨#[]⟩:ByteArray) ns j)[j]?=some ⟨#[]⟩):=aJ7 (by rw [HNL.o];exact hjn);clear hcell hbx hbk hch;go_upto_region 10 with fail;clear c0 c1 c2;generalize wr.alloc (.cells #[.int .i64 xc9.sp,.slice ka xc9.key.length kc,.slice vva xc9.val.length vvc] 99)=w5 at *;generalize wr.heap.size=G at *;have z1:w5.cell? ⟨G,1,none⟩=some (.slice ka xc9.key.length kc):=aAa HR3.o;have hcv:(convert 97 9 (.slice ka xc9.key.length kc)).run prog w5=.ok (.string (str xc9.key)) w5:=run_text hbk2.1;have hcells:=aD7 bLb HO2.o HAZ.o;obtain ⟨cur,hcur,hcell⟩:=hcells;have d0:w5.cell? ⟨g2,j,none⟩=some (.string ⟨#[]⟩):=by have h9:=hcell 0 (by omega);rw [Nat.mul_one,Nat.add_zero] at h9;exact h9
   have f0:w5.frozen? ⟨g2,j,none⟩=false:=aAh hcur;have HCU:=aAc hcur;clear hcell hcur hbk2;go_wp2;go_roundg (gk-1)
   case measure=>omega
   case rel =>
    have hst:=aCk (u:=.string (str xc9.key)) (i:=j) HO2.o (by omega);have e5:=aCv (f:=fN) (k:=1) (j:=0) (u:=.string (str xc9.key)) (x':=str xc9.key) bLb (by omega) HAZ.o rfl;rw [Nat.mul_one,Nat.add_zero] at e5;rw [e5,HNX.o] at hst;refine ⟨j+1,by omega,rfl,hst,?_,HBE2.o.setCell (p:=⟨g2,j,none⟩) HBG.o.2 _⟩;refine HPS2.o.keep (FT.set HCU.o HBG.o.1 (by decide)) fun q hq=>kBf _ _ _ _ ?_;intro e;obtain ⟨_,_,cur2,h8⟩:=HPS2.o.blk hq;rw [show q=g2 from e,HCU.o] at h8;simp only [oI,cI] at h8;exact absurd h8.2.1 (by decide)
  ·have ej:j=n:=by omega
   subst ej;have xj:¬ (j:Int)<(j:Int):=by omega
   go_wp2;go_ret2;have h9:=HO1.o;rw [show bBn (⟨#[]⟩:ByteArray) ns j=ns from by rw [<-HNL.o];exact aHj _ _] at h9;obtain ⟨a9,c9,e9,hsv⟩:=aBn bLb h9 HNL.o;simp only [kBl] at e9;obtain ⟨rfl,_,rfl⟩:=e9;exact ⟨_,_,rfl,by rw [HNM.o,<-HNS.o];exact hsv,HBE.o,fun ad q=>by cases q;exact HBG.o.2⟩
theorem bP7 [Gd] {B9 bn bc:Nat} {ba:Option Addr} (h:DR B p q g ls db v cs W w0 w) (I:Inv cs T) (hl:cs.length<=990) (hs:s.ok=true) (hb:OB B9 w (.slice ba bn bc) (encS s)) :
  Calls prog 62 #[.pointer (some ⟨db,0,none⟩),.string s.nm,.slice ba bn bc] w fun e w'=>OpR B p q g ls db v cs W w0 w (if 4<=T.length then ⟨T,[],2⟩ else ⟨T++[⟨s,[]⟩],[⟨0,slK s.nm,T.length::encS s,false⟩],0⟩) e w':=by
 have HD:=aAc h;have HI:=aAc I;have HLM:=aAc hl;have HSO:=aAc hs;have HOB:=aAc hb;have HNM:=aAc (bB6 h I (by omega));obtain ⟨n,hn⟩:∃ n,T.length=n:=⟨_,rfl⟩;have HN:=aAc hn;rw [hn] at HNM;obtain ⟨oo,hoo⟩:∃ oo:Out,(if 4<=T.length then ⟨T,[],2⟩ else ⟨T++[⟨s,[]⟩],[⟨0,slK s.nm,T.length::encS s,false⟩],0⟩:Out)=oo:=⟨_,rfl⟩;have HOUT:=aAc hoo;rw [hoo];clear h I hl hs hb hn hoo;go_enter func62,ntmps62;go_wp2_with fail;refine HNM.o.mono ?_;rintro e w2 ⟨na,nc,rfl,_,hb2,hfz⟩;clear hfz;have HB2:=aAc hb2;have HD2:=aAc (HD.o.later hb2);have HOB2:=aAc (HOB.o.later hb2);clear hb2 HNM;by_cases h4:4<=n
 ·have x4:(4:Int)<=(n:Int):=by omega
  go_wp2;go_ret;rw [<-HOUT.o,kAg (by rw [HN.o];exact h4)];exact OpR.no HD.o HB2.o
 ·have x4:¬ (4:Int)<=(n:Int):=by omega
  have x1:(n:Int) % 256=(n:Int):=by omega
  have x2:IntKind.u8.wrap (n:Int)=(n:Int):=by show (n:Int) % 256=_;omega
  have hz:=aF5 (bQ4 HSO.o);have hz1:1<=s.nm.size:=by
   have:=bQ4 HSO.o;unfold bCv at this;simp only [Bool.and_eq_true,decide_eq_true_eq] at this;exact this.1.1
  obtain ⟨cp3,w3,hcv3,hb3,hbs3,hub3⟩:=bPs s.nm w2 (by omega);have HD3:=aAc (HD2.o.later hb3);have HB3:=aAc (HB2.o.trans (hb3.mono HB2.o.size));have HOB3:=aAc (HOB2.o.later hb3);have hbx:=aAg w3 (.cells #[.int .u8 (n:Int)] 5);have HOB4:=aAc (HOB3.o.later hbx);have HK3:Hid (BS w3 (some ⟨w2.heap.size,0,none⟩) s.nm.size cp3 (slK s.nm)/\UB w3 (some ⟨w2.heap.size,0,none⟩)):=⟨hbs3,hub3⟩;have HOO:Hid (OB w3.heap.size (w3.alloc (.cells #[.int .u8 (n:Int)] 5)) (.slice (some ⟨w3.heap.size,0,none⟩) 1 1) [n]):=bFf (nR _);have HSZ:Hid (w3.heap.size<=(w3.alloc (.cells #[.int .u8 (n:Int)] 5)).heap.size):=hbx.size;have HBX:=aAc hbx;have HE8:=aAc (bRw HSO.o);have HZZ:=aAc (And.intro hz1 hz);have HN4:Hid (n<4):=by show n<4;omega
  clear hz hz1 hb3 hbs3 hub3 hbx h4;go_wp2_with (at_builtin;refine aA1 rfl (.tmp 28) (.tmp 29) rfl (xs:=[n]) (ys:=encS s) rfl rfl HOO.o HOB4.o HSZ.o (by have:=HE8.o;show 1+_<=_;omega) ?_;intro v5 w5 ho5 hb5 hk5;have HO5:=aAc ho5;have HB5:=aAc (HBX.o.trans hb5);clear ho5 hb5 hk5);obtain ⟨a5,c5,e5⟩:=HO5.o.form;obtain ⟨vn,hvn⟩:∃ vn,([n]++encS s).length=vn:=⟨_,rfl⟩;rw [hvn] at e5;subst e5;have hbs5:BS w5 a5 vn c5 ([n]++encS s):=by
   have h9:=HO5.o;have h8:=h9.form;have h7:=OB.bs (a:=a5) (k:=vn) (c:=c5) h9 (fun x hx=>by rcases kAz.1 hx with q | q;(simp only [kA5] at q;have:=HN4.o;omega);exact bLg s x q) (by rw [hvn,<-hvn,lA];have:=HE8.o;show 1+_<=_;omega);rw [hvn] at h7;exact h7
  have hub5:UB w5 a5:=HO5.o.ub;have HD5:=aAc (HD3.o.later HB5.o);have HBB5:=aAc (HB3.o.trans (HB5.o.mono HB3.o.size));have hvl:vn<=81:=by rw [<-hvn,lA];have:=HE8.o;show 1+_<=_;omega
  have hre:bAu 0 s.nm.size vn=0:=by
   unfold bAu;have:=HZZ.o;rw [kAb (by omega),kAb (by omega)]
  have hpu:=bGf (sp:=0) HD5.o.dd (aCc (HK3.o.1.later HB5.o (nR _)) (HK3.o.2.later HB5.o)) (aCc hbs5 hub5) (by have:=HLM.o;omega);rw [hre,aK7 (by show bAu 0 (slK s.nm).length ([n]++encS s).length=0;rw [aE4,hvn];exact hre)] at hpu;have HPU:=aAc hpu;clear hbs5 hub5 hvl hre hpu hvn;go_wp2_with fail;refine HPU.o.mono ?_;rintro e w6 ⟨v6,rfl,hd6,hf6⟩;have HR6:Hid (OpR B p q g ls db v cs W w0 w oo (.returned (.int .i64 0)) w6):=by
   show OpR B p q g ls db v cs W w0 w oo (.returned (.int .i64 0)) w6;rw [<-HOUT.o,kAb (by rw [HN.o];have:=HN4.o;omega),HN.o];exact ⟨v6,rfl,HD5.o.fr hd6 hf6,(DFr.of HBB5.o HD.o.bw).trans hf6⟩
  clear hd6 hf6 HPU;go_wp2;go_ret;exact HR6.o
theorem aJc [Gd] (h:DR B p q g ls db v cs W w0 w) (I:Inv cs T) (hl:cs.length<=990) (hsc:SC w ca cl cc xa xl xc s) :
  Calls prog 30 #[.pointer (some ⟨db,0,none⟩),.agg #[.string s.nm,.slice ca cl cc,.slice xa xl xc]] w fun e w'=>OpR B p q g ls db v cs W w0 w (creO T s) e w':=by
 have HD:=aAc h;have HI:=aAc I;have HLM:=aAc hl;obtain ⟨w1,hw1⟩:∃ w1,w1=w.alloc (.cells #[.string s.nm,.slice ca cl cc,.slice xa xl xc] 33):=⟨_,rfl⟩;have hb1:Below w.heap.size w w1:=by rw [hw1];exact aAg w _
 have HK1:Hid (w1.heap[w.heap.size]?=some (.cells #[.string s.nm,.slice ca cl cc,.slice xa xl xc] 33 (0,0))):=by show _=_;rw [hw1];exact boxed w _
 have HB1:=aAc hb1;have HS1:=aAc (hsc.later hb1);have HD1:=aAc (h.later hb1);have HW1:=aAc hw1;obtain ⟨oo,hoo⟩:∃ oo:Out,creO T s=oo:=⟨_,rfl⟩;have HOUT:=aAc hoo;rw [hoo];clear h I hl hsc hb1 hw1 hoo;go_enter func30,ntmps30;go_upto_region 1 with fail;rw [<-HW1.o];clear HW1;generalize hLw:w.heap.size=L at *;have HLW:=aAc hLw;clear hLw;have k0:w1.cell? ⟨L,0,none⟩=some (.string s.nm):=aAa HK1.o;have k1:w1.cell? ⟨L,1,none⟩=some (.slice ca cl cc):=aAa HK1.o;have k2:w1.cell? ⟨L,2,none⟩=some (.slice xa xl xc):=aAa HK1.o;by_cases hok:s.ok=true
 ·have HSO:=aAc hok;have HEN:=aAc (bC9 HS1.o hok);clear hok;go_wp2_with fail;refine HEN.o.mono ?_;rintro e w2 ⟨v2,rfl,ho2,hb2⟩;obtain ⟨ba,bc,ev⟩:=ho2.form;obtain ⟨bn,hbn⟩:∃ bn,(encS s).length=bn:=⟨_,rfl⟩;rw [hbn] at ev;subst ev;have HOB:=aAc ho2;have HB2:Hid (Below L w w2):=HB1.o.trans (hb2.mono (by have:=HB1.o.size;have:=HLW.o;omega));have HD2:=aAc (HD1.o.later hb2);have HK2:=aAc ((hb2.block L (aAe HK1.o)).trans HK1.o);have HFI:=aAc (aHg HD2.o HI.o (by have:=HLM.o;omega) s.nm);clear ho2 hb2 hbn HEN k0 k1 k2;have k0:w2.cell? ⟨L,0,none⟩=some (.string s.nm):=aAa HK2.o;go_wp2_with fail;refine HFI.o.mono ?_;rintro e w3 ⟨hfi,hb3⟩;have HB3:=aAc (HB2.o.trans (hb3.mono (by have:=HB2.o.size;have:=HLW.o;omega)));have HD3:=aAc (HD2.o.later hb3);have HOB3:=aAc (HOB.o.later hb3);have HK3:=aAc ((hb3.block L (aAe HK2.o)).trans HK2.o)
  cases hta:tAt T s.nm with
  | none =>
   have he:=hfi.1 hta;subst he;have HTA:=aAc hta;have hbx:=aAg w3 (.cells #[.pointer none,.int .u8 0,.string ⟨#[]⟩,.slice none 0 0,.slice none 0 0] 101);have HB4:=aAc (HB3.o.trans (hbx.mono (by have:=HB3.o.size;have:=HLW.o;omega)));have HD4:=aAc (HD3.o.later hbx);have HOB4:=aAc (HOB3.o.later hbx);have HK4:=aAc ((hbx.block L (aAe HK3.o)).trans HK3.o);clear hfi hta hbx hb3 HFI k0;go_upto_region 7 with fail;generalize w3.alloc (.cells #[.pointer none,.int .u8 0,.string ⟨#[]⟩,.slice none 0 0,.slice none 0 0] 101)=w4 at *;have k0:w4.cell? ⟨L,0,none⟩=some (.string s.nm):=aAa HK4.o;have HAD:=aAc (bP7 HD4.o HI.o HLM.o HSO.o HOB4.o);go_wp2_with fail;refine HAD.o.mono ?_;rintro e w5 ⟨v5,rfl,hd5,hf5⟩;have e9:oo=(if 4<=T.length then ⟨T,[],2⟩ else ⟨T++[⟨s,[]⟩],[⟨0,slK s.nm,T.length::encS s,false⟩],0⟩:Out):=by
    rw [<-HOUT.o];unfold creO;rw [kAb (by rw [HSO.o];decide),HTA.o];rfl
   have HR5:Hid (OpR B p q g ls db v cs W w0 w oo (.returned (.int .i64 oo.e)) w5):=by
    rw [e9];exact ⟨v5,rfl,hd5,(DFr.of (by rw [HLW.o];exact HB4.o) HD.o.bw).trans hf5⟩
   have e8:(if 4<=T.length then ⟨T,[],2⟩ else ⟨T++[⟨s,[]⟩],[⟨0,slK s.nm,T.length::encS s,false⟩],0⟩:Out).e=oo.e:=by rw [e9]
   rw [e8];clear hd5 hf5 HAD e8 e9;generalize oo.e=oe at *;go_wp2;go_ret;exact HR5.o
  | some i =>
   obtain ⟨t,hti,htn,htm⟩:=aAy hta;obtain ⟨ca2,cc2,xa2,xc2,he,_⟩:=hfi.2 i t hta hti;unfold bIk at he;subst he;have HTA:=aAc hta;have HTN:=aAc htn;have hbx:=aAg w3 (.cells #[.pointer (some ⟨db,0,none⟩),.int .u8 (i:Int),.string t.s.nm,.slice ca2 t.s.cs.length cc2,.slice xa2 t.s.xs.length xc2] 101);have HB4:=aAc (HB3.o.trans (hbx.mono (by have:=HB3.o.size;have:=HLW.o;omega)));clear hfi hta hbx hb3 HFI k0 htn hti htm;go_upto_region 7 with fail;generalize w3.alloc (.cells #[.pointer (some ⟨db,0,none⟩),.int .u8 (i:Int),.string t.s.nm,.slice ca2 t.s.cs.length cc2,.slice xa2 t.s.xs.length xc2] 101)=w4 at *;go_wp2;go_ret;have e9:oo=⟨T,[],60⟩:=by
    rw [<-HOUT.o];unfold creO;rw [kAb (by rw [HSO.o];decide),HTA.o];rfl
   rw [e9];exact OpR.no HD.o (by rw [HLW.o];exact HB4.o)
 ·have hok:s.ok=false:=by simpa using hok
  have HEN:=aAc (bLf HS1.o hok);have HNO:=aAc hok;clear hok;go_wp2_with fail;refine HEN.o.mono ?_;rintro e w2 ⟨rfl,hb2⟩;have HB2:Hid (Below L w w2):=HB1.o.trans (hb2.mono (by have:=HB1.o.size;have:=HLW.o;omega));clear hb2 HEN k0 k1 k2;go_wp2;go_ret;have e9:oo=⟨T,[],61⟩:=by
   rw [<-HOUT.o];unfold creO;rw [kAg HNO.o]
  rw [e9];exact OpR.no HD.o (by rw [HLW.o];exact HB2.o)
theorem bS1 {cc:Int} (x:Idx) (hc:w.heap[bx]?=some (.cells #[.int .i64 cc] 3 (0,0))) :
  Calls prog 84 #[.agg #[.int .i64 x.1,.bool x.2],.pointer (some ⟨bx,0,none⟩)] w fun e w'=>e=.returned (.bool (x.1 == cc))/\Below w.heap.size w w':=by
 have HB:=aAc (aAg w (.cells #[.int .i64 x.1,.bool x.2] 61));have y0:(w.alloc (.cells #[.int .i64 x.1,.bool x.2] 61)).cell? ⟨bx,0,none⟩=some (.int .i64 cc):=aAa ((HB.o.block bx (lO hc)).trans hc);clear hc;go_enter func84,ntmps84;go_wp2;go_ret;exact ⟨rfl,HB.o⟩
theorem bSz {cc:Int} {l:List Idx} (h:SVK fX 2 w a len cap l) (hlen:len<=1000) (hc:w.heap[bx]?=some (.cells #[.int .i64 cc] 3 (0,0))) :
  Calls prog 130 #[.slice a len cap,.func (Fn.func 84) #[] #[.pointer (some ⟨bx,0,none⟩)]] w fun e w'=>∃ i:Int,e=.returned (.int .i64 i)/\(decide (0<=i)=l.any (fun x=>x.1 == cc))/\Below w.heap.size w w':=by
 have H:=aAc h;have hx:=h.hl;have HL:=aAc hx;clear h hx;have HC:=aAc hc;clear hc;go_enter func130,ntmps130;go_wp2_with fail;go_loopg [8] len (fun gh s8 wx=>∃ j:Nat,j+gh=len/\s8=.int .i64 (j:Int)/\(l.take j).any (fun x=>x.1 == cc)=false/\Below w.heap.size w wx)
 case atStart=>exact ⟨0,by omega,rfl,by simp,kBh _ _⟩
 case round =>
  obtain ⟨j,hj,rfl,hno,hbr⟩:=hrel;have HNO:=aAc hno;have HBR:=aAc hbr;clear hno hbr;by_cases hjn:j<len
  ·have xj:(j:Int)<(len:Int):=by omega
   obtain ⟨x,hxj⟩:∃ x,l[j]?=some x:=⟨_,gE (by rw [HL.o];exact hjn)⟩;have HTK:Hid ((l.take (j+1)).any (fun x=>x.1 == cc)=(x.1 == cc)):=by
    show _=_;rw [kAs,hxj,List.any_append,HNO.o];simp
   have HYES:Hid ((x.1 == cc)=true->l.any (fun x=>x.1 == cc)=true):=fun q=>List.any_eq_true.2 ⟨x,mG hxj,q⟩;obtain ⟨b,o,e0,hb,hcs⟩:=H.out.pl (by omega);have hcell:=fun t (ht:t<2)=>hcs j x hxj t ht;subst e0;have y0:wr.cell? ⟨b,o+j*2,none⟩=some (.int .i64 x.1):=(HBR.o.cell hb).trans (hcell 0 (by omega));have y1:wr.cell? ⟨b,o+j*2+1,none⟩=some (.bool x.2):=(HBR.o.cell hb).trans (hcell 1 (by omega));have hc2:=(HBR.o.block bx (lO HC.o)).trans HC.o;have HCL:=aAc (bS1  (w:=wr) x hc2);obtain ⟨pb,hpb⟩:∃ pb:Bool,pb=(x.1 == cc):=⟨_,rfl⟩;rw [<-hpb] at HTK HYES HCL;clear hcs hcell hxj hpb;go_wp2_with fail;refine HCL.o.mono ?_;rintro e w1 ⟨rfl,hb1⟩;have HB1:Hid (Below w.heap.size w w1):=HBR.o.trans (hb1.mono HBR.o.size);clear hb1 HCL
   cases pb with
   | true =>
    have HY:=aAc (HYES.o rfl);go_wp2_with fail;go_ret;exact ⟨(j:Int),rfl,by rw [HY.o];exact kAc (by omega),HB1.o⟩
   | false =>
    go_wp2_with fail;go_roundg (gk-1)
    case measure=>omega
    case rel=>exact ⟨j+1,by omega,rfl,HTK.o,HB1.o⟩
  ·have xj:¬ (j:Int)<(len:Int):=by omega
   have HN:Hid (l.any (fun x=>x.1 == cc)=false):=by
    have h9:=HNO.o;rw [kAh (by rw [HL.o];omega)] at h9;exact h9
   go_wp2;go_ret;exact ⟨-1,rfl,by rw [HN.o];rfl,HBR.o⟩
theorem bS0 {cc:Int} {l:List Idx} (h:SVK fX 2 w a len cap l) (hlen:len<=1000) (hc:w.heap[bx]?=some (.cells #[.int .i64 cc] 3 (0,0))) :
  Calls prog 85 #[.slice a len cap,.func (Fn.func 84) #[] #[.pointer (some ⟨bx,0,none⟩)]] w fun e w'=>e=.returned (.bool (l.any (fun x=>x.1 == cc)))/\Below w.heap.size w w':=by
 have HI:=aAc (bSz h hlen hc);clear h hc;generalize l.any (fun x=>x.1 == cc)=bb at *;go_enter func85,ntmps85;go_wp2_with fail;refine HI.o.mono ?_;rintro e w1 ⟨i,rfl,hi,hb1⟩;have HB1:=aAc hb1;have HE:=aAc hi;clear hb1 HI hi;go_wp2;go_ret;exact ⟨by rw [<-HE.o];rfl,HB1.o⟩
def bNd (s:Sch) (c:Int):Bool:=(c == 0) || s.xs.any (fun x=>x.1 == c)
theorem bEi {c:Int} (hx:SVK fX 2 w xa xl xc s.xs) (h3:xl<=1000) :
  Calls prog 47 #[.agg #[dv,.int .u8 (num:Int),.string nm,.slice ca cl cc,.slice xa xl xc],.int .i64 c] w fun e w'=>e=.returned (.bool (bNd s c))/\Below w.heap.size w w':=by
 obtain ⟨w1,hw1⟩:∃ w1,w1=(w.alloc (.cells #[dv,.int .u8 (num:Int),.string nm,.slice ca cl cc,.slice xa xl xc] 101)).alloc (.cells #[.int .i64 c] 3):=⟨_,rfl⟩;have hb1:Below w.heap.size w w1:=by rw [hw1];exact aD1 _ _ _
 have HT1:Hid (w1.heap[w.heap.size]?=some (.cells #[dv,.int .u8 (num:Int),.string nm,.slice ca cl cc,.slice xa xl xc] 101 (0,0))):=by show _=_;rw [hw1];exact heap_alloc2_old w _ _
 have hc1:w1.heap[w.heap.size+1]?=some (.cells #[.int .i64 c] 3 (0,0)):=by rw [hw1];exact heap_alloc2_new w _ _
 have HB1:=aAc hb1;have HOX:=aAc (bS0 (hx.later hb1) h3 hc1);have HW1:=aAc hw1;have y4:w1.cell? ⟨w.heap.size,4,none⟩=some (.slice xa xl xc):=aAa HT1.o;have c0:w1.cell? ⟨w.heap.size+1,0,none⟩=some (.int .i64 c):=aAa hc1;have HOB:Hid (bNd s c=((c == 0) || s.xs.any (fun x=>x.1 == c))):=rfl;generalize bNd s c=ob at *;generalize s.xs.any (fun x=>x.1 == c)=ab at *;clear hx h3 hb1 hw1 hc1;go_enter func47,ntmps47;go_upto_region 1 with fail;rw [<-HW1.o];clear HW1;generalize w.heap.size+1=Q at *;by_cases hc0:c=0
 ·have d0:(c == 0)=true:=by simp [hc0]
  have HE:Hid (ob=true):=by show _=_;rw [HOB.o,d0];rfl
  have d1:decide (c=0)=true:=kAc hc0;have HC0:=aAc hc0;clear hc0;go_wp2;go_ret;exact ⟨by rw [HE.o];rfl,HB1.o⟩
 ·have d0:(c == 0)=false:=by simp [hc0]
  have HE:Hid (ob=ab):=by show _=_;rw [HOB.o,d0];rfl
  have d1:decide (c=0)=false:=kAd hc0;have HC0:=aAc hc0;clear hc0;go_wp2_with fail;refine HOX.o.mono ?_;rintro e w2 ⟨rfl,hb2⟩;have HB2:=aAc (HB1.o.trans (hb2.mono HB1.o.size));clear hb2 HOX;go_wp2;go_ret;exact ⟨by rw [HE.o];rfl,HB2.o⟩
def bRu (i c:Nat) (x:Val):List Nat:=if x.1=0 then [i,c+1] else (i::c::x.bytes).take 60
theorem bP6 (hn:num<256) (hc:c<250) (hb:BS w ka kn kc x.bytes) (hp:0<kn) (hm:kn<=10000000) :
  Calls prog 87 #[.agg #[dv,.int .u8 (num:Int),.string nm,.slice ca cl cc,.slice xa xl xc],.int .i64 (c:Int),.iface (hT x) (.slice ka kn kc)] w fun e w'=>∃ a k d,e=.returned (.slice a k d)/\k<=60/\BS w' a k d (bRu num c x)/\UB w' a/\Below w.heap.size w w':=by
 obtain ⟨w1,hw1⟩:∃ w1,w1=w.alloc (.cells #[dv,.int .u8 (num:Int),.string nm,.slice ca cl cc,.slice xa xl xc] 101):=⟨_,rfl⟩;have hb1:Below w.heap.size w w1:=by rw [hw1];exact aAg w _
 have HT1:Hid (w1.heap[w.heap.size]?=some (.cells #[dv,.int .u8 (num:Int),.string nm,.slice ca cl cc,.slice xa xl xc] 101 (0,0))):=by show _=_;rw [hw1];exact boxed w _
 have HB1:=aAc hb1;have HK1:=aAc (hb.later hb1 (nR _));have HW1:=aAc hw1;have HN:=aAc hn;have HC:=aAc hc;have HP:=aAc (And.intro hp hm);have y0:w1.cell? ⟨w.heap.size,0,none⟩=some dv:=aAa HT1.o;have y1:w1.cell? ⟨w.heap.size,1,none⟩=some (.int .u8 (num:Int)):=aAa HT1.o;have y2:w1.cell? ⟨w.heap.size,2,none⟩=some (.string nm):=aAa HT1.o;have y3:w1.cell? ⟨w.heap.size,3,none⟩=some (.slice ca cl cc):=aAa HT1.o;have y4:w1.cell? ⟨w.heap.size,4,none⟩=some (.slice xa xl xc):=aAa HT1.o;have xc2:(c:Int)+1<=9223372036854775807:=by omega
 have xc3:(-9223372036854775808:Int)<=(c:Int)+1:=by omega
 clear hb hn hp hm hb1 hw1;by_cases hz:x.1=0
 ·have ehT:hT x=181:=kAg hz;rw [ehT];have HE:Hid (bRu num c x=[num,c+1]):=kAg hz;have ta:=fun ww=>bPy (.slice ka kn kc) ww
  have HAT:=aAc (bEt (dv:=dv) (num:=num) (col:=c+1) (nm:=nm) (ca:=ca) (cl:=cl) (cc:=cc) (xa:=xa) (xl:=xl) (xc:=xc) (pa:=none) (pc:=0) (w:=w1) HN.o (by omega));have e2:(((c+1:Nat)):Int)=(c:Int)+1:=by omega
  rw [e2] at HAT;clear hz ehT e2 hc;go_enter func87,ntmps87;go_upto_region 1 with fail;rw [<-HW1.o];clear HW1;go_wp2_with fail;refine HAT.o.mono ?_;rintro e w2 ⟨a2,c2,rfl,hbs,hub,hb2⟩;have HB2:=aAc (HB1.o.trans (hb2.mono HB1.o.size));have HBS:=aAc hbs;have HUB:=aAc hub;clear hb2 hbs hub HAT;go_wp2;go_ret;exact ⟨a2,2,c2,rfl,by omega,by rw [HE.o];exact HBS.o,HUB.o,HB2.o⟩
 ·have ehT:hT x=182:=kAb hz;rw [ehT];have HE:Hid (bRu num c x=(num::c::x.bytes).take 60):=kAb hz;have ta:=fun ww=>bPx (.slice ka kn kc) ww
  have hbx:=aAg w1 (.cells #[.slice ka kn kc] 97);have HPP:Hid ((w1.alloc (.cells #[.slice ka kn kc] 97)).cell? ⟨w1.heap.size,0,none⟩=some (.slice ka kn kc)):=aEn _;have HK2:=aAc (HK1.o.later hbx (nR _));have HB2:=aAc (HB1.o.trans (hbx.mono HB1.o.size));have HAT:=aAc (aEw (dv:=dv) (num:=num) (col:=c) (nm:=nm) (ca:=ca) (cl:=cl) (cc:=cc) (xa:=xa) (xl:=xl) (xc:=xc) (pa:=some ⟨w1.heap.size,0,none⟩) (pn:=1) (pc:=1) (w:=w1.alloc (.cells #[.slice ka kn kc] 97)) HN.o (by omega) HK2.o.hlen HP.o.2 HP.o.1 HK2.o.hbyte (fun ww hb=>join_one _ ((hb.cell (aAn HPP.o)).trans HPP.o) (HK2.o.later hb (nR _)) HP.o.1));obtain ⟨kl,hkl⟩:∃ kl,min (kn+2) 60=kl:=⟨_,rfl⟩;rw [hkl] at HAT;have HKL:Hid (kl<=60):=by show kl<=60;omega
  clear hz ehT hc hbx hkl;go_enter func87,ntmps87;go_upto_region 1 with fail;rw [<-HW1.o];clear HW1;go_wp2_with fail;refine HAT.o.mono ?_;rintro e w2 ⟨a2,c2,rfl,hbs,hub,hb2⟩;have HB3:=aAc (HB2.o.trans (hb2.mono HB2.o.size));have HBS:=aAc hbs;have HUB:=aAc hub;clear hb2 hbs hub HAT;go_wp2;go_ret;exact ⟨a2,kl,c2,rfl,HKL.o,by rw [HE.o];exact HBS.o,HUB.o,HB3.o⟩
def bBt (cs:List Ch) (i c:Nat) (lo hi:Val) (limit:Nat):List Ch:=bBc cs 1 ((i::c::lo.bytes).take 60) (bRu i c hi) limit
def rowOf (c:Ch):List Val:=(bEm c.val).getD []
theorem bIm (i c:Nat) (A:List Nat):(i::c::A).take 60=i::c::A.take 58:=rfl
section
variable {cs:List Ch} {T:List Tbl} {i:Nat} {t:Tbl}
theorem scan_in {k:List Nat} {rest:List Nat} (e:k=j::d::rest) (h:inK ((i::c::lo.bytes).take 60) (bRu i c hi) k=true):j=i/\d=c:=by
 subst e;rw [bIm] at h;unfold bRu at h
 split at h
 ·have:=aHo.1 h;exact ⟨this.1,this.2.1⟩
 ·rw [bIm] at h;have:=aKr.1 h;exact ⟨this.1,this.2.1⟩
theorem bNx {x:Ch} (h:x∈bAp j s r):∃ d rest,x.key=j::d::rest/\x.val=bAm r:=by
 rcases aIh h with rfl | ⟨c,_,rfl⟩
 ·exact ⟨0,_,rfl,rfl⟩
 ·exact ⟨c.1.toNat,_,rfl,rfl⟩
theorem Inv.scan_row (I:Inv cs T) (h:T[i]?=some t) {c:Nat} {lo hi:Val} {limit:Nat}:∀ x∈bBt cs i c lo hi limit,∃ r∈t.rows,x∈bAp i t.s r/\x.val=bAm r:=by
 intro x hx;unfold bBt at hx;rw [aE6] at hx;obtain ⟨h1,h2⟩:=List.mem_filter.1 (kA2 hx);obtain ⟨j,u,h3,r,hr,h4⟩:=(I.l1 x).1 h1;obtain ⟨d,rest,e1,e2⟩:=bNx h4;obtain ⟨e3,_⟩:=scan_in e1 h2;subst e3;rw [h] at h3;cases h3;exact ⟨r,hr,h4,e2⟩
theorem bIu {limit:Nat}:(bBt cs i c lo hi limit).length<=limit:=by
 unfold bBt;rw [aE6,kAt];omega
end
theorem bCw:(prog.info? 34).map (fun i=>(i.zero,i.size,i.bytes))=some (some (.slice none 0 0),1,24):=by kernel_rfl
def zS:SEt:=(none,0,0)
theorem bUt:(madeCells (Value.slice none 0 0).cells (0*1)).toList=(List.replicate 0 zS).flatMap fS:=by kernel_rfl
theorem bUs:(madeCells (Value.slice none 0 0).cells (1*1)).toList=(List.replicate 1 zS).flatMap fS:=by kernel_rfl
theorem bUr:(madeCells (Value.slice none 0 0).cells (2*1)).toList=(List.replicate 2 zS).flatMap fS:=by kernel_rfl
theorem bUq:(madeCells (Value.slice none 0 0).cells (3*1)).toList=(List.replicate 3 zS).flatMap fS:=by kernel_rfl
theorem bUp:(madeCells (Value.slice none 0 0).cells (4*1)).toList=(List.replicate 4 zS).flatMap fS:=by kernel_rfl
theorem bNn (h:n<=4):(madeCells (Value.slice none 0 0).cells (n*1)).toList=(List.replicate n zS).flatMap fS:=by
 have:n=0\/n=1\/n=2\/n=3\/n=4:=by omega
 rcases this with rfl | rfl | rfl | rfl | rfl
 ·exact bUt
 ·exact bUs
 ·exact bUr
 ·exact bUq
 ·exact bUp
def RWv (w:World) (es:List SEt) (l:List (List Val)):Prop:=∀ (i:Nat) e r,es[i]?=some e->l[i]?=some r->SVK fV 3 w e.1 e.2.1 e.2.2 r
def RWs (w:World) (a:Option Addr) (n c:Nat) (l:List (List Val)):Prop:=∃ es:List SEt,SVK fS 1 w a n c es/\es.length=l.length/\RWv w es l
def RWn (B:Nat) (w:World) (a:Option Addr) (n c:Nat) (l:List (List Val)):Prop:=∃ es:List SEt,SVK fS 1 w a n c es/\es.length=l.length/\RWv w es l/\(∀ ad,a=some ad->B<=ad.block)/\∀ e∈es,∀ ad,e.1=some ad->B<=ad.block
def RWf (B:Nat) (w:World) (es:List SEt) (l:List (List Val)):Prop:=RWv w es l/\∀ e∈es,∀ ad,e.1=some ad->B<=ad.block
theorem RWv.later {l:List (List Val)} (h:RWv w es l) (hb:Below w.heap.size w w'):RWv w' es l:=fun i e r h1 h2=>(h i e r h1 h2).later hb
theorem RWn.later {l:List (List Val)} (h:RWn B w a n c l) (hb:Below w.heap.size w w'):RWn B w' a n c l:=by
 obtain ⟨es,h1,h2,h3,h4⟩:=h;exact ⟨es,h1.later hb,h2,h3.later hb,h4⟩
theorem RWn.mono {B':Nat} {l:List (List Val)} (h:RWn B w a n c l) (hB:B'<=B):RWn B' w a n c l:=by
 obtain ⟨es,h1,h2,h3,h4,h5⟩:=h;exact ⟨es,h1,h2,h3,(fun ad q=>nT hB (h4 ad q)),fun e he ad q=>nT hB (h5 e he ad q)⟩
theorem RWn.rws {l:List (List Val)} (h:RWn B w a n c l):RWs w a n c l:=by
 obtain ⟨es,h1,h2,h3,h4⟩:=h;exact ⟨es,h1,h2,h3⟩
theorem RWf.later {l:List (List Val)} (h:RWf B w es l) (hb:Below w.heap.size w w'):RWf B w' es l:=⟨h.1.later hb,h.2⟩
theorem bNb {l:List SEt} (h:w.ownsRow B te 1 (.slice (some ⟨g,0,none⟩) n n) n (l.flatMap fS)) (hl:l.length=n):∃ cur,w.heap[g]?=some (.cells cur te (0,0))/\∀ (z:Int) (o:Nat),cur[o]?≠some (.int .i64 z):=by
 rcases h.2 with ⟨e,_⟩ | ⟨g',cap',cur,e,h5,h6,h7,h8,h9,h10⟩
 ·cases e
 ·simp only [kBl,oI,Addr.mk.injEq] at e;obtain ⟨⟨rfl,_,_⟩,_,rfl⟩:=e;refine ⟨cur,h6,fun z o q=>?_⟩;have hlen:cur.toList.length=n*1:=by simpa using h9
  rw [kAh (by rw [hlen];exact nR _)] at h10;rw [<-kBe,h10] at q;have hm:=mG q;rw [List.mem_flatMap] at hm;obtain ⟨x,_,hx⟩:=hm;simp only [fS,kAv,List.not_mem_nil,or_false] at hx;cases hx
theorem bQn {e:SEt} (hj:es.length=j) (h:j<n):(es++List.replicate (n-j) zS).set j e=(es++[e])++List.replicate (n-(j+1)) zS:=by
 rw [List.set_append_right _ _ (by omega),hj,Nat.sub_self,show n-j=(n-(j+1))+1 by omega,List.replicate_succ,List.set_cons_zero,kAu];rfl
theorem bMu [Gd] {limit:Nat} {t:Tbl} {la ha:Option Addr} {lk hk:Nat} (h:DR B p q g ls db v cs W w0 w) (I:Inv cs T) (hl:cs.length<=1000) (hti:T[i]?=some t) (hsc:SC w ca t.s.cs.length cc xa t.s.xs.length xc t.s) (hc9:c<250) (hlo:BS w la lk lc lo.bytes) (hlk:0<lk/\lk<=10000000) (hhi:BS w ha hk hc hi.bytes) (hhk:0<hk/\hk<=10000000) (hlim:1<=limit/\limit<=4) :
  Calls prog 49 #[.agg #[.pointer (some ⟨db,0,none⟩),.int .u8 (i:Int),.string t.s.nm,.slice ca t.s.cs.length cc,.slice xa t.s.xs.length xc],.int .i64 (c:Int),.iface (hT lo) (.slice la lk lc),.iface (hT hi) (.slice ha hk hc),.int .i64 (limit:Int)] w fun e w'=>(∃ a n k,e=.returned (.tuple #[.slice a n k,.int .i64 0])/\RWn w.heap.size w' a n k ((bBt cs i c lo hi limit).map rowOf))/\Below w.heap.size w w':=by
 obtain ⟨L,hL⟩:∃ L,w.heap.size=L:=⟨_,rfl⟩;obtain ⟨w1,hw1⟩:∃ w1,w1=w.alloc (.cells #[.pointer (some ⟨db,0,none⟩),.int .u8 (i:Int),.string t.s.nm,.slice ca t.s.cs.length cc,.slice xa t.s.xs.length xc] 101):=⟨_,rfl⟩;have hb1:Below w.heap.size w w1:=by rw [hw1];exact aAg w _
 have hb1d:=hb1.drew;have HT1:Hid (w1.drew.heap[L]?=some (.cells #[.pointer (some ⟨db,0,none⟩),.int .u8 (i:Int),.string t.s.nm,.slice ca t.s.cs.length cc,.slice xa t.s.xs.length xc] 101 (0,0))):=by show w1.heap[L]?=_;rw [hw1,<-hL];exact boxed w _
 have HB1:Hid (Below L w w1.drew):=by show Below L w _;rw [<-hL];exact hb1d
 have HLO1:=aAc (hlo.later hb1d (nR _));have HHI1:=aAc (hhi.later hb1d (nR _));have HD:=aAc h;have HI:=aAc I;have HLN:=aAc hl;have HTI:=aAc hti;have HSC:=aAc hsc;have HOK:=aAc (I.ok t (at_mem hti));have hi4:i<256:=by have:=(lL hti);have:=I.len;omega
 have HI4:=aAc hi4;have HC9:=aAc hc9;have HKS:=aAc (And.intro hlk hhk);have HLI:=aAc hlim;obtain ⟨F,hF⟩:∃ F,bBt cs i c lo hi limit=F:=⟨_,rfl⟩;obtain ⟨n,hn⟩:∃ n,F.length=n:=⟨_,rfl⟩;have HF:=aAc hF;have HFN:=aAc hn;have HN4:Hid (n<=4):=by show n<=4;rw [<-hn,<-hF];exact nT bIu hlim.2
 have HRW:Hid (∀ x∈F,∃ r∈t.rows,x.val=bAm r):=by
  intro x hx;rw [<-hF] at hx;obtain ⟨r,h1,_,h2⟩:=I.scan_row hti x hx;exact ⟨r,h1,h2⟩
 obtain ⟨KL,hmL,hcL,hkL⟩:=aKs lo la lk lc;have HKL:=aAc hkL;have HW1:=aAc hw1;have HLL:=aAc hL;rw [hL,hF];clear h I hl hti hsc hc9 hlo hlk hhi hhk hb1 hb1d hw1 hi4 hF hn hkL hlim;generalize hT lo=tlo at *;go_enter func49,ntmps49;go_upto_region 1 with fail;rw [<-HW1.o]
 try simp only [hL]
 clear HW1;have HX0:Hid ((fun wx:World=>wx.cell? ⟨L,0,none⟩=some (.pointer (some ⟨db,0,none⟩))/\wx.cell? ⟨L,1,none⟩=some (.int .u8 (i:Int))/\wx.cell? ⟨L,2,none⟩=some (.string t.s.nm)/\wx.cell? ⟨L,3,none⟩=some (.slice ca t.s.cs.length cc)/\wx.cell? ⟨L,4,none⟩=some (.slice xa t.s.xs.length xc)) w1.drew):=⟨aAa HT1.o,aAa HT1.o,aAa HT1.o,aAa HT1.o,aAa HT1.o⟩;refine kBj ?_;refine kBi (S:=fun wx=>wx.cell? ⟨L,0,none⟩=some (.pointer (some ⟨db,0,none⟩))/\wx.cell? ⟨L,1,none⟩=some (.int .u8 (i:Int))/\wx.cell? ⟨L,2,none⟩=some (.string t.s.nm)/\wx.cell? ⟨L,3,none⟩=some (.slice ca t.s.cs.length cc)/\wx.cell? ⟨L,4,none⟩=some (.slice xa t.s.xs.length xc)) (by kernel_rfl) HX0.o (fun hHeld=>?_);generalize w1.drew=w1 at *;refine aAb 0 20 ?_;refine aAb 1 21 ?_;refine aAb 2 22 ?_;refine aAb 3 23 ?_;refine aAb 4 24 ?_;refine aAb 8 28 ?_;refine aAb 9 29 ?_;refine aAb 10 30 ?_;refine aAb 12 32 ?_;refine aAf 5 ?_;intro K hK;go_simp;refine (HKL.o w1).mono ?_;rintro e w9 ⟨rfl,hw⟩;have hw:=hw.symm;subst hw;clear hHeld hw;refine hK.out _ _ ⟨aAa HT1.o,aAa HT1.o,aAa HT1.o,aAa HT1.o,aAa HT1.o⟩ (fun hHeld=>?_);clear hK K
 try simp only [Act.put,siT,scZ,scS]
 refine aAf 6 ?_;intro K hK;go_simp;have hbx:=aAg w1 (.cells #[.slice la lk lc] 97);have HT2:=aAc ((hbx.block L (aAe HT1.o)).trans HT1.o);have HB2:Hid (Below L w (w1.alloc (.cells #[.slice la lk lc] 97))):=HB1.o.trans (hbx.mono (kAe (aAe HT1.o)));have HLO2:=aAc (HLO1.o.later hbx (nR _));have HHI2:=aAc (HHI1.o.later hbx (nR _));have HPP2:Hid ((w1.alloc (.cells #[.slice la lk lc] 97)).cell? ⟨w1.heap.size,0,none⟩=some (.slice la lk lc)):=aEn _;clear hbx hHeld;refine hK.out _ _ ⟨aAa HT2.o,aAa HT2.o,aAa HT2.o,aAa HT2.o,aAa HT2.o⟩ (fun hHeld=>?_);generalize w1.alloc (.cells #[.slice la lk lc] 97)=w2 at *;generalize w1.heap.size=gp at *;clear hK K
 try simp only [Act.put,siT,scZ,scS]
 refine aAf 7 ?_;intro K hK;go_simp;refine (aEw (num:=i) (col:=c) HI4.o (by have:=HC9.o;omega) HLO2.o.hlen HKS.o.1.2 HKS.o.1.1 HLO2.o.hbyte (fun ww hb=>join_one _ ((hb.cell (aAn HPP2.o)).trans HPP2.o) (HLO2.o.later hb (nR _)) HKS.o.1.1)).mono ?_;rintro e w3 ⟨k1a,k1c,rfl,hbs,hub,hb3⟩;have HT3:=aAc ((hb3.block L (aAe HT2.o)).trans HT2.o);have HB3:Hid (Below L w w3):=HB2.o.trans (hb3.mono (kAe (aAe HT2.o)));have HHI3:=aAc (HHI2.o.later hb3 (nR _));have HK13:=aAc (And.intro hbs hub);clear hbs hub hb3 hHeld;refine hK.out _ _ ⟨aAa HT3.o,aAa HT3.o,aAa HT3.o,aAa HT3.o,aAa HT3.o⟩ (fun hHeld=>?_);clear hK K
 try simp only [Act.put,siT,scZ,scS]
 refine aAf 11 ?_;intro K hK;go_simp;refine (bP6 (num:=i) (c:=c) HI4.o HC9.o HHI3.o HKS.o.2.1 HKS.o.2.2).mono ?_;rintro e w4 ⟨k2a,k2k,k2c,rfl,hk60,hbs,hub,hb4⟩;have HT4:=aAc ((hb4.block L (aAe HT3.o)).trans HT3.o);have HB4:Hid (Below L w w4):=HB3.o.trans (hb4.mono (kAe (aAe HT3.o)));have HK14:=aAc (And.intro (HK13.o.1.later hb4 (nR _)) (HK13.o.2.later hb4));have HK24:=aAc (And.intro hbs hub);have HK60:=aAc hk60;clear hbs hub hb4 hk60 hHeld;refine hK.out _ _ ⟨aAa HT4.o,aAa HT4.o,aAa HT4.o,aAa HT4.o,aAa HT4.o⟩ (fun hHeld=>?_);clear hK K
 try simp only [Act.put,siT,scZ,scS]
 refine aAf 13 ?_;intro K hK;go_simp;have HDR:=aAc (HD.o.later (w':=w4) (by rw [HLL.o];exact HB4.o));have hrg:=aBr (sp:=1) (most:=limit) HDR.o.now HDR.o.dd HLN.o (by omega) (aCc HK14.o.1 HK14.o.2) (aCc HK24.o.1 HK24.o.2) (by omega) HK60.o (by have:=HLI.o.2;omega) HLI.o.1;refine hrg.mono ?_;rintro e w5 ⟨v5,rfl,hps,hb5⟩;rw [show bBc cs ((1:Nat):Int) ((i::c::lo.bytes).take 60) (bRu i c hi) limit=bBt cs i c lo hi limit from rfl,HF.o] at hps;obtain ⟨pa,pc,e5⟩:=hps.form;rw [HFN.o] at e5;subst e5;have HT5:=aAc ((hb5.block L (aAe HT4.o)).trans HT4.o);have HB5:Hid (Below L w w5):=HB4.o.trans (hb5.mono (kAe (aAe HT4.o)));have HPS:=aAc (bPn hps);clear hrg hps hb5 hHeld HDR;refine hK.out _ _ ⟨aAa HT5.o,aAa HT5.o,aAa HT5.o,aAa HT5.o,aAa HT5.o⟩ (fun hHeld=>?_);clear hK K
 try simp only [Act.put,siT,scZ,scS]
 refine aAb 14 19 ?_;refine aAb 15 34 ?_;refine aAb 16 35 ?_;refine aAb 17 12 ?_;refine aAb 18 13 ?_;refine kBn (by kernel_rfl) ?_ _;refine kBk ?_;clear hHeld;have HSC5:Hid (SC w5 ca t.s.cs.length cc xa t.s.xs.length xc t.s):=HSC.o.later (by rw [HLL.o];exact HB5.o);have HBW:Hid (B<=L):=by show B<=L;rw [<-HLL.o];exact HD.o.bw
 have HLG:Hid (L<w5.heap.size):=aAe HT5.o;obtain ⟨i0,hi0,hz0,hz1',hz2⟩:=info_parts bCw;have hn4:n<=4:=HN4.o;go_upto_region 5 with (refine wpList_make_full w5 rfl _ _ 52 rfl w5.heap.size 34 i0 (.slice none 0 0) 1 underlying52 hi0 hz0 hz1' .i64 .i64 (n:Int) (n:Int) n rfl rfl rfl rfl (by rw [hz2];omega) (by unfold maxLen;omega) (nR _) ?_;intro w6 ho6 hg6;rw [bNn hn4] at ho6;have HO6:=aAc ho6;have HG6:Hid (Below w5.heap.size w5 w6):=(kBh _ _).grown hg6 (nR _) (fun _ q=>nomatch q);clear ho6 hg6);have HT6:=aAc ((HG6.o.block L (aAe HT5.o)).trans HT5.o);have HB6:Hid (Below L w w6):=HB5.o.trans (HG6.o.mono (kAe (aAe HT5.o)));have HPS6:=aAc (HPS.o.later HG6.o (by have:=HBW.o;have:=HLG.o;omega));clear hi0 hz0 hz1' hz2 HG6 HPS HT5 HB5 HSC5;generalize w5.heap.size=g2 at *
 go_wp2_with fail;go_loopg [44] n (fun gh s44 wx=>∃ j:Nat,j+gh=n/\s44=.int .i64 (j:Int)/\∃ es:List SEt,es.length=j/\wx.ownsRow g2 34 1 (.slice (some ⟨g2,0,none⟩) n n) n ((es++List.replicate (n-j) zS).flatMap fS)/\RWf L wx es (F.map rowOf)/\PSW B 0 wx (.slice pa n pc) F/\wx.heap[L]?=some (.cells #[.pointer (some ⟨db,0,none⟩),.int .u8 (i:Int),.string t.s.nm,.slice ca t.s.cs.length cc,.slice xa t.s.xs.length xc] 101 (0,0))/\Below L w wx)
 case atStart=>exact ⟨0,by omega,rfl,[],rfl,HO6.o,⟨(fun q e r h1=>by simp at h1),fun e he=>by cases he⟩,HPS6.o,HT6.o,HB6.o⟩
 case round =>
  obtain ⟨j,hj,rfl,es,hes,ho1,hrw,hps,htb,hbe⟩:=hrel;have HES:=aAc hes;have HO1:=aAc ho1;have HRV:=aAc hrw;have HPS:=aAc hps;have HTB:=aAc htb;have HBE:=aAc hbe;clear hes ho1 hrw hps htb hbe HO6 HPS6 HT6 HB6;by_cases hjn:j<n
  ·have xj:(j:Int)<(n:Int):=by omega
   have xj0:(0:Int)<=(j:Int):=by omega
   have x6:(n:Int)<=9223372036854775807:=by omega
   obtain ⟨ch,hch⟩:∃ c,F[j]?=some c:=⟨_,gE (by rw [HFN.o];exact hjn)⟩;obtain ⟨r,hrm,hrv⟩:=HRW.o ch (mG hch);have HRO:=aAc (HI.o.row t (at_mem HTI.o) r hrm);have HLR:Hid ((F.map rowOf)[j]?=some r):=by
    show _=_;rw [kAq,hch];show some (rowOf ch)=some r;unfold rowOf;rw [hrv,aIu HRO.o.rE HRO.o.ok];rfl
   obtain ⟨g9,k9,x9,e9,hev,hcell⟩:=HPS.o.at bC8 hch;obtain ⟨xc9,xk9,xv9⟩:=x9;obtain ⟨ex9,⟨ka,kc,e3,_⟩,⟨va,vc,e4,hbv⟩⟩:=hev;dsimp only at ex9 e3 e4;subst ex9;simp only [kBl] at e9;obtain ⟨rfl,zz9,rfl⟩:=e9;clear zz9;have c0:wr.cell? ⟨g9,j*3,none⟩=some (.int .i64 xc9.sp):=hcell 0 (by omega);have c1:wr.cell? ⟨g9,j*3+1,none⟩=some xk9:=hcell 1 (by omega);have c2:wr.cell? ⟨g9,j*3+2,none⟩=some xv9:=hcell 2 (by omega);subst e3 e4;have hcap:n<=pc:=by
    obtain ⟨kv,_,⟨_,ho⟩,_⟩:=HPS.o;rcases ho with ⟨e,h0⟩ | ⟨g',cap',cur',e,_,_,h7,_⟩
    ·rw [HFN.o] at h0;omega
    ·simp only [kBl] at e;have:=HFN.o;omega
   have hBr:B<=wr.heap.size:=nT HBW.o (kAe (aAe HTB.o));have hbx:=aAg wr (.cells #[.int .i64 xc9.sp,.slice ka xc9.key.length kc,.slice va xc9.val.length vc] 99);have HO2:=aAc (aAq HO1.o hbx);have HRV2:=aAc (HRV.o.later hbx);have HPS2:=aAc (HPS.o.later hbx hBr);have HTB2:=aAc ((hbx.block L (aAe HTB.o)).trans HTB.o);have HBE2:Hid (Below L w (wr.alloc (.cells #[.int .i64 xc9.sp,.slice ka xc9.key.length kc,.slice va xc9.val.length vc] 99))):=HBE.o.trans (hbx.mono (kAe (aAe HTB.o)));have HR3:Hid ((wr.alloc (.cells #[.int .i64 xc9.sp,.slice ka xc9.key.length kc,.slice va xc9.val.length vc] 99)).heap[wr.heap.size]?=some (.cells #[.int .i64 xc9.sp,.slice ka xc9.key.length kc,.slice va xc9.val.length vc] 99 (0,0))):=boxed wr _;have hbv2:=(hbv.later hbx hBr).1;rw [hrv] at hbv2;have HBV2:Hid (BS (wr.alloc (.cells #[.int .i64 xc9.sp,.slice ka xc9.key.length kc,.slice va xc9.val.length vc] 99)) va xc9.val.length vc (bAm r)):=by
    show BS _ _ _ _ _;rw [hrv];exact hbv2
   clear hcell hbx hbv hbv2 hch hrm hrv;go_upto_region 8 with fail;clear c0 c1 c2;generalize wr.alloc (.cells #[.int .i64 xc9.sp,.slice ka xc9.key.length kc,.slice va xc9.val.length vc] 99)=w7 at *;generalize wr.heap.size=G at *;have z2:w7.cell? ⟨G,2,none⟩=some (.slice va xc9.val.length vc):=aAa HR3.o;have y0:w7.cell? ⟨L,0,none⟩=some (.pointer (some ⟨db,0,none⟩)):=aAa HTB2.o;have y1:w7.cell? ⟨L,1,none⟩=some (.int .u8 (i:Int)):=aAa HTB2.o;have y2:w7.cell? ⟨L,2,none⟩=some (.string t.s.nm):=aAa HTB2.o;have y3:w7.cell? ⟨L,3,none⟩=some (.slice ca t.s.cs.length cc):=aAa HTB2.o;have y4:w7.cell? ⟨L,4,none⟩=some (.slice xa t.s.xs.length xc):=aAa HTB2.o;have HRD:=aAc (bB5 (dv:=.pointer (some ⟨db,0,none⟩)) (num:=i) (HSC.o.later (by rw [HLL.o];exact HBE2.o)) HOK.o HRO.o HBV2.o);go_wp2_with fail;refine HRD.o.mono ?_;rintro e w8 ⟨ra,rc,sa,sc,rfl,hrh,hb8,hfr8⟩;have HFR8:Hid (∀ ad,ra=some ad->L<=ad.block):=fun ad q=>nT (kAe (aAe HTB2.o)) (hfr8 ad q);clear hfr8;have hbq:=aAg w8 (.cells #[.slice ra r.length rc,.slice sa r.length sc] 119);have hb89:=hb8.trans (hbq.mono hb8.size);have HO9:=aAc (aAq HO2.o hb89);have HRV9:=aAc (HRV2.o.later hb89);have HPS9:=aAc (HPS2.o.later hb89 (nT HBW.o (kAe (aAe HTB2.o))));have HTB9:=aAc ((hb89.block L (aAe HTB2.o)).trans HTB2.o);have HBE9:Hid (Below L w (w8.alloc (.cells #[.slice ra r.length rc,.slice sa r.length sc] 119))):=HBE2.o.trans (hb89.mono (kAe (aAe HTB2.o)));have HSV9:=aAc ((hrh.later hbq).p);have HQ9:Hid ((w8.alloc (.cells #[.slice ra r.length rc,.slice sa r.length sc] 119)).heap[w8.heap.size]?=some (.cells #[.slice ra r.length rc,.slice sa r.length sc] 119 (0,0))):=boxed w8 _;clear hrh hb8 hbq hb89 HRD z2 y0 y1 y2 y3 y4;go_upto_region 9 with fail;generalize w8.alloc (.cells #[.slice ra r.length rc,.slice sa r.length sc] 119)=w9 at *;generalize w8.heap.size=Q at *;have u0:w9.cell? ⟨Q,0,none⟩=some (.slice ra r.length rc):=aAa HQ9.o;have hlt:(es++List.replicate (n-j) zS).length=n:=by rw [lA,List.length_replicate,HES.o];omega
   have HLT:=aAc hlt;have haz:(es++List.replicate (n-j) zS)[j]?=some zS:=by
    rw [kAo (by rw [HES.o];exact nR _),HES.o,Nat.sub_self,show n-j=(n-j-1)+1 by omega,List.replicate_succ];rfl
   have HAZ:=aAc haz;obtain ⟨cur,hcur,hcell⟩:=aD7 aIq HO9.o haz;have d0:w9.cell? ⟨g2,j,none⟩=some (.slice none 0 0):=by have h9:=hcell 0 (by omega);rw [Nat.mul_one,Nat.add_zero] at h9;exact h9
   have f0:w9.frozen? ⟨g2,j,none⟩=false:=aAh hcur;clear hcell hcur hlt haz;go_wp2;go_roundg (gk-1)
   case measure=>omega
   case rel =>
    obtain ⟨cur,hcur,hno⟩:=bNb HO9.o HLT.o;have hst:=aCk (u:=.slice ra r.length rc) (i:=j) HO9.o (by omega);have e5:=aCv (f:=fS) (k:=1) (j:=0) (u:=.slice ra r.length rc) (x':=((ra,r.length,rc):SEt)) aIq (by omega) HAZ.o rfl;rw [Nat.mul_one,Nat.add_zero] at e5;rw [e5,bQn HES.o hjn] at hst;have hoth:∀ b,b≠g2->(w9.setCell ⟨g2,j,none⟩ (.slice ra r.length rc)).heap[b]?=w9.heap[b]?:=fun b hb=>kBf _ _ _ _ hb;have hbs:Below 0 w9 (w9.setCell ⟨g2,j,none⟩ (.slice ra r.length rc)):=(kBh 0 w9).setCell (p:=⟨g2,j,none⟩) (kAm _) _;have hsv:∀ {a:Option Addr} {m k:Nat} {l:List Val},SVK fV 3 w9 a m k l->SVK fV 3 (w9.setCell ⟨g2,j,none⟩ (.slice ra r.length rc)) a m k l:=fun hs=>hs.oth (by omega) hcur (fun x u hu o=>by simp only [fV,List.getElem?_cons_zero,oI] at hu;subst hu;exact hno _ o) (fun x=>⟨_,rfl⟩) hbs.size hoth;refine ⟨j+1,by omega,rfl,es++[(ra,r.length,rc)],by rw [lA,HES.o];rfl,hst,⟨fun q e r' h1 h2=>?_,fun e he ad hq=>?_⟩,?_,?_,HBE9.o.setCell (p:=⟨g2,j,none⟩) (kAe HLG.o) _⟩
    ·by_cases hq:q<es.length
     ·rw [kAr hq] at h1;exact hsv (HRV9.o.1 q e r' h1 h2)
     ·have hq2:q=j:=by
       have h7:=(lL h1);simp only [lA,List.length_cons,List.length_nil] at h7;have:=HES.o;omega
      subst hq2;rw [kAo (by rw [HES.o];exact nR _),HES.o,Nat.sub_self] at h1;simp only [List.getElem?_cons_zero,oI] at h1;subst h1;rw [HLR.o,oI] at h2;subst h2;exact hsv HSV9.o
    ·rcases kAz.1 he with he | he
     ·exact HRV9.o.2 e he ad hq
     ·obtain rfl:e=(ra,r.length,rc):=kA5.1 he;exact HFR8.o ad hq
    ·refine HPS9.o.keep (FT.set hcur (by have:=HBW.o;have:=HLG.o;omega) (by decide)) fun q hq=>kBf _ _ _ _ ?_
     intro e;obtain ⟨_,_,cur2,h8⟩:=HPS9.o.blk hq;rw [show q=g2 from e,hcur] at h8;simp only [oI,cI] at h8;exact absurd h8.2.1 (by decide)
    ·exact (hoth L (by have:=HLG.o;omega)).trans HTB9.o
  ·have ej:j=n:=by omega
   subst ej;have xj:¬ (j:Int)<(j:Int):=by omega
   go_wp2;go_ret2;have h9:=HO1.o;rw [Nat.sub_self,List.replicate_zero,List.append_nil] at h9;obtain ⟨a9,c9,e9,hsv⟩:=aBn aIq h9 HES.o;simp only [kBl] at e9;obtain ⟨rfl,_,rfl⟩:=e9;exact ⟨⟨_,_,_,rfl,es,hsv,by rw [HES.o,kAp];exact HFN.o.symm,HRV.o.1,(fun ad q=>by cases q;exact kAe HLG.o),HRV.o.2⟩,HBE.o⟩
def bBm (cs:List Ch) (T:List Tbl) (nm:ByteArray) (c:Int) (lo hi:Val) (limit:Int):List (List Val)×Int:=match tAt T nm with
 | none=>([],60)
 | some i=>match T[i]? with
  | none=>([],60)
  | some t=>if bNd t.s c=false then ([],65) else if lo.err≠0\/hi.err≠0 then ([],62) else if limit<1\/4<limit then ([],1) else ((bBt cs i c.toNat lo hi limit.toNat).map rowOf,0)
theorem bGw {c limit:Int} (h1:tAt T nm=none):bBm cs T nm c lo hi limit=([],60):=by unfold bBm;rw [h1]
theorem aJf {c limit:Int} {t:Tbl} (h1:tAt T nm=some i) (h2:T[i]?=some t):bBm cs T nm c lo hi limit=if bNd t.s c=false then ([],65) else if lo.err≠0\/hi.err≠0 then ([],62) else if limit<1\/4<limit then ([],1) else ((bBt cs i c.toNat lo hi limit.toNat).map rowOf,0):=by
 unfold bBm;rw [h1];dsimp only;rw [h2]
theorem bJq {c:Int} (hs:s.ok=true) (h:bNd s c=true):0<=c/\c<=3:=by
 unfold bNd at h;rw [Bool.or_eq_true,List.any_eq_true] at h;rcases h with h | ⟨x,hx,h⟩
 ·have:=(beq_iff_eq).1 h;omega
 ·have h1:=(beq_iff_eq).1 h;have h2:=Sch.xcol hs x hx;have h3:=(Sch.c3 hs).2;omega
theorem bB4 [Gd] {c limit:Int} (h:DR B p q g ls db v cs W w0 w) (I:Inv cs T) (hl:cs.length<=1000) (nm:ByteArray) (hlo:lo.ok/\lo.2.2.size<=1048576) (hhi:hi.ok/\hi.2.2.size<=1048576) :
  Calls prog 21 #[.pointer (some ⟨db,0,none⟩),.string nm,.int .i64 c,.agg #[.int .i64 lo.1,.int .i64 lo.2.1,.string lo.2.2],.agg #[.int .i64 hi.1,.int .i64 hi.2.1,.string hi.2.2],.int .i64 limit] w fun e w'=>(∃ a n k,e=.returned (.tuple #[.slice a n k,.int .i64 (bBm cs T nm c lo hi limit).2])/\RWn w.heap.size w' a n k (bBm cs T nm c lo hi limit).1)/\Below w.heap.size w w':=by
 obtain ⟨L,hL⟩:∃ L,w.heap.size=L:=⟨_,rfl⟩;obtain ⟨M,hM⟩:∃ M,L+1=M:=⟨_,rfl⟩;obtain ⟨w1,hw1⟩:∃ w1,w1=(w.alloc (.cells #[.int .i64 lo.1,.int .i64 lo.2.1,.string lo.2.2] 36)).alloc (.cells #[.int .i64 hi.1,.int .i64 hi.2.1,.string hi.2.2] 36):=⟨_,rfl⟩;have hb1:Below w.heap.size w w1:=by rw [hw1];exact aD1 _ _ _
 have HL1:Hid (w1.heap[L]?=some (.cells #[.int .i64 lo.1,.int .i64 lo.2.1,.string lo.2.2] 36 (0,0))):=by show _=_;rw [hw1,<-hL];exact heap_alloc2_old w _ _
 have HM1:Hid (w1.heap[M]?=some (.cells #[.int .i64 hi.1,.int .i64 hi.2.1,.string hi.2.2] 36 (0,0))):=by show _=_;rw [hw1,<-hM,<-hL];exact heap_alloc2_new w _ _
 have HB1:Hid (Below L w w1):=by show Below L w w1;rw [<-hL];exact hb1
 have HD:=aAc h;have HI:=aAc I;have HLN:=aAc hl;have HLO:=aAc hlo;have HHI:=aAc hhi;have HFI:=aAc (aHg (h.later hb1) I hl nm);have HW1:=aAc hw1;have HLL:=aAc hL;obtain ⟨so,hso⟩:∃ so,bBm cs T nm c lo hi limit=so:=⟨_,rfl⟩;have HSO:=aAc hso;rw [hL,hso];clear h I hl hlo hhi hb1 hw1 hso;go_enter func21,ntmps21;go_upto_region 1 with fail;rw [<-HW1.o]
 try simp only [hL,hM]
 clear HW1;go_wp2_with fail;refine HFI.o.mono ?_;rintro e w2 ⟨hfi,hb2⟩;have HL2:=aAc ((hb2.block L (aAe HL1.o)).trans HL1.o);have HM2:=aAc ((hb2.block M (aAe HM1.o)).trans HM1.o);have HB2:Hid (Below L w w2):=HB1.o.trans (hb2.mono (kAe (aAe HL1.o)));clear hb2 HFI HL1 HM1 HB1
 cases hta:tAt T nm with
 | none =>
  have he:=hfi.1 hta;subst he;have HTA:=aAc hta;have HB3:Hid (Below L w (w2.alloc (.cells #[.pointer none,.int .u8 0,.string ⟨#[]⟩,.slice none 0 0,.slice none 0 0] 101))):=HB2.o.trans ((aAg w2 _).mono (kAe (aAe HL2.o)));clear hfi hta;go_upto_region 2 with fail;generalize w2.alloc (.cells #[.pointer none,.int .u8 0,.string ⟨#[]⟩,.slice none 0 0,.slice none 0 0] 101)=w3 at *;go_wp2;go_ret2;rw [<-HSO.o,bGw HTA.o];exact ⟨⟨none,0,0,rfl,[],SVK.nil _ _ _,rfl,(fun q e r q1=>by simp at q1),(fun _ q=>by cases q),fun e he=>by cases he⟩,HB3.o⟩
 | some i =>
  obtain ⟨t,hti,htn,htm⟩:=aAy hta;subst htn;obtain ⟨ca,cc,xa,xc,he,hsc⟩:=hfi.2 i t hta hti;unfold bIk at he;subst he;have HSE:=aAc (aJf (cs:=cs) (c:=c) (limit:=limit) (lo:=lo) (hi:=hi) hta hti);have HTI:=aAc hti;have HOK:=aAc (HI.o.ok t htm);have hbx:=aAg w2 (.cells #[.pointer (some ⟨db,0,none⟩),.int .u8 (i:Int),.string t.s.nm,.slice ca t.s.cs.length cc,.slice xa t.s.xs.length xc] 101);have HV3:Hid ((w2.alloc (.cells #[.pointer (some ⟨db,0,none⟩),.int .u8 (i:Int),.string t.s.nm,.slice ca t.s.cs.length cc,.slice xa t.s.xs.length xc] 101)).heap[w2.heap.size]?=some (.cells #[.pointer (some ⟨db,0,none⟩),.int .u8 (i:Int),.string t.s.nm,.slice ca t.s.cs.length cc,.slice xa t.s.xs.length xc] 101 (0,0))):=boxed w2 _;have HL3:=aAc ((hbx.block L (aAe HL2.o)).trans HL2.o);have HM3:=aAc ((hbx.block M (aAe HM2.o)).trans HM2.o);have HB3:Hid (Below L w (w2.alloc (.cells #[.pointer (some ⟨db,0,none⟩),.int .u8 (i:Int),.string t.s.nm,.slice ca t.s.cs.length cc,.slice xa t.s.xs.length xc] 101))):=HB2.o.trans (hbx.mono (kAe (aAe HL2.o)));have HSC3:=aAc (hsc.later hbx);clear hfi hta hti htm hsc hbx HL2 HM2 HB2;go_upto_region 2 with fail;generalize (w2.alloc (.cells #[.pointer (some ⟨db,0,none⟩),.int .u8 (i:Int),.string t.s.nm,.slice ca t.s.cs.length cc,.slice xa t.s.xs.length xc] 101))=w3 at *;generalize w2.heap.size=V at *;have HHO:=aAc (bEi (dv:=.pointer (some ⟨db,0,none⟩)) (num:=i) (nm:=t.s.nm) (ca:=ca) (cl:=t.s.cs.length) (cc:=cc) (c:=c) HSC3.o.x (by have:=(Sch.parts HOK.o).2.2.1;omega));obtain ⟨ob,hob⟩:∃ ob,bNd t.s c=ob:=⟨_,rfl⟩;have HOB:=aAc hob;rw [hob] at HHO;clear hob;have y0:w3.cell? ⟨V,0,none⟩=some (.pointer (some ⟨db,0,none⟩)):=aAa HV3.o;have y1:w3.cell? ⟨V,1,none⟩=some (.int .u8 (i:Int)):=aAa HV3.o;have y2:w3.cell? ⟨V,2,none⟩=some (.string t.s.nm):=aAa HV3.o;have y3:w3.cell? ⟨V,3,none⟩=some (.slice ca t.s.cs.length cc):=aAa HV3.o;have y4:w3.cell? ⟨V,4,none⟩=some (.slice xa t.s.xs.length xc):=aAa HV3.o;go_wp2_with fail;refine HHO.o.mono ?_;rintro e w4 ⟨rfl,hb4⟩;have HL4:=aAc ((hb4.block L (aAe HL3.o)).trans HL3.o);have HM4:=aAc ((hb4.block M (aAe HM3.o)).trans HM3.o);have HB4:Hid (Below L w w4):=HB3.o.trans (hb4.mono (kAe (aAe HL3.o)));have HV4:=aAc ((hb4.block V (aAe HV3.o)).trans HV3.o);have HSC4:=aAc (HSC3.o.later hb4);clear hb4 HHO y0 y1 y2 y3 y4 HV3 HL3 HM3 HB3 HSC3
  cases ob with
  | false =>
   have HE:=aAc (HSE.o.trans (kAg HOB.o));go_wp2;go_ret2;rw [<-HSO.o,HE.o];exact ⟨⟨none,0,0,rfl,[],SVK.nil _ _ _,rfl,(fun q e r q1=>by simp at q1),(fun _ q=>by cases q),fun e he=>by cases he⟩,HB4.o⟩
  | true =>
   have HE1:=aAc (HSE.o.trans (kAb (by rw [HOB.o];decide)));have HRL:=aAc (aFr lo.1 lo.2.1 lo.2.2 w4 HLO.o.2);unfold av at HRL;obtain ⟨fl,hfl⟩:∃ fl,bAc lo.1 lo.2.1 lo.2.2=fl:=⟨_,rfl⟩;rw [hfl] at HRL;have HFL:Hid (lo.err=fl):=hfl;clear hfl;have l0:w4.cell? ⟨L,0,none⟩=some (.int .i64 lo.1):=aAa HL4.o;have l1:w4.cell? ⟨L,1,none⟩=some (.int .i64 lo.2.1):=aAa HL4.o;have l2:w4.cell? ⟨L,2,none⟩=some (.string lo.2.2):=aAa HL4.o;go_wp2_with fail;refine HRL.o.mono ?_;rintro e w5 ⟨rfl,hb5⟩;have HL5:=aAc ((hb5.block L (aAe HL4.o)).trans HL4.o);have HM5:=aAc ((hb5.block M (aAe HM4.o)).trans HM4.o);have HB5:Hid (Below L w w5):=HB4.o.trans (hb5.mono (kAe (aAe HL4.o)));have HV5:=aAc ((hb5.block V (aAe HV4.o)).trans HV4.o);have HSC5:=aAc (HSC4.o.later hb5);clear hb5 HRL l0 l1 l2 HV4 HL4 HM4 HB4 HSC4;by_cases hl0:fl=0
   ·subst hl0;have HRH:=aAc (aFr hi.1 hi.2.1 hi.2.2 w5 HHI.o.2);unfold av at HRH;obtain ⟨fh,hfh⟩:∃ fh,bAc hi.1 hi.2.1 hi.2.2=fh:=⟨_,rfl⟩;rw [hfh] at HRH;have HFH:Hid (hi.err=fh):=hfh;clear hfh;have m0:w5.cell? ⟨M,0,none⟩=some (.int .i64 hi.1):=aAa HM5.o;have m1:w5.cell? ⟨M,1,none⟩=some (.int .i64 hi.2.1):=aAa HM5.o;have m2:w5.cell? ⟨M,2,none⟩=some (.string hi.2.2):=aAa HM5.o;go_wp2_with fail;refine HRH.o.mono ?_;rintro e w6 ⟨rfl,hb6⟩;have HL6:=aAc ((hb6.block L (aAe HL5.o)).trans HL5.o);have HM6:=aAc ((hb6.block M (aAe HM5.o)).trans HM5.o);have HB6:Hid (Below L w w6):=HB5.o.trans (hb6.mono (kAe (aAe HL5.o)));have HV6:=aAc ((hb6.block V (aAe HV5.o)).trans HV5.o);have HSC6:=aAc (HSC5.o.later hb6);clear hb6 HRH m0 m1 m2 HV5 HL5 HM5 HB5 HSC5;by_cases hh0:fh=0
    ·subst hh0;have HE2:=aAc (HE1.o.trans (kAb (by rw [HFL.o,HFH.o];simp)));by_cases hli:limit<1\/4<limit
     ·have HE:=aAc (HE2.o.trans (kAg hli));by_cases hl1:limit<1
      ·have d1:decide (limit<1)=true:=kAc hl1;clear hli;go_wp2;go_ret2;rw [<-HSO.o,HE.o];exact ⟨⟨none,0,0,rfl,[],SVK.nil _ _ _,rfl,(fun q e r q1=>by simp at q1),(fun _ q=>by cases q),fun e he=>by cases he⟩,HB6.o⟩
      ·have hl4:4<limit:=hli.resolve_left hl1;have d1:decide (limit<1)=false:=kAd hl1;have d2:decide (4<limit)=true:=kAc hl4;clear hli;go_wp2;go_ret2;rw [<-HSO.o,HE.o];exact ⟨⟨none,0,0,rfl,[],SVK.nil _ _ _,rfl,(fun q e r q1=>by simp at q1),(fun _ q=>by cases q),fun e he=>by cases he⟩,HB6.o⟩
     ·have HE:=aAc (HE2.o.trans (kAb hli));obtain ⟨ln,hln⟩:∃ ln:Nat,limit=(ln:Int):=⟨limit.toNat,by omega⟩;subst hln;obtain ⟨cn,hcn⟩:∃ cn:Nat,c=(cn:Int):=⟨c.toNat,by have:=bJq HOK.o HOB.o;omega⟩;subst hcn;have hcn3:cn<=3:=by have:=bJq HOK.o HOB.o;omega
      have HLI:Hid (1<=ln/\ln<=4):=⟨by omega,by omega⟩;have d1:decide ((ln:Int)<1)=false:=kAd (by omega);have d2:decide (4<(ln:Int))=false:=kAd (by omega);have d3:¬ (ln:Int)<1:=by omega
      have d4:¬ 4<(ln:Int):=by omega
      have HC3:=aAc hcn3;clear hli hcn3;go_upto_region 10 with fail;have HV7:Hid (w6.drew.heap[V]?=some (.cells #[.pointer (some ⟨db,0,none⟩),.int .u8 (i:Int),.string t.s.nm,.slice ca t.s.cs.length cc,.slice xa t.s.xs.length xc] 101 (0,0))):=HV6.o;have HL7:Hid (w6.drew.heap[L]?=some (.cells #[.int .i64 lo.1,.int .i64 lo.2.1,.string lo.2.2] 36 (0,0))):=HL6.o;have HM7:Hid (w6.drew.heap[M]?=some (.cells #[.int .i64 hi.1,.int .i64 hi.2.1,.string hi.2.2] 36 (0,0))):=HM6.o;have HB7:Hid (Below L w w6.drew):=HB6.o.drew;have HSC7:Hid (SC w6.drew ca t.s.cs.length cc xa t.s.xs.length xc t.s):=HSC6.o.later (kBh _ _).drew;have HX0:Hid ((fun wx:World=>wx.cell? ⟨V,0,none⟩=some (.pointer (some ⟨db,0,none⟩))/\wx.cell? ⟨V,1,none⟩=some (.int .u8 (i:Int))/\wx.cell? ⟨V,2,none⟩=some (.string t.s.nm)/\wx.cell? ⟨V,3,none⟩=some (.slice ca t.s.cs.length cc)/\wx.cell? ⟨V,4,none⟩=some (.slice xa t.s.xs.length xc)/\wx.cell? ⟨L,0,none⟩=some (.int .i64 lo.1)/\wx.cell? ⟨L,1,none⟩=some (.int .i64 lo.2.1)/\wx.cell? ⟨L,2,none⟩=some (.string lo.2.2)/\wx.cell? ⟨M,0,none⟩=some (.int .i64 hi.1)/\wx.cell? ⟨M,1,none⟩=some (.int .i64 hi.2.1)/\wx.cell? ⟨M,2,none⟩=some (.string hi.2.2)) w6.drew):=⟨aAa HV7.o,aAa HV7.o,aAa HV7.o,aAa HV7.o,aAa HV7.o,aAa HL7.o,aAa HL7.o,aAa HL7.o,aAa HM7.o,aAa HM7.o,aAa HM7.o⟩;refine kBj ?_;refine kBi (S:=fun wx=>wx.cell? ⟨V,0,none⟩=some (.pointer (some ⟨db,0,none⟩))/\wx.cell? ⟨V,1,none⟩=some (.int .u8 (i:Int))/\wx.cell? ⟨V,2,none⟩=some (.string t.s.nm)/\wx.cell? ⟨V,3,none⟩=some (.slice ca t.s.cs.length cc)/\wx.cell? ⟨V,4,none⟩=some (.slice xa t.s.xs.length xc)/\wx.cell? ⟨L,0,none⟩=some (.int .i64 lo.1)/\wx.cell? ⟨L,1,none⟩=some (.int .i64 lo.2.1)/\wx.cell? ⟨L,2,none⟩=some (.string lo.2.2)/\wx.cell? ⟨M,0,none⟩=some (.int .i64 hi.1)/\wx.cell? ⟨M,1,none⟩=some (.int .i64 hi.2.1)/\wx.cell? ⟨M,2,none⟩=some (.string hi.2.2)) (by kernel_rfl) HX0.o (fun hHeld=>?_);generalize w6.drew=w7 at *;refine aAb 0 47 ?_;refine aAb 1 48 ?_;refine aAb 2 49 ?_;refine aAb 4 51 ?_;refine aAb 6 53 ?_;refine aAf 3 ?_;intro K hK;go_simp;refine (aGp lo w7 HLO.o.1 HFL.o HLO.o.2).mono ?_;rintro e w8 ⟨hv9,rfl,ho,hb⟩;obtain ⟨Aa,Ad,ek⟩:=ho.form;obtain ⟨Am,hkm⟩:∃ km,lo.bytes.length=km:=⟨_,rfl⟩;rw [ek] at ho;have hbs:=ho.bs (aB4 lo) (by have:=aBa lo HLO.o.2;omega);rw [hkm] at ek hbs;subst ek;have HKA:Hid (0<Am/\Am<=10000000):=by
       obtain ⟨h9,_,_,h8⟩:=aCb [] HLO.o.1 HFL.o;have:=kA4.2 h8;have:=aBa lo HLO.o.2;exact ⟨by omega,by omega⟩
      have HL8:=aAc ((hb.block L (aAe HL7.o)).trans HL7.o);have HM8:=aAc ((hb.block M (aAe HM7.o)).trans HM7.o);have HB8:Hid (Below L w w8):=HB7.o.trans (hb.mono (kAe (aAe HL7.o)));have HV8:=aAc ((hb.block V (aAe HV7.o)).trans HV7.o);have HSC8:=aAc (HSC7.o.later hb);have HSA8:=aAc hbs;clear ho hbs hkm hb hHeld;refine hK.out _ _ ⟨aAa HV8.o,aAa HV8.o,aAa HV8.o,aAa HV8.o,aAa HV8.o,aAa HL8.o,aAa HL8.o,aAa HL8.o,aAa HM8.o,aAa HM8.o,aAa HM8.o⟩ (fun hHeld=>?_);clear hK K
      try simp only [Act.put,siT,scZ,scS]
      refine aAf 5 ?_;intro K hK;go_simp;refine (aGp hi w8 HHI.o.1 HFH.o HHI.o.2).mono ?_;rintro e w9 ⟨hv9,rfl,ho,hb⟩;obtain ⟨Da,Dd,ek⟩:=ho.form;obtain ⟨Dm,hkm⟩:∃ km,hi.bytes.length=km:=⟨_,rfl⟩;rw [ek] at ho;have hbs:=ho.bs (aB4 hi) (by have:=aBa hi HHI.o.2;omega);rw [hkm] at ek hbs;subst ek;have HKD:Hid (0<Dm/\Dm<=10000000):=by
       obtain ⟨h9,_,_,h8⟩:=aCb [] HHI.o.1 HFH.o;have:=kA4.2 h8;have:=aBa hi HHI.o.2;exact ⟨by omega,by omega⟩
      have HL9:=aAc ((hb.block L (aAe HL8.o)).trans HL8.o);have HM9:=aAc ((hb.block M (aAe HM8.o)).trans HM8.o);have HB9:Hid (Below L w w9):=HB8.o.trans (hb.mono (kAe (aAe HL8.o)));have HV9:=aAc ((hb.block V (aAe HV8.o)).trans HV8.o);have HSC9:=aAc (HSC8.o.later hb);have HSD9:=aAc hbs;have HSA9:=aAc (HSA8.o.later hb (nR _));clear ho hbs hkm hb hHeld;refine hK.out _ _ ⟨aAa HV9.o,aAa HV9.o,aAa HV9.o,aAa HV9.o,aAa HV9.o,aAa HL9.o,aAa HL9.o,aAa HL9.o,aAa HM9.o,aAa HM9.o,aAa HM9.o⟩ (fun hHeld=>?_);clear hK K
      try simp only [Act.put,siT,scZ,scS]
      refine aAf 7 ?_;intro K hK;go_simp;refine (bMu (c:=cn) (limit:=ln) (HD.o.later (w':=w9) (by rw [HLL.o];exact HB9.o)) HI.o HLN.o HTI.o HSC9.o (by have:=HC3.o;omega) HSA9.o HKA.o HSD9.o HKD.o HLI.o).mono ?_;rintro e w10 ⟨⟨ta,tn,tk2,rfl,htr⟩,hb⟩;have HL10:=aAc ((hb.block L (aAe HL9.o)).trans HL9.o);have HM10:=aAc ((hb.block M (aAe HM9.o)).trans HM9.o);have HB10:Hid (Below L w w10):=HB9.o.trans (hb.mono (kAe (aAe HL9.o)));have HV10:=aAc ((hb.block V (aAe HV9.o)).trans HV9.o);have HTR:=aAc (htr.mono (kAe (aAe HL9.o)));clear htr hb hHeld;refine hK.out _ _ ⟨aAa HV10.o,aAa HV10.o,aAa HV10.o,aAa HV10.o,aAa HV10.o,aAa HL10.o,aAa HL10.o,aAa HL10.o,aAa HM10.o,aAa HM10.o,aAa HM10.o⟩ (fun hHeld=>?_);clear hK K
      try simp only [Act.put,siT,scZ,scS]
      refine aAb 8 55 ?_;refine aAb 9 56 ?_;refine aAb 10 12 ?_;refine aAb 11 13 ?_;refine kBn (by kernel_rfl) ?_ _;refine kBk ?_;clear hHeld;go_wp2;go_ret2;rw [<-HSO.o,HE.o];exact ⟨⟨ta,tn,tk2,rfl,HTR.o⟩,HB10.o⟩
    ·have hh1:(fh == 0)=false:=by simpa using hh0
     have hh2:(fh != 0)=true:=by simpa using hh0
     have HE:=aAc (HE1.o.trans (kAg (Or.inr (by rw [HFH.o];exact hh0))));clear hh0;go_wp2;go_ret2;rw [<-HSO.o,HE.o];exact ⟨⟨none,0,0,rfl,[],SVK.nil _ _ _,rfl,(fun q e r q1=>by simp at q1),(fun _ q=>by cases q),fun e he=>by cases he⟩,HB6.o⟩
   ·have hl1:(fl == 0)=false:=by simpa using hl0
    have hl2:(fl != 0)=true:=by simpa using hl0
    have HE:=aAc (HE1.o.trans (kAg (Or.inl (by rw [HFL.o];exact hl0))));clear hl0;go_wp2;go_ret2;rw [<-HSO.o,HE.o];exact ⟨⟨none,0,0,rfl,[],SVK.nil _ _ _,rfl,(fun q e r q1=>by simp at q1),(fun _ q=>by cases q),fun e he=>by cases he⟩,HB5.o⟩
end Go.Proofs.YtdpdjpkmndnaaaaGreat
set_option maxRecDepth 100000
set_option maxHeartbeats 16000000
set_option linter.unusedVariables false
namespace Go.Proofs.YtdpdjpkmndnaaaaGreat
open Go.RowKit _root_.Go.Proofs.Tryz
variable {B N c db i len ls m n p:Nat} {Q:Exit->Act->World->Prop} {T:List Tbl} {W w w' w0:World} {b0 b1 b2 v:Value} {es:List SEt} {nm:ByteArray} {ops:Array Oper} {rest:List Oper} {x:Val}
def sV (e:SEt):Value:=.slice e.1 e.2.1 e.2.2
def NoI (u:Value):Prop:=∀ z:Int,u≠.int .i64 z
def OutS (B:Nat) (w:World) (v:Value) (es:List SEt):Prop:=(v=.slice none 0 0/\es=[])\/∃ g cap cur,v=.slice (some ⟨g,0,none⟩) es.length cap/\B<=g/\w.heap[g]?=some (.cells cur 34 (0,0))/\es.length<=cap/\cap<=9223372036854775807/\cur.size=cap/\(∀ (i:Nat) e,es[i]?=some e->cur[i]?=some (sV e))/\∀ (i:Nat) u,cur[i]?=some u->NoI u
theorem OutS.keep (h:OutS B w v es) (hk:∀ i,v.ownBlock=some i->i<w.heap.size->w'.heap[i]?=w.heap[i]?):OutS B w' v es:=by
 rcases h with h | ⟨g,cap,cur,h1,h2,h3,h4⟩
 ·exact Or.inl h
 ·exact Or.inr ⟨g,cap,cur,h1,h2,(hk g (by rw [h1];rfl) (aAe h3)).trans h3,h4⟩
theorem OutS.later (h:OutS B w v es) (hb:Below w.heap.size w w'):OutS B w' v es:=h.keep fun i _ hi=>hb.block i hi
theorem OutS.form (h:OutS B w v es):∃ a c,v=.slice a es.length c/\es.length<=c/\c<=9223372036854775807/\(a=none->c=0)/\(0<es.length->∃ g,a=some ⟨g,0,none⟩/\g<w.heap.size/\∀ (i:Nat) e,es[i]?=some e->w.cell? ⟨g,i,none⟩=some (sV e)):=by
 rcases h with ⟨h1,h2⟩ | ⟨g,cap,cur,h1,h2,h3,h4,h5,h6,h7,h8⟩
 ·subst h2;exact ⟨none,0,h1,kAm _,by omega,fun _=>rfl,fun h=>absurd h (kBb _)⟩
 ·exact ⟨_,cap,h1,h4,h5,(fun q=>by cases q),fun _=>⟨g,rfl,aAe h3,fun i e hi=>(aAa h3).trans (h7 i e hi)⟩⟩
theorem OutS.sv (h:OutS B w v es):∃ a c,v=.slice a es.length c/\SVK fS 1 w a es.length c es:=by
 obtain ⟨a,c,h1,h2,h3,h4,h5⟩:=h.form;refine ⟨a,c,h1,rfl,h2,by omega,h4,fun h0=>?_⟩;obtain ⟨g,e1,hg,hc⟩:=h5 h0;refine ⟨g,0,e1,hg,fun i x hx t ht=>?_⟩;obtain rfl:t=0:=by omega
 have:=hc i x hx;rw [show 0+i*1+0=i by omega];exact this
theorem OutS.vals (h:OutS B w v es) (hs:w.heap.size<=w'.heap.size) (ho:∀ i,i<w.heap.size->v.ownBlock≠some i->w'.heap[i]?=w.heap[i]?) {a:Option Addr} {n c:Nat} {l:List Val} (hl:SVK fV 3 w a n c l):SVK fV 3 w' a n c l:=by
 rcases h with ⟨h1,h2⟩ | ⟨g,cap,cur,h1,h2,h3,h4,h5,h6,h7,h8⟩
 ·refine ⟨hl.hl,hl.hc,hl.hm,hl.hn,fun h0=>?_⟩;obtain ⟨b,o,e1,e2,e3⟩:=hl.pl h0;exact ⟨b,o,e1,kAi e2 hs,fun i x hx t ht=>(kBp (ho b e2 (by rw [h1];intro q;cases q))).trans (e3 i x hx t ht)⟩
 ·refine ⟨hl.hl,hl.hc,hl.hm,hl.hn,fun h0=>?_⟩;obtain ⟨b,o,e1,e2,e3⟩:=hl.pl h0;have hne:b≠g:=by
   intro e;subst e;obtain ⟨x,hx⟩:∃ x,l[0]?=some x:=⟨_,gE (by rw [hl.hl];exact h0)⟩;have q:=e3 0 x hx 0 (by omega);rw [aAa h3] at q;exact h8 _ _ (q.trans rfl) _ rfl
  exact ⟨b,o,e1,kAi e2 hs,fun i x hx t ht=>(kBp (ho b e2 (by rw [h1];intro q;exact hne (Option.some.inj q).symm))).trans (e3 i x hx t ht)⟩
theorem bL9 {u:Value} (h:(Builtin.zeroCells (Value.slice none 0 0).cells n)[i]?=some u):NoI u:=by
 unfold Builtin.zeroCells at h;rw [Array.getElem?_map] at h
 cases hq:(Array.range (n*(Value.slice none 0 0).cells.size))[i]? with
 | none=>rw [hq] at h;cases h
 | some k =>
  rw [hq] at h;simp only [Option.map_some,oI] at h;have e:(Value.slice none 0 0).cells=#[.slice none 0 0]:=by kernel_rfl
  rw [e] at h;have e1:k % (#[Value.slice none 0 0]:Array Value).size=0:=Nat.mod_one k;rw [e1] at h;intro z hz;rw [<-h] at hz;cases hz
theorem bHc:∃ i,prog.info? 34=some i/\i.zero=some (.slice none 0 0)/\i.size=1/\i.bytes=24:=info_parts bCw
theorem bC1 (xs:List SEt) (k cap:Nat) (hk:xs.length+k=cap):((xs.map sV).toArray++Builtin.zeroCells (Value.slice none 0 0).cells k).size=cap/\(∀ (i:Nat) e,xs[i]?=some e->((xs.map sV).toArray++Builtin.zeroCells (Value.slice none 0 0).cells k)[i]?=some (sV e))/\∀ (i:Nat) u,((xs.map sV).toArray++Builtin.zeroCells (Value.slice none 0 0).cells k)[i]?=some u->NoI u:=by
 have e1:(Value.slice none 0 0).cells.size=1:=by kernel_rfl
 refine ⟨?_,fun i e hi=>?_,fun i u hi=>?_⟩
 ·rw [Array.size_append,size_zeroCells,e1];simp;omega
 ·have hlt:=(lL hi);rw [Array.getElem?_append_left (by simpa using hlt),kAj,kAq,hi];rfl
 ·by_cases hlt:i<xs.length
  ·rw [Array.getElem?_append_left (by simpa using hlt),kAj,kAq,gE hlt] at hi;simp only [Option.map_some,oI] at hi;intro z hz;rw [<-hi] at hz;cases hz
  ·rw [Array.getElem?_append_right (by simpa using Nat.le_of_not_lt hlt)] at hi;exact bL9 hi
theorem bDv {e:SEt} {ad:Addr} {ty:TypeId} (h:OutS B w v es) (hB:B<=w.heap.size) (hx:w.cell? ad=some (sV e)) (had:ad.add 0=ad) (hl:es.length<=1000) :
  ∃ v' w',(Builtin.append_ #[52,52] ty #[v,.slice (some ad) 1 c]).run prog w=.ok v' w'/\OutS B w' v' (es++[e])/\Below B w w'/\(∀ i,i<w.heap.size->v.ownBlock≠some i->w'.heap[i]?=w.heap[i]?)/\∀ i,v'.ownBlock=some i->v.ownBlock=some i\/w.heap.size<=i:=by
 obtain ⟨i0,hi,hz0,hz1,hz2⟩:=bHc;have hnews:∀ j u,[sV e][j]?=some u->w.cell? (ad.add j)=some u:=by
  intro j u hj
  match j,hj with
  | 0,hj=>rw [had,hx];simpa using hj
 have h1:∀ u∈[sV e],u.oneCell'=true:=by
  intro u hu;obtain rfl:u=sV e:=by simpa using hu
  rfl
 have hll:[sV e].length=1*i0.size:=by rw [hz1];rfl
 have hcap:∀ k,grownCap w (es.length+1) k 34<=9223372036854775807:=fun k=>by have:=grownCap_le_maxLen w (es.length+1) k 34 (by unfold maxLen;omega);unfold maxLen at this;omega
 have hge:∀ k,es.length+1<=grownCap w (es.length+1) k 34:=fun k=>grownCap_ge w _ k _;have hlm:(es++[e]).map sV=es.map sV++[sV e]:=by simp
 rcases h with ⟨h1',h2'⟩ | ⟨g,cap,cur,h1',hg,hc,h4,h5,h6,h7,h8⟩
 ·subst h1' h2';have hr:=run_append_nil (P:=prog) w 52 ty 34 i0 (.slice none 0 0) underlying52 hi hz0 ad 1 c [sV e] hll hnews (by omega) (by omega) (by rw [hz2];omega);obtain ⟨g1,g2,g3⟩:=bC1 [e] (grownCap w 1 0 34-1) (grownCap w 1 0 34) (by have:=hge 0;simp only [List.length_nil,Nat.zero_add] at this;simp only [List.length_singleton];omega);refine ⟨_,_,hr,Or.inr ⟨w.heap.size,_,_,rfl,hB,kBm w.drew _,hge 0,hcap 0,g1,g2,g3⟩,((kBh B w).drew).alloc hB _,fun i hi _=>heap_alloc_old w.drew _ hi,fun i hi=>Or.inr ?_⟩;exact Nat.le_of_eq (Option.some.inj hi)
 ·subst h1';have hcell:∀ j u,(es.map sV)[j]?=some u->w.cell? ((⟨g,0,none⟩:Addr).add j)=some u:=by
   intro j u hj;rw [kAq] at hj
   cases hq:es[j]? with
   | none=>rw [hq] at hj;cases hj
   | some x =>
    rw [hq] at hj;simp only [Option.map_some,oI] at hj;subst hj;have ea:((⟨g,0,none⟩:Addr).add j)=⟨g,j,none⟩:=by cases j<;>simp [Addr.add]
    rw [ea];exact (aAa hc).trans (h7 j x hq)
  by_cases hroom:es.length+1<=cap
  ·have hr:=run_append_room (P:=prog) w 52 ty 34 i0 underlying52 hi g es.length cap cur hc ad 1 c [sV e] hll hnews h1 hroom (by rw [hz1,h6];simp only [List.length_singleton];omega);have hset:cur.toList.take (es.length*i0.size)++[sV e]++cur.toList.drop (es.length*i0.size+[sV e].length)=cur.toList.set es.length (sV e):=by
    rw [hz1,Nat.mul_one,List.set_eq_take_append_cons_drop,kAg (by have:=h6;simp only [Array.length_toList];omega)];simp
   rw [hset] at hr;refine ⟨_,_,hr,Or.inr ⟨g,cap,_,by rw [lA];rfl,hg,setRow_heap w g cur _ _ _ hc,by rw [lA];exact hroom,h5,?_,fun i x hx=>?_,fun i u hu=>?_⟩,?_,fun i hi hne=>setRow_other w g i _ (fun q=>hne (by rw [q];rfl)),fun i hi=>Or.inl hi⟩
   ·rw [List.size_toArray,List.length_set,Array.length_toList,h6]
   ·rw [kAj];by_cases q:i=es.length
    ·subst q;rw [kAo (nR _),Nat.sub_self] at hx;simp only [List.getElem?_cons_zero,oI] at hx;rw [kA3 (by have:=h6;simp only [Array.length_toList];omega),hx]
    ·rw [List.getElem?_set_ne (Ne.symm q),kBe];have hlt:=(lL hx);rw [lA,List.length_singleton] at hlt;rw [kAr (by omega)] at hx;exact h7 i x hx
   ·rw [kAj] at hu;by_cases q:i=es.length
    ·subst q;rw [kA3 (by have:=h6;simp only [Array.length_toList];omega)] at hu;simp only [oI] at hu;intro z hz;rw [<-hu] at hz;cases hz
    ·rw [List.getElem?_set_ne (Ne.symm q),kBe] at hu;exact h8 i u hu
   ·exact ⟨rfl,rfl,rfl,by simp,fun i hi=>setRow_other w g i _ (by omega)⟩
  ·have hr:=run_append_grow (P:=prog) w 52 ty 34 i0 (.slice none 0 0) underlying52 hi hz0 ⟨g,0,none⟩ es.length cap (es.map sV) (by rw [hz1,kAp,Nat.mul_one]) hcell ad 1 c [sV e] hll hnews (by omega) (by omega) (growslice_fits (by omega) (by rw [hz2];omega));obtain ⟨g1,g2,g3⟩:=bC1 (es++[e]) (grownCap w (es.length+1) cap 34-(es.length+1)) (grownCap w (es.length+1) cap 34) (by have:=hge cap;rw [lA,List.length_singleton];omega);rw [hlm] at g1 g2 g3;have hta:(es.map sV++[sV e]).toArray=(es.map sV).toArray++[sV e].toArray:=by simp
   rw [hta] at g1 g2 g3;refine ⟨_,_,hr,Or.inr ⟨w.heap.size,_,_,by rw [lA];rfl,hB,kBm w.drew _,by rw [lA];exact hge cap,hcap cap,g1,g2,g3⟩,((kBh B w).drew).alloc hB _,fun i hi _=>heap_alloc_old w.drew _ hi,fun i hi=>Or.inr ?_⟩;exact Nat.le_of_eq (Option.some.inj hi)
theorem aCz {o:Oper} {a:Act} (hgd:o.guard=none) (s x:Operand) (ho:o.op=.call { callee:=.builtin .append,args:=#[s,x],argTypes:=#[52,52] })
  {B:Nat} {v:Value} {es:List SEt} {e:SEt} {b c:Nat} (hs:a.eval s=v) (hx:a.eval x=.slice (some ⟨b,0,none⟩) 1 c) (h:OutS B w v es) (hB:B<=w.heap.size) (hc:w.cell? ⟨b,0,none⟩=some (sV e)) (hl:es.length<=1000)
  (hk:∀ v' w',OutS B w' v' (es++[e])->Below B w w'->(∀ i,i<w.heap.size->v.ownBlock≠some i->w'.heap[i]?=w.heap[i]?)->(∀ i,v'.ownBlock=some i->v.ownBlock=some i\/w.heap.size<=i)->wpList prog ops Q rest (a.put o.dst v') w'):wpList prog ops Q (o::rest) a w:=by
 refine wpList_plain hgd fun K hK=>?_;obtain ⟨v',w',hr,h2,h3,h4,h5⟩:=bDv (ty:=o.type) (c:=c) h hB hc rfl hl;unfold Oper.wp execOp;simp only [ho,resolve,invoke,builtin,Sem.run_bind,Sem.run_pure,Result.andThen_ok,List.map_toArray,List.map_cons,List.map_nil,hs,hx,hr];exact hK _ _ (hk v' w' h2 h3 h4 h5)
theorem bPt:∀ a b:List Nat,cmpL a b=bAb a b
 | [],[]=>rfl
 | [],_::_=>rfl
 | _::_,[]=>rfl
 | x::a,y::b=>by
  rw [aCq,aAw]
  by_cases h:x=y
  ·subst h
   rw [kAg rfl,kAb (kBb _),kAb (kBb _)]
   exact bPt a b
  ·rw [kAb h]
   by_cases h1:x<y
   ·rw [kAg h1,kAg h1]
   ·rw [kAb h1,kAb h1,kAg (by omega)]
theorem bDd {y:Val} (hx:x.ok) (he:x.err=0) (hy:y.ok) (hf:y.err=0):bDe [x] [y]=bAb x.bytes y.bytes:=by
 have h:=bHp [] [] hx he hy hf;rw [List.append_nil,List.append_nil,bPt] at h;rw [h];rfl
theorem bKb (hx:x.ok) (he:x.err=0):0<=bAb x.bytes [1]:=by
 rcases aE8 hx he with ⟨_,p⟩ | ⟨n,_,p,_⟩ | ⟨s,rs,_,_,p,_⟩ | ⟨b,_,p⟩
 ·rw [p];decide
 ·rw [p,aAw,kAb (by omega),kAg (by omega)];decide
 ·rw [p,aAw,kAb (by omega),kAg (by omega)];decide
 ·rw [p,aAw,kAb (by omega),kAg (by omega)];decide
theorem bC7 {f:List Val->List Nat}:∀ {R:List (List Val)} {j:Nat} {x:List Val},(R.Pairwise fun a b=>bAb (f a) (f b)<0)->R[j]?=some x->(R.filter fun r=>decide (0<=bAb (f r) (f x)))=R.drop j
 | [],j,x,_,h=>by simp at h
 | r::R,0,x,hp,h=>by
  obtain rfl:r=x:=by simpa using h
  rw [List.drop_zero,List.filter_eq_self];intro a ha;refine kAc ?_;rcases kAv.1 ha with rfl | ha
  ·rw [aAu];exact Int.le_refl 0
  ·have h1:=(kAw.1 hp).1 a ha;rw [aCx] at h1;omega
 | r::R,j+1,x,hp,h=>by
  rw [List.getElem?_cons_succ] at h;have h1:=(kAw.1 hp).1 x (mG h);rw [List.filter_cons_of_neg (by simp;exact h1),List.drop_succ_cons];exact bC7 (kAw.1 hp).2 h
section
variable {cs:List Ch} {T:List Tbl} {i:Nat} {t:Tbl} {nm:ByteArray}
theorem bSu (I:Inv cs T) (h1:tAt T nm=some i) (h2:T[i]?=some t) {lo:Val} (he:lo.err=0) (hl:lo.bytes.length<=28):bBm cs T nm 0 lo vz 4=((t.rows.filter fun r=>decide (0<=bAb (fst r).bytes lo.bytes)).take 4,0):=by
 have hv:vz.err=0:=by show bAc 0 0 ⟨#[]⟩=0;decide +kernel
 rw [aJf h1 h2,kAb (by unfold bNd;simp),kAb (by rw [he,hv];simp),kAb (by decide)];have e:bBt cs i (0:Int).toNat lo vz (4:Int).toNat=((t.rows.filter fun r=>decide (0<=bAb (fst r).bytes lo.bytes)).map fun r=>⟨1,rk i (fst r),bAm r,false⟩).take 4:=by
  show bBc cs 1 ((i::0::lo.bytes).take 60) [i,1] 4=_;rw [kAh (by simp only [List.length_cons];omega),aE6,I.rows_from h2]
 rw [e,<-List.map_take,List.map_map];refine Prod.ext ?_ rfl;dsimp only;rw [List.map_congr_left (g:=id),List.map_id];intro r hr;have hro:=I.row t (at_mem h2) r (List.mem_filter.1 (kA2 hr)).1;show (bEm (bAm r)).getD []=r;rw [aIu hro.rE hro.ok];rfl
def bVh (R:List (List Val)) (m:Nat) (lo:Val):Prop:=(m=0/\lo=vz)\/(0<m/\∃ r,R[m-1]?=some r/\lo=fst r)
theorem bSl:vz.bytes=[1]:=by kernel_rfl
theorem bUd (I:Inv cs T) (h1:tAt T nm=some i) (h2:T[i]?=some t) {m:Nat} {lo:Val} (h:bVh t.rows m lo):bBm cs T nm 0 lo vz 4=((t.rows.drop (m-1)).take 4,0)/\lo.ok/\lo.2.2.size<=1048576:=by
 have hs:=I.ok t (at_mem h2);rcases h with ⟨rfl,rfl⟩ | ⟨hm,r,hr,rfl⟩
 ·have e:(t.rows.filter fun r=>decide (0<=bAb (fst r).bytes vz.bytes))=t.rows:=by
   rw [List.filter_eq_self];intro r hr;have hro:=I.row t (at_mem h2) r hr;have v:=hro.val (hro.fmem hs);rw [bSl];exact kAc (bKb v.1 v.2.1)
  rw [bSu I h1 h2 (by show bAc 0 0 ⟨#[]⟩=0;decide +kernel) (by rw [bSl];decide),e];exact ⟨rfl,by show (-9223372036854775808:Int)<=0/\_;decide,by decide⟩
 ·have hro:=I.row t (at_mem h2) r (mG hr);have v:=hro.val (hro.fmem hs);have hsm:=aB5 v.2.1 v.2.2;rw [bSu I h1 h2 v.2.1 v.2.2,bC7 (f:=fun r=>(fst r).bytes) (I.srt t (at_mem h2)) hr];exact ⟨rfl,v.1,by omega⟩
theorem bPo (I:Inv cs T) (h2:t∈T) {j k:Nat} {a b:List Val} (ha:t.rows[j]?=some a) (hb:t.rows[k]?=some b) (h:j<k):bAb (fst a).bytes (fst b).bytes<0:=by
 obtain ⟨hj,e1⟩:=kAx.1 ha;obtain ⟨hk,e2⟩:=kAx.1 hb;subst e1 e2;exact List.pairwise_iff_getElem.1 (I.srt t h2) j k hj hk h
theorem bTm (I:Inv cs T) (h2:t∈T) {j k:Nat} {a b:List Val} (ha:t.rows[j]?=some a) (hb:t.rows[k]?=some b) (h:j<k):fst b≠fst a:=by
 intro e;have:=bPo I h2 ha hb h;rw [e,aAu] at this;omega
end
theorem bSt {g b:Nat} (h:b≠g):(((w.setCell ⟨g,0,none⟩ b0).setCell ⟨g,1,none⟩ b1).setCell ⟨g,2,none⟩ b2).heap[b]?=w.heap[b]?:=by
 rw [kBf _ _ _ _ h,kBf _ _ _ _ h,kBf _ _ _ _ h]
theorem bUb {g:Nat} (h:Below B w0 w) (hg:B<=g):Below B w0 (((w.setCell ⟨g,0,none⟩ b0).setCell ⟨g,1,none⟩ b1).setCell ⟨g,2,none⟩ b2) :=
 ((h.setCell (p:=⟨g,0,none⟩) hg _).setCell (p:=⟨g,1,none⟩) hg _).setCell (p:=⟨g,2,none⟩) hg _
def rA:List Val:=[(1,1,⟨#[]⟩),(2,0,⟨#[97]⟩)]
def rB2:List Val:=[(1,2,⟨#[]⟩),(2,0,⟨#[97]⟩)]
def rC2:List Val:=[(1,1,⟨#[]⟩),(2,0,⟨#[98]⟩)]
def o1:Out:=creO [] lit
theorem o1e:o1.e=0:=by kernel_rfl
theorem o1l:([]++o1.m).length=1:=by kernel_rfl
def o2:Out:=insO o1.T ⟨#[116]⟩ rA
theorem o2e:o2.e=0:=by kernel_rfl
theorem o2l:(([]++o1.m)++o2.m).length=3:=by kernel_rfl
def o3:Out:=insO o2.T ⟨#[116]⟩ rB2
theorem o3e:o3.e=64:=by kernel_rfl
theorem o3m:o3.m=[]:=by kernel_rfl
def o4:Out:=insO o2.T ⟨#[116]⟩ rC2
theorem o4e:o4.e=63:=by kernel_rfl
theorem o4m:o4.m=[]:=by kernel_rfl
def o5:Out:=insO o2.T ⟨#[117]⟩ []
theorem o5e:o5.e=60:=by kernel_rfl
theorem tgt:(bEk o2.T ⟨#[116]⟩ (1,1,⟨#[]⟩))=(some rA,0):=by kernel_rfl
theorem bVt:(bBm (([]++o1.m)++o2.m) o2.T ⟨#[116]⟩ 1 (0,0,⟨#[]⟩) (0,0,⟨#[]⟩) 4).2=0:=by kernel_rfl
theorem bVu:(bBm (([]++o1.m)++o2.m) o2.T ⟨#[116]⟩ 1 (0,0,⟨#[]⟩) (0,0,⟨#[]⟩) 4).1.length=1:=by kernel_rfl
theorem aJ6 (k:Int) (b:ByteArray) (hk:0<=k/\k<=100000000) (hb:b.size<=100):∀ x∈([(1,k,⟨#[]⟩),(2,0,b)]:List Val),x.ok/\x.2.2.size<=1048576:=by
 intro x hx;simp only [kAv,List.not_mem_nil,or_false] at hx;rcases hx with rfl | rfl
 ·exact ⟨⟨by omega,by omega,by show _<=k;omega,by show k<=_;omega,by show (0:Nat)<=_;omega⟩,by show (0:Nat)<=_;omega⟩
 ·exact ⟨⟨by show _<=(2:Int);omega,by show (2:Int)<=_;omega,by show _<=(0:Int);omega,by show (0:Int)<=_;omega,by show b.size<=_;omega⟩,by show b.size<=_;omega⟩
theorem aIa (k:Int) (n:Int) (hn:0<=n/\n<=1) (hk:0<=k/\k<=100000000):Val.ok (n,k,⟨#[]⟩)/\(⟨#[]⟩:ByteArray).size<=1048576 :=
 ⟨⟨by show _<=n;omega,by show n<=_;omega,by show _<=k;omega,by show k<=_;omega,by show (0:Nat)<=_;omega⟩,by show (0:Nat)<=_;omega⟩
theorem bHn (v:Value) (nm:ByteArray) (ca xa:Option Addr) (cl cc xl xc:Nat) (w:World):Calls prog 30 #[.pointer none,.agg #[.string nm,.slice ca cl cc,.slice xa xl xc]] w fun e w'=>e=.returned (.int .i64 1)/\Below w.heap.size w w':=by
 have HB:=aAc (aAg w (.cells #[.string nm,.slice ca cl cc,.slice xa xl xc] 33));go_enter func30,ntmps30;go_wp2;go_ret;exact ⟨rfl,HB.o⟩
theorem bSo (w:World):Calls prog 18 #[] w fun e w'=>e=.returned (.bool true)/\Below w.heap.size w w':=by
 letI:Gd:=⟨fun _=>False⟩;have HNW:=zH (bKd w (fun _ h=>False.elim h));obtain ⟨B,hB⟩:∃ B,w.heap.size=B:=⟨_,rfl⟩;rw [hB] at HNW ⊢;have HB:=zH hB;clear hB;go_enter func18,ntmps18;go_wp2_with fail;refine HNW.o.mono ?_;rintro e w1 ⟨p,q,g,ls,db,w0,rfl,hd1,hb1⟩;have HD1:=zH hd1;clear hd1 hb1 HNW;go_wp2_with fail;refine (bCs w1).mono ?_;rintro e w2 ⟨ca,cc,xa,xc,rfl,hsc,hb2⟩;have HC:Hid (Calls prog 30 #[.pointer (some ⟨db,0,none⟩),.agg #[.string ⟨#[116]⟩,.slice ca 2 cc,.slice xa 1 xc]] w2 fun e w'=>OpR B p q g ls db (.slice none 0 0) [] w w0 w2 o1 e w'):=aJc (HD1.o.later hb2) Inv.nil (by decide) hsc;clear hsc hb2 HD1;go_wp2_with fail;refine HC.o.mono ?_;rintro e w3 ⟨v3,he,hd3,_⟩;rw [o1e] at he;subst he;have HI3:Hid (Inv ([]++o1.m) o1.T):=Inv.nil.creO lit;have HD3:=zH hd3;clear hd3 HC;go_wp2_with fail;refine (bIy 1 ⟨#[97]⟩ w3).mono ?_;rintro e w4 ⟨a4,c4,rfl,hr4,hb4⟩;have HC:Hid (Calls prog 26 #[.pointer (some ⟨db,0,none⟩),.string ⟨#[116]⟩,.slice a4 2 c4] w4 fun e w'=>OpR B p q g ls db v3 ([]++o1.m) w w0 w4 o2 e w'):=aCe (HD3.o.later hb4) HI3.o (by rw [o1l];omega) ⟨#[116]⟩ hr4 (aJ6 1 ⟨#[97]⟩ (by omega) (by decide));clear hr4 hb4 HD3;go_wp2_with fail;refine HC.o.mono ?_;rintro e w5 ⟨v5,he,hd5,_⟩;rw [o2e] at he;subst he;have HI5:Hid (Inv (([]++o1.m)++o2.m) o2.T):=HI3.o.insO ⟨#[116]⟩ fun x hx=>(aJ6 1 ⟨#[97]⟩ (by omega) (by decide) x hx).1
 have HD5:=zH hd5;clear hd5 HC HI3;go_wp2_with fail;refine (bIy 2 ⟨#[97]⟩ w5).mono ?_;rintro e w6 ⟨a6,c6,rfl,hr6,hb6⟩;have HC:Hid (Calls prog 26 #[.pointer (some ⟨db,0,none⟩),.string ⟨#[116]⟩,.slice a6 2 c6] w6 fun e w'=>OpR B p q g ls db v5 (([]++o1.m)++o2.m) w w0 w6 o3 e w'):=aCe (HD5.o.later hb6) HI5.o (by rw [o2l];omega) ⟨#[116]⟩ hr6 (aJ6 2 ⟨#[97]⟩ (by omega) (by decide));clear hr6 hb6 HD5;go_wp2_with fail;refine HC.o.mono ?_;rintro e w7 ⟨v7,he,hd7,_⟩;rw [o3e] at he;subst he;rw [o3m,List.append_nil] at hd7;have HD7:=zH hd7;clear hd7 HC;go_wp2_with fail;refine (bIy 1 ⟨#[98]⟩ w7).mono ?_;rintro e w8 ⟨a8,c8,rfl,hr8,hb8⟩;have HC:Hid (Calls prog 26 #[.pointer (some ⟨db,0,none⟩),.string ⟨#[116]⟩,.slice a8 2 c8] w8 fun e w'=>OpR B p q g ls db v7 (([]++o1.m)++o2.m) w w0 w8 o4 e w'):=aCe (HD7.o.later hb8) HI5.o (by rw [o2l];omega) ⟨#[116]⟩ hr8 (aJ6 1 ⟨#[98]⟩ (by omega) (by decide));clear hr8 hb8 HD7;go_wp2_with fail;refine HC.o.mono ?_;rintro e w9 ⟨v9,he,hd9,_⟩;rw [o4e] at he;subst he;rw [o4m,List.append_nil] at hd9;have HD9:=zH hd9;clear hd9 HC;have HC:Hid (Calls prog 24 #[.pointer (some ⟨db,0,none⟩),.string ⟨#[116]⟩,.agg #[.int .i64 1,.int .i64 1,.string ⟨#[]⟩]] w9 fun e w'=>TlR (some rA) 0 e w'/\Below w9.heap.size w9 w'):=by
  have h9:=bGt HD9.o HI5.o (by rw [o2l];omega) ⟨#[116]⟩ (x:=(1,1,⟨#[]⟩)) (aIa 1 1 (by omega) (by omega)).1 (aIa 1 1 (by omega) (by omega)).2;rw [tgt] at h9;exact h9
 go_wp2_with fail;refine HC.o.mono ?_;rintro e w10 ⟨⟨ga,gn,gc,rfl,hg⟩,hb10⟩;obtain rfl:2=gn:=hg.hl;have HG10:Hid (SVK fV 3 w10 ga 2 gc rA):=hg;have HD10:=zH (HD9.o.later hb10);clear hg hb10 HC HD9;have HC:Hid (Calls prog 21 #[.pointer (some ⟨db,0,none⟩),.string ⟨#[116]⟩,.int .i64 1,.agg #[.int .i64 0,.int .i64 0,.string ⟨#[]⟩],.agg #[.int .i64 0,.int .i64 0,.string ⟨#[]⟩],.int .i64 4] w10 fun e w'=>(∃ a k,e=.returned (.tuple #[.slice a 1 k,.int .i64 0]))/\Below w10.heap.size w10 w'):=by
  refine (bB4 HD10.o HI5.o (by rw [o2l];omega) ⟨#[116]⟩ (c:=1) (limit:=4) (lo:=(0,0,⟨#[]⟩)) (hi:=(0,0,⟨#[]⟩)) (aIa 0 0 (by omega) (by omega)) (aIa 0 0 (by omega) (by omega))).mono ?_;rintro e w' ⟨⟨a,n,k,rfl,es,hs,hl,_⟩,hb⟩;rw [bVu] at hl;obtain rfl:1=n:=by rw [<-hl];exact hs.hl
  rw [bVt];exact ⟨⟨a,k,rfl⟩,hb⟩
 go_wp2_with fail;refine HC.o.mono ?_;rintro e w11 ⟨⟨sa,sk,rfl⟩,hb11⟩;have HD11:=zH (HD10.o.later hb11);have HG11:=zH (HG10.o.later hb11);clear hb11 HC HD10 HG10;obtain ⟨gg,go,ega,_,hcell⟩:=HG11.o.pl (by omega);have c5:w11.cell? ⟨gg,go+5,none⟩=some (.string ⟨#[97]⟩):=hcell 1 _ rfl 2 (by omega);subst ega;clear hcell HG11;go_wp2_with fail;refine (bCs w11).mono ?_;rintro e w12 ⟨da,dc,ea,ec,rfl,_,hb12⟩;have HD12:=zH (HD11.o.later hb12);clear hb12 HD11 c5;have HC:=zH (bHn (.bool true) ⟨#[116]⟩ da ea 2 dc 1 ec w12);go_wp2_with fail;refine HC.o.mono ?_;rintro e w13 ⟨rfl,hb13⟩;have HD13:=zH (HD12.o.later hb13);clear hb13 HC HD12;have HC:Hid (Calls prog 26 #[.pointer (some ⟨db,0,none⟩),.string ⟨#[117]⟩,.slice none 0 0] w13 fun e w'=>OpR B p q g ls db v9 (([]++o1.m)++o2.m) w w0 w13 o5 e w'):=aCe HD13.o HI5.o (by rw [o2l];omega) ⟨#[117]⟩ (SVK.nil _ _ _) (fun x hx=>nomatch hx);go_wp2_with fail;refine HC.o.mono ?_;rintro e w14 ⟨v14,he,hd14,_⟩;rw [o5e] at he;subst he;have HBE:Hid (Below B w w14):=hd14.bel;clear hd14 HC HD13;go_wp2;go_ret;exact ⟨rfl,HBE.o⟩
def TbD [Gd] (B p q g ls db:Nat) (W w0:World) (N:Nat) (T:List Tbl) (w:World):Prop:=∃ v cs,DR B p q g ls db v cs W w0 w/\Inv cs T/\cs.length<=N
section
variable [Gd] {B p q g ls db N:Nat} {W w0 w w':World} {T:List Tbl}
theorem TbD.bel (h:TbD B p q g ls db W w0 N T w):Below B W w:=by
 obtain ⟨v,cs,h1,h2,h3⟩:=h;exact h1.bel
end
structure WK (B1 G:Nat) (w:World) (v:Value) (es:List SEt) (R:List (List Val)) (lo:Val) (wx:World):Prop where
 o:OutS B1 wx v es
 r:RWv wx es R
 g:wx.heap[G]?=some (.cells #[.int .i64 lo.1,.int .i64 lo.2.1,.string lo.2.2] 36 (0,0))
 b:Below B1 w wx
 q:∀ e∈es,∀ ad,e.1=some ad->G<ad.block
structure WKL (G:Nat) (a:Option Addr) (n k:Nat) (es2:List SEt) (L:List (List Val)) (v:Value) (wx:World):Prop where
 s:SVK fS 1 wx a n k es2
 r:RWv wx es2 L
 f:∀ ad,a=some ad->v.ownBlock≠some ad.block
 q:∀ e∈es2,∀ ad,e.1=some ad->G<ad.block
section
variable {B1 G n k:Nat} {w wx wy:World} {v v':Value} {es es2:List SEt} {R L:List (List Val)} {lo:Val} {a:Option Addr}
theorem OutS.blt (h:OutS B1 wx v es) (hv:v.ownBlock=some i):B1<=i/\i<wx.heap.size/\∃ cur,wx.heap[i]?=some (.cells cur 34 (0,0)):=by
 rcases h with ⟨h1,_⟩ | ⟨g,cap,cur,h1,h2,h3,_⟩
 ·rw [h1] at hv;cases hv
 ·rw [h1] at hv;obtain rfl:g=i:=Option.some.inj hv;exact ⟨h2,aAe h3,cur,h3⟩
theorem WK.later (h:WK B1 G w v es R lo wx) (hb:Below wx.heap.size wx wy) (hB:B1<=wx.heap.size):WK B1 G w v es R lo wy :=
 ⟨h.o.later hb,h.r.later hb,(hb.block G (aAe h.g)).trans h.g,h.b.trans (hb.mono hB),h.q⟩
theorem WKL.later (h:WKL G a n k es2 L v wx) (hb:Below wx.heap.size wx wy):WKL G a n k es2 L v wy:=⟨h.s.later hb,h.r.later hb,h.f,h.q⟩
theorem WK.app {e:SEt} {r:List Val} (h:WK B1 G w v es R lo wx) (ho:OutS B1 wy v' (es++[e])) (hb:Below B1 wx wy) (hk:∀ i,i<wx.heap.size->v.ownBlock≠some i->wy.heap[i]?=wx.heap[i]?) (he:SVK fV 3 wx e.1 e.2.1 e.2.2 r) (hr:R[es.length]?=some r) (hq:∀ ad,e.1=some ad->G<ad.block):WK B1 G w v' (es++[e]) R lo wy:=by
 refine ⟨ho,fun i x q h1 h2=>?_,?_,h.b.trans hb,fun x hx ad had=>?_⟩
 ·by_cases hi:i<es.length
  ·rw [kAr hi] at h1;exact h.o.vals hb.size hk (h.r i x q h1 h2)
  ·have h3:=(lL h1);rw [lA,List.length_singleton] at h3;obtain rfl:i=es.length:=by omega
   rw [kAo (nR _),Nat.sub_self] at h1;simp only [List.getElem?_cons_zero,oI] at h1;subst h1;rw [hr] at h2;cases h2;exact h.o.vals hb.size hk he
 ·rw [hk G (aAe h.g) ?_,h.g];intro q;obtain ⟨_,_,cur,h3⟩:=h.o.blt q;rw [h.g] at h3;simp only [oI,cI] at h3;exact absurd h3.2.1 (by decide)
 ·rcases kAz.1 hx with hx | hx
  ·exact h.q x hx ad had
  ·obtain rfl:x=e:=kA5.1 hx;exact hq ad had
theorem WK.low {lo':Val} (h:WK B1 G w v es R lo wx) (hG:B1<=G):WK B1 G w v es R lo' (((wx.setCell ⟨G,0,none⟩ (.int .i64 lo'.1)).setCell ⟨G,1,none⟩ (.int .i64 lo'.2.1)).setCell ⟨G,2,none⟩ (.string lo'.2.2)):=by
 have hs:=(bUb (b0:=.int .i64 lo'.1) (b1:=.int .i64 lo'.2.1) (b2:=.string lo'.2.2) (kBh B1 wx) hG);refine ⟨h.o.keep fun i hi _=>bSt ?_,fun i e r h1 h2=>?_,bQj h.g,h.b.trans hs,h.q⟩
 ·rintro rfl;obtain ⟨_,_,cur,h3⟩:=h.o.blt hi;rw [h.g] at h3;simp only [oI,cI] at h3;exact absurd h3.2.1 (by decide)
 ·have h3:=h.r i e r h1 h2;refine ⟨h3.hl,h3.hc,h3.hm,h3.hn,fun h0=>?_⟩;obtain ⟨b,o,e1,e2,e3⟩:=h3.pl h0;have h4:=h.q e (mG h1) _ e1;exact ⟨b,o,e1,kAi e2 hs.size,fun j x hx t ht=>(kBp (bSt (by show b≠G;exact Nat.ne_of_gt h4))).trans (e3 j x hx t ht)⟩
theorem WKL.app (h:WKL G a n k es2 L v wx) (ho:OutS B1 wx v es) (hb:Below B1 wx wy) (hk:∀ i,i<wx.heap.size->v.ownBlock≠some i->wy.heap[i]?=wx.heap[i]?) (hv:∀ i,v'.ownBlock=some i->v.ownBlock=some i\/wx.heap.size<=i) (hn:0<n):WKL G a n k es2 L v' wy:=by
 obtain ⟨b,o,ha,hlt,hc⟩:=h.s.pl hn;refine ⟨⟨h.s.hl,h.s.hc,h.s.hm,h.s.hn,fun _=>⟨b,o,ha,kAi hlt hb.size,fun i x hx t ht=>?_⟩⟩,fun i x q h1 h2=>ho.vals hb.size hk (h.r i x q h1 h2),fun ad had=>?_,h.q⟩
 ·exact (kBp (hk b hlt (h.f _ ha))).trans (hc i x hx t ht)
 ·intro q;rcases hv _ q with h1 | h1
  ·exact h.f ad had h1
  ·rw [ha] at had;cases had;exact absurd h1 (by show ¬ wx.heap.size<=b;omega)
end
def WkI (len i m:Nat):Prop:=(i=0/\m=0)\/(0<i/\i<=21/\m=min len (3*i+1)/\0<len)
theorem WkI.le (h:WkI len i m):i<=21/\m<=len:=by
 rcases h with ⟨h1,h2⟩ | ⟨h1,h2,h3,h4⟩<;>omega
theorem WkI.next {m':Nat} (h:WkI len i m) (hl:len<=64) (hn:n=min 4 (len-(m-1))) (hm:m'=max m (m-1+n)) (hne:m'≠m):WkI len (i+1) m'/\m<m'/\m'<=len:=by
 rcases h with ⟨rfl,rfl⟩ | ⟨h1,h2,h3,h4⟩
 ·refine ⟨Or.inr ?_,?_,?_⟩<;>omega
 ·refine ⟨Or.inr ?_,?_,?_⟩<;>omega
theorem WkI.end_ {m':Nat} (h:WkI len i m) (hn:n=min 4 (len-(m-1))) (hm:m'=max m (m-1+n)) (he:m'=m):m=len:=by
 rcases h with ⟨rfl,rfl⟩ | ⟨h1,h2,h3,h4⟩<;>omega
theorem take1 {r:List Val} (h:r[0]?=some x):r.take 1=[x]:=by
 cases r with
 | nil=>cases h
 | cons a l =>
  obtain rfl:a=x:=by simpa using h
  rfl
theorem bTu {x1 y1 x2 y2:Int} {x3 y3:ByteArray} (h:¬ ((x1,x2,x3):Val)=(y1,y2,y3)):x1=y1->x2=y2->¬ x3.toList=y3.toList:=by
 intro a b c;have d:(x3.toList == y3.toList)=true:=by rw [c];exact beq_self_eq_true _
 rw [bPv] at d;exact h (by rw [a,b,of_decide_eq_true d])
theorem aF2 [Gd] {q g:Nat} {t:Tbl} (h:TbD B p q g ls db W w0 N T w) (hN:N<=990) (h1:tAt T nm=some i) (h2:T[i]?=some t) :
  Calls prog 20 #[.pointer (some ⟨db,0,none⟩),.string nm,.int .i64 0] w fun e w'=>(∃ a c,e=.returned (.tuple #[.slice a t.rows.length c,.bool true])/\RWn w.heap.size w' a t.rows.length c t.rows)/\Below w.heap.size w w':=by
 obtain ⟨vD,cs,hd,I,hcl⟩:=h;obtain ⟨B1,hB1⟩:∃ B1,w.heap.size=B1:=⟨_,rfl⟩;obtain ⟨len,hlen⟩:∃ n,t.rows.length=n:=⟨_,rfl⟩;have HSC:Hid (∀ (ww:World) (lo:Val) (m:Nat),Below B1 w ww->bVh t.rows m lo->Calls prog 21 #[.pointer (some ⟨db,0,none⟩),.string nm,.int .i64 0,.agg #[.int .i64 lo.1,.int .i64 lo.2.1,.string lo.2.2],.agg #[.int .i64 0,.int .i64 0,.string ⟨#[]⟩],.int .i64 4] ww fun e w'=>(∃ a n k,e=.returned (.tuple #[.slice a n k,.int .i64 0])/\RWn ww.heap.size w' a n k ((t.rows.drop (m-1)).take 4))/\Below ww.heap.size ww w'):=by
  intro ww lo m hb hwk;obtain ⟨e1,e2,e3⟩:=bUd I h1 h2 hwk;have h9:=bB4 (limit:=4) (hi:=vz) (c:=0) (hd.later (by rw [hB1];exact hb)) I (by omega) nm ⟨e2,e3⟩ (aIa 0 0 (by omega) (by omega));rw [e1] at h9;exact h9
 have HL64:Hid (len<=64):=by show len<=64;rw [<-hlen];exact I.cnt t (at_mem h2)
 have HRO:Hid (∀ (j:Nat) r,t.rows[j]?=some r->(fst r).ok/\(fst r).err=0/\(fst r).2.2.size<=1048576/\0<r.length/\r.length<=3/\r[0]?=some (fst r)):=by
  intro j r hr;have hs:=I.ok t (at_mem h2);have hro:=I.row t (at_mem h2) r (mG hr);have hv:=hro.val (hro.fmem hs);have hp:=hro.pos hs;have:=aB5 hv.2.1 hv.2.2;refine ⟨hv.1,hv.2.1,by omega,hp,by rw [hro.len];exact (Sch.c3 hs).2,?_⟩;rw [gE hp];unfold fst;rw [kAa,gE hp];rfl
 have HLT9:Hid (∀ j k a b,t.rows[j]?=some a->t.rows[k]?=some b->j<k->bAb (fst a).bytes (fst b).bytes<0/\fst b≠fst a):=fun j k a b ha hb hjk=>⟨bPo I (at_mem h2) ha hb hjk,bTm I (at_mem h2) ha hb hjk⟩;have HLN:Hid (t.rows.length=len):=hlen;have HTRUE:Hid ((fun _:World=>True) w):=trivial;obtain ⟨wa,hwa⟩:∃ wa,wa=w.alloc (.cells #[.int .i64 0,.int .i64 0,.string ⟨#[]⟩] 36):=⟨_,rfl⟩;have hbx:Below B1 w wa:=by rw [hwa,<-hB1];exact aAg w _
 have hgx:wa.heap[B1]?=some (.cells #[.int .i64 0,.int .i64 0,.string ⟨#[]⟩] 36 (0,0)):=by rw [hwa,<-hB1];exact boxed w _
 have HWA:=aAc hwa;rw [hB1,hlen];clear hd I hcl h1 h2 hN hlen hwa;generalize t.rows=R at *;have HWK0:Hid (WK B1 B1 w (.slice none 0 0) [] R vz wa):=⟨Or.inl ⟨rfl,rfl⟩,(fun q e r q1=>by simp at q1),hgx,hbx,fun e he=>by cases he⟩;clear hbx hgx;go_enter func20,ntmps20;go_upto_region 3 with fail;rw [<-HWA.o]
 try simp only [hB1]
 clear HWA hB1;go_wp2_with fail;go_loopg [8,10] 70 (fun gh s8 s10 wx=>∃ (i m:Nat) (es:List SEt) (lo:Val) (a8:Option Addr) (c8:Nat),i+gh=70/\s10=.int .i64 (i:Int)/\s8=.slice a8 m c8/\es.length=m/\bVh R m lo/\WkI len i m/\WK B1 B1 w (.slice a8 m c8) es R lo wx)
 case atStart=>exact ⟨0,0,[],vz,none,0,by omega,rfl,rfl,rfl,Or.inl ⟨rfl,rfl⟩,Or.inl ⟨rfl,rfl⟩,HWK0.o⟩
 case round =>
  obtain ⟨i,m,es,lo,a8,c8,hi,rfl,rfl,hem,hat,hwi,hwk⟩:=hrel;obtain ⟨lk,ln,lt⟩:=lo;have HI:=aAc hi;have HEM:=aAc hem;have HAT:=aAc hat;have HWI:=aAc hwi;have HWKo:=aAc hwk;have xi:(i:Int)<70:=by have:=hwi.le;omega
  have HLE:Hid (m<=len/\len<=64):=⟨hwi.le.2,HL64.o⟩;have c0:wr.cell? ⟨B1,0,none⟩=some (.int .i64 lk):=aAa hwk.g;have c1:wr.cell? ⟨B1,1,none⟩=some (.int .i64 ln):=aAa hwk.g;have c2:wr.cell? ⟨B1,2,none⟩=some (.string lt):=aAa hwk.g;have hsc:=HSC.o wr (lk,ln,lt) m hwk.b hat;have HSCr:=aAc hsc;clear hi hem hat hwi hwk hsc HWK0;go_wp2_with fail;refine HSCr.o.mono ?_;rintro e w1 ⟨⟨a,n,kc,rfl,es2,hs2,hl2,hv2,hf2,hq2⟩,hb1⟩;obtain ⟨L,hL⟩:∃ L,(R.drop (m-1)).take 4=L:=⟨_,rfl⟩;rw [hL] at hl2 hv2;have HNL:Hid (n=min 4 (len-(m-1))):=by
   show n=_;rw [<-hs2.hl,hl2,<-hL,kAt,kAk,HLN.o]
  have HLI:Hid (∀ (k:Nat),k<n->L[k]?=R[m-1+k]?):=by
   intro k hk;rw [<-hL,kBd (by have:=HNL.o;omega),List.getElem?_drop]
  have HSo:Hid (B1<wr.heap.size):=aAe HWKo.o.g;have HWK1:=aAc (HWKo.o.later hb1 (kAe HSo.o));have HWL1:Hid (WKL B1 a n kc es2 L (.slice a8 m c8) w1):=⟨hs2,hv2,(fun ad had q=>by have h7:=(HWKo.o.o.blt q).2.1;have h8:=hf2 ad had;omega),fun e he ad had=>kAi HSo.o (hq2 e he ad had)⟩;have HES2:Hid (es2.length=n):=hs2.hl;have xn1:(n:Int)<=9223372036854775807:=by have:=HNL.o;omega
  have HM64:Hid (m<=64/\n<=4):=by have:=HLE.o;have:=HNL.o;exact ⟨by omega,by omega⟩
  clear hs2 hl2 hv2 hf2 hq2 hb1 hL HSCr c0 c1 c2 HWKo HSo;go_wp2_with fail;go_loopg [8,14] n (fun gh s8 s14 wx=>∃ (k mm:Nat) (es3:List SEt) (a9:Option Addr) (c9:Nat),k+gh=n/\s14=.int .i64 (k:Int)/\s8=.slice a9 mm c9/\es3.length=mm/\mm=max m (m-1+k)/\WK B1 B1 w (.slice a9 mm c9) es3 R (lk,ln,lt) wx/\WKL B1 a n kc es2 L (.slice a9 mm c9) wx)
  case atStart=>exact ⟨0,m,es,a8,c8,by omega,rfl,rfl,HEM.o,by omega,HWK1.o,HWL1.o⟩
  case round =>
   obtain ⟨k,mm,es3,a9,c9,hk,rfl,rfl,hem3,hmm,hwk3,hwl3⟩:=hrel;have HEM3:=aAc hem3;have HMM:=aAc hmm;have HWKr:=aAc hwk3;have HWLr:=aAc hwl3;have HSr:Hid (B1<wr.heap.size):=aAe hwk3.g;have xm9:(mm:Int)<=9223372036854775807:=by have:=HM64.o;omega
   have HK9:=aAc hk;clear hem3 hwk3 hwl3 HWK1 HWL1 hk;by_cases hkn:k<n
   ·have HK3:Hid (k<n/\n<=4/\n<=len-(m-1)):=by have:=HNL.o;exact ⟨hkn,by omega,by omega⟩
    have HNP:Hid (0<n):=by show 0<n;omega
    have xk:(k:Int)<(n:Int):=by omega
    have xk0:(0:Int)<=(k:Int):=by omega
    obtain ⟨e2,he2⟩:∃ e,es2[k]?=some e:=⟨_,gE (by rw [HES2.o];exact hkn)⟩;obtain ⟨r,hr⟩:∃ r,R[m-1+k]?=some r:=⟨_,gE (by rw [HLN.o];have:=HK3.o;omega)⟩;have HRJ:=aAc hr;have HRR:=aAc (HRO.o _ _ hr);obtain ⟨lb,lp,ea,hlb,hlc⟩:=HWLr.o.s.pl HNP.o;have hsr:=HWLr.o.r k e2 r he2 ((HLI.o k hkn).trans hr);have hpos:0<e2.2.1:=by rw [<-hsr.hl];exact HRR.o.2.2.2.1
    obtain ⟨xb,xo,ex,hxb,hxc⟩:=hsr.pl hpos;have HXQ0:=HWLr.o.q e2 (mG he2);obtain ⟨ea2,xn,xc⟩:=e2;dsimp only at ex hsr hpos HXQ0;subst ea ex;have HXQ:Hid (∀ ad,((some ⟨xb,xo,none⟩,xn,xc):SEt).1=some ad->B1<ad.block):=HXQ0;have HCK:Hid (∀ {v:Value} (wx:World),WKL B1 (some ⟨lb,lp,none⟩) n kc es2 L v wx->wx.cell? ⟨lb,lp+k,none⟩=some (.slice (some ⟨xb,xo,none⟩) xn xc)):=fun wx hw=>by
     obtain ⟨lb2,lp2,ea2,_,hlc2⟩:=hw.s.pl HNP.o;cases ea2;have:=hlc2 k _ he2 0 (by omega);rw [Nat.mul_one,Nat.add_zero] at this;exact this
    have d0:wr.cell? ⟨lb,lp+k,none⟩=some (.slice (some ⟨xb,xo,none⟩) xn xc):=HCK.o _ HWLr.o;obtain ⟨⟨x1,x2,x3⟩,hx⟩:∃ x,fst r=x:=⟨_,rfl⟩;have d1:wr.cell? ⟨xb,xo,none⟩=some (.int .i64 x1):=by have:=hxc 0 _ HRR.o.2.2.2.2.2 0 (by omega);rw [hx] at this;exact this
    have d2:wr.cell? ⟨xb,xo+1,none⟩=some (.int .i64 x2):=by have:=hxc 0 _ HRR.o.2.2.2.2.2 1 (by omega);rw [hx] at this;exact this
    have d3:wr.cell? ⟨xb,xo+2,none⟩=some (.string x3):=by have:=hxc 0 _ HRR.o.2.2.2.2.2 2 (by omega);rw [hx] at this;exact this
    have HX:=aAc hx;have HSRr:=aAc hsr;have HXN:=aAc hpos;have gx1:(0:Int)<(xn:Int):=by omega
    have gx1n:0<xn:=hpos;have gx2:(1:Int)<=(xc:Int):=by have:=hsr.hc;omega
    have gx3:(xc:Int)<=9223372036854775807:=by have:=hsr.hm;omega
    have gkc:(n:Int)<=(kc:Int):=by have:=HWLr.o.s.hc;omega
    clear hr he2 hlb hlc hsr hpos hxb hxc hx HXQ0;by_cases hm0:m=0
    ·have g0:decide ((0:Int)<(m:Int))=false:=kAd (by omega);have g0n:decide (0<m)=false:=kAd (by omega);have g1:¬ (0:Int)<(m:Int):=by omega
     have HM0:=aAc hm0;by_cases hk0:k=0
     ·have HMK:Hid (mm=m-1+k):=by have:=HMM.o;show mm=_;omega
      have HRI:Hid (R[es3.length]?=some r):=by show _=_;rw [HEM3.o,HMK.o];exact HRJ.o
      have gm:decide ((0:Int)<(mm:Int))=false:=kAd (by have:=HMM.o;omega);have gmn:decide (0<mm)=false:=kAd (by have:=HMM.o;omega);have gm2:¬ (0:Int)<(mm:Int):=by have:=HMM.o;omega
      clear hm0 hk0 hmm;have HWKd:=aAc (HWKr.o.later (kBh _ _).drew (kAe HSr.o));have HWLd:=aAc (HWLr.o.later (kBh _ _).drew);have HSRd:=aAc (HSRr.o.later (kBh _ _).drew);have HSd:Hid (B1<wr.drew.heap.size):=HSr.o;clear d0 d1 d2 d3;go_upto_region 13 with fail;refine kBj ?_;refine kBi (S:=fun wx=>True) (by kernel_rfl) HTRUE.o (fun hHeld=>?_);generalize wr.drew=wd at *;refine aAb 0 39 ?_;refine aAb 1 40 ?_;refine aAb 2 41 ?_;refine aAj 3 42 ?_;refine aAj 4 43 ?_;refine aAj 5 44 ?_;refine aAj 6 45 ?_;refine aAj 7 46 ?_;refine aAj 8 47 ?_;refine aAj 9 48 ?_;refine aAj 10 49 ?_;refine aAj 11 50 ?_;refine aAj 12 51 ?_;refine aAj 13 52 ?_;refine aAj 14 53 ?_;refine aAj 15 54 ?_;refine aAj 16 55 ?_;refine aAb 17 56 ?_;refine kBn (by kernel_rfl) ?_ _;refine kBk ?_;clear hHeld;clear HWKr HWLr HSRr HSr;go_wp2_with fail;have HWK9:=aAc (HWKd.o.later (kBh _ _).drew (kAe HSd.o));have HWL9:=aAc (HWLd.o.later (kBh _ _).drew);have HSR9:=aAc (HSRd.o.later (kBh _ _).drew);have HS9:Hid (B1<wd.drew.heap.size):=HSd.o;go_upto_region 14 with fail;refine kBj ?_;refine kBi (S:=fun wx=>True) (by kernel_rfl) HTRUE.o (fun hHeld=>?_);generalize wd.drew=w9 at *;refine aAb 0 57 ?_;refine aAb 1 58 ?_;refine aAb 2 59 ?_;refine aAb 3 60 ?_;refine aAj 4 61 ?_;refine aAj 5 62 ?_;refine aAj 6 63 ?_;refine aAj 7 64 ?_;refine aAj 8 65 ?_;refine aAj 9 66 ?_;refine aAj 10 67 ?_;refine aAj 11 68 ?_;refine aAj 12 69 ?_;refine aAj 13 70 ?_;refine aAj 14 71 ?_;refine aAj 15 72 ?_;refine aAj 16 73 ?_;refine aAj 17 74 ?_;refine aAb 18 75 ?_;refine kBn (by kernel_rfl) ?_ _;refine kBk ?_;clear hHeld;clear HWKd HWLd HSRd HSd;have cc:w9.cell? ⟨lb,lp+k,none⟩=some (.slice (some ⟨xb,xo,none⟩) xn xc):=HCK.o _ HWL9.o;have hbz:=aAg w9 (.cells #[.slice (some ⟨xb,xo,none⟩) xn xc] 34);have HWKA:=aAc (HWK9.o.later hbz (kAe HS9.o));have HWLA:=aAc (HWL9.o.later hbz);have HSA:=aAc (HSR9.o.later hbz);have HPA:Hid ((w9.alloc (.cells #[.slice (some ⟨xb,xo,none⟩) xn xc] 34)).cell? ⟨w9.heap.size,0,none⟩=some (sV ((some ⟨xb,xo,none⟩,xn,xc):SEt))):=aAa (boxed w9 _);have HBA:Hid (B1<=(w9.alloc (.cells #[.slice (some ⟨xb,xo,none⟩) xn xc] 34)).heap.size):=nT (kAe HS9.o) hbz.size;clear hbz;go_upto_region 16 with fail;go_wp2_with (at_builtin;refine aCz rfl (.tmp 76) (.tmp 81) rfl (B:=B1) (es:=es3) (e:=((some ⟨xb,xo,none⟩,xn,xc):SEt)) rfl rfl HWKA.o.o HBA.o HPA.o (by have:=HEM3.o;have:=HMM.o;have:=HK3.o;have:=HLE.o;omega) ?_;intro v6 w6 ho6 hb6 hk6 hv6;have HWK6:=aAc (HWKA.o.app ho6 hb6 hk6 HSA.o HRI.o HXQ.o);have HWL6:=aAc (HWLA.o.app HWKA.o.o hb6 hk6 hv6 HNP.o);clear ho6 hb6 hk6 hv6);clear cc;obtain ⟨a6,c6,e6,_⟩:=HWK6.o.o.form;rw [lA,List.length_singleton,HEM3.o] at e6;subst e6;go_wp2;go_roundg (n-(k+1))
      case measure=>(have:=HK9.o;have:=HK3.o.1;omega)
      case rel=>exact ⟨k+1,mm+1,es3++[((some ⟨xb,xo,none⟩,xn,xc):SEt)],a6,c6,by have:=HK3.o;omega,rfl,rfl,by rw [lA,List.length_singleton,HEM3.o],by have:=HMM.o;have:=HMK.o;omega,HWK6.o,HWL6.o⟩
     ·have HMK:Hid (mm=m-1+k/\0<k):=by have:=HMM.o;exact ⟨by omega,by omega⟩
      have HRI:Hid (R[es3.length]?=some r):=by show _=_;rw [HEM3.o,HMK.o.1];exact HRJ.o
      clear hm0 hk0 hmm;obtain ⟨j1,hj1⟩:∃ j,mm=j+1:=⟨mm-1,by have:=HMM.o;have:=HMK.o;omega⟩;have HJ1:=aAc hj1;obtain ⟨e1,he1⟩:∃ e,es3[j1]?=some e:=⟨_,gE (by rw [HEM3.o];omega)⟩;obtain ⟨y,hy⟩:∃ y,R[j1]?=some y:=⟨_,gE (by rw [HLN.o];have:=HLE.o;have:=HMM.o;have:=HK3.o;omega)⟩;have HY:=aAc (HRO.o _ _ hy);have hsy:=HWKr.o.r j1 e1 y he1 hy;obtain ⟨zb,zo,ez,_,_⟩:=hsy.pl (by rw [<-hsy.hl];exact HY.o.2.2.2.1);obtain ⟨ez1,zn,zc⟩:=e1;dsimp only at ez hsy;subst ez;have hzn:0<zn:=by have:=hsy.hl;have:=HY.o.2.2.2.1;omega
      have hzc:zn<=zc:=hsy.hc;have HZM:Hid ((zc:Int)<=9223372036854775807):=by have:=hsy.hm;show (zc:Int)<=9223372036854775807;omega
      obtain ⟨a9b,c9b,e9,_,_,_,hp9⟩:=HWKr.o.o.form;simp only [kBl] at e9;obtain ⟨rfl,zz,rfl⟩:=e9;clear zz;obtain ⟨ob,eo,_,hoc⟩:=hp9 (by rw [HEM3.o];omega);subst eo;have HZO:Hid (∀ wx,WK B1 B1 w (.slice (some ⟨ob,0,none⟩) mm c9) es3 R (lk,ln,lt) wx->wx.cell? ⟨ob,j1,none⟩=some (.slice (some ⟨zb,zo,none⟩) zn zc)):=fun wx hw=>by
       obtain ⟨a9c,c9c,e9c,_,_,_,hp9c⟩:=hw.o.form;simp only [kBl] at e9c;obtain ⟨rfl,zz,rfl⟩:=e9c;clear zz;obtain ⟨ob2,eo2,_,hoc2⟩:=hp9c (by rw [HEM3.o];omega);cases eo2;exact hoc2 j1 _ he1
      have HLX:=aAc (HLT9.o j1 (m-1+k) y r hy HRJ.o (by have:=HMM.o;have:=HMK.o;omega));obtain ⟨cz,hcz⟩:∃ z:Int,bAb (fst y).bytes (fst r).bytes=z:=⟨_,rfl⟩;have HCT:Hid (∀ wx,WK B1 B1 w (.slice (some ⟨ob,0,none⟩) mm c9) es3 R (lk,ln,lt) wx->SVK fV 3 wx (some ⟨xb,xo,none⟩) xn xc r->Calls prog 22 #[.slice (some ⟨zb,zo,none⟩) 1 zc,.slice (some ⟨xb,xo,none⟩) 1 xc] wx fun e w'=>e=.returned (.int .i64 cz)/\Below wx.heap.size wx w'):=fun wx hw hx=>by
       have h1:=(hw.r j1 _ y he1 hy).take (n:=1) hzn;have h2:=hx.take (n:=1) HXN.o;have ey:y.take 1=[fst y]:=take1 HY.o.2.2.2.2.2;have er:r.take 1=[fst r]:=take1 HRR.o.2.2.2.2.2;rw [ey] at h1;rw [er] at h2;have h3:=aEx _ _ 1 zc 1 xc [fst y] [fst r] wx (h1.vs (by omega) (fun x hx=>by rw [kA5.1 hx];exact HY.o.1)) (h2.vs (by omega) (fun x hx=>by rw [kA5.1 hx];exact HRR.o.1)) (fun x hx=>by rw [kA5.1 hx];exact HY.o.2.1) (fun x hx=>by rw [kA5.1 hx];exact HRR.o.2.1) (fun x hx=>by rw [kA5.1 hx];exact HY.o.2.2.1) (fun x hx=>by rw [kA5.1 hx];exact HRR.o.2.2.1);rw [bDd HY.o.1 HY.o.2.1 HRR.o.1 HRR.o.2.1,hcz] at h3;exact h3
      have gz:¬ (0:Int)<=cz:=by have:=HLX.o.1;rw [hcz] at this;omega
      have gz2:decide ((0:Int)<=cz)=false:=kAd gz;have gm:decide ((0:Int)<(mm:Int))=true:=kAc (by omega);have gmn:decide (0<mm)=true:=kAc (by omega);have gm2:(0:Int)<(mm:Int):=by omega
      have gw:IntKind.i64.wrap ((mm:Int)-1)=(j1:Int):=by rw [IntKind.wrap_i64];have:=HM64.o;omega
      have gj0:(0:Int)<=(j1:Int):=by omega
      have gj1:(j1:Int)<(mm:Int):=by omega
      have gzn:(1:Int)<=(zc:Int):=by omega
      clear hj1 he1 hy hsy hzn hzc hp9 hoc hcz;have HWKd:=aAc (HWKr.o.later (kBh _ _).drew (kAe HSr.o));have HWLd:=aAc (HWLr.o.later (kBh _ _).drew);have HSRd:=aAc (HSRr.o.later (kBh _ _).drew);have HSd:Hid (B1<wr.drew.heap.size):=HSr.o;clear d0 d1 d2 d3;go_upto_region 13 with fail;refine kBj ?_;refine kBi (S:=fun wx=>True) (by kernel_rfl) HTRUE.o (fun hHeld=>?_);generalize wr.drew=wd at *;refine aAb 0 39 ?_;refine aAb 1 40 ?_;refine aAb 2 41 ?_;refine aAj 3 42 ?_;refine aAj 4 43 ?_;refine aAj 5 44 ?_;refine aAj 6 45 ?_;refine aAj 7 46 ?_;refine aAj 8 47 ?_;refine aAj 9 48 ?_;refine aAj 10 49 ?_;refine aAj 11 50 ?_;refine aAj 12 51 ?_;refine aAj 13 52 ?_;refine aAj 14 53 ?_;refine aAj 15 54 ?_;refine aAj 16 55 ?_;refine aAb 17 56 ?_;refine kBn (by kernel_rfl) ?_ _;refine kBk ?_;clear hHeld;clear HWKr HWLr HSRr HSr;have HWKe:=aAc (HWKd.o.later (kBh _ _).drew (kAe HSd.o));have HWLe:=aAc (HWLd.o.later (kBh _ _).drew);have HSRe:=aAc (HSRd.o.later (kBh _ _).drew);have HSe:Hid (B1<wd.drew.heap.size):=HSd.o;have z0:wd.drew.cell? ⟨ob,j1,none⟩=some (.slice (some ⟨zb,zo,none⟩) zn zc):=HZO.o _ HWKe.o;have z1:wd.drew.cell? ⟨lb,lp+k,none⟩=some (.slice (some ⟨xb,xo,none⟩) xn xc):=HCK.o _ HWLe.o;have HX14:Hid ((fun wx:World=>wx.cell? ⟨ob,j1,none⟩=some (.slice (some ⟨zb,zo,none⟩) zn zc)/\wx.cell? ⟨lb,lp+k,none⟩=some (.slice (some ⟨xb,xo,none⟩) xn xc)) wd.drew):=⟨z0,z1⟩;have HLTe:Hid (ob<wd.drew.heap.size/\lb<wd.drew.heap.size):=⟨aAn z0,aAn z1⟩;have HCTe:=aAc (HCT.o _ HWKe.o HSRe.o);clear z0 z1;go_upto_region 14 with fail;refine kBj ?_;refine kBi (S:=fun wx=>wx.cell? ⟨ob,j1,none⟩=some (.slice (some ⟨zb,zo,none⟩) zn zc)/\wx.cell? ⟨lb,lp+k,none⟩=some (.slice (some ⟨xb,xo,none⟩) xn xc)) (by kernel_rfl) HX14.o (fun hHeld=>?_);generalize wd.drew=we at *
      refine aAb 0 57 ?_;refine aAb 1 58 ?_;refine aAb 2 59 ?_;refine aAb 3 60 ?_;refine aAb 4 61 ?_;refine aAb 5 62 ?_;refine aAb 6 63 ?_;refine aAb 7 64 ?_;refine aAb 8 65 ?_;refine aAb 9 66 ?_;refine aAb 10 67 ?_;refine aAb 11 68 ?_;refine aAb 12 69 ?_;refine aAb 13 70 ?_;refine aAb 14 71 ?_;refine aAb 15 72 ?_;refine aAf 16 ?_;intro K hK;go_simp;refine HCTe.o.mono ?_;rintro e w9 ⟨rfl,hb9⟩;have HWK9:=aAc (HWKe.o.later hb9 (kAe HSe.o));have HWL9:=aAc (HWLe.o.later hb9);have HSR9:=aAc (HSRe.o.later hb9);have HS9:Hid (B1<w9.heap.size):=kAi HSe.o hb9.size;have HC9:Hid ((fun wx:World=>wx.cell? ⟨ob,j1,none⟩=some (.slice (some ⟨zb,zo,none⟩) zn zc)/\wx.cell? ⟨lb,lp+k,none⟩=some (.slice (some ⟨xb,xo,none⟩) xn xc)) w9):=⟨(hb9.cell HLTe.o.1).trans HX14.o.1,(hb9.cell HLTe.o.2).trans HX14.o.2⟩;clear hb9 hHeld;refine hK.out _ _ HC9.o (fun hHeld=>?_);clear hK K
      try simp only [Act.put,siT,scZ,scS]
      refine aAb 17 74 ?_;refine aAb 18 75 ?_;refine kBn (by kernel_rfl) ?_ _;refine kBk ?_;clear hHeld;clear HWKd HWLd HSRd HSd;clear HWKe HWLe HSRe HSe;have cc:w9.cell? ⟨lb,lp+k,none⟩=some (.slice (some ⟨xb,xo,none⟩) xn xc):=HCK.o _ HWL9.o;have hbz:=aAg w9 (.cells #[.slice (some ⟨xb,xo,none⟩) xn xc] 34);have HWKA:=aAc (HWK9.o.later hbz (kAe HS9.o));have HWLA:=aAc (HWL9.o.later hbz);have HSA:=aAc (HSR9.o.later hbz);have HPA:Hid ((w9.alloc (.cells #[.slice (some ⟨xb,xo,none⟩) xn xc] 34)).cell? ⟨w9.heap.size,0,none⟩=some (sV ((some ⟨xb,xo,none⟩,xn,xc):SEt))):=aAa (boxed w9 _);have HBA:Hid (B1<=(w9.alloc (.cells #[.slice (some ⟨xb,xo,none⟩) xn xc] 34)).heap.size):=nT (kAe HS9.o) hbz.size;clear hbz;go_upto_region 16 with fail;go_wp2_with (at_builtin;refine aCz rfl (.tmp 76) (.tmp 81) rfl (B:=B1) (es:=es3) (e:=((some ⟨xb,xo,none⟩,xn,xc):SEt)) rfl rfl HWKA.o.o HBA.o HPA.o (by have:=HEM3.o;have:=HMM.o;have:=HK3.o;have:=HLE.o;omega) ?_;intro v6 w6 ho6 hb6 hk6 hv6;have HWK6:=aAc (HWKA.o.app ho6 hb6 hk6 HSA.o HRI.o HXQ.o);have HWL6:=aAc (HWLA.o.app HWKA.o.o hb6 hk6 hv6 HNP.o);clear ho6 hb6 hk6 hv6);clear cc;obtain ⟨a6,c6,e6,_⟩:=HWK6.o.o.form;rw [lA,List.length_singleton,HEM3.o] at e6;subst e6;go_wp2;go_roundg (n-(k+1))
      case measure=>(have:=HK9.o;have:=HK3.o.1;omega)
      case rel=>exact ⟨k+1,mm+1,es3++[((some ⟨xb,xo,none⟩,xn,xc):SEt)],a6,c6,by have:=HK3.o;omega,rfl,rfl,by rw [lA,List.length_singleton,HEM3.o],by have:=HMM.o;have:=HMK.o;omega,HWK6.o,HWL6.o⟩
    ·by_cases hk0:k=0
     ·obtain ⟨j0,hj0⟩:∃ j,m=j+1:=⟨m-1,by omega⟩;obtain ⟨f1,hf1⟩:∃ e,es3[j0]?=some e:=⟨_,gE (by rw [HEM3.o];have:=HMM.o;omega)⟩;obtain ⟨q,hq⟩:∃ y,R[j0]?=some y:=⟨_,gE (by rw [HLN.o];have:=HLE.o;omega)⟩;have HQ:=aAc (HRO.o _ _ hq);have HQJ:Hid (R[m-1]?=some q):=by show _=_;rw [<-hq];congr 1;omega
      have hsq:=HWKr.o.r j0 f1 q hf1 hq;have hqp:0<f1.2.1:=by rw [<-hsq.hl];exact HQ.o.2.2.2.1
      obtain ⟨yb,yo,eyb,_,hyc⟩:=hsq.pl hqp;obtain ⟨fy,yn,yc⟩:=f1;dsimp only at eyb hsq hqp;subst eyb;obtain ⟨⟨y1,y2,y3⟩,hfq⟩:∃ x,fst q=x:=⟨_,rfl⟩;have p1:wr.cell? ⟨yb,yo,none⟩=some (.int .i64 y1):=by have:=hyc 0 _ HQ.o.2.2.2.2.2 0 (by omega);rw [hfq] at this;exact this
      have p2:wr.cell? ⟨yb,yo+1,none⟩=some (.int .i64 y2):=by have:=hyc 0 _ HQ.o.2.2.2.2.2 1 (by omega);rw [hfq] at this;exact this
      have p3:wr.cell? ⟨yb,yo+2,none⟩=some (.string y3):=by have:=hyc 0 _ HQ.o.2.2.2.2.2 2 (by omega);rw [hfq] at this;exact this
      obtain ⟨a9d,c9d,e9d,_,_,_,hp9d⟩:=HWKr.o.o.form;simp only [kBl] at e9d;obtain ⟨rfl,zz,rfl⟩:=e9d;clear zz;obtain ⟨ob,eod,_,hod⟩:=hp9d (by rw [HEM3.o];have:=HMM.o;omega);subst eod;have o0:wr.cell? ⟨ob,j0,none⟩=some (.slice (some ⟨yb,yo,none⟩) yn yc):=hod j0 _ hf1;have g0:decide ((0:Int)<(m:Int))=true:=kAc (by omega);have g0n:decide (0<m)=true:=kAc (by omega);have g1:(0:Int)<(m:Int):=by omega
      have g2:IntKind.i64.wrap ((m:Int)-1)=(j0:Int):=by rw [IntKind.wrap_i64];have:=HM64.o;have:=HMM.o;omega
      have g3:(0:Int)<=(j0:Int):=by omega
      have g4:(j0:Int)<(mm:Int):=by have:=HMM.o;omega
      have g5:(0:Int)<(yn:Int):=by omega
      have g5n:0<yn:=hqp;have HJ0:=aAc hj0;have HFQ:=aAc hfq;clear hj0 hf1 hq hsq hqp hyc hp9d hod hfq;have HEQ:Hid (r=q):=by
       have h8:=HRJ.o;rw [hk0,Nat.add_zero,HQJ.o] at h8;exact (Option.some.inj h8).symm
      have hxy:=HX.o.symm.trans ((congrArg fst HEQ.o).trans HFQ.o);simp only [Prod.mk.injEq] at hxy;obtain ⟨rfl,rfl,rfl⟩:=hxy;have HM0:=aAc hm0;have HK0:=aAc hk0;clear hm0 hk0 hmm;have HWKd:=aAc (HWKr.o.later (kBh _ _).drew (kAe HSr.o));have HWLd:=aAc (HWLr.o.later (kBh _ _).drew);have HSRd:=aAc (HSRr.o.later (kBh _ _).drew);have HSd:Hid (B1<wr.drew.heap.size):=HSr.o;have HX13:Hid ((fun wx:World=>wx.cell? ⟨lb,lp+k,none⟩=some (.slice (some ⟨xb,xo,none⟩) xn xc)/\wx.cell? ⟨xb,xo,none⟩=some (.int .i64 x1)/\wx.cell? ⟨xb,xo+1,none⟩=some (.int .i64 x2)/\wx.cell? ⟨xb,xo+2,none⟩=some (.string x3)/\wx.cell? ⟨ob,j0,none⟩=some (.slice (some ⟨yb,yo,none⟩) yn yc)/\wx.cell? ⟨yb,yo,none⟩=some (.int .i64 x1)/\wx.cell? ⟨yb,yo+1,none⟩=some (.int .i64 x2)/\wx.cell? ⟨yb,yo+2,none⟩=some (.string x3)) wr.drew):=⟨d0,d1,d2,d3,o0,p1,p2,p3⟩;clear d0 d1 d2 d3 o0 p1 p2 p3;go_upto_region 13 with fail;refine kBj ?_;refine kBi (S:=fun wx=>wx.cell? ⟨lb,lp+k,none⟩=some (.slice (some ⟨xb,xo,none⟩) xn xc)/\wx.cell? ⟨xb,xo,none⟩=some (.int .i64 x1)/\wx.cell? ⟨xb,xo+1,none⟩=some (.int .i64 x2)/\wx.cell? ⟨xb,xo+2,none⟩=some (.string x3)/\wx.cell? ⟨ob,j0,none⟩=some (.slice (some ⟨yb,yo,none⟩) yn yc)/\wx.cell? ⟨yb,yo,none⟩=some (.int .i64 x1)/\wx.cell? ⟨yb,yo+1,none⟩=some (.int .i64 x2)/\wx.cell? ⟨yb,yo+2,none⟩=some (.string x3)) (by kernel_rfl) HX13.o (fun hHeld=>?_);generalize wr.drew=wd at *;refine aAb 0 39 ?_;refine aAb 1 40 ?_;refine aAb 2 41 ?_;refine aAb 3 42 ?_;refine aAb 4 43 ?_;refine aAb 5 44 ?_;refine aAb 6 45 ?_;refine aAb 7 46 ?_;refine aAb 8 47 ?_;refine aAb 9 48 ?_;refine aAb 10 49 ?_;refine aAb 11 50 ?_;refine aAb 12 51 ?_;refine aAb 13 52 ?_;refine aAb 14 53 ?_;refine aAb 15 54 ?_;refine aAb 16 55 ?_;refine aAb 17 56 ?_;refine kBn (by kernel_rfl) ?_ _;refine kBk ?_;clear hHeld;clear HWKr HWLr HSRr HSr;go_wp2;go_roundg (n-(k+1))
      case measure=>(have:=HK9.o;have:=HK3.o.1;omega)
      case rel=>exact ⟨k+1,mm,es3,_,_,by have:=HK3.o;omega,rfl,rfl,HEM3.o,by have:=HMM.o;have:=HM0.o;have:=HK0.o;omega,HWKd.o,HWLd.o⟩
     ·have HMK:Hid (mm=m-1+k/\0<k/\0<m):=by have:=HMM.o;exact ⟨by omega,by omega,by omega⟩
      have HRI:Hid (R[es3.length]?=some r):=by show _=_;rw [HEM3.o,HMK.o.1];exact HRJ.o
      clear hk0 hmm;obtain ⟨j0,hj0⟩:∃ j,m=j+1:=⟨m-1,by omega⟩;obtain ⟨f1,hf1⟩:∃ e,es3[j0]?=some e:=⟨_,gE (by rw [HEM3.o];have:=HMM.o;omega)⟩;obtain ⟨q,hq⟩:∃ y,R[j0]?=some y:=⟨_,gE (by rw [HLN.o];have:=HLE.o;omega)⟩;have HQ:=aAc (HRO.o _ _ hq);have HQJ:Hid (R[m-1]?=some q):=by show _=_;rw [<-hq];congr 1;omega
      have hsq:=HWKr.o.r j0 f1 q hf1 hq;have hqp:0<f1.2.1:=by rw [<-hsq.hl];exact HQ.o.2.2.2.1
      obtain ⟨yb,yo,eyb,_,hyc⟩:=hsq.pl hqp;obtain ⟨fy,yn,yc⟩:=f1;dsimp only at eyb hsq hqp;subst eyb;obtain ⟨⟨y1,y2,y3⟩,hfq⟩:∃ x,fst q=x:=⟨_,rfl⟩;have p1:wr.cell? ⟨yb,yo,none⟩=some (.int .i64 y1):=by have:=hyc 0 _ HQ.o.2.2.2.2.2 0 (by omega);rw [hfq] at this;exact this
      have p2:wr.cell? ⟨yb,yo+1,none⟩=some (.int .i64 y2):=by have:=hyc 0 _ HQ.o.2.2.2.2.2 1 (by omega);rw [hfq] at this;exact this
      have p3:wr.cell? ⟨yb,yo+2,none⟩=some (.string y3):=by have:=hyc 0 _ HQ.o.2.2.2.2.2 2 (by omega);rw [hfq] at this;exact this
      obtain ⟨a9d,c9d,e9d,_,_,_,hp9d⟩:=HWKr.o.o.form;simp only [kBl] at e9d;obtain ⟨rfl,zz,rfl⟩:=e9d;clear zz;obtain ⟨ob,eod,_,hod⟩:=hp9d (by rw [HEM3.o];have:=HMM.o;omega);subst eod;have o0:wr.cell? ⟨ob,j0,none⟩=some (.slice (some ⟨yb,yo,none⟩) yn yc):=hod j0 _ hf1;have g0:decide ((0:Int)<(m:Int))=true:=kAc (by omega);have g0n:decide (0<m)=true:=kAc (by omega);have g1:(0:Int)<(m:Int):=by omega
      have g2:IntKind.i64.wrap ((m:Int)-1)=(j0:Int):=by rw [IntKind.wrap_i64];have:=HM64.o;have:=HMM.o;omega
      have g3:(0:Int)<=(j0:Int):=by omega
      have g4:(j0:Int)<(mm:Int):=by have:=HMM.o;omega
      have g5:(0:Int)<(yn:Int):=by omega
      have g5n:0<yn:=hqp;have HJ0:=aAc hj0;have HFQ:=aAc hfq;clear hj0 hf1 hq hsq hqp hyc hp9d hod hfq;have HNE:Hid (¬ ((x1,x2,x3):Val)=(y1,y2,y3)):=by
       intro e;have h8:=(HLT9.o (m-1) (m-1+k) q r HQJ.o HRJ.o (by have:=HMK.o;omega)).2;rw [HX.o,HFQ.o] at h8;exact h8 e
      have HM0:=aAc hm0;clear hm0;obtain ⟨j1,hj1⟩:∃ j,mm=j+1:=⟨mm-1,by have:=HMM.o;have:=HMK.o;omega⟩;have HJ1:=aAc hj1;obtain ⟨e1,he1⟩:∃ e,es3[j1]?=some e:=⟨_,gE (by rw [HEM3.o];omega)⟩;obtain ⟨y,hy⟩:∃ y,R[j1]?=some y:=⟨_,gE (by rw [HLN.o];have:=HLE.o;have:=HMM.o;have:=HK3.o;omega)⟩;have HY:=aAc (HRO.o _ _ hy);have hsy:=HWKr.o.r j1 e1 y he1 hy;obtain ⟨zb,zo,ez,_,_⟩:=hsy.pl (by rw [<-hsy.hl];exact HY.o.2.2.2.1);obtain ⟨ez1,zn,zc⟩:=e1;dsimp only at ez hsy;subst ez;have hzn:0<zn:=by have:=hsy.hl;have:=HY.o.2.2.2.1;omega
      have hzc:zn<=zc:=hsy.hc;have HZM:Hid ((zc:Int)<=9223372036854775807):=by have:=hsy.hm;show (zc:Int)<=9223372036854775807;omega
      obtain ⟨a9b,c9b,e9,_,_,_,hp9⟩:=HWKr.o.o.form;simp only [kBl] at e9;obtain ⟨rfl,zz,rfl⟩:=e9;clear zz;have HZO:Hid (∀ wx,WK B1 B1 w (.slice (some ⟨ob,0,none⟩) mm c9) es3 R (lk,ln,lt) wx->wx.cell? ⟨ob,j1,none⟩=some (.slice (some ⟨zb,zo,none⟩) zn zc)):=fun wx hw=>by
       obtain ⟨a9c,c9c,e9c,_,_,_,hp9c⟩:=hw.o.form;simp only [kBl] at e9c;obtain ⟨rfl,zz,rfl⟩:=e9c;clear zz;obtain ⟨ob2,eo2,_,hoc2⟩:=hp9c (by rw [HEM3.o];omega);cases eo2;exact hoc2 j1 _ he1
      have HLX:=aAc (HLT9.o j1 (m-1+k) y r hy HRJ.o (by have:=HMM.o;have:=HMK.o;omega));obtain ⟨cz,hcz⟩:∃ z:Int,bAb (fst y).bytes (fst r).bytes=z:=⟨_,rfl⟩;have HCT:Hid (∀ wx,WK B1 B1 w (.slice (some ⟨ob,0,none⟩) mm c9) es3 R (lk,ln,lt) wx->SVK fV 3 wx (some ⟨xb,xo,none⟩) xn xc r->Calls prog 22 #[.slice (some ⟨zb,zo,none⟩) 1 zc,.slice (some ⟨xb,xo,none⟩) 1 xc] wx fun e w'=>e=.returned (.int .i64 cz)/\Below wx.heap.size wx w'):=fun wx hw hx=>by
       have h1:=(hw.r j1 _ y he1 hy).take (n:=1) hzn;have h2:=hx.take (n:=1) HXN.o;have ey:y.take 1=[fst y]:=take1 HY.o.2.2.2.2.2;have er:r.take 1=[fst r]:=take1 HRR.o.2.2.2.2.2;rw [ey] at h1;rw [er] at h2;have h3:=aEx _ _ 1 zc 1 xc [fst y] [fst r] wx (h1.vs (by omega) (fun x hx=>by rw [kA5.1 hx];exact HY.o.1)) (h2.vs (by omega) (fun x hx=>by rw [kA5.1 hx];exact HRR.o.1)) (fun x hx=>by rw [kA5.1 hx];exact HY.o.2.1) (fun x hx=>by rw [kA5.1 hx];exact HRR.o.2.1) (fun x hx=>by rw [kA5.1 hx];exact HY.o.2.2.1) (fun x hx=>by rw [kA5.1 hx];exact HRR.o.2.2.1);rw [bDd HY.o.1 HY.o.2.1 HRR.o.1 HRR.o.2.1,hcz] at h3;exact h3
      have gz:¬ (0:Int)<=cz:=by have:=HLX.o.1;rw [hcz] at this;omega
      have gz2:decide ((0:Int)<=cz)=false:=kAd gz;have gm:decide ((0:Int)<(mm:Int))=true:=kAc (by omega);have gmn:decide (0<mm)=true:=kAc (by omega);have gm2:(0:Int)<(mm:Int):=by omega
      have gw:IntKind.i64.wrap ((mm:Int)-1)=(j1:Int):=by rw [IntKind.wrap_i64];have:=HM64.o;omega
      have gj0:(0:Int)<=(j1:Int):=by omega
      have gj1:(j1:Int)<(mm:Int):=by omega
      have gzn:(1:Int)<=(zc:Int):=by omega
      clear hj1 he1 hy hsy hzn hzc hp9 hcz;have HWKd:=aAc (HWKr.o.later (kBh _ _).drew (kAe HSr.o));have HWLd:=aAc (HWLr.o.later (kBh _ _).drew);have HSRd:=aAc (HSRr.o.later (kBh _ _).drew);have HSd:Hid (B1<wr.drew.heap.size):=HSr.o;have HX13:Hid ((fun wx:World=>wx.cell? ⟨lb,lp+k,none⟩=some (.slice (some ⟨xb,xo,none⟩) xn xc)/\wx.cell? ⟨xb,xo,none⟩=some (.int .i64 x1)/\wx.cell? ⟨xb,xo+1,none⟩=some (.int .i64 x2)/\wx.cell? ⟨xb,xo+2,none⟩=some (.string x3)/\wx.cell? ⟨ob,j0,none⟩=some (.slice (some ⟨yb,yo,none⟩) yn yc)/\wx.cell? ⟨yb,yo,none⟩=some (.int .i64 y1)/\wx.cell? ⟨yb,yo+1,none⟩=some (.int .i64 y2)/\wx.cell? ⟨yb,yo+2,none⟩=some (.string y3)) wr.drew):=⟨d0,d1,d2,d3,o0,p1,p2,p3⟩;clear d0 d1 d2 d3 o0 p1 p2 p3;go_upto_region 13 with fail;refine kBj ?_;refine kBi (S:=fun wx=>wx.cell? ⟨lb,lp+k,none⟩=some (.slice (some ⟨xb,xo,none⟩) xn xc)/\wx.cell? ⟨xb,xo,none⟩=some (.int .i64 x1)/\wx.cell? ⟨xb,xo+1,none⟩=some (.int .i64 x2)/\wx.cell? ⟨xb,xo+2,none⟩=some (.string x3)/\wx.cell? ⟨ob,j0,none⟩=some (.slice (some ⟨yb,yo,none⟩) yn yc)/\wx.cell? ⟨yb,yo,none⟩=some (.int .i64 y1)/\wx.cell? ⟨yb,yo+1,none⟩=some (.int .i64 y2)/\wx.cell? ⟨yb,yo+2,none⟩=some (.string y3)) (by kernel_rfl) HX13.o (fun hHeld=>?_);generalize wr.drew=wd at *;refine aAb 0 39 ?_;refine aAb 1 40 ?_;refine aAb 2 41 ?_;refine aAb 3 42 ?_;refine aAb 4 43 ?_;refine aAb 5 44 ?_;refine aAb 6 45 ?_;refine aAb 7 46 ?_;refine aAb 8 47 ?_;refine aAb 9 48 ?_;refine aAb 10 49 ?_;refine aAb 11 50 ?_;refine aAb 12 51 ?_;refine aAb 13 52 ?_;refine aAb 14 53 ?_;refine aAb 15 54 ?_;refine aAb (v:=.bool false) 16 55 ?_ (by intro oi ho;simp only [tG,sG,zG,oI] at ho;subst ho;refine Or.inl ⟨by rfl,?_⟩;intro wx hSw;(try dsimp only at hSw);go_simp;exact bTu HNE.o);refine aAb 17 56 ?_;refine kBn (by kernel_rfl) ?_ _;refine kBk ?_;clear hHeld;clear HWKr HWLr HSRr HSr;have HWKe:=aAc (HWKd.o.later (kBh _ _).drew (kAe HSd.o));have HWLe:=aAc (HWLd.o.later (kBh _ _).drew);have HSRe:=aAc (HSRd.o.later (kBh _ _).drew);have HSe:Hid (B1<wd.drew.heap.size):=HSd.o;have z0:wd.drew.cell? ⟨ob,j1,none⟩=some (.slice (some ⟨zb,zo,none⟩) zn zc):=HZO.o _ HWKe.o;have z1:wd.drew.cell? ⟨lb,lp+k,none⟩=some (.slice (some ⟨xb,xo,none⟩) xn xc):=HCK.o _ HWLe.o;have HX14:Hid ((fun wx:World=>wx.cell? ⟨ob,j1,none⟩=some (.slice (some ⟨zb,zo,none⟩) zn zc)/\wx.cell? ⟨lb,lp+k,none⟩=some (.slice (some ⟨xb,xo,none⟩) xn xc)) wd.drew):=⟨z0,z1⟩;have HLTe:Hid (ob<wd.drew.heap.size/\lb<wd.drew.heap.size):=⟨aAn z0,aAn z1⟩;have HCTe:=aAc (HCT.o _ HWKe.o HSRe.o);clear z0 z1;go_upto_region 14 with fail;refine kBj ?_;refine kBi (S:=fun wx=>wx.cell? ⟨ob,j1,none⟩=some (.slice (some ⟨zb,zo,none⟩) zn zc)/\wx.cell? ⟨lb,lp+k,none⟩=some (.slice (some ⟨xb,xo,none⟩) xn xc)) (by kernel_rfl) HX14.o (fun hHeld=>?_);generalize wd.drew=we at *
      refine aAb 0 57 ?_;refine aAb 1 58 ?_;refine aAb 2 59 ?_;refine aAb 3 60 ?_;refine aAb 4 61 ?_;refine aAb 5 62 ?_;refine aAb 6 63 ?_;refine aAb 7 64 ?_;refine aAb 8 65 ?_;refine aAb 9 66 ?_;refine aAb 10 67 ?_;refine aAb 11 68 ?_;refine aAb 12 69 ?_;refine aAb 13 70 ?_;refine aAb 14 71 ?_;refine aAb 15 72 ?_;refine aAf 16 ?_;intro K hK;go_simp;refine HCTe.o.mono ?_;rintro e w9 ⟨rfl,hb9⟩;have HWK9:=aAc (HWKe.o.later hb9 (kAe HSe.o));have HWL9:=aAc (HWLe.o.later hb9);have HSR9:=aAc (HSRe.o.later hb9);have HS9:Hid (B1<w9.heap.size):=kAi HSe.o hb9.size;have HC9:Hid ((fun wx:World=>wx.cell? ⟨ob,j1,none⟩=some (.slice (some ⟨zb,zo,none⟩) zn zc)/\wx.cell? ⟨lb,lp+k,none⟩=some (.slice (some ⟨xb,xo,none⟩) xn xc)) w9):=⟨(hb9.cell HLTe.o.1).trans HX14.o.1,(hb9.cell HLTe.o.2).trans HX14.o.2⟩;clear hb9 hHeld;refine hK.out _ _ HC9.o (fun hHeld=>?_);clear hK K
      try simp only [Act.put,siT,scZ,scS]
      refine aAb 17 74 ?_;refine aAb 18 75 ?_;refine kBn (by kernel_rfl) ?_ _;refine kBk ?_;clear hHeld;clear HWKd HWLd HSRd HSd;clear HWKe HWLe HSRe HSe;have cc:w9.cell? ⟨lb,lp+k,none⟩=some (.slice (some ⟨xb,xo,none⟩) xn xc):=HCK.o _ HWL9.o;have hbz:=aAg w9 (.cells #[.slice (some ⟨xb,xo,none⟩) xn xc] 34);have HWKA:=aAc (HWK9.o.later hbz (kAe HS9.o));have HWLA:=aAc (HWL9.o.later hbz);have HSA:=aAc (HSR9.o.later hbz);have HPA:Hid ((w9.alloc (.cells #[.slice (some ⟨xb,xo,none⟩) xn xc] 34)).cell? ⟨w9.heap.size,0,none⟩=some (sV ((some ⟨xb,xo,none⟩,xn,xc):SEt))):=aAa (boxed w9 _);have HBA:Hid (B1<=(w9.alloc (.cells #[.slice (some ⟨xb,xo,none⟩) xn xc] 34)).heap.size):=nT (kAe HS9.o) hbz.size;clear hbz;go_upto_region 16 with fail;go_wp2_with (at_builtin;refine aCz rfl (.tmp 76) (.tmp 81) rfl (B:=B1) (es:=es3) (e:=((some ⟨xb,xo,none⟩,xn,xc):SEt)) rfl rfl HWKA.o.o HBA.o HPA.o (by have:=HEM3.o;have:=HMM.o;have:=HK3.o;have:=HLE.o;omega) ?_;intro v6 w6 ho6 hb6 hk6 hv6;have HWK6:=aAc (HWKA.o.app ho6 hb6 hk6 HSA.o HRI.o HXQ.o);have HWL6:=aAc (HWLA.o.app HWKA.o.o hb6 hk6 hv6 HNP.o);clear ho6 hb6 hk6 hv6);clear cc;obtain ⟨a6,c6,e6,_⟩:=HWK6.o.o.form;rw [lA,List.length_singleton,HEM3.o] at e6;subst e6;go_wp2;go_roundg (n-(k+1))
      case measure=>(have:=HK9.o;have:=HK3.o.1;omega)
      case rel=>exact ⟨k+1,mm+1,es3++[((some ⟨xb,xo,none⟩,xn,xc):SEt)],a6,c6,by have:=HK3.o;omega,rfl,rfl,by rw [lA,List.length_singleton,HEM3.o],by have:=HMM.o;have:=HMK.o;omega,HWK6.o,HWL6.o⟩
   ·have ek:k=n:=by have:=HK9.o;omega
    subst ek;have xk:¬ (k:Int)<(k:Int):=by omega
    have gkc:(k:Int)<=(kc:Int):=by have:=HWLr.o.s.hc;omega
    by_cases hq:mm=m
    ·have HQ:=aAc (HWI.o.end_ HNL.o HMM.o hq);clear hmm;subst hq;go_wp2;go_ret2;obtain ⟨a7,c7,e7,hsv7⟩:=HWKr.o.o.sv;rw [HEM3.o] at e7 hsv7;simp only [kBl] at e7;obtain ⟨rfl,zz,rfl⟩:=e7;clear zz;rw [<-HQ.o];exact ⟨⟨_,_,rfl,es3,hsv7,by rw [HEM3.o,HLN.o,<-HQ.o],HWKr.o.r,(fun ad had=>(HWKr.o.o.blt (i:=ad.block) (by rw [had];rfl)).1),fun e he ad had=>kAe (HWKr.o.q e he ad had)⟩,HWKr.o.b⟩
    ·have gq:((mm:Int) == (m:Int))=false:=by simp;omega
     have HNX:=aAc (HWI.o.next HL64.o HNL.o HMM.o hq);obtain ⟨j1,hj1⟩:∃ j,mm=j+1:=⟨mm-1,by have:=HNX.o.2.1;omega⟩;obtain ⟨e1,he1⟩:∃ e,es3[j1]?=some e:=⟨_,gE (by rw [HEM3.o];omega)⟩;obtain ⟨y,hy⟩:∃ y,R[j1]?=some y:=⟨_,gE (by rw [HLN.o];have:=HNX.o.2.2;omega)⟩;have HYJ:Hid (R[mm-1]?=some y):=by show _=_;rw [<-hy];congr 1;omega
     have HY:=aAc (HRO.o _ _ hy);have hsy:=HWKr.o.r j1 e1 y he1 hy;have hyp:0<e1.2.1:=by rw [<-hsy.hl];exact HY.o.2.2.2.1
     obtain ⟨zb,zo,ez,_,hzc⟩:=hsy.pl hyp;obtain ⟨ez1,zn,zc⟩:=e1;dsimp only at ez hsy hyp;subst ez;obtain ⟨a9b,c9b,e9,_,_,_,hp9⟩:=HWKr.o.o.form;simp only [kBl] at e9;obtain ⟨rfl,zz,rfl⟩:=e9;clear zz;obtain ⟨ob,eo,_,hoc⟩:=hp9 (by rw [HEM3.o];omega);subst eo;obtain ⟨⟨y1,y2,y3⟩,hfy⟩:∃ x,fst y=x:=⟨_,rfl⟩;have o0:wr.cell? ⟨ob,j1,none⟩=some (.slice (some ⟨zb,zo,none⟩) zn zc):=hoc j1 _ he1;have p1:wr.cell? ⟨zb,zo,none⟩=some (.int .i64 y1):=by have:=hzc 0 _ HY.o.2.2.2.2.2 0 (by omega);rw [hfy] at this;exact this
     have p2:wr.cell? ⟨zb,zo+1,none⟩=some (.int .i64 y2):=by have:=hzc 0 _ HY.o.2.2.2.2.2 1 (by omega);rw [hfy] at this;exact this
     have p3:wr.cell? ⟨zb,zo+2,none⟩=some (.string y3):=by have:=hzc 0 _ HY.o.2.2.2.2.2 2 (by omega);rw [hfy] at this;exact this
     have gw:IntKind.i64.wrap ((mm:Int)-1)=(j1:Int):=by rw [IntKind.wrap_i64];have:=HM64.o;omega
     have gj0:(0:Int)<=(j1:Int):=by omega
     have gj1:(j1:Int)<(mm:Int):=by omega
     have gzn:(0:Int)<(zn:Int):=by omega
     have b0:wr.cell? ⟨B1,0,none⟩=some (.int .i64 lk):=aAa HWKr.o.g;have b1:wr.cell? ⟨B1,1,none⟩=some (.int .i64 ln):=aAa HWKr.o.g;have b2:wr.cell? ⟨B1,2,none⟩=some (.string lt):=aAa HWKr.o.g;have fz0:wr.frozen? ⟨B1,0,none⟩=false:=aAh HWKr.o.g;have fz1:wr.frozen? ⟨B1,1,none⟩=false:=aAh HWKr.o.g;have fz2:wr.frozen? ⟨B1,2,none⟩=false:=aAh HWKr.o.g;have HFY:=aAc hfy;clear hj1 he1 hy hsy hyp hzc hp9 hoc hfy hq hmm;go_wp2;go_roundg (70-(i+1))
     case measure=>(have:=HI.o;have:=HWI.o.le;omega)
     case rel=>exact ⟨i+1,mm,es3,(y1,y2,y3),_,_,by have:=HWI.o.le;omega,rfl,rfl,HEM3.o,Or.inr ⟨by have:=HNX.o.2.1;omega,y,HYJ.o,HFY.o.symm⟩,HNX.o.1,HWKr.o.low (lo':=(y1,y2,y3)) (nR _)⟩
end Go.Proofs.YtdpdjpkmndnaaaaGreat
