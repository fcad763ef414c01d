import Derived.Test.YthgleplmbnkacaaGreatY44
import Derived.Test.YthgleplmbnkacaaGreatY20
set_option maxRecDepth 100000
set_option maxHeartbeats 16000000
set_option linter.unusedVariables false
namespace Go.Proofs.YthgleplmbnkacaaGreat
open Go.RowKit
theorem info_prs:(Tryz.prog.info? 35).map (·.size)=some 3:=by kernel_rfl
theorem copiedK {B n c:Nat} {w wx:World} {a:Option Addr} {xs:List Nat} (h:BS w a n c xs) (hn:n≤100000) (hb:Below w.heap.size w wx) :
  Calls Tryz.prog 35 #[.slice a n c] wx fun e w'=>∃ a' c',e=.returned (.slice a' n c')∧BK B w' a' n c' xs∧Below wx.heap.size wx w':=by
 have hx:=h.hlen
 refine (copied_any (B:=0) (h.later hb (nR _)) hn).mono ?_
 rintro e w' ⟨v,rfl,ho,hb'⟩
 rw [←hx] at ho
 obtain ⟨a',c',e,hk⟩:=BK.owned (B:=B) ho (by omega) h.hbyte
 subst e
 rw [hx] at hk
 exact ⟨a',c',by rw [hx],hk,hb'⟩
theorem pair_ok {B:Nat} {w:World} {sp:Int} {ka va:Option Addr} {kl kc vl vc:Nat} {xs ys:List Nat} (hkl:kl≤kc) (hkc:kc≤9223372036854775807) (hk:BS w ka (min kl 62) kc xs) (hvl:vl≤vc) (hvc:vc≤9223372036854775807) (hv:BS w va (min vl 62) vc ys) (hB:B≤w.heap.size) :
  Calls Tryz.prog 7 #[.agg #[.int .i64 sp,.slice ka kl kc,.slice va vl vc]] w fun e w'=>∃ ka' kc' va' vc',e=.returned (.agg #[.int .i64 sp,.slice ka' xs.length kc',.slice va' ys.length vc'])∧BK B w' ka' xs.length kc' xs∧BK B w' va' ys.length vc' ys∧Below w.heap.size w w':=by
 have lt:∀ {k:Nat} {o:Obj} {ww:World},ww.heap[k]?=some o→k<ww.heap.size:=fun e=>(lO e)
 have ex:=hk.hlen
 have ey:=hv.hlen
 rw [ex,ey]
 obtain ⟨m,hm⟩:∃ m,m=min kl 62:=⟨_,rfl⟩
 obtain ⟨n,hn⟩:∃ n,n=min vl 62:=⟨_,rfl⟩
 rw [←hm] at hk ⊢
 rw [←hn] at hv ⊢
 have y0:(kc:Int)≤9223372036854775807:=by omega
 have y1:(vc:Int)≤9223372036854775807:=by omega
 have em:min (kl:Int) 62=(m:Int):=by omega
 have en:min (vl:Int) 62=(n:Int):=by omega
 have em':(if (62:Int)<(kl:Int) then (62:Int) else (kl:Int))=(m:Int):=by split<;>omega
 have en':(if (62:Int)<(vl:Int) then (62:Int) else (vl:Int))=(n:Int):=by split<;>omega
 have u0:(0:Int)≤(m:Int):=by omega
 have v0:(m:Int)≤(kc:Int):=by omega
 have u1:(0:Int)≤(n:Int):=by omega
 have v1:(n:Int)≤(vc:Int):=by omega
 have HK:Hid (∀ wx,Below w.heap.size w wx→Calls Tryz.prog 35 #[.slice ka m kc] wx fun e w'=>∃ a' c',e=.returned (.slice a' m c')∧BK B w' a' m c' xs∧Below wx.heap.size wx w'):=fun wx hb=>copiedK hk (by omega) hb
 have HV:Hid (∀ wx,Below w.heap.size w wx→Calls Tryz.prog 35 #[.slice va n vc] wx fun e w'=>∃ a' c',e=.returned (.slice a' n c')∧BK B w' a' n c' ys∧Below wx.heap.size wx w'):=fun wx hb=>copiedK hv (by omega) hb
 obtain ⟨w1,hw1⟩:∃ w1,w1=(w.alloc (.cells #[.int .i64 sp,.slice ka kl kc,.slice va vl vc] 35)).alloc (.cells #[.int .i64 0,.slice none 0 0,.slice none 0 0] 35):=⟨_,rfl⟩
 obtain ⟨n0,hn0⟩:∃ n0,w.heap.size=n0:=⟨_,rfl⟩
 have HS1:Hid (w1.heap.size=n0+1+1):=by show _=_;rw [hw1,←hn0];simp only [World.alloc,Array.size_push]
 have HR1:Hid (w1.heap[n0]?=some (.cells #[.int .i64 sp,.slice ka kl kc,.slice va vl vc] 35 (0,0))):=by
  show _=_
  rw [hw1,←hn0]
  exact heap_alloc2_old w _ _
 have HA1:Hid (w1.heap[n0+1]?=some (.cells #[.int .i64 0,.slice none 0 0,.slice none 0 0] 35 (0,0))):=by
  show _=_
  rw [hw1,←hn0]
  exact heap_alloc2_new w _ _
 have HB1:Hid (Below n0 w w1):=by
  show Below n0 w w1
  rw [hw1,←hn0]
  exact (aAb w _).trans ((aAb _ _).mono (aAb w _).size)
 clear hm hn hkl hkc hvl hvc hk hv ex ey
 rw [hn0] at HK HV hB ⊢
 have HBn:=hide hB
 have HW1:=hide hw1
 clear hw1 hB
 go_enter Tryz.func7,Tryz.ntmps7
 go_wp2_with fail
 rw [←HW1.out]
 try simp only [hn0]
 refine (HK.out _ HB1.out).mono ?_
 rintro e w2 ⟨a,d,rfl,hk2,hb2⟩
 have HR2:Hid (w2.heap[n0]?=some (.cells #[.int .i64 sp,.slice ka kl kc,.slice va vl vc] 35 (0,0))):=(hb2.block n0 (lt HR1.out)).trans HR1.out
 have HA2:Hid (w2.heap[n0+1]?=some (.cells #[.int .i64 0,.slice none 0 0,.slice none 0 0] 35 (0,0))):=(hb2.block (n0+1) (lt HA1.out)).trans HA1.out
 have HB2:Hid (Below n0 w w2):=HB1.out.trans (hb2.mono (by rw [HS1.out];omega))
 have HK3:=hide (hk2.ft (ft1 (B:=B) (o:=1) (b0:=.slice a m d) HR2.out (by decide) HBn.out))
 have HR3:Hid ((w2.setCell ⟨n0,1,none⟩ (.slice a m d)).heap[n0]?=some (.cells #[.int .i64 sp,.slice a m d,.slice va vl vc] 35 (0,0))):=heap_setCell_same _ _ _ _ _ _ HR2.out
 have HA3:Hid ((w2.setCell ⟨n0,1,none⟩ (.slice a m d)).heap[n0+1]?=some (.cells #[.int .i64 0,.slice none 0 0,.slice none 0 0] 35 (0,0))):=(heap_setCell_other _ _ _ _ (show n0+1≠n0 by omega)).trans HA2.out
 have HB3:Hid (Below n0 w (w2.setCell ⟨n0,1,none⟩ (.slice a m d))):=HB2.out.setCell (p:=⟨n0,1,none⟩) (nR _) _
 have x1:w2.cell? ⟨n0,1,none⟩=some (.slice ka kl kc):=aAa HR2.out
 have xf1:w2.frozen? ⟨n0,1,none⟩=false:=aAd HR2.out
 have x2:(w2.setCell ⟨n0,1,none⟩ (.slice a m d)).cell? ⟨n0,2,none⟩=some (.slice va vl vc):=aAa HR3.out
 clear hk2 hb2 HK
 go_upto_region 2 with fail
 clear x1 xf1
 generalize w2.setCell ⟨n0,1,none⟩ (.slice a m d)=w3 at *
 go_wp2_with fail
 refine (HV.out _ HB3.out).mono ?_
 rintro e w4 ⟨b,g,rfl,hv4,hb4⟩
 have HR4:Hid (w4.heap[n0]?=some (.cells #[.int .i64 sp,.slice a m d,.slice va vl vc] 35 (0,0))):=(hb4.block n0 (lt HR3.out)).trans HR3.out
 have HA4:Hid (w4.heap[n0+1]?=some (.cells #[.int .i64 0,.slice none 0 0,.slice none 0 0] 35 (0,0))):=(hb4.block (n0+1) (lt HA3.out)).trans HA3.out
 have hs3:n0≤w3.heap.size:=by have:=lt HR3.out;omega
 have HB4:Hid (Below n0 w w4):=HB3.out.trans (hb4.mono hs3)
 have HK4:=hide ((HK3.out.later hb4 (nT HBn.out hs3)).ft (ft1 (B:=B) (o:=2) (b0:=.slice b n g) HR4.out (by decide) HBn.out))
 have HV4:=hide (hv4.ft (ft1 (B:=B) (o:=2) (b0:=.slice b n g) HR4.out (by decide) HBn.out))
 have HR5:Hid ((w4.setCell ⟨n0,2,none⟩ (.slice b n g)).heap[n0]?=some (.cells #[.int .i64 sp,.slice a m d,.slice b n g] 35 (0,0))):=heap_setCell_same _ _ _ _ _ _ HR4.out
 have HA5:Hid ((w4.setCell ⟨n0,2,none⟩ (.slice b n g)).heap[n0+1]?=some (.cells #[.int .i64 0,.slice none 0 0,.slice none 0 0] 35 (0,0))):=(heap_setCell_other _ _ _ _ (show n0+1≠n0 by omega)).trans HA4.out
 have HB5:Hid (Below n0 w (w4.setCell ⟨n0,2,none⟩ (.slice b n g))):=HB4.out.setCell (p:=⟨n0,2,none⟩) (nR _) _
 have x2:w4.cell? ⟨n0,2,none⟩=some (.slice va vl vc):=aAa HR4.out
 have xf2:w4.frozen? ⟨n0,2,none⟩=false:=aAd HR4.out
 clear hv4 hb4 hs3 HV
 go_upto_region 3 with fail
 clear x2 xf2
 generalize w4.setCell ⟨n0,2,none⟩ (.slice b n g)=w5 at *
 have y0:w5.cell? ⟨n0,0,none⟩=some (.int .i64 sp):=aAa HR5.out
 have y1:w5.cell? ⟨n0,1,none⟩=some (.slice a m d):=aAa HR5.out
 have y2:w5.cell? ⟨n0,2,none⟩=some (.slice b n g):=aAa HR5.out
 obtain ⟨n1,hn1⟩:∃ n1,n0+1=n1:=⟨_,rfl⟩
 have HN1:=hide hn1
 rw [hn1] at HA5
 try simp only [hn1]
 clear hn1
 have z0:w5.cell? ⟨n1,0,none⟩=some (.int .i64 0):=aAa HA5.out
 have zf0:w5.frozen? ⟨n1,0,none⟩=false:=aAd HA5.out
 have z1:w5.cell? ⟨n1,1,none⟩=some (.slice none 0 0):=aAa HA5.out
 have zf1:w5.frozen? ⟨n1,1,none⟩=false:=aAd HA5.out
 have z2:w5.cell? ⟨n1,2,none⟩=some (.slice none 0 0):=aAa HA5.out
 have zf2:w5.frozen? ⟨n1,2,none⟩=false:=aAd HA5.out
 go_wp2
 (try simp only [Exit.inBlock,Exit.then])
 refine bodyPost_ret (results_cell_row Tryz.results7 _ _ n1 _ _ _ _ rfl (set3 HA5.out) Tryz.underlying35 rfl info_prs) rfl ?_
 have hBn1:B≤n1:=by have:=HBn.out;have:=HN1.out;omega
 have hn:n0≤n1:=by have:=HN1.out;omega
 have hft:∀ {p q r:Value},FT B w5 (((w5.setCell ⟨n1,0,none⟩ p).setCell ⟨n1,1,none⟩ q).setCell ⟨n1,2,none⟩ r):=fun {p q r}=>((ft1 (o:=0) HA5.out (by decide) hBn1).trans (ft1 (o:=1) (heap_setCell_same _ _ _ _ _ _ HA5.out) (by decide) hBn1)).trans (ft1 (o:=2) (heap_setCell_same _ _ _ _ _ _ (heap_setCell_same _ _ _ _ _ _ HA5.out)) (by decide) hBn1)
 refine ⟨a,d,b,g,rfl,HK4.out.ft hft,HV4.out.ft hft,?_⟩
 exact ((HB5.out.setCell (p:=⟨n1,0,none⟩) hn _).setCell (p:=⟨n1,1,none⟩) hn _).setCell (p:=⟨n1,2,none⟩) hn _
def chA (a:AV):Ch:=if a.kind=1 then ⟨a.sp,a.xs,[],true⟩ else ⟨a.sp,a.xs,a.vs,false⟩
def runC (cs:List Ch) (q:Nat→AV):Nat→List Ch
 | 0=>cs
 | n+1=>addC (runC cs q n) (chA (q n))
theorem runC_pre (cs:List Ch) (q:Nat→AV):∀ n,∃ m,runC cs q n=cs++m∧m.length≤n
 | 0=>⟨[],by simp [runC],by simp⟩
 | n+1=>by
  obtain ⟨m,h1,h2⟩:=runC_pre cs q n
  obtain ⟨k,h3,h4⟩:=addC_pre (runC cs q n) (chA (q n))
  refine ⟨m++k,?_,by rw [lA];omega⟩
  show addC (runC cs q n) (chA (q n))=_
  rw [h3,h1,List.append_assoc]
def AP (B:Nat) (w:World) (a0:Option Addr) (len:Nat) (q:Nat→AV):Prop:=0<len→∃ b o,a0=some ⟨b,o,none⟩∧(b<B∨∃ cs fz,w.heap[b]?=some (.cells cs 47 fz))∧∀ i,i<len→AC w b (o+i*5) (q i)
theorem AC.blk {w w':World} {b o:Nat} {q:AV} (h:AC w b o q) (e:w'.heap[b]?=w.heap[b]?):AC w' b o q:=by
 have c:∀ {o:Nat} {x:Value},w.cell? ⟨b,o,none⟩=some x→w'.cell? ⟨b,o,none⟩=some x:=fun h9=>(World.cell?_of_block e).trans h9
 exact ⟨c h.c0,c h.c1,c h.c2,c h.c3,c h.c4⟩
theorem AP.blk {B:Nat} {w w':World} {a0:Option Addr} {len:Nat} {q:Nat→AV} (h:AP B w a0 len q) (e:∀ b,b<w.heap.size→(b<B∨∃ cs fz,w.heap[b]?=some (.cells cs 47 fz))→w'.heap[b]?=w.heap[b]?):AP B w' a0 len q:=by
 intro h0
 obtain ⟨b,o,h1,h2,h3⟩:=h h0
 have hb:b<w.heap.size:=aAr (h3 0 h0).c0
 have e':=e b hb h2
 refine ⟨b,o,h1,?_,fun i hi=>(h3 i hi).blk e'⟩
 rcases h2 with h2 | ⟨cs,fz,h2⟩
 ·exact Or.inl h2
 ·exact Or.inr ⟨cs,fz,e'.trans h2⟩
theorem AP.later {B:Nat} {w w':World} {a0:Option Addr} {len:Nat} {q:Nat→AV} (h:AP B w a0 len q) (hb:Below w.heap.size w w'):AP B w' a0 len q:=h.blk fun b h1 _=>hb.block b h1
theorem AP.fr {B db ls len:Nat} {w w':World} {v v':Value} {cs:List Ch} {a0:Option Addr} {q:Nat→AV} (h:AP B w a0 len q) (d:DD B db ls v cs w) (f:DFr B db v w v' w'):AP B w' a0 len q:=by
 refine h.blk fun b hb h2=>f.blk b hb (fun e=>?_) (fun e=>?_)
 ·subst e
  rcases h2 with h2 | ⟨cs,fz,h2⟩
  ·have:=d.hB;omega
  ·rw [d.blk] at h2
   simp only [oI,cI] at h2
   exact absurd h2.2.1 (by decide)
 ·obtain ⟨h3,_,cur,h4⟩:=d.row.blk e
  rcases h2 with h2 | ⟨cs,fz,h2⟩
  ·have:=d.hB;omega
  ·rw [h4] at h2
   simp only [oI,cI] at h2
   exact absurd h2.2.1 (by decide)
theorem AS.ap {B len:Nat} {W:World} {a0:Option Addr} {q:Nat→AV} (h:AS W a0 len q) (hB:W.heap.size=B):AP B W a0 len q:=by
 intro h0
 obtain ⟨b,o,h1,h2,h3⟩:=h.place h0
 exact ⟨b,o,h1,Or.inl (by omega),fun i hi=>(h3 i hi).1⟩
theorem AS.ok {len:Nat} {W:World} {a0:Option Addr} {q:Nat→AV} (h:AS W a0 len q) {i:Nat} (hi:i<len):(q i).Ok W:=by
 obtain ⟨b,o,h1,h2,h3⟩:=h.place (by omega)
 exact (h3 i hi).2
end Go.Proofs.YthgleplmbnkacaaGreat
