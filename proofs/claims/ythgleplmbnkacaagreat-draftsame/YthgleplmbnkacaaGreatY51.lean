import Derived.Test.YthgleplmbnkacaaGreatY50
import Derived.Test.YthgleplmbnkacaaGreatY48
set_option maxRecDepth 100000
set_option maxHeartbeats 16000000
set_option linter.unusedVariables false
namespace Go.Proofs.YthgleplmbnkacaaGreat
open Go.RowKit
theorem BK.up {B B2:Nat} {w:World} {a:Option Addr} {n c:Nat} {xs:List Nat} (h:BK B w a n c xs) (hb:B≤B2):BK B2 w a n c xs:=by
 refine ⟨h.1,fun x hx=>?_⟩
 rcases h.2 x hx with (q | q) | q
 ·exact Or.inl (Or.inl q)
 ·exact Or.inl (Or.inr (by omega))
 ·exact Or.inr q
theorem EvC.up {B B2:Nat} {w:World} {x:CE} {c:Ch} (h:EvC B w x c) (hb:B≤B2):EvC B2 w x c:=by
 obtain ⟨h1,⟨a,n,h2,h3⟩,⟨b,m,h4,h5⟩⟩:=h
 exact ⟨h1,⟨a,n,h2,h3.up hb⟩,⟨b,m,h4,h5.up hb⟩⟩
theorem RwK.up {te k:Nat} {f:CE→List Value} {B B2 B1:Nat} {w:World} {v:Value} {F:List Ch} (h:RwK te k f B B1 w v F) (hb:B≤B2):RwK te k f B2 B1 w v F:=by
 obtain ⟨kv,h1,h2,h3⟩:=h
 exact ⟨kv,h1,h2,fun i c x e1 e2=>(h3 i c x e1 e2).up hb⟩
theorem DD.up {B B2 db ls:Nat} {v:Value} {cs:List Ch} {w:World} (h:DD B db ls v cs w) (hb:B≤B2) (hd:B2≤db):DD B2 db ls v cs w:=⟨h.blk,h.row.up hb,hd⟩
theorem KX.re [Gd] {B p q g N c u:Nat} {l:List It} {W w w':World} (h:KX B p q g N c u l W w) (hs:w.heap.size≤w'.heap.size) (f:∀ (k:Nat) (cs:Array Value) (t:TypeId) (fz:Nat×Nat),w.heap[k]?=some (Obj.cells cs t fz)→(t=147∨t=5∨¬ NT t)→w'.heap[k]?=some (Obj.cells cs t fz)):KX B p q g N c u l w' w':=by
 obtain ⟨last,s,t,now,left,h⟩:=h
 obtain ⟨cg,hg,hT⟩:=h.tm.tv
 have hst:ST B p q s t w':=by
  obtain ⟨h1,gs,h2⟩:=h.tm.st
  refine ⟨?_,gs,f _ _ _ _ h2.hq (Or.inr (Or.inr (by decide))),f _ _ _ _ h2.hs (Or.inr (Or.inr (by decide))),h2.qB,h2.gB,h2.ok,h2.hG⟩
  exact h1.of_stay (fun k cs t e ht=>f k cs t _ e (by rcases ht with rfl | rfl | rfl | rfl | rfl | rfl | rfl<;>decide))
 exact ⟨last,s,t,now,left,⟨hst,nT h.tm.bw hs,h.tm.bg,⟨cg,f _ _ _ _ hg (Or.inl rfl),hT⟩,h.tm.lf,h.tm.dn,h.tm.af,h.tm.l1,h.tm.sn,h.tm.hd⟩,h.tr,h.ln,h.sn,h.mu,h.cu,h.nm,h.f3,Below.refl _ _⟩
theorem DFr.bel {A db lx:Nat} {v v':Value} {cs:List Ch} {w w':World} (f:DFr 0 db v w v' w') (d:DD 0 db lx v cs w) (h:A≤db) (hA:A≤w.heap.size):Below A w w' :=
 ⟨f.ft.1.os,f.ft.1.tape,f.ft.1.output,f.ft.1.size,fun i hi=>f.blk i (by omega) (by omega) fun q=>by have:=(d.row.blk q).1;omega⟩
def LZ [Gd] (B ls:Nat) (w:World):Prop:=∃ p q g W,LS B p q g ls 1000 0 0 [] W w
section
variable [Gd] {B ls db lx:Nat} {v v':Value} {cs cs':List Ch} {w w':World}
theorem LZ.later (h:LZ B ls w) (hb:Below w.heap.size w w'):LZ B ls w':=by
 obtain ⟨p,q,g,W,h⟩:=h
 exact ⟨p,q,g,W,h.later hb⟩
theorem LZ.fr (h:LZ B ls w) (d:DD 0 db lx v cs w) (f:DFr 0 db v w v' w'):LZ B ls w':=by
 obtain ⟨p,q,g,W,h⟩:=h
 have key:∀ (k:Nat) (cs:Array Value) (t:TypeId) (fz:Nat×Nat),w.heap[k]?=some (Obj.cells cs t fz)→t≠102→t≠39→w'.heap[k]?=some (Obj.cells cs t fz):=by
  intro k cs t fz e h1 h2
  rw [f.blk k (lO e) (fun q=>?_) (fun q=>?_),e]
  ·subst q
   rw [d.blk] at e
   simp only [oI,cI] at e
   exact h1 e.2.1.symm
  ·obtain ⟨_,_,cur,h4⟩:=d.row.blk q
   rw [h4] at e
   simp only [oI,cI] at e
   exact h2 e.2.1.symm
 obtain ⟨cs,h1,h2⟩:=h.lv
 refine ⟨p,q,g,w',h.kx.re f.siz fun k cs t fz e ht=>key k cs t fz e ?_ ?_,h.bl,cs,key _ _ _ _ h1 (by decide) (by decide),h2⟩
 ·rcases ht with rfl | rfl | ht
  ·decide
  ·decide
  ·rintro rfl
   exact ht (by decide)
 ·rcases ht with rfl | rfl | ht
  ·decide
  ·decide
  ·rintro rfl
   exact ht (by decide)
structure DZ2 (B ls db:Nat) (v:Value) (cs:List Ch) (w:World):Prop where
 st:LZ B ls w
 dd:DD 0 db ls v cs w
 hd:B≤db
theorem DZ2.later (h:DZ2 B ls db v cs w) (hb:Below w.heap.size w w'):DZ2 B ls db v cs w':=⟨h.st.later hb,h.dd.later hb,h.hd⟩
theorem DZ2.fr (h:DZ2 B ls db v cs w) (d:DD 0 db ls v' cs' w') (f:DFr 0 db v w v' w'):DZ2 B ls db v' cs' w':=⟨h.st.fr h.dd f,d,h.hd⟩
theorem DZ2.oth {db2 l2:Nat} {v2 v2':Value} {cs2:List Ch} (h:DZ2 B ls db v cs w) (d:DD 0 db2 l2 v2 cs2 w) (f:DFr 0 db2 v2 w v2' w') (h1:db≠db2) (h2:∀ i,v.ownBlock=some i→v2.ownBlock≠some i):DZ2 B ls db v cs w':=by
 refine ⟨h.st.fr d f,⟨?_,?_,Nat.zero_le _⟩,h.hd⟩
 ·rw [f.blk db h.dd.bw h1 (fun q=>?_)]
  ·exact h.dd.blk
  ·obtain ⟨_,_,cur,h4⟩:=d.row.blk q
   have h5:=h.dd.blk
   rw [h4] at h5
   simp only [oI,cI] at h5
   exact absurd h5.2.1 (by decide)
 ·refine h.dd.row.keep f.ft fun i hi=>?_
  obtain ⟨_,h4,cur,h5⟩:=h.dd.row.blk hi
  refine f.blk i h4 (fun q=>?_) (h2 i hi)
  subst q
  have h6:=d.blk
  rw [h5] at h6
  simp only [oI,cI] at h6
  exact absurd h6.2.1 (by decide)
theorem DZ2.all (h:DZ2 B ls db v cs w) (hl:cs.length≤1000):Calls Tryz.prog 31 #[.pointer (some ⟨db,0,none⟩)] w fun e w'=>∃ v',e=.returned v'∧PSW B w.heap.size w' v' (allC cs 16)∧Below w.heap.size w w':=by
 obtain ⟨p,q,g,W,h1⟩:=h.st
 exact all_ok h1 (h.dd.up (Nat.zero_le _) h.hd) hl
end
theorem lnew_two (w:World):Calls Tryz.prog 6 #[] w fun e w'=>∃ ls db,e=.returned (.tuple #[.pointer (some ⟨db,0,none⟩),.pointer (some ⟨ls,0,none⟩)])∧@DZ2 ⟨fun _=>False⟩ w.heap.size ls db (.slice none 0 0) [] w'∧Below w.heap.size w w':=by
 letI:Gd:=⟨fun _=>False⟩
 refine (lnew_ok w (fun _ h=>False.elim h)).mono ?_
 rintro e w' ⟨p,q,g,ls,db,w0,rfl,h,hb⟩
 exact ⟨ls,db,rfl,⟨⟨p,q,g,w,h.now⟩,⟨h.dd.blk,RwK.nil _ _ _ _ _ _,Nat.zero_le _⟩,h.dd.hB⟩,hb⟩
theorem run2_ok [Gd] {B ls db len cap most:Nat} {v:Value} {cs:List Ch} {W w:World} {a0:Option Addr} {qa:Nat→AV} (hW:Below W.heap.size W w) (hWd:W.heap.size≤db) (h:DZ2 B ls db v cs w) (hA:AP 0 w a0 len qa) (hok:∀ i,i<len→(qa i).Ok W) (hl:len≤9223372036854775807) (hm:most≤100) (hc:cs.length≤200) :
  Calls Tryz.prog 30 #[.pointer (some ⟨db,0,none⟩),.slice a0 len cap,.int .i64 (most:Int)] w fun e w'=>e=.returned (.tuple #[])∧∃ v',DZ2 B ls db v' (runC cs qa (min len most)) w'∧DFr 0 db v w v' w':=by
 have lt:∀ {k:Nat} {o:Obj} {ww:World},ww.heap[k]?=some o→k<ww.heap.size:=fun e=>(lO e)
 obtain ⟨n,hn⟩:∃ n,n=min len most:=⟨_,rfl⟩
 rw [←hn]
 have hn1:n≤len:=by omega
 have hn2:n≤most:=by omega
 have hn3:n=len∨n=most:=by omega
 have HH:=hide h
 have HA:=hide hA
 have HOK:=hide hok
 have HW:=hide hW
 have HWD:=hide hWd
 have HC:=hide hc
 clear h hA hok hW hWd hc hn
 go_enter Tryz.func30,Tryz.ntmps30
 go_wp2_with fail
 go_loopg [6] n (fun gh s6 wx=>∃ j:Nat,j+gh=n∧s6=.int .i64 (j:Int)∧∃ v1,DZ2 B ls db v1 (runC cs qa j) wx∧DFr 0 db v w v1 wx∧AP 0 wx a0 len qa∧Below W.heap.size W wx)
 case atStart=>exact ⟨0,by omega,rfl,v,HH.out,DFr.of (Below.refl _ _) (Nat.zero_le _),HA.out,HW.out⟩
 case round =>
  obtain ⟨j,hj,rfl,v1,h1,hf1,ha1,hbw⟩:=hrel
  by_cases hjn:j<n
  ·have xj:(j:Int)<(len:Int):=by omega
   have xm:(j:Int)<(most:Int):=by omega
   have xl:(len:Int)≤9223372036854775807:=by omega
   obtain ⟨b,o,e0,hb,hcs⟩:=ha1 (by omega)
   have hac:=hcs j (by omega)
   have HQ:=hide (HOK.out j (by omega))
   have HCL:Hid ((runC cs qa j).length≤1000):=by
    show _≤_
    obtain ⟨m,e1,e2⟩:=runC_pre cs qa j
    have:=HC.out
    rw [e1,lA]
    omega
   have HRN:Hid (runC cs qa (j+1)=addC (runC cs qa j) (chA (qa j))):=rfl
   have HCH:Hid (chA (qa j)=if (qa j).kind=1 then ⟨(qa j).sp,(qa j).xs,[],true⟩ else ⟨(qa j).sp,(qa j).xs,(qa j).vs,false⟩):=rfl
   generalize chA (qa j)=cj at *
   generalize runC cs qa j=cs1 at *
   have HPR:=hide (pair_ok (B:=0) (sp:=(qa j).sp) HQ.out.lc HQ.out.cm (HQ.out.bs.later hbw (nR _)) HQ.out.vlc HQ.out.vcm (HQ.out.vbs.later hbw (nR _)) (Nat.zero_le _))
   have H1:=hide h1
   have HF1:=hide hf1
   have HA1:=hide ha1
   have HBW1:=hide hbw
   generalize qa j=aj at *
   obtain ⟨kind,at_,sp,ka,kl,kc,xs,va,vl,vc,vs⟩:=aj
   obtain ⟨c0,c1,c2,c3,c4⟩:=hac
   try dsimp only at *
   subst e0
   clear h1 hf1 ha1 hcs hb c1 HQ hbw
   have HX0:=hide c0
   go_wp2_with fail
   refine HPR.out.mono ?_
   rintro e w2 ⟨ka',kc',va',vc',rfl,hk2,hv2,hb2⟩
   have H2:=hide (H1.out.later hb2)
   have HF2:=hide (HF1.out.trans (DFr.of hb2 (Nat.zero_le _)))
   have HA2:=hide (HA1.out.later hb2)
   have HBW2:Hid (Below W.heap.size W w2):=HBW1.out.trans (hb2.mono HBW1.out.size)
   have hbx:=aAb w2 (.cells #[.int .i64 sp,.slice ka' xs.length kc',.slice va' vs.length vc'] 35)
   have HR3:Hid ((w2.alloc (.cells #[.int .i64 sp,.slice ka' xs.length kc',.slice va' vs.length vc'] 35)).heap[w2.heap.size]?=some (.cells #[.int .i64 sp,.slice ka' xs.length kc',.slice va' vs.length vc'] 35 (0,0))):=heap_alloc_new w2 _
   have H3:=hide (H2.out.later hbx)
   have HF3:=hide (HF2.out.trans (DFr.of hbx (Nat.zero_le _)))
   have HA3:=hide (HA2.out.later hbx)
   have HBW3:Hid (Below W.heap.size W (w2.alloc (.cells #[.int .i64 sp,.slice ka' xs.length kc',.slice va' vs.length vc'] 35))):=HBW2.out.trans (hbx.mono HBW2.out.size)
   have HK3:=hide (hk2.later hbx (Nat.zero_le _))
   have HV3:=hide (hv2.later hbx (Nat.zero_le _))
   have y0:(w2.alloc (.cells #[.int .i64 sp,.slice ka' xs.length kc',.slice va' vs.length vc'] 35)).cell? ⟨b,o+j*5,none⟩=some (.int .i64 kind):=(hbx.cell (by have:=hb2.size;have:=aAr HX0.out;dsimp only at *;omega)).trans ((hb2.cell (aAr HX0.out)).trans HX0.out)
   clear hb2 hbx hk2 hv2 HPR c0 c2 c3 c4
   go_upto_region 4 with fail
   generalize w2.alloc (.cells #[.int .i64 sp,.slice ka' xs.length kc',.slice va' vs.length vc'] 35)=w3 at *
   generalize w2.heap.size=L at *
   have z0:w3.cell? ⟨L,0,none⟩=some (.int .i64 sp):=aAa HR3.out
   have z1:w3.cell? ⟨L,1,none⟩=some (.slice ka' xs.length kc'):=aAa HR3.out
   have z2:w3.cell? ⟨L,2,none⟩=some (.slice va' vs.length vc'):=aAa HR3.out
   by_cases hk1:kind=1
   ·subst hk1
    have HD:=hide (ddel_any (sp:=sp) H3.out.dd HK3.out HCL.out)
    go_wp2_with fail
    refine HD.out.mono ?_
    rintro e w4 ⟨v4,rfl,hd4,hf4⟩
    have HR:=hide (H3.out.fr hd4 hf4)
    have HFR:=hide (HF3.out.trans hf4)
    have HAR:=hide (HA3.out.fr H3.out.dd hf4)
    have HBR:Hid (Below W.heap.size W w4):=HBW3.out.trans (hf4.bel H3.out.dd HWD.out HBW3.out.size)
    clear hd4 hf4 HD
    go_wp2
    go_roundg (gk-1)
    case measure=>omega
    case rel=>exact ⟨j+1,by omega,rfl,v4,by rw [HRN.out,HCH.out];(first | rw [if_pos rfl] | rw [if_pos trivial]);exact HR.out,HFR.out,HAR.out,HBR.out⟩
   ·have HD:=hide (aEd (sp:=sp) H3.out.dd HK3.out HV3.out HCL.out)
    go_wp2_with fail
    refine HD.out.mono ?_
    rintro e w4 ⟨v4,rfl,hd4,hf4⟩
    have HR:=hide (H3.out.fr hd4 hf4)
    have HFR:=hide (HF3.out.trans hf4)
    have HAR:=hide (HA3.out.fr H3.out.dd hf4)
    have HBR:Hid (Below W.heap.size W w4):=HBW3.out.trans (hf4.bel H3.out.dd HWD.out HBW3.out.size)
    clear hd4 hf4 HD
    go_wp2
    go_roundg (gk-1)
    case measure=>omega
    case rel=>exact ⟨j+1,by omega,rfl,v4,by rw [HRN.out,HCH.out,if_neg hk1];exact HR.out,HFR.out,HAR.out,HBR.out⟩
  ·have ej:j=n:=by omega
   subst ej
   have H1:=hide h1
   have HF1:=hide hf1
   clear h1 hf1 ha1 hbw
   by_cases hq:j<len
   ·have xj:(j:Int)<(len:Int):=by omega
    have xm:¬ (j:Int)<(most:Int):=by omega
    go_wp2
    go_end0
    exact ⟨rfl,v1,H1.out,HF1.out⟩
   ·have xj:¬ (j:Int)<(len:Int):=by omega
    go_wp2
    go_end0
    exact ⟨rfl,v1,H1.out,HF1.out⟩
def cA (a:AV):List Value:=[.int .i64 a.kind,.int .i64 a.at_,.int .i64 a.sp,.slice a.a a.l a.c,.slice a.va a.vl a.vc]
def rA (L:List AV):List Value:=L.flatMap cA
theorem rA_app (L M:List AV):rA (L++M)=rA L++rA M:=by simp [rA]
theorem rA_get:∀ {L:List AV} {i:Nat} {a:AV},L[i]?=some a→∀ j,j<5→(rA L)[i*5+j]?=(cA a)[j]?
 | [],i,a,h,_,_=>by simp at h
 | b::L,0,a,h,j,hj=>by
  simp only [List.getElem?_cons_zero,oI] at h
  subst h
  show (cA b++rA L)[0*5+j]?=_
  rw [List.getElem?_append_left (by show _<5;omega),Nat.zero_mul,Nat.zero_add]
 | b::L,i+1,a,h,j,hj=>by
  show (cA b++rA L)[(i+1)*5+j]?=_
  rw [List.getElem?_append_right (by show 5≤_;omega),show (i+1)*5+j-(cA b).length=i*5+j by show _-5=_;omega]
  exact rA_get (by simpa using h) j hj
abbrev ARW (n0:Nat) (w:World) (v:Value) (L:List AV):Prop:=w.ownsRow n0 47 5 v L.length (rA L)
abbrev KRW (n0:Nat) (w:World) (v:Value) (L:List AV):Prop:=w.ownsRow n0 9 1 v L.length (L.map fun a=>Value.string (kS a))
theorem own_form2 {n0 te k n:Nat} {w:World} {v:Value} {xs:List Value} (h:w.ownsRow n0 te k v n xs):∃ a c,v=.slice a n c:=by
 rcases h.2 with ⟨e,h0⟩ | ⟨g,cap,cur,e,_⟩
 ·exact ⟨none,0,by rw [e,h0]⟩
 ·exact ⟨_,_,e⟩
theorem own_apart {n0 te te2 k k2 n n2:Nat} {w w':World} {v u:Value} {xs ys:List Value} (h:w.ownsRow n0 te k v n xs) (h2:w.ownsRow n0 te2 k2 u n2 ys) (ht:te≠te2) (hg:w.grownBy w' u.ownBlock):w'.ownsRow n0 te k v n xs :=
 aAk h fun i cs e1 e2=>by
  rw [hg.block i (lO e2) ?_]
  ·exact e2
  ·intro q
   obtain ⟨_,cur,h3⟩:=aCa h2 q.symm
   obtain ⟨_,cur2,h4⟩:=aCa h e1
   rw [h3] at h4
   simp only [oI,cI] at h4
   exact ht h4.2.1.symm
theorem ARW.ap {n0 g cap:Nat} {w:World} {L:List AV} (h:ARW n0 w (.slice (some ⟨g,0,none⟩) L.length cap) L) {i:Nat} (k:Nat) (hk:i+k≤L.length):AP 0 w (some ⟨g,i*5,none⟩) k (fun j=>(L.drop i).getD j ⟨0,0,0,none,0,0,[],none,0,0,[]⟩):=by
 intro h0
 rcases h.2 with ⟨e,hn⟩ | ⟨g',cap',cur,e,h5,h6,h7,h8,h9,h10⟩
 ·cases e
 ·simp only [Value.slice.injEq,oI,Addr.mk.injEq] at e
  obtain ⟨⟨rfl,_,_⟩,_,rfl⟩:=e
  refine ⟨g,i*5,rfl,Or.inr ⟨cur,_,h6⟩,fun j hj=>?_⟩
  obtain ⟨a,ha⟩:∃ a,L[i+j]?=some a:=⟨_,gE (by omega)⟩
  have ea:(L.drop i).getD j ⟨0,0,0,none,0,0,[],none,0,0,[]⟩=a:=by
   rw [List.getD_eq_getElem?_getD,List.getElem?_drop,ha]
   rfl
  show AC w g (i*5+j*5) ((L.drop i).getD j ⟨0,0,0,none,0,0,[],none,0,0,[]⟩)
  rw [ea]
  have hc:∀ t,t<5→w.cell? ⟨g,i*5+j*5+t,none⟩=(cA a)[t]?:=by
   intro t ht
   have hg:=rA_get ha t ht
   obtain ⟨u,hu⟩:∃ u,(cA a)[t]?=some u:=⟨_,gE ht⟩
   rw [hu] at hg ⊢
   rw [aAa h6,←Array.getElem?_toList]
   rw [←h10,List.getElem?_take] at hg
   split at hg
   ·rw [show i*5+j*5+t=(i+j)*5+t by omega];exact hg
   ·cases hg
  exact ⟨hc 0 (by omega),hc 1 (by omega),hc 2 (by omega),hc 3 (by omega),hc 4 (by omega)⟩
theorem info_act:(Tryz.prog.info? 47).map (fun i=>(i.zero,i.size,i.bytes))=some (some (.agg #[.int .i64 0,.int .i64 0,.int .i64 0,.slice none 0 0,.slice none 0 0]),5,72):=by kernel_rfl
theorem info_str:(Tryz.prog.info? 9).map (fun i=>(i.zero,i.size,i.bytes))=some (some (.string ⟨#[]⟩),1,16):=by kernel_rfl
end Go.Proofs.YthgleplmbnkacaaGreat
