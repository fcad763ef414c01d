import Derived.Test.YtdpdjpkmndnaaaaGreatY68
import Derived.Test.YtdpdjpkmndnaaaaGreatY60
set_option maxRecDepth 100000
set_option maxHeartbeats 16000000
set_option linter.unusedVariables false
namespace Go.Proofs.YtdpdjpkmndnaaaaGreat
open _root_.Go.Proofs.Tryz
variable {cs:List Ch} {i j k:Nat} {key:List Nat} {r:List Val} {sp:Int} {x:Val}
theorem look_app {cs m:List Ch} {sp:Int} {key:List Nat}:∀ {n:Nat},n<=cs.length->lookC (cs++m) sp key n=lookC cs sp key n
 | 0,_=>rfl
 | n+1,h=>by
  have ih:=look_app (cs:=cs) (m:=m) (sp:=sp) (key:=key) (n:=n) (by omega)
  obtain ⟨c,hc⟩:∃ c,cs[n]?=some c:=⟨_,gE (by omega)⟩
  have hc2:(cs++m)[n]?=some c:=by rw [List.getElem?_append_left (by omega)];exact hc
  by_cases q:c.sp=sp/\c.key=key
  ·rw [aFt hc q.1 q.2,aFt hc2 q.1 q.2]
  ·rw [aG9 hc q,aG9 hc2 q,ih]
theorem get_snoc_yes {c:Ch} (h1:c.sp=sp) (h2:c.key=key):getC (cs++[c]) sp key=some c:=by
 unfold getC;rw [lA,List.length_singleton];exact aFt (by rw [List.getElem?_append_right (nR _),Nat.sub_self];rfl) h1 h2
theorem aIe {c:Ch} (h:¬ (c.sp=sp/\c.key=key)):getC (cs++[c]) sp key=getC cs sp key:=by
 unfold getC;rw [lA,List.length_singleton,aG9 (c:=c) (by rw [List.getElem?_append_right (nR _),Nat.sub_self];rfl) h];exact look_app (nR _)
theorem aHc (cs:List Ch) (sp:Int) (key:List Nat):∀ c,(getC cs sp key=some c/\c.gone=false)↔(c∈liveC cs sp/\c.key=key):=by
 refine snocInd (P:=fun cs=>∀ c,(getC cs sp key=some c/\c.gone=false)↔(c∈liveC cs sp/\c.key=key)) ?_ ?_ cs
 ·intro c;constructor
  ·rintro ⟨h,_⟩;cases h
  ·rintro ⟨h,_⟩;cases h
 ·intro cs d ih c;by_cases h1:d.sp=sp
  ·rw [aJ7 h1];by_cases h2:d.key=key
   ·rw [get_snoc_yes h1 h2,oI];constructor
    ·rintro ⟨rfl,hg⟩;exact ⟨Or.inl ⟨rfl,hg⟩,h2⟩
    ·rintro ⟨⟨rfl,hg⟩ | ⟨_,hk⟩,hk2⟩
     ·exact ⟨rfl,hg⟩
     ·exact absurd (hk2.trans h2.symm) hk
   ·rw [aIe (fun q=>h2 q.2),ih c];constructor
    ·rintro ⟨a,b⟩;exact ⟨Or.inr ⟨a,fun e=>h2 (e.symm.trans b)⟩,b⟩
    ·rintro ⟨⟨rfl,_⟩ | ⟨a,_⟩,b⟩
     ·exact absurd b h2
     ·exact ⟨a,b⟩
  ·rw [aIe (fun q=>h1 q.1),aJ9 h1,ih c]
structure Tbl where
 s:Sch
 rows:List (List Val)
def vz:Val:=(0,0,⟨#[]⟩)
def fst (r:List Val):Val:=r.getD 0 vz
def col (r:List Val) (c:Int):Val:=r.getD c.toNat vz
def rk (i:Nat) (x:Val):List Nat:=i::0::x.bytes
def xk (i:Nat) (c:Int) (r:List Val):List Nat:=i::c.toNat::((col r c).bytes++(fst r).bytes)
def keysR (i:Nat) (s:Sch) (r:List Val):List (List Nat):=rk i (fst r)::s.xs.map fun x=>xk i x.1 r
def laidR (i:Nat) (s:Sch) (r:List Val):List Ch:=(keysR i s r).map fun k=>⟨1,k,rowB r,false⟩
def goneR (i:Nat) (s:Sch) (r:List Val):List Ch:=(keysR i s r).map fun k=>⟨1,k,[],true⟩
structure RowOk (s:Sch) (r:List Val):Prop where
 len:r.length=s.cs.length
 fit:s.fits r=0
 ok:∀ x∈r,x.ok
 rE:rowE r=0
structure Inv (cs:List Ch) (T:List Tbl):Prop where
 len:T.length<=4
 ok:∀ t∈T,t.s.ok=true
 nm:∀ (i j:Nat) t u,T[i]?=some t->T[j]?=some u->t.s.nm=u.s.nm->i=j
 row:∀ t∈T,∀ r∈t.rows,RowOk t.s r
 srt:∀ t∈T,t.rows.Pairwise fun a b=>cmpB (fst a).bytes (fst b).bytes<0
 cnt:∀ t∈T,t.rows.length<=64
 uni:∀ t∈T,∀ x∈t.s.xs,x.2=true->∀ a∈t.rows,∀ b∈t.rows,(col a x.1).1≠0->col a x.1=col b x.1->a=b
 l0:∀ x,x∈liveC cs 0↔∃ i t,T[i]?=some t/\x=⟨0,slK t.s.nm,i::encS t.s,false⟩
 l1:∀ x,x∈liveC cs 1↔∃ i t,T[i]?=some t/\∃ r∈t.rows,x∈laidR i t.s r
theorem getD_mem {l:List Val} (h:k<l.length):l.getD k vz∈l:=by
 rw [List.getD_eq_getElem?_getD,gE h];exact List.getElem_mem h
section
variable {s:Sch} {r:List Val}
theorem RowOk.pos (h:RowOk s r) (hs:s.ok=true):0<r.length:=by have:=h.len;have:=Sch.c3 hs;omega
theorem RowOk.fmem (h:RowOk s r) (hs:s.ok=true):fst r∈r:=getD_mem (h.pos hs)
theorem RowOk.cmem (h:RowOk s r) (hs:s.ok=true) {x:Idx} (hx:x∈s.xs):col r x.1∈r:=by
 have:=Sch.xcol hs x hx;have:=h.len;exact getD_mem (by omega)
theorem RowOk.val (h:RowOk s r) {x:Val} (hx:x∈r):x.ok/\x.err=0/\x.bytes.length<=28:=by
 have h1:=aJy h.rE x hx;exact ⟨h.ok x hx,h1.1,val_28 h1.1 h1.2⟩
end
theorem pre_inj {y:Val} (hx:x.ok) (he:x.err=0) (hy:y.ok) (hf:y.err=0) {a b:List Nat} (h:x.bytes++a=y.bytes++b):x=y/\a=b:=by
 have e:x=y:=by
  rcases List.append_eq_append_iff.1 h with ⟨r,h1,_⟩ | ⟨r,h1,_⟩
  ·exact aG8 hx he hy hf r h1
  ·exact (aG8 hy hf hx he r h1).symm
 subst e;exact ⟨rfl,List.append_cancel_left h⟩
theorem bytes_inj {y:Val} (hx:x.ok) (he:x.err=0) (hy:y.ok) (hf:y.err=0) (h:x.bytes=y.bytes):x=y :=
 (pre_inj hx he hy hf (a:=[]) (b:=[]) (by rw [h])).1
theorem rk_inj {y:Val} (hx:x.ok) (he:x.err=0) (hy:y.ok) (hf:y.err=0) (h:rk i x=rk j y):i=j/\x=y:=by
 unfold rk at h;simp only [List.cons.injEq,true_and] at h;exact ⟨h.1,bytes_inj hx he hy hf h.2⟩
theorem xk_inj {c d:Int} {q:List Val} {s u:Sch} (hc:1<=c) (hd:1<=d) (h:xk i c r=xk j d q) (h1:(col r c).ok/\(col r c).err=0) (h2:(col q d).ok/\(col q d).err=0) (h3:(fst r).ok/\(fst r).err=0) (h4:(fst q).ok/\(fst q).err=0):i=j/\c=d/\col r c=col q d/\fst r=fst q:=by
 unfold xk at h;simp only [List.cons.injEq] at h;obtain ⟨e1,e2,e3⟩:=h;obtain ⟨e4,e5⟩:=pre_inj h1.1 h1.2 h2.1 h2.2 e3;exact ⟨e1,by omega,e4,bytes_inj h3.1 h3.2 h4.1 h4.2 e5⟩
theorem rk_xk {d:Int} {q:List Val} (hd:1<=d):rk i x≠xk j d q:=by
 intro h;unfold rk xk at h;simp only [List.cons.injEq] at h;omega
theorem keys_dis {s u:Sch} {q:List Val} (hs:s.ok=true) (hu:u.ok=true) (hr:RowOk s r) (hq:RowOk u q) {k:List Nat} (h1:k∈keysR i s r) (h2:k∈keysR j u q):i=j/\fst r=fst q:=by
 have vr:=hr.val (hr.fmem hs);have vq:=hq.val (hq.fmem hu);unfold keysR at h1 h2;rcases List.mem_cons.1 h1 with e1 | h1
 ·rcases List.mem_cons.1 h2 with e2 | h2
  ·exact rk_inj vr.1 vr.2.1 vq.1 vq.2.1 (e1.symm.trans e2)
  ·obtain ⟨x,hx,e2⟩:=List.mem_map.1 h2;exact absurd (e1.symm.trans e2.symm) (rk_xk (Sch.xcol hu x hx).1)
 ·obtain ⟨x,hx,e1⟩:=List.mem_map.1 h1;rcases List.mem_cons.1 h2 with e2 | h2
  ·exact absurd (e2.symm.trans e1.symm) (rk_xk (Sch.xcol hs x hx).1)
  ·obtain ⟨y,hy,e2⟩:=List.mem_map.1 h2;have c1:=hr.val (hr.cmem hs hx);have c2:=hq.val (hq.cmem hu hy);have:=xk_inj (s:=s) (u:=u) (Sch.xcol hs x hx).1 (Sch.xcol hu y hy).1 (e1.trans e2.symm) ⟨c1.1,c1.2.1⟩ ⟨c2.1,c2.2.1⟩ ⟨vr.1,vr.2.1⟩ ⟨vq.1,vq.2.1⟩;exact ⟨this.1,this.2.2.2⟩
theorem keys_uni {s:Sch} (hs:s.ok=true):(keysR i s r).Pairwise fun a b=>a≠b:=by
 unfold keysR;refine List.pairwise_cons.2 ⟨fun k hk=>?_,?_⟩
 ·obtain ⟨x,hx,rfl⟩:=List.mem_map.1 hk;exact rk_xk (Sch.xcol hs x hx).1
 ·rw [List.pairwise_map];refine ((Sch.xdis hs).imp_of_mem ?_);intro a b ha hb hab e;unfold xk at e;simp only [List.cons.injEq] at e;have:=(Sch.xcol hs a ha).1;have:=(Sch.xcol hs b hb).1;exact hab (by omega)
theorem aBs {s:Sch} {x:Ch}:x∈laidR i s r↔∃ k∈keysR i s r,x=⟨1,k,rowB r,false⟩:=by
 unfold laidR;rw [List.mem_map];exact ⟨fun ⟨k,a,b⟩=>⟨k,a,b.symm⟩,fun ⟨k,a,b⟩=>⟨k,a,b.symm⟩⟩
theorem aHb {s:Sch} {x:Ch}:x∈goneR i s r↔∃ k∈keysR i s r,x=⟨1,k,[],true⟩:=by
 unfold goneR;rw [List.mem_map];exact ⟨fun ⟨k,a,b⟩=>⟨k,a,b.symm⟩,fun ⟨k,a,b⟩=>⟨k,a,b.symm⟩⟩
end Go.Proofs.YtdpdjpkmndnaaaaGreat
set_option linter.unusedVariables false
namespace Go.Proofs.YtdpdjpkmndnaaaaGreat
open Go.RowKit _root_.Go.Proofs.Tryz
variable {B B1 N c cc cl col g i j k n num o pc te vc vn xc xl:Nat} {a ca pa va xa:Option Addr} {b0 b1 b2 b3 dv pv:Value} {fz:Nat×Nat} {gone:Bool} {nm:ByteArray} {r:List Val} {s:Sch} {t:TypeId} {w w' w0:World} {x:Val} {xs:List Nat}
abbrev SEt:=Option Addr×Nat×Nat
def fS (x:SEt):List Value:=[.slice x.1 x.2.1 x.2.2]
theorem aIh (x:SEt):(fS x).length=1:=rfl
theorem fS_one (x:SEt):∀ u∈fS x,u.oneCell'=true:=by intro u hu;simp only [fS,List.mem_cons,List.not_mem_nil,or_false] at hu;subst hu;rfl
theorem info_bys:(prog.info? 97).map (fun i=>(i.zero,i.size,i.bytes))=some (some (.slice none 0 0),1,24):=by kernel_rfl
def KEv (w:World) (F:List SEt) (ks:List (List Nat)):Prop:=F.length=ks.length/\∀ (i:Nat) e k,F[i]?=some e->ks[i]?=some k->BS w e.1 e.2.1 e.2.2 k/\UB w e.1
theorem UB.later (h:UB w a) (hb:Below w.heap.size w w'):UB w' a:=by
 intro x hx;obtain ⟨cs,fz,h1⟩:=h x hx;exact ⟨cs,fz,(hb.block _ (aAe h1)).trans h1⟩
theorem KEv.later {F:List SEt} {ks:List (List Nat)} (h:KEv w F ks) (hb:Below w.heap.size w w'):KEv w' F ks :=
 ⟨h.1,fun i e k h1 h2=>⟨(h.2 i e k h1 h2).1.later hb (nR _),(h.2 i e k h1 h2).2.later hb⟩⟩
theorem KEv.snoc {F:List SEt} {ks:List (List Nat)} {e:SEt} {k:List Nat} (h:KEv w F ks) (h1:BS w e.1 e.2.1 e.2.2 k) (h2:UB w e.1):KEv w (F++[e]) (ks++[k]):=by
 refine ⟨by rw [lA,lA,h.1];rfl,fun i e' k' he hk=>?_⟩;by_cases q:i<F.length
 ·rw [List.getElem?_append_left q] at he;rw [List.getElem?_append_left (by rw [<-h.1];exact q)] at hk;exact h.2 i e' k' he hk
 ·have hlen:=h.1;rw [List.getElem?_append_right (by omega)] at he hk;rw [hlen] at he;obtain ⟨j,hj⟩:∃ j,i-ks.length=j:=⟨_,rfl⟩;rw [hj] at he hk
  match j with
  | 0=>simp at he hk;subst he hk;exact ⟨h1,h2⟩
  | j+1=>simp at he
theorem aB9 (h:BS w a n c xs) (u:UB w a):BK B w a n c xs:=⟨h,fun x hx=>Or.inr (u x hx)⟩
theorem own_oneK {y:World} {u:Value} (hB:B<=y.heap.size):(y.alloc (.cells #[u] t)).ownsRow B t 1 (.slice (some ⟨y.heap.size,0,none⟩) 1 1) 1 [u] :=
 ⟨rfl,Or.inr ⟨y.heap.size,1,#[u],rfl,hB,boxed y _,by omega,by unfold maxLen;omega,rfl,rfl⟩⟩
def zCE:CE:=(⟨0,[],[],false⟩,.slice none 0 0,.slice none 0 0)
theorem mchg1:(madeCells (Value.agg #[.int .i64 0,.slice none 0 0,.slice none 0 0,.bool false]).cells (1*4)).toList=(List.replicate 1 zCE).flatMap f4:=by kernel_rfl
theorem mchg2:(madeCells (Value.agg #[.int .i64 0,.slice none 0 0,.slice none 0 0,.bool false]).cells (2*4)).toList=(List.replicate 2 zCE).flatMap f4:=by kernel_rfl
theorem mchg3:(madeCells (Value.agg #[.int .i64 0,.slice none 0 0,.slice none 0 0,.bool false]).cells (3*4)).toList=(List.replicate 3 zCE).flatMap f4:=by kernel_rfl
theorem mchg4:(madeCells (Value.agg #[.int .i64 0,.slice none 0 0,.slice none 0 0,.bool false]).cells (4*4)).toList=(List.replicate 4 zCE).flatMap f4:=by kernel_rfl
theorem made_chg (h0:1<=n) (h:n<=4):(madeCells (Value.agg #[.int .i64 0,.slice none 0 0,.slice none 0 0,.bool false]).cells (n*4)).toList=(List.replicate n zCE).flatMap f4:=by
 have:n=1\/n=2\/n=3\/n=4:=by omega
 rcases this with rfl | rfl | rfl | rfl
 ·exact mchg1
 ·exact mchg2
 ·exact mchg3
 ·exact mchg4
theorem set_row4 {l:List CE} {x x':CE} (h:w.ownsRow B te 4 (.slice (some ⟨g,0,none⟩) n c) n (l.flatMap f4)) (hx:l[j]?=some x) (hj:j<n):((((w.setCell ⟨g,j*4,none⟩ (.int .i64 x'.1.sp)).setCell ⟨g,j*4+1,none⟩ x'.2.1).setCell ⟨g,j*4+2,none⟩ x'.2.2).setCell ⟨g,j*4+3,none⟩ (.bool x'.1.gone)).ownsRow B te 4 (.slice (some ⟨g,0,none⟩) n c) n ((l.set j x').flatMap f4):=by
 have hl:=(lL hx);have h1:=aCg (u:=.int .i64 x'.1.sp) (i:=j*4) h (by omega);rw [show (l.flatMap f4).set (j*4) (.int .i64 x'.1.sp)=(l.set j (⟨x'.1.sp,x.1.key,x.1.val,x.1.gone⟩,x.2.1,x.2.2)).flatMap f4 from aCp (j:=0) aBi (by omega) hx rfl] at h1;have h2:=aCg (u:=x'.2.1) (i:=j*4+1) h1 (by omega);rw [show ((l.set j (⟨x'.1.sp,x.1.key,x.1.val,x.1.gone⟩,x.2.1,x.2.2)).flatMap f4).set (j*4+1) x'.2.1=((l.set j (⟨x'.1.sp,x.1.key,x.1.val,x.1.gone⟩,x.2.1,x.2.2)).set j (⟨x'.1.sp,x.1.key,x.1.val,x.1.gone⟩,x'.2.1,x.2.2)).flatMap f4 from aCp (j:=1) aBi (by omega) (List.getElem?_set_self hl) rfl,List.set_set] at h2;have h3:=aCg (u:=x'.2.2) (i:=j*4+2) h2 (by omega);rw [show ((l.set j (⟨x'.1.sp,x.1.key,x.1.val,x.1.gone⟩,x'.2.1,x.2.2)).flatMap f4).set (j*4+2) x'.2.2=((l.set j (⟨x'.1.sp,x.1.key,x.1.val,x.1.gone⟩,x'.2.1,x.2.2)).set j (⟨x'.1.sp,x.1.key,x.1.val,x.1.gone⟩,x'.2.1,x'.2.2)).flatMap f4 from aCp (j:=2) aBi (by omega) (List.getElem?_set_self hl) rfl,List.set_set] at h3;have h4:=aCg (u:=.bool x'.1.gone) (i:=j*4+3) h3 (by omega);rw [show ((l.set j (⟨x'.1.sp,x.1.key,x.1.val,x.1.gone⟩,x'.2.1,x'.2.2)).flatMap f4).set (j*4+3) (.bool x'.1.gone)=((l.set j (⟨x'.1.sp,x.1.key,x.1.val,x.1.gone⟩,x'.2.1,x'.2.2)).set j (⟨x'.1.sp,x.1.key,x.1.val,x'.1.gone⟩,x'.2.1,x'.2.2)).flatMap f4 from aCp (j:=3) aBi (by omega) (List.getElem?_set_self hl) rfl,List.set_set] at h4;have e:(l.set j (⟨x'.1.sp,x.1.key,x.1.val,x'.1.gone⟩,x'.2.1,x'.2.2)).flatMap f4=(l.set j x').flatMap f4:=by
  have e2:=aCp (u:=.bool x'.1.gone) (x':=x') (j:=3) aBi (by omega) (List.getElem?_set_self (a:=((⟨x'.1.sp,x.1.key,x.1.val,x'.1.gone⟩,x'.2.1,x'.2.2):CE)) hl) rfl;have e3:=aCp (u:=.bool x'.1.gone) (x':=((⟨x'.1.sp,x.1.key,x.1.val,x'.1.gone⟩,x'.2.1,x'.2.2):CE)) (j:=3) aBi (by omega) (List.getElem?_set_self (a:=((⟨x'.1.sp,x.1.key,x.1.val,x'.1.gone⟩,x'.2.1,x'.2.2):CE)) hl) rfl;rw [List.set_set] at e2 e3;rw [<-e3,e2]
 rw [<-e];exact h4
def chL (ks:List (List Nat)) (b:List Nat) (gone:Bool):List Ch:=ks.map fun k=>⟨1,k,b,gone⟩
def kvL (ks:List (List Nat)) (F:List SEt) (b:List Nat) (bv:Value) (gone:Bool):List CE:=List.zipWith (fun k e=>((⟨1,k,b,gone⟩:Ch),Value.slice e.1 e.2.1 e.2.2,bv)) ks F
theorem kvL_at {ks:List (List Nat)} {F:List SEt} {b:List Nat} {bv:Value} {k:List Nat} {e:SEt} (h1:ks[j]?=some k) (h2:F[j]?=some e):(kvL ks F b bv gone)[j]?=some ((⟨1,k,b,gone⟩:Ch),Value.slice e.1 e.2.1 e.2.2,bv):=by
 unfold kvL;rw [List.getElem?_zipWith,h1,h2]
theorem kvL_len {ks:List (List Nat)} {F:List SEt} {b:List Nat} {bv:Value} (h:F.length=ks.length):(kvL ks F b bv gone).length=ks.length:=by
 unfold kvL;rw [List.length_zipWith,h,Nat.min_self]
def keysT (i:Nat) (s:Sch) (r:List Val) (j:Nat):List (List Nat):=rk i (fst r)::(s.xs.take j).map fun x=>xk i x.1 r
theorem keysT_next {x:Idx} (h:s.xs[j]?=some x):keysT i s r (j+1)=keysT i s r j++[xk i x.1 r]:=by
 unfold keysT;rw [List.take_add_one,h,List.map_append,List.cons_append];rfl
theorem keysT_all (i:Nat) (s:Sch) (r:List Val):keysT i s r s.xs.length=keysR i s r:=by
 unfold keysT keysR;rw [List.take_length]
theorem xk_take (h1:(r.getD col vz).bytes.length<=28) (h2:(fst r).bytes.length<=28):(num::col::((r.getD col vz).bytes++(fst r).bytes)).take 60=xk num (col:Int) r:=by
 rw [List.take_of_length_le (by simp only [List.length_cons,lA];omega)];rfl
theorem TRX.sm {L M:Nat} {pn:Nat} (h:TRX L M dv num nm ca cl cc xa xl xc (.slice pa pn pc) va vn vc w0 w):(fun wx:World=>wx.cell? ⟨L,0,none⟩=some dv/\wx.cell? ⟨L,1,none⟩=some (.int .u8 (num:Int))/\wx.cell? ⟨L,2,none⟩=some (.string nm)/\wx.cell? ⟨L,3,none⟩=some (.slice ca cl cc)/\wx.cell? ⟨L,4,none⟩=some (.slice xa xl xc)/\wx.cell? ⟨M,0,none⟩=some (.slice pa pn pc)/\wx.cell? ⟨M,1,none⟩=some (.slice va vn vc)) w :=
 ⟨aAa h.t,aAa h.t,aAa h.t,aAa h.t,aAa h.t,aAa h.r,aAa h.r⟩
theorem own_ft {v:Value} {xs:List Value} (ho:w.ownsRow B te k v n xs) (hb:Below B1 w w') (hk:∀ i,i<w.heap.size->v.ownBlock≠some i->w'.heap[i]?=w.heap[i]?) (hte:te≠5):FT 0 w w':=by
 refine ⟨hb.mono (Nat.zero_le _),fun i cs fz e=>(hk i (aAe e) fun q=>?_).trans e⟩;obtain ⟨_,cur,hc⟩:=aC5 ho q;rw [hc] at e;simp only [oI,cI] at e;exact hte e.2.1
theorem TRX.own {L M:Nat} {v:Value} {xs:List Value} (h:TRX L M dv num nm ca cl cc xa xl xc pv va vn vc w0 w) (ho:w.ownsRow B te k v n xs) (hb:Below w0.heap.size w w') (hk:∀ i,i<w.heap.size->v.ownBlock≠some i->w'.heap[i]?=w.heap[i]?) (h1:te≠101) (h2:te≠119):TRX L M dv num nm ca cl cc xa xl xc pv va vn vc w0 w':=by
 have ne:∀ {i:Nat} {cs:Array Value} {t:TypeId} {fz:Nat×Nat},w.heap[i]?=some (.cells cs t fz)->te≠t->v.ownBlock≠some i:=by
  intro i cs t fz e ht q;obtain ⟨_,cur,hc⟩:=aC5 ho q;rw [hc] at e;simp only [oI,cI] at e;exact ht e.2.1
 exact ⟨(hk L (aAe h.t) (ne h.t h1)).trans h.t,(hk M (aAe h.r) (ne h.r h2)).trans h.r,h.be.trans hb⟩
theorem KEv.ft {F:List SEt} {ks:List (List Nat)} (h:KEv w F ks) (f:FT 0 w w'):KEv w' F ks:=by
 refine ⟨h.1,fun i e k h1 h2=>?_⟩;obtain ⟨a,b⟩:=h.2 i e k h1 h2;have h3:=(aB9 (B:=0) a b).ft f;exact ⟨h3.1,fun x hx=>(by obtain ⟨cs,fz,q⟩:=b x hx;exact ⟨cs,fz,f.2 _ cs fz q⟩)⟩
theorem set4_ft {cs:Array Value} (hg:w.heap[g]?=some (.cells cs 164 (0,0))):FT 0 w ((((w.setCell ⟨g,o,none⟩ b0).setCell ⟨g,o+1,none⟩ b1).setCell ⟨g,o+2,none⟩ b2).setCell ⟨g,o+3,none⟩ b3):=by
 have h1:=FT.set (B:=0) (o:=o) (u:=b0) hg (Nat.zero_le _) (by decide);have g1:(w.setCell ⟨g,o,none⟩ b0).heap[g]?=some (.cells (cs.setIfInBounds o b0) 164 (0,0)):=heap_setCell_same _ _ _ _ _ _ hg;have h2:=FT.set (B:=0) (o:=o+1) (u:=b1) g1 (Nat.zero_le _) (by decide);have g2:((w.setCell ⟨g,o,none⟩ b0).setCell ⟨g,o+1,none⟩ b1).heap[g]?=some (.cells ((cs.setIfInBounds o b0).setIfInBounds (o+1) b1) 164 (0,0)):=heap_setCell_same _ _ _ _ _ _ g1;have h3:=FT.set (B:=0) (o:=o+2) (u:=b2) g2 (Nat.zero_le _) (by decide);have g3:(((w.setCell ⟨g,o,none⟩ b0).setCell ⟨g,o+1,none⟩ b1).setCell ⟨g,o+2,none⟩ b2).heap[g]?=some (.cells (((cs.setIfInBounds o b0).setIfInBounds (o+1) b1).setIfInBounds (o+2) b2) 164 (0,0)):=heap_setCell_same _ _ _ _ _ _ g2;have h4:=FT.set (B:=0) (o:=o+3) (u:=b3) g3 (Nat.zero_le _) (by decide);exact ((h1.trans h2).trans h3).trans h4
theorem set4_be (h:Below B w0 w) (hg:B<=g):Below B w0 ((((w.setCell ⟨g,o,none⟩ b0).setCell ⟨g,o+1,none⟩ b1).setCell ⟨g,o+2,none⟩ b2).setCell ⟨g,o+3,none⟩ b3) :=
 (((h.setCell (p:=⟨g,o,none⟩) hg _).setCell (p:=⟨g,o+1,none⟩) hg _).setCell (p:=⟨g,o+2,none⟩) hg _).setCell (p:=⟨g,o+3,none⟩) hg _
theorem set4_own {cs:Array Value} {v:Value} {xs:List Value} (hg:w.heap[g]?=some (.cells cs 164 (0,0))) (h:w.ownsRow B te k v n xs) (ht:te≠164):((((w.setCell ⟨g,o,none⟩ b0).setCell ⟨g,o+1,none⟩ b1).setCell ⟨g,o+2,none⟩ b2).setCell ⟨g,o+3,none⟩ b3).ownsRow B te k v n xs:=by
 have ne:v.ownBlock≠some g:=by
  intro q;obtain ⟨_,cur,hc⟩:=aC5 h q;rw [hg] at hc;simp only [oI,cI] at hc;exact ht hc.2.1.symm
 exact ownsRow_setCell_other (ownsRow_setCell_other (ownsRow_setCell_other (ownsRow_setCell_other h ne _) ne _) ne _) ne _
theorem aDn {pn:Nat} (B:Nat) (hn:num<256) (hs:s.ok=true) (hr:RowOk s r) (hx:SVK fX 2 w xa xl xc s.xs) (hp:SVK fV 3 w pa pn pc r) (hv:HVs w va vn vc r) :
  Calls prog 57 #[.agg #[dv,.int .u8 (num:Int),.string nm,.slice ca cl cc,.slice xa xl xc],.agg #[.slice pa pn pc,.slice va vn vc],.bool gone] w fun e w'=>∃ v,e=.returned v/\CRW B w.heap.size w' v (chL (keysR num s r) (rowB r) gone)/\Below w.heap.size w w':=by
 obtain ⟨w0,hw0⟩:∃ w0,w0=(w.alloc (.cells #[dv,.int .u8 (num:Int),.string nm,.slice ca cl cc,.slice xa xl xc] 101)).alloc (.cells #[.slice pa pn pc,.slice va vn vc] 119):=⟨_,rfl⟩;have ht:TRX w.heap.size (w.heap.size+1) dv num nm ca cl cc xa xl xc (.slice pa pn pc) va vn vc w w0:=by rw [hw0];exact TRX.new w
 obtain ⟨L,hL⟩:∃ L,w.heap.size=L:=⟨_,rfl⟩;obtain ⟨M,hM⟩:∃ M,L+1=M:=⟨_,rfl⟩;rw [hL,hM] at ht;have HW1:Hid (TRX L M dv num nm ca cl cc xa xl xc (.slice pa pn pc) va vn vc w w0.drew):=ht.next (Below.refl _ _).drew;have hb:Below w.heap.size w w0.drew:=HW1.o.be;have HV:=aAc hv;have HP:=aAc hp;have HIX:=aAc hx;have HN:=aAc hn;have HS:=aAc hs;have HR:=aAc hr;have HLL:=aAc hL;have HFM:Hid (fst r∈r):=hr.fmem hs;have HF0:Hid (r[0]?=some (fst r)):=by
  show _=_;have:=hr.pos hs;rw [gE this];unfold fst;rw [List.getD_eq_getElem?_getD,gE this];rfl
 have HFV:Hid ((fst r).ok/\(fst r).err=0/\(fst r).bytes.length<=28):=hr.val (hr.fmem hs);have HFB:Hid (0<(fst r).bytes.length):=by
  obtain ⟨h9,_,_,h8⟩:=aB8 [] HFV.o.1 HFV.o.2.1;exact List.length_pos_iff.2 h8
 have HXL:Hid (s.xs.length=xl):=hx.hl;have HX3:Hid (xl<=3):=by show xl<=3;rw [<-HXL.o];exact (Sch.parts hs).2.2.1
 have HW0:=aAc hw0;rw [hL];clear hw0 hb ht hn hx hp hv hs hr;go_enter func57,ntmps57;go_upto_region 1 with fail;rw [<-HW0.o];clear HW0
 try simp only [hL,hM]
 have HX0:Hid ((fun wx:World=>wx.cell? ⟨L,0,none⟩=some dv/\wx.cell? ⟨L,1,none⟩=some (.int .u8 (num:Int))/\wx.cell? ⟨L,2,none⟩=some (.string nm)/\wx.cell? ⟨L,3,none⟩=some (.slice ca cl cc)/\wx.cell? ⟨L,4,none⟩=some (.slice xa xl xc)/\wx.cell? ⟨M,0,none⟩=some (.slice pa pn pc)/\wx.cell? ⟨M,1,none⟩=some (.slice va vn vc)) w0.drew):=HW1.o.sm;refine wp_region_noPanic ?_;refine wp_region_held_drew (S:=fun wx=>wx.cell? ⟨L,0,none⟩=some dv/\wx.cell? ⟨L,1,none⟩=some (.int .u8 (num:Int))/\wx.cell? ⟨L,2,none⟩=some (.string nm)/\wx.cell? ⟨L,3,none⟩=some (.slice ca cl cc)/\wx.cell? ⟨L,4,none⟩=some (.slice xa xl xc)/\wx.cell? ⟨M,0,none⟩=some (.slice pa pn pc)/\wx.cell? ⟨M,1,none⟩=some (.slice va vn vc)) (by kernel_rfl) HX0.o (fun hHeld=>?_);generalize w0.drew=w1 at *
 refine aAb 0 15 ?_;refine aAb 1 16 ?_;refine aAf 2 ?_;intro K hK;go_simp;refine (aEi (HV.o.later HW1.o.be) HF0.o).mono ?_;rintro e w2 ⟨a2,m2,c2,rfl,hb2,hbl⟩;have hm2:(fst r).bytes.length=m2:=hb2.hlen;have HM2:=aAc hm2;have HB2:=aAc (hb2.later hbl (nR _));have HW2:=aAc (HW1.o.next hbl);clear hb2 hbl hHeld hm2;refine hK.out _ _ HW2.o.sm (fun hHeld=>?_);clear hK K
 try simp only [Act.put,siT,scZ,scS]
 refine aAf 3 ?_;intro K hK;go_simp;refine (rowKey_ok (x:=fst r) HN.o HB2.o (by rw [<-HM2.o];exact HFB.o) (by have:=HFV.o.2.2;rw [HM2.o] at this;omega)).mono ?_;rintro e w3 ⟨a3,c3,rfl,hbs,hub,hbl⟩;have HB3:=aAc hbs;have HU3:=aAc hub;have HW3:=aAc (HW2.o.next hbl);clear hbs hub hbl hHeld;refine hK.out _ _ HW3.o.sm (fun hHeld=>?_);clear hK K
 try simp only [Act.put,siT,scZ,scS]
 refine aAf 4 ?_;intro K hK;go_simp;have hbx:=aAg w3 (.cells #[.slice a3 (min (m2+2) 60) c3] 97);have HW4:=aAc (HW3.o.next hbx);have HO4:Hid ((w3.alloc (.cells #[.slice a3 (min (m2+2) 60) c3] 97)).ownsRow L 97 1 (.slice (some ⟨w3.heap.size,0,none⟩) 1 1) 1 [.slice a3 (min (m2+2) 60) c3]):=own_oneK (by rw [<-HLL.o];exact HW3.o.be.size);have HB4:=aAc (HB3.o.later hbx (nR _));have HU4:=aAc (HU3.o.later hbx);clear hbx hHeld;refine hK.out _ _ HW4.o.sm (fun hHeld=>?_);generalize w3.alloc (.cells #[.slice a3 (min (m2+2) 60) c3] 97)=w4 at *
 generalize w3.heap.size=g at *
 clear hK K
 try simp only [Act.put,siT,scZ,scS]
 refine aAb 5 7 ?_;refine wpAnyH_done (by kernel_rfl) ?_ _;refine NoPanic.normal ?_;clear hHeld;obtain ⟨k3,hk3⟩:∃ k3,min (m2+2) 60=k3:=⟨_,rfl⟩;rw [hk3] at HO4 HB4;have HKE:Hid (KEv w4 [(a3,k3,c3)] (keysT num s r 0)):=by
  refine ⟨rfl,fun i e k he hk=>?_⟩;have:i=0:=by have:=(lL he);simpa using this
  subst this;simp only [List.getElem?_cons_zero,oI] at he;subst he;have e2:k=rk num (fst r):=by
   unfold keysT at hk;simp only [List.getElem?_cons_zero,oI] at hk;exact hk.symm
  subst e2;refine ⟨?_,HU4.o⟩;have h9:=HB4.o;have e3:(num::0::(fst r).bytes).take 60=rk num (fst r):=by
   rw [List.take_of_length_le (by have:=HFV.o.2.2;simp only [List.length_cons];omega)];rfl
  rw [e3] at h9;exact h9
 clear hk3 HB4 HU4 HB3 HU3 HB2 HW1 HW2 HW3 HX0;have y34:w4.cell? ⟨L,4,none⟩=some (.slice xa xl xc):=aAa HW4.o.t;go_wp2_with fail;clear y34;go_loopg [7,24] xl (fun gh s7 s24 wx=>∃ j:Nat,j+gh=xl/\s24=.int .i64 (j:Int)/\∃ a k c,s7=.slice a k c/\∃ Fl:List SEt,Fl.length=k/\k=j+1/\wx.ownsRow L 97 1 (.slice a k c) k (Fl.flatMap fS)/\KEv wx Fl (keysT num s r j)/\TRX L M dv num nm ca cl cc xa xl xc (.slice pa pn pc) va vn vc w wx)
 case atStart=>exact ⟨0,by omega,rfl,_,_,_,rfl,[(a3,k3,c3)],rfl,rfl,HO4.o,HKE.o,HW4.o⟩
 case round =>
  obtain ⟨j,hj,rfl,a,k,c,rfl,Fl,hF,hkj,hown,hke,htr⟩:=hrel;have HOW:=aAc hown;have HKV:=aAc hke;have HTR:=aAc htr;have HFL:=aAc hF;have HKJ:=aAc hkj;clear hown hke htr hF hkj HO4 HKE HW4;by_cases hjn:j<xl
  ·have xj:(j:Int)<(xl:Int):=by omega
   have x6:(xl:Int)<=9223372036854775807:=by have:=HX3.o;omega
   obtain ⟨ix,hix⟩:∃ x,s.xs[j]?=some x:=⟨_,gE (by rw [HXL.o];exact hjn)⟩;have hxm:ix∈s.xs:=mG hix;have hcol:=Sch.xcol HS.o ix hxm;have HNX:=aAc (keysT_next (i:=num) (r:=r) hix);have hcv:=HR.o.val (HR.o.cmem HS.o hxm);obtain ⟨xb,xo,exa,hxb,hxc⟩:=HIX.o.pl (by omega);have q0:=hxc j ix hix 0 (by omega);have q1:=hxc j ix hix 1 (by omega);obtain ⟨xi,xu⟩:=ix;obtain ⟨cn,hcn⟩:∃ n:Nat,xi=(n:Int):=⟨xi.toNat,by have:=hcol.1;dsimp only at this;omega⟩;subst hcn;dsimp only at hcol hcv;have hrl:=HR.o.len;have hc3:=(Sch.c3 HS.o).2;have HCG:Hid (r[cn]?=some (r.getD cn vz)):=by
    show _=_;rw [List.getD_eq_getElem?_getD,gE (by omega)];rfl
   have HCV:Hid ((r.getD cn vz).ok/\(r.getD cn vz).err=0/\(r.getD cn vz).bytes.length<=28):=hcv;have HCP:Hid (0<(r.getD cn vz).bytes.length):=by
    obtain ⟨h9,_,_,h8⟩:=aB8 [] HCV.o.1 HCV.o.2.1;exact List.length_pos_iff.2 h8
   have HC2:Hid (cn<256):=by show cn<256;omega
   have hxcc:=HIX.o.hc;subst exa;have y34:wr.cell? ⟨L,4,none⟩=some (.slice (some ⟨xb,xo,none⟩) xl xc):=aAa HTR.o.t;have q0':wr.cell? ⟨xb,xo+j*2,none⟩=some (.int .i64 (cn:Int)):=((HTR.o.be.cell hxb).trans q0);have q1':wr.cell? ⟨xb,xo+j*2+1,none⟩=some (.bool xu):=((HTR.o.be.cell hxb).trans q1);have hbx:=aAg wr (.cells #[.int .i64 (cn:Int),.bool xu] 61);have HT3:=aAc (HTR.o.next hbx);have HZ3:Hid ((wr.alloc (.cells #[.int .i64 (cn:Int),.bool xu] 61)).heap[wr.heap.size]?=some (.cells #[.int .i64 (cn:Int),.bool xu] 61 (0,0))):=boxed wr _;have HO3:=aAc (aAq HOW.o hbx);have HK3:=aAc (HKV.o.later hbx);have x5:(0:Int)<=(j:Int):=by omega
   clear hbx q0 q1 hxc hcol hcv hix hxm hrl hc3;go_upto_region 5 with fail;clear y34 q0' q1';generalize wr.alloc (.cells #[.int .i64 (cn:Int),.bool xu] 61)=w5 at *
   generalize wr.heap.size=G at *
   have z0:w5.cell? ⟨G,0,none⟩=some (.int .i64 (cn:Int)):=aAa HZ3.o;have y0:w5.cell? ⟨L,0,none⟩=some dv:=aAa HT3.o.t;have y1:w5.cell? ⟨L,1,none⟩=some (.int .u8 (num:Int)):=aAa HT3.o.t;have y2:w5.cell? ⟨L,2,none⟩=some (.string nm):=aAa HT3.o.t;have y3:w5.cell? ⟨L,3,none⟩=some (.slice ca cl cc):=aAa HT3.o.t;have y4:w5.cell? ⟨L,4,none⟩=some (.slice (some ⟨xb,xo,none⟩) xl xc):=aAa HT3.o.t;have m0:w5.cell? ⟨M,0,none⟩=some (.slice pa pn pc):=aAa HT3.o.r;have m1:w5.cell? ⟨M,1,none⟩=some (.slice va vn vc):=aAa HT3.o.r;have HIK:=aAc (aIc (dv:=dv) (nm:=nm) (ca:=ca) (cl:=cl) (cc:=cc) (xa:=some ⟨xb,xo,none⟩) (xl:=xl) (xc:=xc) (pv:=.slice pa pn pc) HN.o HC2.o (HV.o.later HT3.o.be) HCG.o HF0.o HCP.o (by have:=HCV.o.2.2;omega) (by have:=HFV.o.2.2;omega));obtain ⟨kl,hkl⟩:∃ kl,min ((r.getD cn vz).bytes.length+(fst r).bytes.length+2) 60=kl:=⟨_,rfl⟩;rw [xk_take HCV.o.2.2 HFV.o.2.2,hkl] at HIK;clear hkl;go_wp2_with fail;refine HIK.o.mono ?_;rintro e w6 ⟨a6,c6,rfl,hbs,hub,hbl⟩;have hbx:=aAg w6 (.cells #[.slice a6 kl c6] 97);have HT6:=aAc ((HT3.o.next hbl).next hbx);have HO6:=aAc (aAq (aAq HO3.o hbl) hbx);have HK6:=aAc (((HK3.o.later hbl).later hbx).snoc (e:=(a6,kl,c6)) (hbs.later hbx (nR _)) (hub.later hbx));have HSV:Hid (SVK fS 1 (w6.alloc (.cells #[.slice a6 kl c6] 97)) (some ⟨w6.heap.size,0,none⟩) 1 1 [((a6,kl,c6):SEt)]):=SVK.whole aIh rfl (by omega) (boxed w6 _);have HLG:Hid (L<=(w6.alloc (.cells #[.slice a6 kl c6] 97)).heap.size):=by show L<=_;rw [<-HLL.o];exact HT6.o.be.size
   clear hbs hub hbl hbx HIK HT3 HO3 HK3 HZ3 z0 y0 y1 y2 y3 y4 m0 m1;go_wp2_with (at_builtin;refine aBp aIh (by omega) fS_one underlying191 info_bys rfl (by omega) rfl (.tmp 28) (.tmp 34) rfl (B1:=L) (v:=.slice a k c) (F:=Fl) (G:=[((a6,kl,c6):SEt)]) rfl rfl (by rw [HFL.o];exact HO6.o) HSV.o HLG.o (by rw [HFL.o];have:=HKJ.o;have:=HX3.o;omega) ?_;intro v7 w7 ho7 hb7 hk7;have HO7:=aAc ho7;have HT7:=aAc (HT6.o.own HO6.o (by rw [HLL.o];exact hb7) hk7 (by decide) (by decide));have HK7:=aAc (HK6.o.ft (own_ft HO6.o hb7 hk7 (by decide)));clear ho7 hb7 hk7);obtain ⟨a7,c7,e7⟩:∃ a c,v7=.slice a (k+1) c:=by
    obtain ⟨a,c,e,_⟩:=aBm aIh HO7.o rfl;exact ⟨a,c,by rw [e,lA,HFL.o];rfl⟩
   subst e7;go_wp2;go_roundg (gk-1)
   case measure=>omega
   case rel=>exact ⟨j+1,by omega,rfl,_,_,_,rfl,Fl++[(a6,kl,c6)],by rw [lA,HFL.o];rfl,by have:=HKJ.o;omega,(by have:=HO7.o;rw [lA,HFL.o] at this;exact this),(by rw [HNX.o];exact HK7.o),HT7.o⟩
  ·have ej:j=xl:=by omega
   subst ej;have xj:¬ (j:Int)<(j:Int):=by omega
   have HKK:Hid (keysT num s r j=keysR num s r):=by show _=_;rw [<-HXL.o];exact keysT_all num s r
   have m0:wr.cell? ⟨M,0,none⟩=some (.slice pa pn pc):=aAa HTR.o.r;have y34:wr.cell? ⟨L,4,none⟩=some (.slice xa j xc):=aAa HTR.o.t;have HER:=aAc (aIj (HP.o.later HTR.o.be) HR.o.ok (fun x hx=>by have h9:=HR.o.val hx;have:=aCd h9.2.1 h9.2.2;omega));go_wp2_with fail;refine HER.o.mono ?_;rintro e w5 ⟨hE,hb5⟩;unfold EncR at hE;obtain ⟨bv,he,h0,_⟩:=hE;rw [HR.o.rE] at he h0;have hob:=h0 rfl;obtain ⟨ba,bc,ev⟩:=hob.form;obtain ⟨bn,hbn⟩:∃ bn,(rowB r).length=bn:=⟨_,rfl⟩;rw [hbn] at ev;subst ev;subst he;have HBU:Hid (UB w5 ba):=hob.ub;have HBB:Hid (BS w5 ba bn bc (rowB r)):=by
    have:=hob.bs (rowB_lt r) (by have:=aJz HR.o.rE;omega);rw [hbn] at this;exact this
   have HT5:=aAc (HTR.o.next hb5);have HK5:=aAc (HKV.o.later hb5);have HO5:=aAc (aAq HOW.o hb5);clear h0 hob hb5 m0 y34 HER HTR HKV HOW;obtain ⟨i0,hi,hz0,hz1',hz2⟩:=info_parts aKf;have hk4:k<=4:=by have:=HX3.o;have:=HKJ.o;omega
   have hk1:1<=k:=by have:=HKJ.o;omega
   go_upto_region 9 with (refine wpList_make_full w5 rfl _ _ 122 rfl w5.heap.size 164 i0 (.agg #[.int .i64 0,.slice none 0 0,.slice none 0 0,.bool false]) 4 underlying122 hi hz0 hz1' .i64 .i64 (k:Int) (k:Int) k rfl rfl rfl rfl (by rw [hz2];omega) (by unfold maxLen;omega) (nR _) ?_;intro w6 ho6 hg6;rw [made_chg hk1 hk4] at ho6;have HO6:=aAc ho6;have HG6:Hid (Below w5.heap.size w5 w6):=(Below.refl _ _).grown hg6 (nR _) (fun _ q=>nomatch q);clear ho6 hg6);have HT6:=aAc (HT5.o.next HG6.o);have HK6:=aAc (HK5.o.later HG6.o);have HB6:=aAc (HBB.o.later HG6.o (nR _));have HU6:=aAc (HBU.o.later HG6.o);have HOA:=aAc (aAq HO5.o HG6.o);have HGL:Hid (L<=w5.heap.size):=by show L<=_;rw [<-HLL.o];exact HT5.o.be.size
   clear HG6 HT5 HK5 HO5 HBB HBU hi hz0 hz1' hz2;generalize w5.heap.size=g2 at *
   obtain ⟨kv,hkv⟩:∃ kv,kv=kvL (keysR num s r) Fl (rowB r) (.slice ba bn bc) gone:=⟨_,rfl⟩;have HKV:=aAc hkv;have HFK:Hid (Fl.length=(keysR num s r).length):=by show _=_;rw [<-HKK.o];exact HK6.o.1
   have HKL:Hid (kv.length=k):=by show _=_;rw [hkv,kvL_len HFK.o,<-HFK.o];exact HFL.o
   clear hkv;rw [show List.replicate k zCE=rowJ zCE kv 0 from by rw [aFe,HKL.o]] at HO6;go_wp2_with fail;go_loopg [48] k (fun gh s48 wx=>∃ i:Nat,i+gh=k/\s48=.int .i64 (i:Int)/\wx.ownsRow g2 164 4 (.slice (some ⟨g2,0,none⟩) k k) k ((rowJ zCE kv i).flatMap f4)/\wx.ownsRow L 97 1 (.slice a k c) k (Fl.flatMap fS)/\KEv wx Fl (keysR num s r)/\BS wx ba bn bc (rowB r)/\UB wx ba/\Below w.heap.size w wx)
   case atStart=>exact ⟨0,by omega,rfl,HO6.o,HOA.o,(by rw [<-HKK.o];exact HK6.o),HB6.o,HU6.o,HT6.o.be⟩
   case round =>
    obtain ⟨i,hi,rfl,ho1,ho2,hke,hbs,hub,hbe⟩:=hrel;have HO1:=aAc ho1;have HO2:=aAc ho2;have HKE:=aAc hke;have HBS:=aAc hbs;have HUB:=aAc hub;have HBE:=aAc hbe;clear ho1 ho2 hke hbs hub hbe HO6 HOA HK6 HB6 HU6 HT6;by_cases hin:i<k
    ·have xi:(i:Int)<(k:Int):=by omega
     have xi0:(0:Int)<=(i:Int):=by omega
     have x6:(k:Int)<=9223372036854775807:=by omega
     obtain ⟨fe,hfe⟩:∃ e,Fl[i]?=some e:=⟨_,gE (by rw [HFL.o];exact hin)⟩;obtain ⟨ky,hky⟩:∃ y,(keysR num s r)[i]?=some y:=⟨_,gE (by rw [<-HFK.o,HFL.o];exact hin)⟩;obtain ⟨fa,fn,fc⟩:=fe;have HKA:Hid (kv[i]?=some ((⟨1,ky,rowB r,gone⟩:Ch),Value.slice fa fn fc,Value.slice ba bn bc)):=by show _=_;rw [HKV.o];exact kvL_at hky hfe
     have HNX:=aAc (aFf (z:=zCE) HKA.o);have HAZ:Hid ((rowJ zCE kv i)[i]?=some zCE):=aJx (by rw [HKL.o];exact hin);obtain ⟨sa,sc,esl,hsv⟩:=aBm aIh HO2.o HFL.o;simp only [Value.slice.injEq] at esl;obtain ⟨rfl,_,rfl⟩:=esl;obtain ⟨sb,so,esa,hsb,hscell⟩:=hsv.pl (by omega);have q0:wr.cell? ⟨sb,so+i,none⟩=some (.slice fa fn fc):=by
      have h9:=hscell i (fa,fn,fc) hfe 0 (by omega);rw [Nat.mul_one,Nat.add_zero] at h9;exact h9
     have qc:k<=c:=hsv.hc;have hcells:=aD2 aBi HO1.o HAZ.o;obtain ⟨cur,hcur,hcell⟩:=hcells;have c0:wr.cell? ⟨g2,i*4,none⟩=some (.int .i64 0):=hcell 0 (by omega);have c1:wr.cell? ⟨g2,i*4+1,none⟩=some (.slice none 0 0):=hcell 1 (by omega);have c2:wr.cell? ⟨g2,i*4+2,none⟩=some (.slice none 0 0):=hcell 2 (by omega);have c3:wr.cell? ⟨g2,i*4+3,none⟩=some (.bool false):=hcell 3 (by omega);have f0:wr.frozen? ⟨g2,i*4,none⟩=false:=aAi hcur;have f1:wr.frozen? ⟨g2,i*4+1,none⟩=false:=aAi hcur;have f2:wr.frozen? ⟨g2,i*4+2,none⟩=false:=aAi hcur;have f3:wr.frozen? ⟨g2,i*4+3,none⟩=false:=aAi hcur;subst esa;have HCU:=aAc hcur;clear hsv hscell hcell hcur hfe hky;go_wp2;go_roundg (gk-1)
     case measure=>omega
     case rel =>
      have hst:=set_row4 (x':=((⟨1,ky,rowB r,gone⟩:Ch),Value.slice fa fn fc,Value.slice ba bn bc)) HO1.o HAZ.o hin;rw [HNX.o] at hst;have hft:=set4_ft (o:=i*4) (b0:=.int .i64 1) (b1:=.slice fa fn fc) (b2:=.slice ba bn bc) (b3:=.bool gone) HCU.o;have hbk:=(aB9 (B:=0) HBS.o HUB.o).ft hft;exact ⟨i+1,by omega,rfl,hst,set4_own HCU.o HO2.o (by decide),HKE.o.ft hft,hbk.1,(fun x hx=>(by obtain ⟨cs,fz,q⟩:=HUB.o x hx;exact ⟨cs,fz,hft.2 _ cs fz q⟩)),set4_be HBE.o (by rw [HLL.o];exact HGL.o)⟩
    ·have ei:i=k:=by omega
     subst ei;have xi:¬ (i:Int)<(i:Int):=by omega
     go_wp2;go_ret;refine ⟨_,rfl,?_,by rw [<-HLL.o];exact HBE.o⟩;have hall:rowJ zCE kv i=kv:=by rw [<-HKL.o];exact aG5 zCE kv
     have hcl:(chL (keysR num s r) (rowB r) gone).length=i:=by unfold chL;rw [List.length_map,<-HFK.o];exact HFL.o
     refine ⟨kv,by rw [hcl];exact HKL.o,?_,fun q ch x h1 h2=>?_⟩
     ·have h9:=aFm HO1.o HGL.o;rw [hall] at h9;rw [hcl];exact h9
     ·have hq:q<i:=by have:=(lL h2);rw [HKL.o] at this;exact this
      obtain ⟨fe,hfe⟩:∃ e,Fl[q]?=some e:=⟨_,gE (by rw [HFL.o];exact hq)⟩;obtain ⟨ky,hky⟩:∃ y,(keysR num s r)[q]?=some y:=⟨_,gE (by rw [<-HFK.o,HFL.o];exact hq)⟩;rw [HKV.o,kvL_at hky hfe] at h2;simp only [oI] at h2;subst h2;unfold chL at h1;rw [List.getElem?_map,hky] at h1;simp only [Option.map_some,oI] at h1;subst h1;obtain ⟨k1,k2⟩:=HKE.o.2 q fe ky hfe hky;have e1:=k1.hlen;have e2:=HBS.o.hlen;refine ⟨rfl,⟨fe.1,fe.2.2,?_,?_⟩,⟨ba,bc,?_,?_⟩⟩
      ·show Value.slice _ _ _=Value.slice _ _ _;rw [show (⟨1,ky,rowB r,gone⟩:Ch).key.length=fe.2.1 from e1]
      ·rw [show (⟨1,ky,rowB r,gone⟩:Ch).key.length=fe.2.1 from e1];exact aB9 k1 k2
      ·show Value.slice _ _ _=Value.slice _ _ _;rw [show (⟨1,ky,rowB r,gone⟩:Ch).val.length=bn from e2]
      ·rw [show (⟨1,ky,rowB r,gone⟩:Ch).val.length=bn from e2];exact aB9 HBS.o HUB.o
theorem info_hrowK:(prog.info? 119).map (·.size)=some 2:=by kernel_rfl
theorem aIb:(prog.info? 113).map (fun i=>(i.zero,i.size,i.bytes))=some (some .nilIface,1,16):=by kernel_rfl
def HEu (w:World) (hs:List HE) (l:List Val):Prop:=hs.length=l.length/\∀ (i:Nat) x h,l[i]?=some x->hs[i]?=some h->h.1=hT x/\BS w h.2.1 h.2.2.1 h.2.2.2 x.bytes/\UB w h.2.1
theorem HEu.hev {hs:List HE} {l:List Val} (h:HEu w hs l):HEv w hs l:=⟨h.1,fun i x e h1 h2=>⟨(h.2 i x e h1 h2).1,(h.2 i x e h1 h2).2.1⟩⟩
def HVu (w:World) (a:Option Addr) (n c:Nat) (l:List Val):Prop:=∃ hs:List HE,SVK fI 1 w a n c hs/\HEu w hs l
theorem HVu.hvs {l:List Val} (h:HVu w a n c l):HVs w a n c l:=by
 obtain ⟨hs,h1,h2⟩:=h;exact ⟨hs,h1,h2.hev⟩
theorem HEu.ft {hs:List HE} {l:List Val} (h:HEu w hs l) (f:FT 0 w w'):HEu w' hs l:=by
 refine ⟨h.1,fun i x e h1 h2=>?_⟩;obtain ⟨a,b,c⟩:=h.2 i x e h1 h2;exact ⟨a,((aB9 (B:=0) b c).ft f).1,fun y hy=>(by obtain ⟨cs,fz,q⟩:=c y hy;exact ⟨cs,fz,f.2 _ cs fz q⟩)⟩
theorem HEu.snoc {hs:List HE} {l:List Val} {e:HE} (h:HEu w hs l) (h0:e.1=hT x) (h1:BS w e.2.1 e.2.2.1 e.2.2.2 x.bytes) (h2:UB w e.2.1):HEu w (hs++[e]) (l++[x]):=by
 refine ⟨by rw [lA,lA,h.1];rfl,fun i x' e' hx he=>?_⟩;have hlen:=h.1;by_cases q:i<hs.length
 ·rw [List.getElem?_append_left q] at he;rw [List.getElem?_append_left (by omega)] at hx;exact h.2 i x' e' hx he
 ·rw [List.getElem?_append_right (by omega)] at he hx;rw [hlen] at he;obtain ⟨j,hj⟩:∃ j,i-l.length=j:=⟨_,rfl⟩;rw [hj] at he hx
  match j with
  | 0=>simp at he hx;subst he hx;exact ⟨h0,h1,h2⟩
  | j+1=>simp at he
theorem HVu.later {l:List Val} (h:HVu w a n c l) (hb:Below w.heap.size w w'):HVu w' a n c l:=by
 obtain ⟨hs,h1,h2⟩:=h;exact ⟨hs,h1.later hb,h2.ft (FT.of hb (Nat.zero_le _))⟩
theorem FT.of0 (h:Below w.heap.size w w'):FT 0 w w':=FT.of h (Nat.zero_le _)
theorem aBw {v:Value} {xs:List Value} {cs:Array Value} (ho:w.ownsRow B te k v n xs) (e:w.heap[g]?=some (.cells cs t fz)) (ht:te≠t):v.ownBlock≠some g:=by
 intro q;obtain ⟨_,cur,hc⟩:=aC5 ho q;rw [hc] at e;simp only [oI,cI] at e;exact ht e.2.1
structure HRX (N:Nat) (pv:Value) (l:List Val) (j:Nat) (a:Option Addr) (k c:Nat) (hs:List HE) (w0 w:World):Prop where
 z:w.heap[N]?=some (.cells #[.slice none 0 0,.slice none 0 0] 119 (0,0))
 v:w.heap[N+1]?=some (.cells #[pv,.slice a k c] 119 (0,0))
 kj:k=j
 hl:hs.length=k
 ow:w.ownsRow N 113 1 (.slice a k c) k (hs.flatMap fI)
 he:HEu w hs (l.take j)
 be:Below N w0 w
theorem HRX.next {l:List Val} {hs:List HE} (h:HRX N pv l j a k c hs w0 w) (hb:Below w.heap.size w w'):HRX N pv l j a k c hs w0 w' :=
 ⟨(hb.block _ (aAe h.z)).trans h.z,(hb.block _ (aAe h.v)).trans h.v,h.kj,h.hl,aAq h.ow hb,h.he.ft (FT.of0 hb),h.be.trans (hb.mono (Nat.le_of_lt (aAe h.z)))⟩
theorem aGe {l:List Val} (hp:SVK fV 3 w pa n pc l) (hn:n<=1000) (hv:∀ x∈l,x.ok/\x.err=0/\x.2.2.size<=1048576) :
  Calls prog 92 #[.slice pa n pc] w fun e w'=>∃ va vc,e=.returned (.agg #[.slice pa n pc,.slice va n vc])/\HVu w' va n vc l/\Below w.heap.size w w':=by
 obtain ⟨N,hN⟩:∃ N,w.heap.size=N:=⟨_,rfl⟩;obtain ⟨w1,hw1⟩:∃ w1,w1=(w.alloc (.cells #[.slice none 0 0,.slice none 0 0] 119)).alloc (.cells #[.slice pa n pc,.slice none 0 0] 119):=⟨_,rfl⟩;have hb1:Below w.heap.size w w1:=by rw [hw1];exact (aAg w _).trans ((aAg _ _).mono (aAg w _).size)
 have HX1:Hid (HRX N (.slice pa n pc) l 0 none 0 0 [] w w1):=by
  refine ⟨by rw [hw1,<-hN];exact heap_alloc2_old w _ _,by rw [hw1,<-hN];exact heap_alloc2_new w _ _,rfl,rfl,aG6 _ _ _ _,⟨rfl,fun i x h h1 h2=>by simp at h2⟩,by rw [<-hN];exact hb1⟩
 have HP:=aAc hp;have HPL:=aAc hp.hl;have HV:=aAc hv;have HNN:=aAc hn;have HW1:=aAc hw1;have HNS:=aAc hN;rw [hN];clear hp hv hb1 hw1;go_enter func92,ntmps92;go_upto_region 2 with fail;rw [<-HW1.o]
 try simp only [hN]
 clear HW1;go_wp2_with fail;go_loopg [10] n (fun gh s10 wx=>∃ j:Nat,j+gh=n/\s10=.int .i64 (j:Int)/\∃ a k c hs,HRX N (.slice pa n pc) l j a k c hs w wx)
 case atStart=>exact ⟨0,by omega,rfl,none,0,0,[],HX1.o⟩
 case round =>
  obtain ⟨j,hj,rfl,a,k,c,hs,hx⟩:=hrel;have HX:=aAc hx;clear hx HX1;by_cases hjn:j<n
  ·have xj:(j:Int)<(n:Int):=by omega
   have xn:(n:Int)<=9223372036854775807:=by omega
   have xj0:(0:Int)<=(j:Int):=by omega
   obtain ⟨x,hxj⟩:∃ x,l[j]?=some x:=⟨_,gE (by rw [HPL.o];exact hjn)⟩;obtain ⟨pb,po,epa,hpb,hpc⟩:=HP.o.pl (by omega);have hvx:=HV.o x (mG hxj);have HVX:=aAc hvx;have HTK:Hid (l.take (j+1)=l.take j++[x]):=by show _=_;rw [List.take_add_one,hxj];rfl
   have hbw:Below w.heap.size w wr:=by rw [HNS.o];exact HX.o.be
   have q0:wr.cell? ⟨pb,po+j*3,none⟩=some (.int .i64 x.1):=(hbw.cell hpb).trans (hpc j x hxj 0 (by omega));have q1:wr.cell? ⟨pb,po+j*3+1,none⟩=some (.int .i64 x.2.1):=(hbw.cell hpb).trans (hpc j x hxj 1 (by omega));have q2:wr.cell? ⟨pb,po+j*3+2,none⟩=some (.string x.2.2):=(hbw.cell hpb).trans (hpc j x hxj 2 (by omega));have hcc:=HP.o.hc;have xpc:(n:Int)<=(pc:Int):=by omega
   have hbx:=aAg wr (.cells #[.int .i64 x.1,.int .i64 x.2.1,.string x.2.2] 36);have HX3:=aAc ((HX.o.next hbx).next (Below.refl _ _).drew);have HG3:Hid ((wr.alloc (.cells #[.int .i64 x.1,.int .i64 x.2.1,.string x.2.2] 36)).drew.heap[wr.heap.size]?=some (.cells #[.int .i64 x.1,.int .i64 x.2.1,.string x.2.2] 36 (0,0))):=boxed wr _;subst epa;clear hbx hbw hpc hvx hcc hxj;go_upto_region 5 with fail;clear q0 q1 q2;have HX0:Hid ((fun wx:World=>wx.cell? ⟨wr.heap.size,0,none⟩=some (.int .i64 x.1)/\wx.cell? ⟨wr.heap.size,1,none⟩=some (.int .i64 x.2.1)/\wx.cell? ⟨wr.heap.size,2,none⟩=some (.string x.2.2)) (wr.alloc (.cells #[.int .i64 x.1,.int .i64 x.2.1,.string x.2.2] 36)).drew):=⟨aAa HG3.o,aAa HG3.o,aAa HG3.o⟩;refine wp_region_noPanic ?_;refine wp_region_held_drew (S:=fun wx=>wx.cell? ⟨wr.heap.size,0,none⟩=some (.int .i64 x.1)/\wx.cell? ⟨wr.heap.size,1,none⟩=some (.int .i64 x.2.1)/\wx.cell? ⟨wr.heap.size,2,none⟩=some (.string x.2.2)) (by kernel_rfl) HX0.o (fun hHeld=>?_);generalize (wr.alloc (.cells #[.int .i64 x.1,.int .i64 x.2.1,.string x.2.2] 36)).drew=w3 at *
   generalize wr.heap.size=G at *
   refine aAb 0 14 ?_;refine aAb 2 16 ?_;refine aAo (i:=1) (j:=3) (by kernel_rfl) (by kernel_rfl) (by kernel_rfl) ?ba ?bb
   case ba =>
    intro o ho K hK;simp only [tG,sG,zG,oI] at ho;subst ho;have v13:w3.cell? ⟨N+1,1,none⟩=some (.slice a k c):=aAa HX3.o.v;go_simp;clear v13;refine hK.out _ _ ⟨aAa HG3.o,aAa HG3.o,aAa HG3.o⟩ (fun hHeld=>?_);clear hK K
    try simp only [Act.put,siT,scZ,scS]
    refine aAf 3 ?_;intro K hK;go_simp;refine (aGd x w3 HVX.o.1 HVX.o.2.1 HVX.o.2.2).mono ?_;rintro e w4 ⟨hv4,rfl,ho,hb⟩;have HX4:=aAc (HX3.o.next hb);have HG4:=aAc ((hb.block _ (aAe HG3.o)).trans HG3.o);have HOB:=aAc ho;clear ho hb hHeld;refine hK.out _ _ ⟨aAa HG4.o,aAa HG4.o,aAa HG4.o⟩ (fun hHeld=>?_);clear hK K
    try simp only [Act.put,siT,scZ,scS]
    refine aAf 4 ?_;intro K hK;go_simp;obtain ⟨ka,kd,ek⟩:=HOB.o.form;obtain ⟨km,hkm⟩:∃ km,x.bytes.length=km:=⟨_,rfl⟩;rw [hkm] at ek;subst ek;have HBS:Hid (BS w4 ka km kd x.bytes):=by
     have h9:=HOB.o.bs (aB2 x) (by have:=aBa x HVX.o.2.2;omega);rw [hkm] at h9;exact h9
    have HUB:Hid (UB w4 ka):=HOB.o.ub;have hbx:=aAg w4 (.cells #[.iface (hT x) (.slice ka km kd)] 113);have HX5:=aAc (HX4.o.next hbx);have HG5:=aAc ((hbx.block _ (aAe HG4.o)).trans HG4.o);have HBS5:=aAc (HBS.o.later hbx (nR _));have HUB5:=aAc (HUB.o.later hbx);have hpp:(w4.alloc (.cells #[.iface (hT x) (.slice ka km kd)] 113)).cell? ⟨w4.heap.size,0,none⟩=some (.iface (hT x) (.slice ka km kd)):=aAa (boxed w4 _);have HPP:=aAc hpp;clear hbx hHeld hkm hpp;refine hK.out _ _ ⟨aAa HG5.o,aAa HG5.o,aAa HG5.o⟩ (fun hHeld=>?_);generalize w4.alloc (.cells #[.iface (hT x) (.slice ka km kd)] 113)=w5 at *
    generalize w4.heap.size=g4 at *
    clear hK K
    try simp only [Act.put,siT,scZ,scS]
    refine aAf 5 ?_;intro K hK;rw [if_pos (by rfl)];obtain ⟨i0,hi,hz0,hz1',hz2⟩:=info_parts aIb;refine aBo (.tmp 15) (.tmp 18) 117 rfl N 113 i0 .nilIface 1 16 underlying117 hi hz0 hz1' hz2 rfl (by omega) (.slice a k c) k (hs.flatMap fI) rfl HX5.o.ow ⟨g4,0,none⟩ 1 1 [.iface (hT x) (.slice ka km kd)] rfl rfl (fun q u hq=>by match q with | 0=>simp only [List.getElem?_cons_zero,oI] at hq;subst hq;rw [add_plain];exact HPP.o | q+1=>simp at hq) (by intro u hu;simp only [List.mem_singleton] at hu;subst hu;rfl) (by unfold maxLen;have:=HX5.o.kj;have:=HNN.o;omega) (by have:=HX5.o.kj;have:=HNN.o;omega) (Nat.le_of_lt (aAe HX5.o.z)) ?_;intro v6 w6 ho6 hg6 _;have hb6:Below N w5 w6:=(Below.refl N _).grown hg6 (Nat.le_of_lt (aAe HX5.o.z)) (fun q hq=>(HX5.o.ow.lt q hq).1);have hf6:FT 0 w5 w6:=own_ft HX5.o.ow hb6 (fun q h1 h2=>hg6.block q h1 (fun e=>h2 e.symm)) (by decide);have HZ6:=aAc ((hg6.block N (aAe HX5.o.z) (fun e=>aBw HX5.o.ow HX5.o.z (by decide) e.symm)).trans HX5.o.z);have HV6:=aAc ((hg6.block (N+1) (aAe HX5.o.v) (fun e=>aBw HX5.o.ow HX5.o.v (by decide) e.symm)).trans HX5.o.v);have HG6:=aAc ((hg6.block G (aAe HG5.o) (fun e=>aBw HX5.o.ow HG5.o (by decide) e.symm)).trans HG5.o);have HB6:Hid (Below N w w6):=HX5.o.be.trans hb6;have HO6:Hid (w6.ownsRow N 113 1 v6 (k+1) ((hs++[((hT x,ka,km,kd):HE)]).flatMap fI)):=by
     show World.ownsRow _ _ _ _ _ _ _;rw [List.flatMap_append];exact ho6
    obtain ⟨a6,c6,e6,_⟩:=aBm fI_len HO6.o (by rw [lA,HX5.o.hl];rfl);have HE6:Hid (HEu w6 (hs++[((hT x,ka,km,kd):HE)]) (l.take (j+1))):=by
     show HEu _ _ _;rw [HTK.o];exact (HX5.o.he.snoc (e:=((hT x,ka,km,kd):HE)) rfl HBS5.o HUB5.o).ft hf6
    subst e6;clear ho6 hg6 hb6 hf6 hi hz0 hz1' hz2 hHeld;refine hK.out _ _ ⟨aAa HG6.o,aAa HG6.o,aAa HG6.o⟩ (fun hHeld=>?_);clear hK K
    try simp only [Act.put,siT,scZ,scS]
    refine aAb 6 20 ?_;refine aAf 7 ?_;intro K hK;have v1:w6.cell? ⟨N+1,1,none⟩=some (.slice a k c):=aAa HV6.o;have vf1:w6.frozen? ⟨N+1,1,none⟩=false:=aAi HV6.o;go_simp;clear v1 vf1 hHeld;have hne:G≠N+1:=by
     intro q;have h9:=HG6.o;rw [q,HV6.o] at h9;simp only [oI,cI] at h9;exact absurd h9.2.1 (by decide)
    have hgs:(w6.setCell ⟨N+1,1,none⟩ (.slice a6 (k+1) c6)).heap[G]?=some (.cells #[.int .i64 x.1,.int .i64 x.2.1,.string x.2.2] 36 (0,0)):=(heap_setCell_other _ _ _ _ hne).trans HG6.o;refine hK.out _ _ ⟨aAa hgs,aAa hgs,aAa hgs⟩ (fun hHeld=>?_);clear hgs hne;clear hK K
    try simp only [Act.put,siT,scZ,scS]
    refine wpAnyH_done (by kernel_rfl) ?_ _;refine NoPanic.normal ?_;clear hHeld;have HXN:Hid (HRX N (.slice (some ⟨pb,po,none⟩) n pc) l (j+1) a6 (k+1) c6 (hs++[((hT x,ka,km,kd):HE)]) w (w6.setCell ⟨N+1,1,none⟩ (.slice a6 (k+1) c6))):=by
     refine ⟨(heap_setCell_other _ _ _ _ (show N≠N+1 by omega)).trans HZ6.o,heap_setCell_same _ _ _ _ _ _ HV6.o,by have:=HX5.o.kj;omega,by rw [lA,HX5.o.hl];rfl,ownsRow_setCell_other HO6.o (aBw HO6.o HV6.o (by decide)) _,HE6.o.ft (FT.set HV6.o (Nat.zero_le _) (by decide)),HB6.o.setCell (p:=⟨N+1,1,none⟩) (show N<=N+1 by omega) _⟩
    go_wp2;go_roundg (gk-1)
    case measure=>omega
    case rel=>exact ⟨j+1,by omega,rfl,a6,k+1,c6,_,HXN.o⟩
   case bb =>
    intro o ho K hK;simp only [tG,sG,zG,oI] at ho;subst ho;go_simp;refine (aGd x w3 HVX.o.1 HVX.o.2.1 HVX.o.2.2).mono ?_;rintro e w4 ⟨hv4,rfl,ho,hb⟩;have HX4:=aAc (HX3.o.next hb);have HG4:=aAc ((hb.block _ (aAe HG3.o)).trans HG3.o);have HOB:=aAc ho;clear ho hb hHeld;refine hK.out _ _ ⟨aAa HG4.o,aAa HG4.o,aAa HG4.o⟩ (fun hHeld=>?_);clear hK K
    try simp only [Act.put,siT,scZ,scS]
    refine aAo (i:=1) (j:=4) (by kernel_rfl) (by kernel_rfl) (by kernel_rfl) ?bba ?bbb
    case bba =>
     intro o ho K hK;simp only [tG,sG,zG,oI] at ho;subst ho;have v14:w4.cell? ⟨N+1,1,none⟩=some (.slice a k c):=aAa HX4.o.v;go_simp;clear v14;refine hK.out _ _ ⟨aAa HG4.o,aAa HG4.o,aAa HG4.o⟩ (fun hHeld=>?_);clear hK K
     try simp only [Act.put,siT,scZ,scS]
     refine aAf 4 ?_;intro K hK;go_simp;obtain ⟨ka,kd,ek⟩:=HOB.o.form;obtain ⟨km,hkm⟩:∃ km,x.bytes.length=km:=⟨_,rfl⟩;rw [hkm] at ek;subst ek;have HBS:Hid (BS w4 ka km kd x.bytes):=by
      have h9:=HOB.o.bs (aB2 x) (by have:=aBa x HVX.o.2.2;omega);rw [hkm] at h9;exact h9
     have HUB:Hid (UB w4 ka):=HOB.o.ub;have hbx:=aAg w4 (.cells #[.iface (hT x) (.slice ka km kd)] 113);have HX5:=aAc (HX4.o.next hbx);have HG5:=aAc ((hbx.block _ (aAe HG4.o)).trans HG4.o);have HBS5:=aAc (HBS.o.later hbx (nR _));have HUB5:=aAc (HUB.o.later hbx);have hpp:(w4.alloc (.cells #[.iface (hT x) (.slice ka km kd)] 113)).cell? ⟨w4.heap.size,0,none⟩=some (.iface (hT x) (.slice ka km kd)):=aAa (boxed w4 _);have HPP:=aAc hpp;clear hbx hHeld hkm hpp;refine hK.out _ _ ⟨aAa HG5.o,aAa HG5.o,aAa HG5.o⟩ (fun hHeld=>?_);generalize w4.alloc (.cells #[.iface (hT x) (.slice ka km kd)] 113)=w5 at *
     generalize w4.heap.size=g4 at *
     clear hK K
     try simp only [Act.put,siT,scZ,scS]
     refine aAf 5 ?_;intro K hK;rw [if_pos (by rfl)];obtain ⟨i0,hi,hz0,hz1',hz2⟩:=info_parts aIb;refine aBo (.tmp 15) (.tmp 18) 117 rfl N 113 i0 .nilIface 1 16 underlying117 hi hz0 hz1' hz2 rfl (by omega) (.slice a k c) k (hs.flatMap fI) rfl HX5.o.ow ⟨g4,0,none⟩ 1 1 [.iface (hT x) (.slice ka km kd)] rfl rfl (fun q u hq=>by match q with | 0=>simp only [List.getElem?_cons_zero,oI] at hq;subst hq;rw [add_plain];exact HPP.o | q+1=>simp at hq) (by intro u hu;simp only [List.mem_singleton] at hu;subst hu;rfl) (by unfold maxLen;have:=HX5.o.kj;have:=HNN.o;omega) (by have:=HX5.o.kj;have:=HNN.o;omega) (Nat.le_of_lt (aAe HX5.o.z)) ?_;intro v6 w6 ho6 hg6 _;have hb6:Below N w5 w6:=(Below.refl N _).grown hg6 (Nat.le_of_lt (aAe HX5.o.z)) (fun q hq=>(HX5.o.ow.lt q hq).1);have hf6:FT 0 w5 w6:=own_ft HX5.o.ow hb6 (fun q h1 h2=>hg6.block q h1 (fun e=>h2 e.symm)) (by decide);have HZ6:=aAc ((hg6.block N (aAe HX5.o.z) (fun e=>aBw HX5.o.ow HX5.o.z (by decide) e.symm)).trans HX5.o.z);have HV6:=aAc ((hg6.block (N+1) (aAe HX5.o.v) (fun e=>aBw HX5.o.ow HX5.o.v (by decide) e.symm)).trans HX5.o.v);have HG6:=aAc ((hg6.block G (aAe HG5.o) (fun e=>aBw HX5.o.ow HG5.o (by decide) e.symm)).trans HG5.o);have HB6:Hid (Below N w w6):=HX5.o.be.trans hb6;have HO6:Hid (w6.ownsRow N 113 1 v6 (k+1) ((hs++[((hT x,ka,km,kd):HE)]).flatMap fI)):=by
      show World.ownsRow _ _ _ _ _ _ _;rw [List.flatMap_append];exact ho6
     obtain ⟨a6,c6,e6,_⟩:=aBm fI_len HO6.o (by rw [lA,HX5.o.hl];rfl);have HE6:Hid (HEu w6 (hs++[((hT x,ka,km,kd):HE)]) (l.take (j+1))):=by
      show HEu _ _ _;rw [HTK.o];exact (HX5.o.he.snoc (e:=((hT x,ka,km,kd):HE)) rfl HBS5.o HUB5.o).ft hf6
     subst e6;clear ho6 hg6 hb6 hf6 hi hz0 hz1' hz2 hHeld;refine hK.out _ _ ⟨aAa HG6.o,aAa HG6.o,aAa HG6.o⟩ (fun hHeld=>?_);clear hK K
     try simp only [Act.put,siT,scZ,scS]
     refine aAb 6 20 ?_;refine aAf 7 ?_;intro K hK;have v1:w6.cell? ⟨N+1,1,none⟩=some (.slice a k c):=aAa HV6.o;have vf1:w6.frozen? ⟨N+1,1,none⟩=false:=aAi HV6.o;go_simp;clear v1 vf1 hHeld;have hne:G≠N+1:=by
      intro q;have h9:=HG6.o;rw [q,HV6.o] at h9;simp only [oI,cI] at h9;exact absurd h9.2.1 (by decide)
     have hgs:(w6.setCell ⟨N+1,1,none⟩ (.slice a6 (k+1) c6)).heap[G]?=some (.cells #[.int .i64 x.1,.int .i64 x.2.1,.string x.2.2] 36 (0,0)):=(heap_setCell_other _ _ _ _ hne).trans HG6.o;refine hK.out _ _ ⟨aAa hgs,aAa hgs,aAa hgs⟩ (fun hHeld=>?_);clear hgs hne;clear hK K
     try simp only [Act.put,siT,scZ,scS]
     refine wpAnyH_done (by kernel_rfl) ?_ _;refine NoPanic.normal ?_;clear hHeld;have HXN:Hid (HRX N (.slice (some ⟨pb,po,none⟩) n pc) l (j+1) a6 (k+1) c6 (hs++[((hT x,ka,km,kd):HE)]) w (w6.setCell ⟨N+1,1,none⟩ (.slice a6 (k+1) c6))):=by
      refine ⟨(heap_setCell_other _ _ _ _ (show N≠N+1 by omega)).trans HZ6.o,heap_setCell_same _ _ _ _ _ _ HV6.o,by have:=HX5.o.kj;omega,by rw [lA,HX5.o.hl];rfl,ownsRow_setCell_other HO6.o (aBw HO6.o HV6.o (by decide)) _,HE6.o.ft (FT.set HV6.o (Nat.zero_le _) (by decide)),HB6.o.setCell (p:=⟨N+1,1,none⟩) (show N<=N+1 by omega) _⟩
     go_wp2;go_roundg (gk-1)
     case measure=>omega
     case rel=>exact ⟨j+1,by omega,rfl,a6,k+1,c6,_,HXN.o⟩
    case bbb =>
     intro o ho K hK;simp only [tG,sG,zG,oI] at ho;subst ho;go_simp;obtain ⟨ka,kd,ek⟩:=HOB.o.form;obtain ⟨km,hkm⟩:∃ km,x.bytes.length=km:=⟨_,rfl⟩;rw [hkm] at ek;subst ek;have HBS:Hid (BS w4 ka km kd x.bytes):=by
      have h9:=HOB.o.bs (aB2 x) (by have:=aBa x HVX.o.2.2;omega);rw [hkm] at h9;exact h9
     have HUB:Hid (UB w4 ka):=HOB.o.ub;have hbx:=aAg w4 (.cells #[.iface (hT x) (.slice ka km kd)] 113);have HX5:=aAc (HX4.o.next hbx);have HG5:=aAc ((hbx.block _ (aAe HG4.o)).trans HG4.o);have HBS5:=aAc (HBS.o.later hbx (nR _));have HUB5:=aAc (HUB.o.later hbx);have hpp:(w4.alloc (.cells #[.iface (hT x) (.slice ka km kd)] 113)).cell? ⟨w4.heap.size,0,none⟩=some (.iface (hT x) (.slice ka km kd)):=aAa (boxed w4 _);have HPP:=aAc hpp;clear hbx hHeld hkm hpp;refine hK.out _ _ ⟨aAa HG5.o,aAa HG5.o,aAa HG5.o⟩ (fun hHeld=>?_);generalize w4.alloc (.cells #[.iface (hT x) (.slice ka km kd)] 113)=w5 at *
     generalize w4.heap.size=g4 at *
     clear hK K
     try simp only [Act.put,siT,scZ,scS]
     refine aAf 1 ?_;intro K hK;have v15:w5.cell? ⟨N+1,1,none⟩=some (.slice a k c):=aAa HX5.o.v;go_simp;clear v15;refine hK.out _ _ ⟨aAa HG5.o,aAa HG5.o,aAa HG5.o⟩ (fun hHeld=>?_);clear hK K
     try simp only [Act.put,siT,scZ,scS]
     refine aAf 5 ?_;intro K hK;rw [if_pos (by rfl)];obtain ⟨i0,hi,hz0,hz1',hz2⟩:=info_parts aIb;refine aBo (.tmp 15) (.tmp 18) 117 rfl N 113 i0 .nilIface 1 16 underlying117 hi hz0 hz1' hz2 rfl (by omega) (.slice a k c) k (hs.flatMap fI) rfl HX5.o.ow ⟨g4,0,none⟩ 1 1 [.iface (hT x) (.slice ka km kd)] rfl rfl (fun q u hq=>by match q with | 0=>simp only [List.getElem?_cons_zero,oI] at hq;subst hq;rw [add_plain];exact HPP.o | q+1=>simp at hq) (by intro u hu;simp only [List.mem_singleton] at hu;subst hu;rfl) (by unfold maxLen;have:=HX5.o.kj;have:=HNN.o;omega) (by have:=HX5.o.kj;have:=HNN.o;omega) (Nat.le_of_lt (aAe HX5.o.z)) ?_;intro v6 w6 ho6 hg6 _;have hb6:Below N w5 w6:=(Below.refl N _).grown hg6 (Nat.le_of_lt (aAe HX5.o.z)) (fun q hq=>(HX5.o.ow.lt q hq).1);have hf6:FT 0 w5 w6:=own_ft HX5.o.ow hb6 (fun q h1 h2=>hg6.block q h1 (fun e=>h2 e.symm)) (by decide);have HZ6:=aAc ((hg6.block N (aAe HX5.o.z) (fun e=>aBw HX5.o.ow HX5.o.z (by decide) e.symm)).trans HX5.o.z);have HV6:=aAc ((hg6.block (N+1) (aAe HX5.o.v) (fun e=>aBw HX5.o.ow HX5.o.v (by decide) e.symm)).trans HX5.o.v);have HG6:=aAc ((hg6.block G (aAe HG5.o) (fun e=>aBw HX5.o.ow HG5.o (by decide) e.symm)).trans HG5.o);have HB6:Hid (Below N w w6):=HX5.o.be.trans hb6;have HO6:Hid (w6.ownsRow N 113 1 v6 (k+1) ((hs++[((hT x,ka,km,kd):HE)]).flatMap fI)):=by
      show World.ownsRow _ _ _ _ _ _ _;rw [List.flatMap_append];exact ho6
     obtain ⟨a6,c6,e6,_⟩:=aBm fI_len HO6.o (by rw [lA,HX5.o.hl];rfl);have HE6:Hid (HEu w6 (hs++[((hT x,ka,km,kd):HE)]) (l.take (j+1))):=by
      show HEu _ _ _;rw [HTK.o];exact (HX5.o.he.snoc (e:=((hT x,ka,km,kd):HE)) rfl HBS5.o HUB5.o).ft hf6
     subst e6;clear ho6 hg6 hb6 hf6 hi hz0 hz1' hz2 hHeld;refine hK.out _ _ ⟨aAa HG6.o,aAa HG6.o,aAa HG6.o⟩ (fun hHeld=>?_);clear hK K
     try simp only [Act.put,siT,scZ,scS]
     refine aAb 6 20 ?_;refine aAf 7 ?_;intro K hK;have v1:w6.cell? ⟨N+1,1,none⟩=some (.slice a k c):=aAa HV6.o;have vf1:w6.frozen? ⟨N+1,1,none⟩=false:=aAi HV6.o;go_simp;clear v1 vf1 hHeld;have hne:G≠N+1:=by
      intro q;have h9:=HG6.o;rw [q,HV6.o] at h9;simp only [oI,cI] at h9;exact absurd h9.2.1 (by decide)
     have hgs:(w6.setCell ⟨N+1,1,none⟩ (.slice a6 (k+1) c6)).heap[G]?=some (.cells #[.int .i64 x.1,.int .i64 x.2.1,.string x.2.2] 36 (0,0)):=(heap_setCell_other _ _ _ _ hne).trans HG6.o;refine hK.out _ _ ⟨aAa hgs,aAa hgs,aAa hgs⟩ (fun hHeld=>?_);clear hgs hne;clear hK K
     try simp only [Act.put,siT,scZ,scS]
     refine wpAnyH_done (by kernel_rfl) ?_ _;refine NoPanic.normal ?_;clear hHeld;have HXN:Hid (HRX N (.slice (some ⟨pb,po,none⟩) n pc) l (j+1) a6 (k+1) c6 (hs++[((hT x,ka,km,kd):HE)]) w (w6.setCell ⟨N+1,1,none⟩ (.slice a6 (k+1) c6))):=by
      refine ⟨(heap_setCell_other _ _ _ _ (show N≠N+1 by omega)).trans HZ6.o,heap_setCell_same _ _ _ _ _ _ HV6.o,by have:=HX5.o.kj;omega,by rw [lA,HX5.o.hl];rfl,ownsRow_setCell_other HO6.o (aBw HO6.o HV6.o (by decide)) _,HE6.o.ft (FT.set HV6.o (Nat.zero_le _) (by decide)),HB6.o.setCell (p:=⟨N+1,1,none⟩) (show N<=N+1 by omega) _⟩
     go_wp2;go_roundg (gk-1)
     case measure=>omega
     case rel=>exact ⟨j+1,by omega,rfl,a6,k+1,c6,_,HXN.o⟩
  ·have ej:j=n:=by omega
   subst ej;have xj:¬ (j:Int)<(j:Int):=by omega
   have hkj:=HX.o.kj;subst hkj;have v0:wr.cell? ⟨N+1,0,none⟩=some (.slice pa k pc):=aAa HX.o.v;have v1:wr.cell? ⟨N+1,1,none⟩=some (.slice a k c):=aAa HX.o.v;have z0:wr.cell? ⟨N,0,none⟩=some (.slice none 0 0):=aAa HX.o.z;have z1:wr.cell? ⟨N,1,none⟩=some (.slice none 0 0):=aAa HX.o.z;have zf0:wr.frozen? ⟨N,0,none⟩=false:=aAi HX.o.z;have zf1:wr.frozen? ⟨N,1,none⟩=false:=aAi HX.o.z;go_wp2;(try simp only [Exit.inBlock,Exit.then]);have hst:((wr.setCell ⟨N,0,none⟩ (.slice pa k pc)).setCell ⟨N,1,none⟩ (.slice a k c)).heap[N]?=some (.cells #[.slice pa k pc,.slice a k c] 119 (0,0)):=heap_setCell_same _ _ _ _ _ _ (heap_setCell_same _ _ _ _ _ _ HX.o.z);refine bodyPost_ret (results_cell_row results92 _ _ N _ _ _ _ rfl hst underlying119 rfl info_hrowK) rfl ?_;have hne:=aBw HX.o.ow HX.o.z (by decide);have how:=ownsRow_setCell_other (a:=⟨N,1,none⟩) (ownsRow_setCell_other (a:=⟨N,0,none⟩) HX.o.ow hne (.slice pa k pc)) hne (.slice a k c);obtain ⟨a9,c9,e9,hsv⟩:=aBm fI_len how HX.o.hl;simp only [Value.slice.injEq] at e9;obtain ⟨rfl,_,rfl⟩:=e9;have f1:FT 0 wr (wr.setCell ⟨N,0,none⟩ (.slice pa k pc)):=FT.set HX.o.z (Nat.zero_le _) (by decide);have g1:(wr.setCell ⟨N,0,none⟩ (.slice pa k pc)).heap[N]?=some (.cells #[.slice pa k pc,.slice none 0 0] 119 (0,0)):=heap_setCell_same _ _ _ _ _ _ HX.o.z;have f2:FT 0 (wr.setCell ⟨N,0,none⟩ (.slice pa k pc)) ((wr.setCell ⟨N,0,none⟩ (.slice pa k pc)).setCell ⟨N,1,none⟩ (.slice a k c)):=FT.set g1 (Nat.zero_le _) (by decide);have he:=(HX.o.he.ft f1).ft f2;rw [show l.take k=l from by rw [<-HPL.o,List.take_length]] at he;exact ⟨a,c,rfl,⟨hs,hsv,he⟩,(HX.o.be.setCell (p:=⟨N,0,none⟩) (nR _) _).setCell (p:=⟨N,1,none⟩) (nR _) _⟩
end Go.Proofs.YtdpdjpkmndnaaaaGreat
set_option linter.unusedVariables false
namespace Go.Proofs.YtdpdjpkmndnaaaaGreat
open _root_.Go.Proofs.Tryz
variable {i j:Nat} {nm:ByteArray} {r:List Val} {s:Sch} {x:Val}
def tAt (T:List Tbl) (nm:ByteArray):Option Nat:=T.findIdx? fun t=>decide (t.s.nm=nm)
theorem aA2 {T:List Tbl} (h:tAt T nm=some i):∃ t,T[i]?=some t/\t.s.nm=nm/\t∈T:=by
 obtain ⟨hi,h1,_⟩:=List.findIdx?_eq_some_iff_getElem.1 h;exact ⟨T[i],gE hi,of_decide_eq_true h1,List.getElem_mem hi⟩
theorem aJo {T:List Tbl} (h:tAt T nm=none):∀ t∈T,t.s.nm≠nm:=by
 intro t ht;have:=List.findIdx?_eq_none_iff.1 h t ht;exact of_decide_eq_false this
def rowAt (rows:List (List Val)) (x:Val):Option (List Val):=rows.find? fun r=>decide (fst r=x)
theorem aC3 {rows:List (List Val)} (h:rowAt rows x=some r):r∈rows/\fst r=x :=
 ⟨List.mem_of_find?_eq_some h,by have:=List.find?_some (p:=fun r=>decide (fst r=x)) (l:=rows) h;exact of_decide_eq_true this⟩
theorem aI9 {rows:List (List Val)} (h:rowAt rows x=none):∀ r∈rows,fst r≠x:=by
 intro r hr;have:=List.find?_eq_none.1 h r hr;simpa using this
theorem key_len (hs:s.ok=true) (hr:RowOk s r) {k:List Nat} (h:k∈keysR i s r):k.length<=58:=by
 have v:=(hr.val (hr.fmem hs)).2.2;rcases List.mem_cons.1 h with rfl | h
 ·unfold rk;simp only [List.length_cons];omega
 ·obtain ⟨x,hx,rfl⟩:=List.mem_map.1 h;have:=(hr.val (hr.cmem hs hx)).2.2;unfold xk;simp only [List.length_cons,lA];omega
section
variable {cs:List Ch} {T:List Tbl} {i:Nat} {t:Tbl}
theorem at_mem (h:T[i]?=some t):t∈T:=mG h
theorem Inv.tAt (I:Inv cs T) (h:T[i]?=some t):tAt T t.s.nm=some i:=by
 cases e:Go.Proofs.YtdpdjpkmndnaaaaGreat.tAt T t.s.nm with
 | none=>exact absurd rfl (aJo e t (at_mem h))
 | some j =>
  obtain ⟨u,h1,h2,_⟩:=aA2 e;rw [I.nm j i u t h1 h h2]
theorem Inv.find_yes (I:Inv cs T) (h:T[i]?=some t):getC cs 0 (slK t.s.nm)=some ⟨0,slK t.s.nm,i::encS t.s,false⟩ :=
 ((aHc cs 0 _ _).2 ⟨(I.l0 _).2 ⟨i,t,h,rfl⟩,rfl⟩).1
theorem Inv.find_no (I:Inv cs T) {nm:ByteArray} (h:∀ t∈T,t.s.nm≠nm):∀ c,getC cs 0 (slK nm)=some c->c.gone=true:=by
 intro c hc
 cases hg:c.gone with
 | true=>rfl
 | false =>
  obtain ⟨h1,h2⟩:=(aHc cs 0 _ c).1 ⟨hc,hg⟩;obtain ⟨j,u,h3,h4⟩:=(I.l0 c).1 h1;rw [h4] at h2;exact absurd (slK_inj h2) (h u (at_mem h3))
theorem Inv.get_yes (I:Inv cs T) (h:T[i]?=some t) {r:List Val} (hr:r∈t.rows):getC cs 1 ((rk i (fst r)).take 60)=some ⟨1,rk i (fst r),rowB r,false⟩:=by
 have hk:rk i (fst r)∈keysR i t.s r:=List.mem_cons_self;have hl:=key_len (I.ok t (at_mem h)) (I.row t (at_mem h) r hr) hk;rw [List.take_of_length_le (by omega)];exact ((aHc cs 1 _ _).2 ⟨(I.l1 _).2 ⟨i,t,h,r,hr,aBs.2 ⟨_,hk,rfl⟩⟩,rfl⟩).1
theorem Inv.get_no (I:Inv cs T) (h:T[i]?=some t) {x:Val} (hx:x.ok) (he:x.err=0) (hn:∀ r∈t.rows,fst r≠x):∀ c,getC cs 1 ((rk i x).take 60)=some c->c.gone=true:=by
 intro c hc
 cases hg:c.gone with
 | true=>rfl
 | false =>
  obtain ⟨h1,h2⟩:=(aHc cs 1 _ c).1 ⟨hc,hg⟩;obtain ⟨j,u,h3,r,hr,h4⟩:=(I.l1 c).1 h1;obtain ⟨k,hk,rfl⟩:=aBs.1 h4;have hu:=I.ok u (at_mem h3);have hro:=I.row u (at_mem h3) r hr;have hl:=key_len hu hro hk;simp only at h2;have h5:k=rk i x:=by
   rw [h2,List.length_take] at hl;rw [h2];exact List.take_of_length_le (by omega)
  subst h5;rcases List.mem_cons.1 hk with e | e
  ·have v:=hro.val (hro.fmem hu);obtain ⟨e1,e2⟩:=rk_inj hx he v.1 v.2.1 e;subst e1;rw [h] at h3;cases h3;exact absurd e2.symm (hn r hr)
  ·obtain ⟨y,hy,e2⟩:=List.mem_map.1 e;exact absurd e2.symm (rk_xk (Sch.xcol hu y hy).1)
end
structure Out where
 T:List Tbl
 m:List Ch
 e:Int
def insV (r:List Val):List (List Val)->List (List Val)
 | []=>[r]
 | d::l=>if cmpB (fst r).bytes (fst d).bytes<0 then r::d::l else d::insV r l
theorem aCn {r x:List Val}:∀ {l:List (List Val)},x∈insV r l↔x=r\/x∈l
 | []=>by simp [insV]
 | d::l=>by
  unfold insV
  split
  ·simp
  ·rw [List.mem_cons,aCn,List.mem_cons]
   constructor
   ·rintro (a | a | a)
    ·exact Or.inr (Or.inl a)
    ·exact Or.inl a
    ·exact Or.inr (Or.inr a)
   ·rintro (a | a | a)
    ·exact Or.inr (Or.inl a)
    ·exact Or.inl a
    ·exact Or.inr (Or.inr a)
theorem insV_len (r:List Val):∀ l:List (List Val),(insV r l).length=l.length+1
 | []=>rfl
 | d::l=>by
  unfold insV
  split
  ·simp
  ·simp [insV_len r l]
theorem insV_srt {r:List Val}:∀ {l:List (List Val)},(l.Pairwise fun a b=>cmpB (fst a).bytes (fst b).bytes<0)->(∀ d∈l,cmpB (fst r).bytes (fst d).bytes≠0)->(insV r l).Pairwise fun a b=>cmpB (fst a).bytes (fst b).bytes<0
 | [],_,_=>by simp [insV]
 | d::l,h,hn=>by
  obtain ⟨h1,h2⟩:=List.pairwise_cons.1 h
  unfold insV
  split
  ·rename_i q
   refine List.pairwise_cons.2 ⟨fun y hy=>?_,h⟩
   rcases List.mem_cons.1 hy with rfl | hy
   ·exact q
   ·exact aA6 q (h1 y hy)
  ·rename_i q
   refine List.pairwise_cons.2 ⟨fun y hy=>?_,insV_srt h2 fun e he=>hn e (List.mem_cons_of_mem _ he)⟩
   rcases aCn.1 hy with rfl | hy
   ·have:=hn d List.mem_cons_self
    have h3:=aDl (fst y).bytes (fst d).bytes
    omega
   ·exact h1 y hy
def clash (s:Sch) (rows:List (List Val)) (r:List Val):Bool:=s.xs.any fun x=>x.2 && (decide ((col r x.1).1≠0) && rows.any fun o=>decide (col o x.1=col r x.1) && decide (fst o≠fst r))
theorem clash_no {rows:List (List Val)} (h:clash s rows r=false):∀ x∈s.xs,x.2=true->(col r x.1).1≠0->∀ o∈rows,col o x.1=col r x.1->fst o=fst r:=by
 intro x hx h1 h2 o ho h3;unfold clash at h;rw [List.any_eq_false] at h;have:=h x hx;rw [h1,decide_eq_true h2,Bool.true_and,Bool.true_and] at this;have h4:rows.any (fun o=>decide (col o x.1=col r x.1) && decide (fst o≠fst r))=false:=by simpa using this
 rw [List.any_eq_false] at h4;have h5:=h4 o ho;rw [decide_eq_true h3,Bool.true_and] at h5;exact Decidable.of_not_not (fun q=>h5 (decide_eq_true q))
def setT (T:List Tbl) (i:Nat) (t:Tbl) (rows:List (List Val)):List Tbl:=T.set i ⟨t.s,rows⟩
theorem aCt {T:List Tbl} {t u:Tbl} {rows:List (List Val)} (h:T[i]?=some t):(setT T i t rows)[j]?=some u↔(j=i/\u=⟨t.s,rows⟩)\/(j≠i/\T[j]?=some u):=by
 unfold setT;have hi:=(lL h);by_cases e:i=j
 ·subst e;rw [List.getElem?_set_self hi];constructor
  ·intro q;exact Or.inl ⟨rfl,(Option.some.inj q).symm⟩
  ·rintro (⟨_,q⟩ | ⟨q,_⟩)
   ·rw [q]
   ·exact absurd rfl q
 ·rw [List.getElem?_set_ne e];constructor
  ·intro q;exact Or.inr ⟨fun h=>e h.symm,q⟩
  ·rintro (⟨q,_⟩ | ⟨_,q⟩)
   ·exact absurd q.symm e
   ·exact q
section
variable {cs m:List Ch} {T:List Tbl} {i:Nat} {t:Tbl} {R:List (List Val)}
theorem aJd:∀ {m:List Ch} {cs:List Ch},(∀ c∈m,c.sp=1)->liveC (cs++m) 0=liveC cs 0
 | [],cs,_=>by simp
 | c::m,cs,h=>by
  have e:cs++c::m=(cs++[c])++m:=by simp
  rw [e,aJd fun d hd=>h d (List.mem_cons_of_mem _ hd),aJ9 (by rw [h c List.mem_cons_self];decide)]
theorem Inv.change (I:Inv cs T) (h:T[i]?=some t) (hs:∀ c∈m,c.sp=1) (hl:R.length<=64) (hr:∀ r∈R,RowOk t.s r) (ho:R.Pairwise fun a b=>cmpB (fst a).bytes (fst b).bytes<0)
  (hu:∀ x∈t.s.xs,x.2=true->∀ a∈R,∀ b∈R,(col a x.1).1≠0->col a x.1=col b x.1->a=b)
  (h1:∀ x,x∈liveC (cs++m) 1↔(∃ r∈R,x∈laidR i t.s r)\/∃ j u,j≠i/\T[j]?=some u/\∃ r∈u.rows,x∈laidR j u.s r):Inv (cs++m) (setT T i t R):=by
 have mem:∀ u∈setT T i t R,u=⟨t.s,R⟩\/u∈T:=by
  intro u hu;obtain ⟨j,hj⟩:=List.getElem?_of_mem hu;rcases (aCt h).1 hj with ⟨_,e⟩ | ⟨_,e⟩
  ·exact Or.inl e
  ·exact Or.inr (at_mem e)
 refine ⟨by unfold setT;rw [List.length_set];exact I.len,fun u hu=>?_,fun j k a b ha hb hab=>?_,fun u hu=>?_,fun u hu=>?_,fun u hu=>?_,fun u hw=>?_,fun x=>?_,fun x=>?_⟩
 ·rcases mem u hu with rfl | hu
  ·exact I.ok t (at_mem h)
  ·exact I.ok u hu
 ·have key:∀ {j:Nat} {a:Tbl},(setT T i t R)[j]?=some a->∃ a',T[j]?=some a'/\a'.s.nm=a.s.nm:=by
   intro j a ha;rcases (aCt h).1 ha with ⟨e1,e2⟩ | ⟨_,e⟩
   ·exact ⟨t,by rw [e1];exact h,by rw [e2]⟩
   ·exact ⟨a,e,rfl⟩
  obtain ⟨a',ha',ea⟩:=key ha;obtain ⟨b',hb',eb⟩:=key hb;exact I.nm j k a' b' ha' hb' (by rw [ea,eb];exact hab)
 ·rcases mem u hu with rfl | hu
  ·exact hr
  ·exact I.row u hu
 ·rcases mem u hu with rfl | hu
  ·exact ho
  ·exact I.srt u hu
 ·rcases mem u hu with rfl | hu
  ·exact hl
  ·exact I.cnt u hu
 ·rcases mem u hw with e | hu2
  ·rw [e];exact hu
  ·exact I.uni u hu2
 ·rw [aJd hs,I.l0 x];constructor
  ·rintro ⟨j,u,h2,rfl⟩;by_cases e:j=i
   ·subst e;rw [h] at h2;cases h2;exact ⟨j,⟨t.s,R⟩,(aCt h).2 (Or.inl ⟨rfl,rfl⟩),rfl⟩
   ·exact ⟨j,u,(aCt h).2 (Or.inr ⟨e,h2⟩),rfl⟩
  ·rintro ⟨j,u,h2,rfl⟩;rcases (aCt h).1 h2 with ⟨rfl,rfl⟩ | ⟨_,h3⟩
   ·exact ⟨j,t,h,rfl⟩
   ·exact ⟨j,u,h3,rfl⟩
 ·rw [h1 x];constructor
  ·rintro (⟨r,hr,hx⟩ | ⟨j,u,hj,h2,hx⟩)
   ·exact ⟨i,⟨t.s,R⟩,(aCt h).2 (Or.inl ⟨rfl,rfl⟩),r,hr,hx⟩
   ·exact ⟨j,u,(aCt h).2 (Or.inr ⟨hj,h2⟩),hx⟩
  ·rintro ⟨j,u,h2,r,hr,hx⟩;rcases (aCt h).1 h2 with ⟨rfl,rfl⟩ | ⟨hj,h3⟩
   ·exact Or.inl ⟨r,hr,hx⟩
   ·exact Or.inr ⟨j,u,hj,h3,r,hr,hx⟩
end
end Go.Proofs.YtdpdjpkmndnaaaaGreat
set_option maxRecDepth 100000
set_option maxHeartbeats 16000000
set_option linter.unusedVariables false
namespace Go.Proofs.YtdpdjpkmndnaaaaGreat
open Go.RowKit _root_.Go.Proofs.Tryz
variable {B R b c cap db g k len ls n o p q:Nat} {T:List Tbl} {W w w' w0:World} {a:Option Addr} {b0 b1 b2 b3 b4 v:Value} {cs:List Ch} {fn:Func} {s:Sch} {t:TypeId} {xs:List Nat}
theorem conv_u (s:ByteArray) (w:World) (h:s.size<=1000):∃ cap w',(convert 9 97 (.string s)).run prog w=.ok (.slice (some ⟨w.heap.size,0,none⟩) s.size cap) w'/\Below w.heap.size w w'/\BS w' (some ⟨w.heap.size,0,none⟩) s.size cap (slK s)/\UB w' (some ⟨w.heap.size,0,none⟩):=by
 refine ⟨_,_,run_bytes_of_string w 9 97 5 s underlying9 underlying97 underlying5,(Below.refl _ _).drew.alloc (nR _) _,?_,?_⟩
 ·have hge:=grownCap_ge w s.size 0 5;have hle:=grownCap_le_maxLen w s.size 0 5 (by unfold maxLen;omega);unfold maxLen at hle;exact conv_bsK (heap_alloc_new w.drew _) hge (by omega) (by omega)
 ·intro x hx;cases hx;exact ⟨_,_,heap_alloc_new w.drew _⟩
theorem info_tab:(prog.info? 101).map (·.size)=some 5:=by kernel_rfl
theorem info_hrow:(prog.info? 119).map (·.size)=some 2:=by kernel_rfl
theorem aE3 {p u:Tmp} (h:fn.results=#[.cell p 101,.tmp u]) (tmps:Array Value) (w:World) (g:Nat) (t:TypeId) (x0 x1 x2 x3 x4:Value) (fr:Nat×Nat)
  (hp:tmps.getD p undef=.pointer (some ⟨g,0,none⟩)) (hg:w.heap[g]?=some (.cells #[x0,x1,x2,x3,x4] t fr)) :
  (results fn tmps).run prog w=.ok (.tuple #[.agg #[x0,x1,x2,x3,x4],tmps.getD u undef]) w:=by
 rw [results_cell_tmp h,hp];simp only [asAddr,Sem.run_pure,Result.andThen_ok,run_loadVar_row w g t 101 #[x0,x1,x2,x3,x4] fr _ hg underlying101 rfl info_tab]
theorem aD1 {p u:Tmp} (h:fn.results=#[.cell p 119,.tmp u]) (tmps:Array Value) (w:World) (g:Nat) (t:TypeId) (x0 x1:Value) (fr:Nat×Nat)
  (hp:tmps.getD p undef=.pointer (some ⟨g,0,none⟩)) (hg:w.heap[g]?=some (.cells #[x0,x1] t fr)) :
  (results fn tmps).run prog w=.ok (.tuple #[.agg #[x0,x1],tmps.getD u undef]) w:=by
 rw [results_cell_tmp h,hp];simp only [asAddr,Sem.run_pure,Result.andThen_ok,run_loadVar_row w g t 119 #[x0,x1] fr _ hg underlying119 rfl info_hrow]
theorem aJu {a0 a1 a2 a3 a4:Value} (h:w.heap[g]?=some (.cells #[a0,a1,a2,a3,a4] t (0,0))):(((((w.setCell ⟨g,0,none⟩ b0).setCell ⟨g,1,none⟩ b1).setCell ⟨g,2,none⟩ b2).setCell ⟨g,3,none⟩ b3).setCell ⟨g,4,none⟩ b4).heap[g]?=some (.cells #[b0,b1,b2,b3,b4] t (0,0)) :=
 heap_setCell_same _ _ _ _ _ _ (heap_setCell_same _ _ _ _ _ _ (heap_setCell_same _ _ _ _ _ _ (heap_setCell_same _ _ _ _ _ _ (heap_setCell_same _ _ _ _ _ _ h))))
theorem aDy (h:b≠g):(((((w.setCell ⟨g,0,none⟩ b0).setCell ⟨g,1,none⟩ b1).setCell ⟨g,2,none⟩ b2).setCell ⟨g,3,none⟩ b3).setCell ⟨g,4,none⟩ b4).heap[b]?=w.heap[b]?:=by
 rw [heap_setCell_other _ _ _ _ h,heap_setCell_other _ _ _ _ h,heap_setCell_other _ _ _ _ h,heap_setCell_other _ _ _ _ h,heap_setCell_other _ _ _ _ h]
theorem aHs (h:Below B w0 w) (hg:B<=g):Below B w0 (((((w.setCell ⟨g,0,none⟩ b0).setCell ⟨g,1,none⟩ b1).setCell ⟨g,2,none⟩ b2).setCell ⟨g,3,none⟩ b3).setCell ⟨g,4,none⟩ b4) :=
 ((((h.setCell (p:=⟨g,0,none⟩) hg _).setCell (p:=⟨g,1,none⟩) hg _).setCell (p:=⟨g,2,none⟩) hg _).setCell (p:=⟨g,3,none⟩) hg _).setCell (p:=⟨g,4,none⟩) hg _
theorem set5S:w.heap.size<=(((((w.setCell ⟨g,0,none⟩ b0).setCell ⟨g,1,none⟩ b1).setCell ⟨g,2,none⟩ b2).setCell ⟨g,3,none⟩ b3).setCell ⟨g,4,none⟩ b4).heap.size:=(aHs (g:=g) (b0:=b0) (b1:=b1) (b2:=b2) (b3:=b3) (b4:=b4) (Below.refl 0 w) (Nat.zero_le _)).size
theorem SVK.set5 {α:Type} {f:α->List Value} {l:List α} (h:SVK f k w a len cap l) (hne:0<len->∀ b o,a=some ⟨b,o,none⟩->b≠g):SVK f k (((((w.setCell ⟨g,0,none⟩ b0).setCell ⟨g,1,none⟩ b1).setCell ⟨g,2,none⟩ b2).setCell ⟨g,3,none⟩ b3).setCell ⟨g,4,none⟩ b4) a len cap l:=by
 refine ⟨h.hl,h.hc,h.hm,h.hn,fun h0=>?_⟩;obtain ⟨b,o,h1,h2,h3⟩:=h.pl h0;exact ⟨b,o,h1,Nat.lt_of_lt_of_le h2 set5S,fun i x hx t ht=>(World.cell?_of_block (aDy (hne h0 b o h1))).trans (h3 i x hx t ht)⟩
theorem zero_no (h:w.heap[R]?=some (.cells #[.pointer none,.int .u8 0,.string ⟨#[]⟩,.slice none 0 0,.slice none 0 0] 101 (0,0))) {o:Nat} {z:Int}:w.cell? ⟨R,o,none⟩≠some (.int .i64 z):=by
 rw [aAa h]
 match o with
 | 0=>simp
 | 1=>simp
 | 2=>simp
 | 3=>simp
 | 4=>simp
 | n+5=>simp
theorem col_no (h:w.heap[R]?=some (.cells #[.pointer none,.int .u8 0,.string ⟨#[]⟩,.slice none 0 0,.slice none 0 0] 101 (0,0))) {a:Option Addr} {n c:Nat} {l:List Col} (hs:SVK fC 3 w a n c l):0<n->∀ b o,a=some ⟨b,o,none⟩->b≠R:=by
 intro h0 b o ha e;obtain ⟨b',o',h1,_,h3⟩:=hs.pl h0;rw [ha] at h1;simp only [oI,Addr.mk.injEq] at h1;obtain ⟨rfl,rfl,_⟩:=h1;subst e;obtain ⟨x,hx⟩:∃ x,l[0]?=some x:=⟨_,gE (by rw [hs.hl];exact h0)⟩;exact zero_no h (h3 0 x hx 1 (by omega))
theorem ix_no (h:w.heap[R]?=some (.cells #[.pointer none,.int .u8 0,.string ⟨#[]⟩,.slice none 0 0,.slice none 0 0] 101 (0,0))) {a:Option Addr} {n c:Nat} {l:List Idx} (hs:SVK fX 2 w a n c l):0<n->∀ b o,a=some ⟨b,o,none⟩->b≠R:=by
 intro h0 b o ha e;obtain ⟨b',o',h1,_,h3⟩:=hs.pl h0;rw [ha] at h1;simp only [oI,Addr.mk.injEq] at h1;obtain ⟨rfl,rfl,_⟩:=h1;subst e;obtain ⟨x,hx⟩:∃ x,l[0]?=some x:=⟨_,gE (by rw [hs.hl];exact h0)⟩;exact zero_no h (h3 0 x hx 0 (by omega))
def tblV (db i:Nat) (s:Sch) (ca:Option Addr) (cc:Nat) (xa:Option Addr) (xc:Nat):Value:=.agg #[.pointer (some ⟨db,0,none⟩),.int .u8 (i:Int),.string s.nm,.slice ca s.cs.length cc,.slice xa s.xs.length xc]
def FindR (T:List Tbl) (nm:ByteArray) (db:Nat) (e:Ending) (w':World):Prop :=
 (tAt T nm=none->e=.returned (.tuple #[.agg #[.pointer none,.int .u8 0,.string ⟨#[]⟩,.slice none 0 0,.slice none 0 0],.int .i64 60])) /\
 ∀ i t,tAt T nm=some i->T[i]?=some t->∃ ca cc xa xc,e=.returned (.tuple #[tblV db i t.s ca cc xa xc,.int .i64 0])/\SC w' ca t.s.cs.length cc xa t.s.xs.length xc t.s
theorem GtD.none_ {o:Option Ch} {e:Ending} (h:GtD B o e w') (hg:∀ c,o=some c->c.gone=true):e=.returned (.tuple #[.slice none 0 0,.bool false,.int .i64 0]):=by
 obtain ⟨vv,is,he,ho⟩:=h
 cases o with
 | none=>obtain ⟨rfl,rfl⟩:=ho;exact he
 | some c =>
  have ho:if c.gone=true then vv=.slice none 0 0/\is=false else is=true/\KV B w' vv c.val:=ho
  rw [if_pos (hg c rfl)] at ho;obtain ⟨rfl,rfl⟩:=ho;exact he
theorem GtD.some_ {c:Ch} {e:Ending} (h:GtD B (some c) e w') (hg:c.gone=false):∃ a k,e=.returned (.tuple #[.slice a c.val.length k,.bool true,.int .i64 0])/\BK B w' a c.val.length k c.val:=by
 obtain ⟨vv,is,he,ho⟩:=h;have ho:if c.gone=true then vv=.slice none 0 0/\is=false else is=true/\KV B w' vv c.val:=ho
 rw [if_neg (by rw [hg];decide)] at ho;obtain ⟨rfl,a,k,rfl,hb⟩:=ho;exact ⟨a,k,he,hb⟩
theorem bs_tail {x:Nat} (h:BS w (some ⟨b,o,none⟩) (n+1) c (x::xs)):BS w (some ⟨b,o+1,none⟩) n (c-1) xs:=by
 refine ⟨by have:=h.hlen;simpa using this,by have:=h.hcap;omega,by have:=h.hroom;omega,by have:=h.hmax;omega,fun y hy=>h.hbyte y (List.mem_cons_of_mem _ hy),(fun q=>by cases q),fun a ha i hi=>?_⟩;cases ha;have:=h.hcell _ rfl (i+1) (by omega);rw [add_plain] at this ⊢;rw [show o+1+i=o+(i+1) by omega,this];rfl
theorem encS_pos (h:s.ok=true):0<(encS s).length:=by
 unfold encS wb;have h8:=(Sch.parts h).1;have:=aAs s.nm.size (aAt s.nm.size (by omega)).1;have:=(aAt s.nm.size (by omega)).1;simp only [lA];omega
theorem nm_of (h:s.ok=true):isNm s.nm=true:=by
 unfold Sch.ok at h;simp only [Bool.and_eq_true] at h;exact h.1.1
theorem aG3 [Gd] (h:DR B p q g ls db v cs W w0 w) (I:Inv cs T) (hl:cs.length<=1000) (nm:ByteArray) :
  Calls prog 41 #[.pointer (some ⟨db,0,none⟩),.string nm] w fun e w'=>FindR T nm db e w'/\Below w.heap.size w w':=by
 obtain ⟨R,hR⟩:∃ R,w.heap.size=R:=⟨_,rfl⟩;obtain ⟨w1,hw1⟩:∃ w1,w1=w.alloc (.cells #[.pointer none,.int .u8 0,.string ⟨#[]⟩,.slice none 0 0,.slice none 0 0] 101):=⟨_,rfl⟩;have hb1:Below w.heap.size w w1:=by rw [hw1];exact aAg w _
 have HZ1:Hid (w1.heap[R]?=some (.cells #[.pointer none,.int .u8 0,.string ⟨#[]⟩,.slice none 0 0,.slice none 0 0] 101 (0,0))):=by show _=_;rw [hw1,<-hR];exact boxed w _
 have HD1:=aAc (h.later hb1);have HB1:Hid (Below R w w1):=by show Below R w w1;rw [<-hR];exact hb1
 have HBR:Hid (B<=R):=by show B<=R;rw [<-hR];exact h.bw
 have HI:=aAc I;have HL:=aAc hl;have HW1:=aAc hw1;have HNM:=aAc (aJ6 nm w1);rw [hR];clear h I hl hb1 hw1;go_enter func41,ntmps41;go_upto_region 1 with fail;rw [<-HW1.o]
 try simp only [hR]
 clear HW1;go_wp2_with fail;refine HNM.o.mono ?_;rintro e w2 ⟨rfl,hb2⟩;have HD2:=aAc (HD1.o.later hb2);have HZ2:=aAc ((hb2.block R (aAe HZ1.o)).trans HZ1.o);have HB2:Hid (Below R w w2):=HB1.o.trans (hb2.mono (Nat.le_of_lt (aAe HZ1.o)));clear hb2 HNM HD1 HZ1 HB1;by_cases hn:isNm nm=true
 ·have HNN:=aAc hn;rw [hn];have hsz:nm.size<=8:=aFv hn;have hsz1:1<=nm.size:=by
   unfold isNm at hn;simp only [Bool.and_eq_true,decide_eq_true_eq] at hn;exact hn.1.1
  obtain ⟨cp3,w3,hcv3,hb3,hbs3,hub3⟩:=conv_u nm w2 (by omega);have HD3:=aAc (HD2.o.later hb3);have HZ3:=aAc ((hb3.block R (aAe HZ2.o)).trans HZ2.o);have HB3:Hid (Below R w w3):=HB2.o.trans (hb3.mono (Nat.le_of_lt (aAe HZ2.o)));have HGT:=aAc (dget_ok (sp:=0) HD3.o.now HD3.o.dd HL.o (aB9 hbs3 hub3) (by unfold wrg;rw [show isSp 0=true from rfl,decide_eq_false (show ¬ nm.size=0 by omega),decide_eq_false (show ¬ 60<nm.size by omega),decide_eq_false (show ¬ 1800<0 by omega)];rfl));clear hn hsz hsz1 hb3 hbs3 hub3;generalize w2.heap.size=G at *
  go_wp2_with fail;refine HGT.o.mono ?_;rintro e w4 ⟨hgt,hb4⟩;have HD4:=aAc (HD3.o.later hb4);have HZ4:=aAc ((hb4.block R (aAe HZ3.o)).trans HZ3.o);have HB4:Hid (Below R w w4):=HB3.o.trans (hb4.mono (Nat.le_of_lt (aAe HZ3.o)));clear hb4 HGT HD3 HZ3 HB3 HD2 HZ2 HB2 hcv3;have t0:w4.cell? ⟨R,0,none⟩=some (.pointer none):=aAa HZ4.o;have tf0:w4.frozen? ⟨R,0,none⟩=false:=aAi HZ4.o;have t1:w4.cell? ⟨R,1,none⟩=some (.int .u8 0):=aAa HZ4.o;have tf1:w4.frozen? ⟨R,1,none⟩=false:=aAi HZ4.o;have t2:w4.cell? ⟨R,2,none⟩=some (.string ⟨#[]⟩):=aAa HZ4.o;have tf2:w4.frozen? ⟨R,2,none⟩=false:=aAi HZ4.o;have t3:w4.cell? ⟨R,3,none⟩=some (.slice none 0 0):=aAa HZ4.o;have tf3:w4.frozen? ⟨R,3,none⟩=false:=aAi HZ4.o;have t4:w4.cell? ⟨R,4,none⟩=some (.slice none 0 0):=aAa HZ4.o;have tf4:w4.frozen? ⟨R,4,none⟩=false:=aAi HZ4.o
  cases hta:tAt T nm with
  | none =>
   have he:=hgt.none_ (HI.o.find_no (aJo hta));subst he;have HTA:=aAc hta;clear hgt hta;go_wp2;(try simp only [Exit.inBlock,Exit.then]);refine bodyPost_ret (aE3 results41 _ _ R _ _ _ _ _ _ _ rfl (aJu HZ4.o)) rfl ?_;exact ⟨⟨fun _=>rfl,fun i t q=>by rw [HTA.o] at q;cases q⟩,aHs HB4.o (nR _)⟩
  | some i =>
   obtain ⟨t,hti,htn,htm⟩:=aA2 hta;subst htn;rw [HI.o.find_yes hti] at hgt;have hi4:i<4:=by have:=(lL hti);have:=HI.o.len;omega
   have HOK:=aAc (HI.o.ok t htm);obtain ⟨a4,k4,he,hbk⟩:=hgt.some_ rfl;subst he;dsimp only at hbk;have HTA:=aAc hta;have HTI:=aAc hti;have hep:=encS_pos HOK.o;obtain ⟨ne,hne⟩:∃ ne,(encS t.s).length=ne:=⟨_,rfl⟩;have hbk1:=hbk.1;simp only [List.length_cons] at hbk1;rw [hne] at hbk1 hep;have hlc:(i::encS t.s).length=ne+1:=by rw [List.length_cons,hne]
   obtain ⟨bb,bo,ea,_,_⟩:=hbk1.place (by omega);subst ea;have hbc:w4.cell? ⟨bb,bo,none⟩=some (.int .u8 (i:Int)):=by
    have:=hbk1.hcell _ rfl 0 (by omega);rw [add_plain,Nat.add_zero] at this;exact this
   have HBC:=aAc hbc;have HNR:Hid (bb≠R):=by
    intro q;rcases hbk.2 _ rfl with q2 | ⟨cs2,fz2,q2⟩
    ·have:=HBR.o;dsimp only at q2;omega
    ·dsimp only at q2;rw [q,HZ4.o] at q2;simp only [oI,cI] at q2;exact absurd q2.2.1 (by decide)
   have HTL:=aAc (bs_tail hbk1);have hcap:=hbk1.hcap;have hmax:=hbk1.hmax;have hrm:=hbk1.hroom;have z1:¬ ((ne:Int)+1=0):=by omega
   have z2:(1:Int)<=(ne:Int)+1:=by omega
   have z3:(0:Int)<=(ne:Int):=by omega
   have z4:(ne:Int)+1<=(k4:Int):=by omega
   have z5:(k4:Int)<=9223372036854775807:=by omega
   have z6:1<k4:=by omega
   have HDC:=aAc (decode_ok HTL.o HOK.o);rw [hlc];clear hgt hta hti htm hbk hbk1 hcap hmax hrm hbc hne hlc;go_wp2_with fail;refine HDC.o.mono ?_;rintro e w5 ⟨ca,cc,xa,xc,rfl,hsc,hb5⟩;have hbx:=aAg w5 (.cells #[.string t.s.nm,.slice ca t.s.cs.length cc,.slice xa t.s.xs.length xc] 33);have HV6:Hid ((w5.alloc (.cells #[.string t.s.nm,.slice ca t.s.cs.length cc,.slice xa t.s.xs.length xc] 33)).heap[w5.heap.size]?=some (.cells #[.string t.s.nm,.slice ca t.s.cs.length cc,.slice xa t.s.xs.length xc] 33 (0,0))):=boxed w5 _;have hz5:=(hb5.block R (aAe HZ4.o)).trans HZ4.o;have HVR:Hid (w5.heap.size≠R):=by have:=aAe hz5;show _≠_;omega
   have HZ6:=aAc ((hbx.block R (aAe hz5)).trans hz5);have HBC6:=aAc ((hbx.cell (by have:=hb5.size;have:=aAn HBC.o;omega)).trans ((hb5.cell (aAn HBC.o)).trans HBC.o));have HSC6:=aAc (hsc.later hbx);have HB6:Hid (Below R w (w5.alloc (.cells #[.string t.s.nm,.slice ca t.s.cs.length cc,.slice xa t.s.xs.length xc] 33))):=HB4.o.trans ((hb5.mono (Nat.le_of_lt (aAe HZ4.o))).trans (hbx.mono (Nat.le_of_lt (aAe hz5))));clear hbx hsc hz5 hb5 HDC t0 tf0 t1 tf1 t2 tf2 t3 tf3 t4 tf4;go_upto_region 13 with fail;generalize w5.alloc (.cells #[.string t.s.nm,.slice ca t.s.cs.length cc,.slice xa t.s.xs.length xc] 33)=w6 at *
   generalize w5.heap.size=V at *
   have y0:w6.cell? ⟨V,0,none⟩=some (.string t.s.nm):=aAa HV6.o;go_upto_region 15 with fail;clear y0;have HX0:Hid ((fun wx:World=>wx.cell? ⟨bb,bo,none⟩=some (.int .u8 (i:Int))/\wx.cell? ⟨V,0,none⟩=some (.string t.s.nm)/\wx.cell? ⟨V,1,none⟩=some (.slice ca t.s.cs.length cc)/\wx.cell? ⟨V,2,none⟩=some (.slice xa t.s.xs.length xc)) w6.drew):=⟨HBC6.o,aAa (show w6.drew.heap[V]?=_ from HV6.o),aAa (show w6.drew.heap[V]?=_ from HV6.o),aAa (show w6.drew.heap[V]?=_ from HV6.o)⟩;have HZ7:Hid (w6.drew.heap[R]?=some (.cells #[.pointer none,.int .u8 0,.string ⟨#[]⟩,.slice none 0 0,.slice none 0 0] 101 (0,0))):=HZ6.o;have HSC7:Hid (SC w6.drew ca t.s.cs.length cc xa t.s.xs.length xc t.s):=HSC6.o.later (Below.refl _ _).drew;have HB7:Hid (Below R w w6.drew):=HB6.o.drew;have HV7:Hid (w6.drew.heap[V]?=some (.cells #[.string t.s.nm,.slice ca t.s.cs.length cc,.slice xa t.s.xs.length xc] 33 (0,0))):=HV6.o;refine wp_region_noPanic ?_;refine wp_region_held_drew (S:=fun wx=>wx.cell? ⟨bb,bo,none⟩=some (.int .u8 (i:Int))/\wx.cell? ⟨V,0,none⟩=some (.string t.s.nm)/\wx.cell? ⟨V,1,none⟩=some (.slice ca t.s.cs.length cc)/\wx.cell? ⟨V,2,none⟩=some (.slice xa t.s.xs.length xc)) (by kernel_rfl) HX0.o (fun hHeld=>?_);generalize w6.drew=w7 at *
   refine aAb 0 56 ?_;refine aAb 1 57 ?_;refine aAb 2 58 ?_;refine aAb 3 59 ?_;refine aAb 4 60 ?_;refine aAb 5 61 ?_;have t0:w7.cell? ⟨R,0,none⟩=some (.pointer none):=aAa HZ7.o;have tf0:w7.frozen? ⟨R,0,none⟩=false:=aAi HZ7.o;have t1:w7.cell? ⟨R,1,none⟩=some (.int .u8 0):=aAa HZ7.o;have tf1:w7.frozen? ⟨R,1,none⟩=false:=aAi HZ7.o;have t2:w7.cell? ⟨R,2,none⟩=some (.string ⟨#[]⟩):=aAa HZ7.o;have tf2:w7.frozen? ⟨R,2,none⟩=false:=aAi HZ7.o;have t3:w7.cell? ⟨R,3,none⟩=some (.slice none 0 0):=aAa HZ7.o;have tf3:w7.frozen? ⟨R,3,none⟩=false:=aAi HZ7.o;have t4:w7.cell? ⟨R,4,none⟩=some (.slice none 0 0):=aAa HZ7.o;have tf4:w7.frozen? ⟨R,4,none⟩=false:=aAi HZ7.o;refine aAf 6 ?_;intro K hK;go_simp;clear t0 tf0 t1 tf1 t2 tf2 t3 tf3 t4 tf4 hHeld;refine hK.out _ _ ⟨(World.cell?_of_block (aDy HNR.o)).trans HX0.o.1,(World.cell?_of_block (aDy HVR.o)).trans HX0.o.2.1,(World.cell?_of_block (aDy HVR.o)).trans HX0.o.2.2.1,(World.cell?_of_block (aDy HVR.o)).trans HX0.o.2.2.2⟩ (fun hHeld=>?_);clear hK K
   try simp only [Act.put,siT,scZ,scS]
   refine aAb 7 5 ?_;refine wpAnyH_done (by kernel_rfl) ?_ _;refine NoPanic.normal ?_;clear hHeld;go_wp2;(try simp only [Exit.inBlock,Exit.then]);refine bodyPost_ret (aE3 results41 _ _ R _ _ _ _ _ _ _ rfl (aJu HZ7.o)) rfl ?_;refine ⟨⟨(fun q=>nomatch (HTA.o.symm.trans q)),fun i2 t2 q1 q2=>?_⟩,aHs HB7.o (nR _)⟩;rw [HTA.o,oI] at q1;subst q1;rw [HTI.o,oI] at q2;subst q2;exact ⟨ca,cc,xa,xc,rfl,HSC7.o.c.set5 (col_no HZ7.o HSC7.o.c),HSC7.o.x.set5 (ix_no HZ7.o HSC7.o.x)⟩
 ·have hn:isNm nm=false:=by simpa using hn
  have hta:tAt T nm=none:=by
   cases hta:tAt T nm with
   | none=>rfl
   | some i =>
    obtain ⟨t,hti,htn,htm⟩:=aA2 hta;have:=nm_of (HI.o.ok t htm);rw [htn,hn] at this;cases this
  have HTA:=aAc hta;rw [hn];have t0:w2.cell? ⟨R,0,none⟩=some (.pointer none):=aAa HZ2.o;have tf0:w2.frozen? ⟨R,0,none⟩=false:=aAi HZ2.o;have t1:w2.cell? ⟨R,1,none⟩=some (.int .u8 0):=aAa HZ2.o;have tf1:w2.frozen? ⟨R,1,none⟩=false:=aAi HZ2.o;have t2:w2.cell? ⟨R,2,none⟩=some (.string ⟨#[]⟩):=aAa HZ2.o;have tf2:w2.frozen? ⟨R,2,none⟩=false:=aAi HZ2.o;have t3:w2.cell? ⟨R,3,none⟩=some (.slice none 0 0):=aAa HZ2.o;have tf3:w2.frozen? ⟨R,3,none⟩=false:=aAi HZ2.o;have t4:w2.cell? ⟨R,4,none⟩=some (.slice none 0 0):=aAa HZ2.o;have tf4:w2.frozen? ⟨R,4,none⟩=false:=aAi HZ2.o;clear hn hta;go_wp2;(try simp only [Exit.inBlock,Exit.then]);refine bodyPost_ret (aE3 results41 _ _ R _ _ _ _ _ _ _ rfl (aJu HZ2.o)) rfl ?_;exact ⟨⟨fun _=>rfl,fun i t q=>by rw [HTA.o] at q;cases q⟩,aHs HB2.o (nR _)⟩
end Go.Proofs.YtdpdjpkmndnaaaaGreat
set_option linter.unusedVariables false
namespace Go.Proofs.YtdpdjpkmndnaaaaGreat
open _root_.Go.Proofs.Tryz
variable {i:Nat} {r:List Val} {s:Sch} {x:Val}
def insO (T:List Tbl) (nm:ByteArray) (r:List Val):Out:=match tAt T nm with
 | none=>⟨T,[],60⟩
 | some i=>match T[i]? with
  | none=>⟨T,[],60⟩
  | some t=>if t.s.fits r≠0 then ⟨T,[],t.s.fits r⟩ else if (rowAt t.rows (fst r)).isSome then ⟨T,[],63⟩ else if 64<=t.rows.length then ⟨T,[],2⟩ else if clash t.s t.rows r then ⟨T,[],64⟩ else ⟨setT T i t (insV r t.rows),laidR i t.s r,0⟩
def cutV (x:Val) (rows:List (List Val)):List (List Val):=rows.filter fun r=>decide (fst r≠x)
def delO (T:List Tbl) (nm:ByteArray) (x:Val):Out:=match tAt T nm with
 | none=>⟨T,[],60⟩
 | some i=>match T[i]? with
  | none=>⟨T,[],60⟩
  | some t=>if x.err≠0 then ⟨T,[],62⟩ else match rowAt t.rows x with
   | none=>⟨T,[],4⟩
   | some r=>⟨setT T i t (cutV x t.rows),goneR i t.s r,0⟩
def updO (T:List Tbl) (nm:ByteArray) (r:List Val):Out:=match tAt T nm with
 | none=>⟨T,[],60⟩
 | some i=>match T[i]? with
  | none=>⟨T,[],60⟩
  | some t=>if t.s.fits r≠0 then ⟨T,[],t.s.fits r⟩ else match rowAt t.rows (fst r) with
   | none=>⟨T,[],4⟩
   | some o=>if clash t.s t.rows r then ⟨T,[],64⟩ else ⟨setT T i t (insV r (cutV (fst r) t.rows)),goneR i t.s o++laidR i t.s r,0⟩
def creO (T:List Tbl) (s:Sch):Out:=if s.ok=false then ⟨T,[],61⟩ else if (tAt T s.nm).isSome then ⟨T,[],60⟩ else if 4<=T.length then ⟨T,[],2⟩ else ⟨T++[⟨s,[]⟩],[⟨0,slK s.nm,T.length::encS s,false⟩],0⟩
theorem laid_uni (hs:s.ok=true):(laidR i s r).Pairwise fun x y=>x.key≠y.key:=List.pairwise_map.2 (keys_uni hs)
theorem gone_uni (hs:s.ok=true):(goneR i s r).Pairwise fun x y=>x.key≠y.key:=List.pairwise_map.2 (keys_uni hs)
theorem laid_sp:∀ c∈laidR i s r,c.sp=1:=by
 intro c hc;obtain ⟨k,_,rfl⟩:=aBs.1 hc;rfl
theorem gone_sp:∀ c∈goneR i s r,c.sp=1:=by
 intro c hc;obtain ⟨k,_,rfl⟩:=aHb.1 hc;rfl
section
variable {cs:List Ch} {T:List Tbl} {i:Nat} {t:Tbl} {r:List Val}
theorem fst_ne_cmp {a b:List Val} (hs:s.ok=true) (ha:RowOk s a) (hb:RowOk s b) (h:fst a≠fst b):cmpB (fst a).bytes (fst b).bytes≠0:=by
 intro e;have va:=ha.val (ha.fmem hs);have vb:=hb.val (hb.fmem hs);exact h (bytes_inj va.1 va.2.1 vb.1 vb.2.1 (aDm e))
theorem fst_inj (I:Inv cs T) (h:t∈T) {a b:List Val} (ha:a∈t.rows) (hb:b∈t.rows) (e:fst a=fst b):a=b:=by
 have hp:=I.srt t h
 revert ha hb
 generalize t.rows=l at hp;intro ha hb
 induction l with
 | nil=>cases ha
 | cons d l ih =>
  obtain ⟨h1,h2⟩:=List.pairwise_cons.1 hp;have lt:∀ y∈l,fst d≠fst y:=fun y hy q=>by have:=h1 y hy;rw [q,aAu] at this;omega
  rcases List.mem_cons.1 ha with e1 | ha2<;>rcases List.mem_cons.1 hb with e2 | hb2
  ·rw [e1,e2]
  ·rw [e1] at e;exact absurd e (lt b hb2)
  ·rw [e2] at e;exact absurd e.symm (lt a ha2)
  ·exact ih h2 ha2 hb2
theorem Inv.ins (I:Inv cs T) (h:T[i]?=some t) (hr:RowOk t.s r) (hn:∀ o∈t.rows,fst o≠fst r) (hl:t.rows.length<64) (hc:∀ x∈t.s.xs,x.2=true->(col r x.1).1≠0->∀ o∈t.rows,col o x.1≠col r x.1):Inv (cs++laidR i t.s r) (setT T i t (insV r t.rows)):=by
 have hs:=I.ok t (at_mem h);have hrow:=I.row t (at_mem h);refine I.change h laid_sp (by rw [insV_len];omega) (fun q hq=>?_) (insV_srt (I.srt t (at_mem h)) fun d hd=>fst_ne_cmp hs hr (hrow d hd) fun e=>hn d hd e.symm) (fun x hx h1 a ha b hb h2 h3=>?_) (fun x=>?_)
 ·rcases aCn.1 hq with rfl | hq
  ·exact hr
  ·exact hrow q hq
 ·rcases aCn.1 ha with rfl | ha<;>rcases aCn.1 hb with rfl | hb
  ·rfl
  ·exact absurd h3.symm (hc x hx h1 h2 b (by assumption))
  ·exact absurd h3 (hc x hx h1 (by rw [<-h3];exact h2) a (by assumption))
  ·exact I.uni t (at_mem h) x hx h1 a ha b hb h2 h3
 ·rw [live_many _ laid_sp (laid_uni hs),I.l1 x];constructor
  ·rintro (⟨hx,_⟩ | ⟨⟨j,u,h2,q,hq,hx⟩,_⟩)
   ·exact Or.inl ⟨r,aCn.2 (Or.inl rfl),hx⟩
   ·by_cases e:j=i
    ·subst e;rw [h] at h2;cases h2;exact Or.inl ⟨q,aCn.2 (Or.inr hq),hx⟩
    ·exact Or.inr ⟨j,u,e,h2,q,hq,hx⟩
  ·have far:∀ {j:Nat} {u:Tbl} {q:List Val},T[j]?=some u->q∈u.rows->x∈laidR j u.s q->∀ c∈laidR i t.s r,x.key≠c.key:=by
    intro j u q h2 hq hx c hc e;obtain ⟨k,hk,rfl⟩:=aBs.1 hx;obtain ⟨k',hk',rfl⟩:=aBs.1 hc;simp only at e;subst e;obtain ⟨e1,e2⟩:=keys_dis (I.ok u (at_mem h2)) hs (I.row u (at_mem h2) q hq) hr hk hk';subst e1;rw [h] at h2;cases h2;exact hn q hq e2
   rintro (⟨q,hq,hx⟩ | ⟨j,u,hj,h2,q,hq,hx⟩)
   ·rcases aCn.1 hq with rfl | hq
    ·refine Or.inl ⟨hx,?_⟩;obtain ⟨k,_,rfl⟩:=aBs.1 hx;rfl
    ·exact Or.inr ⟨⟨i,t,h,q,hq,hx⟩,far h hq hx⟩
   ·exact Or.inr ⟨⟨j,u,h2,q,hq,hx⟩,far h2 hq hx⟩
theorem aB1 {rows:List (List Val)} {r:List Val}:r∈cutV x rows↔r∈rows/\fst r≠x:=by
 unfold cutV;rw [List.mem_filter];simp
theorem Inv.del (I:Inv cs T) (h:T[i]?=some t) (hr:r∈t.rows):Inv (cs++goneR i t.s r) (setT T i t (cutV (fst r) t.rows)):=by
 have hs:=I.ok t (at_mem h);have hrow:=I.row t (at_mem h);have cnt:=I.cnt t (at_mem h);have fl:=List.length_filter_le (fun q=>decide (fst q≠fst r)) t.rows;refine I.change h gone_sp (by unfold cutV;omega) (fun q hq=>hrow q (aB1.1 hq).1) ((I.srt t (at_mem h)).filter _) (fun x hx h1 a ha b hb h2 h3=>I.uni t (at_mem h) x hx h1 a (aB1.1 ha).1 b (aB1.1 hb).1 h2 h3) (fun x=>?_);rw [live_many _ gone_sp (gone_uni hs),I.l1 x];constructor
 ·rintro (⟨hx,hg⟩ | ⟨⟨j,u,h2,q,hq,hx⟩,hf⟩)
  ·obtain ⟨k,_,rfl⟩:=aHb.1 hx;cases hg
  ·by_cases e:j=i
   ·subst e;rw [h] at h2;cases h2;refine Or.inl ⟨q,aB1.2 ⟨hq,fun e=>?_⟩,hx⟩;have e2:=fst_inj I (at_mem h) hq hr e;subst e2;obtain ⟨k,hk,rfl⟩:=aBs.1 hx;exact hf ⟨1,k,[],true⟩ (aHb.2 ⟨k,hk,rfl⟩) rfl
   ·exact Or.inr ⟨j,u,e,h2,q,hq,hx⟩
 ·have far:∀ {j:Nat} {u:Tbl} {q:List Val},T[j]?=some u->q∈u.rows->x∈laidR j u.s q->(j=i->fst q≠fst r)->∀ c∈goneR i t.s r,x.key≠c.key:=by
   intro j u q h2 hq hx hne c hc e;obtain ⟨k,hk,rfl⟩:=aBs.1 hx;obtain ⟨k',hk',rfl⟩:=aHb.1 hc;simp only at e;subst e;obtain ⟨e1,e2⟩:=keys_dis (I.ok u (at_mem h2)) hs (I.row u (at_mem h2) q hq) (hrow r hr) hk hk';exact hne e1 e2
  rintro (⟨q,hq,hx⟩ | ⟨j,u,hj,h2,q,hq,hx⟩)
  ·exact Or.inr ⟨⟨i,t,h,q,(aB1.1 hq).1,hx⟩,far h (aB1.1 hq).1 hx fun _=>(aB1.1 hq).2⟩
  ·exact Or.inr ⟨⟨j,u,h2,q,hq,hx⟩,far h2 hq hx fun e=>absurd e hj⟩
theorem aIf (hs:s.ok=true) (hok:∀ x∈r,x.ok) (h:s.fits r=0):RowOk s r :=
 ⟨(Sch.fit_row hs h).1,h,hok,(Sch.fit_row hs h).2⟩
theorem Inv.insO (I:Inv cs T) (nm:ByteArray) (hok:∀ x∈r,x.ok):Inv (cs++(insO T nm r).m) (insO T nm r).T:=by
 have no:Inv (cs++[]) T:=by rw [List.append_nil];exact I
 unfold Go.Proofs.YtdpdjpkmndnaaaaGreat.insO;split
 ·exact no
 ·split
  ·exact no
  ·rename_i i _ t h
   split
   ·exact no
   ·rename_i hf
    have hf:t.s.fits r=0:=Decidable.of_not_not hf;split
    ·exact no
    ·rename_i ha
     split
     ·exact no
     ·split
      ·exact no
      ·rename_i hl hc
       have hn:∀ o∈t.rows,fst o≠fst r:=aI9 (by cases e:rowAt t.rows (fst r) with | none=>rfl | some q=>rw [e] at ha;exact absurd rfl ha);refine I.ins h (aIf (I.ok t (at_mem h)) hok hf) hn (by omega) fun x hx h1 h2 o ho e=>?_
       exact hn o ho (clash_no (by simpa using hc) x hx h1 h2 o ho e)
theorem Inv.delO (I:Inv cs T) (nm:ByteArray) (x:Val):Inv (cs++(delO T nm x).m) (delO T nm x).T:=by
 have no:Inv (cs++[]) T:=by rw [List.append_nil];exact I
 unfold Go.Proofs.YtdpdjpkmndnaaaaGreat.delO;split
 ·exact no
 ·split
  ·exact no
  ·rename_i i _ t h
   split
   ·exact no
   ·split
    ·exact no
    ·rename_i r hr
     obtain ⟨h1,h2⟩:=aC3 hr;subst h2;exact I.del h h1
theorem setT_twice {T:List Tbl} {i:Nat} {t:Tbl} {R R':List (List Val)}:setT (setT T i t R) i ⟨t.s,R⟩ R'=setT T i t R':=by
 unfold setT;rw [List.set_set]
theorem cut_len {x:Val}:∀ {rows:List (List Val)} {r:List Val},r∈rows->fst r=x->(cutV x rows).length<rows.length
 | d::l,r,h,e=>by
  unfold cutV
  rcases List.mem_cons.1 h with rfl | h
  ·rw [List.filter_cons_of_neg (by simp [e])]
   have:=List.length_filter_le (fun q=>decide (fst q≠x)) l
   simp only [List.length_cons]
   omega
  ·have ih:=cut_len h e
   unfold cutV at ih
   by_cases q:fst d≠x
   ·rw [List.filter_cons_of_pos (by simp [q])]
    simp only [List.length_cons]
    omega
   ·rw [List.filter_cons_of_neg (by simpa using q)]
    simp only [List.length_cons]
    omega
theorem Inv.updO (I:Inv cs T) (nm:ByteArray) (hok:∀ x∈r,x.ok):Inv (cs++(updO T nm r).m) (updO T nm r).T:=by
 have no:Inv (cs++[]) T:=by rw [List.append_nil];exact I
 unfold Go.Proofs.YtdpdjpkmndnaaaaGreat.updO;split
 ·exact no
 ·split
  ·exact no
  ·rename_i i _ _ t h
   split
   ·exact no
   ·rename_i hf
    have hf:t.s.fits r=0:=Decidable.of_not_not hf;split
    ·exact no
    ·rename_i o ho
     obtain ⟨h1,h2⟩:=aC3 ho;split
     ·exact no
     ·rename_i hc
      have hc:clash t.s t.rows r=false:=by simpa using hc
      have hs:=I.ok t (at_mem h);have I1:=I.del h h1;rw [h2] at I1;have h3:(setT T i t (cutV (fst r) t.rows))[i]?=some ⟨t.s,cutV (fst r) t.rows⟩:=(aCt h).2 (Or.inl ⟨rfl,rfl⟩);have hlt:=cut_len h1 h2;have hcn:=I.cnt t (at_mem h);have I2:=I1.ins h3 (r:=r) (aIf hs hok hf) (fun q hq=>(aB1.1 hq).2) (by show (cutV (fst r) t.rows).length<64;omega) (fun x hx h5 h6 q hq e=>(aB1.1 hq).2 (clash_no hc x hx h5 h6 q (aB1.1 hq).1 e));rw [setT_twice,List.append_assoc] at I2;exact I2
theorem Inv.creO (I:Inv cs T) (s:Sch):Inv (cs++(creO T s).m) (creO T s).T:=by
 have no:Inv (cs++[]) T:=by rw [List.append_nil];exact I
 unfold Go.Proofs.YtdpdjpkmndnaaaaGreat.creO;split
 ·exact no
 ·rename_i hs
  split
  ·exact no
  ·rename_i ha
   split
   ·exact no
   ·rename_i hl
    have hs:s.ok=true:=by simpa using hs
    have hn:∀ t∈T,t.s.nm≠s.nm:=aJo (by cases e:Go.Proofs.YtdpdjpkmndnaaaaGreat.tAt T s.nm with | none=>rfl | some q=>rw [e] at ha;exact absurd rfl ha);have mem:∀ u∈T++[(⟨s,[]⟩:Tbl)],u∈T\/u=⟨s,[]⟩:=by
     intro u hu;rcases List.mem_append.1 hu with q | q
     ·exact Or.inl q
     ·exact Or.inr (List.mem_singleton.1 q)
    have at_:∀ {j:Nat} {u:Tbl},(T++[(⟨s,[]⟩:Tbl)])[j]?=some u↔T[j]?=some u\/(j=T.length/\u=⟨s,[]⟩):=by
     intro j u;by_cases q:j<T.length
     ·rw [List.getElem?_append_left q];exact ⟨Or.inl,fun h=>h.elim id fun h2=>by omega⟩
     ·rw [List.getElem?_append_right (by omega)];constructor
      ·intro h;have h2:=(lL h);simp only [List.length_singleton] at h2;have e:j=T.length:=by omega
       subst e;rw [Nat.sub_self] at h;exact Or.inr ⟨rfl,(Option.some.inj h).symm⟩
      ·rintro (h | ⟨h1,h2⟩)
       ·have:=(lL h);omega
       ·rw [h1,Nat.sub_self,h2];rfl
    refine ⟨by rw [lA,List.length_singleton];omega,fun u hu=>?_,fun j k a b ha hb hab=>?_,fun u hu=>?_,fun u hu=>?_,fun u hu=>?_,fun u hu=>?_,fun x=>?_,fun x=>?_⟩
    ·rcases mem u hu with hu | rfl
     ·exact I.ok u hu
     ·exact hs
    ·rcases at_.1 ha with h1 | ⟨h1,h2⟩<;>rcases at_.1 hb with h3 | ⟨h3,h4⟩
     ·exact I.nm j k a b h1 h3 hab
     ·rw [h4] at hab;exact absurd hab (hn a (at_mem h1))
     ·rw [h2] at hab;exact absurd hab.symm (hn b (at_mem h3))
     ·omega
    ·rcases mem u hu with hu | rfl
     ·exact I.row u hu
     ·intro r hr;cases hr
    ·rcases mem u hu with hu | rfl
     ·exact I.srt u hu
     ·exact List.Pairwise.nil
    ·rcases mem u hu with hu | rfl
     ·exact I.cnt u hu
     ·exact Nat.zero_le _
    ·rcases mem u hu with hu | rfl
     ·exact I.uni u hu
     ·intro x _ _ a ha;cases ha
    ·rw [aJ7 rfl,I.l0 x];constructor
     ·rintro (⟨rfl,_⟩ | ⟨⟨j,u,h1,rfl⟩,_⟩)
      ·exact ⟨T.length,_,at_.2 (Or.inr ⟨rfl,rfl⟩),rfl⟩
      ·exact ⟨j,u,at_.2 (Or.inl h1),rfl⟩
     ·rintro ⟨j,u,h1,rfl⟩;rcases at_.1 h1 with h1 | ⟨rfl,rfl⟩
      ·exact Or.inr ⟨⟨j,u,h1,rfl⟩,fun e=>hn u (at_mem h1) (slK_inj e)⟩
      ·exact Or.inl ⟨rfl,rfl⟩
    ·rw [aJ9 (show (0:Int)≠1 by decide),I.l1 x];constructor
     ·rintro ⟨j,u,h1,r,hr,hx⟩;exact ⟨j,u,at_.2 (Or.inl h1),r,hr,hx⟩
     ·rintro ⟨j,u,h1,r,hr,hx⟩;rcases at_.1 h1 with h1 | ⟨rfl,rfl⟩
      ·exact ⟨j,u,h1,r,hr,hx⟩
      ·cases hr
end
theorem Inv.nil:Inv [] []:=by
 refine ⟨by simp,by simp,fun i j t u h=>by simp at h,by simp,by simp,by simp,by simp,fun x=>?_,fun x=>?_⟩
 ·rw [live_nil];simp
 ·rw [live_nil];simp
end Go.Proofs.YtdpdjpkmndnaaaaGreat
set_option linter.unusedVariables false
namespace Go.Proofs.YtdpdjpkmndnaaaaGreat
open _root_.Go.Proofs.Tryz
variable {c d i j:Nat} {r:List Val} {s:Sch} {x:Val}
theorem aAw (a b:Nat) (x y:List Nat):cmpB (a::x) (b::y)=if a<b then -1 else if b<a then 1 else cmpB x y:=rfl
theorem aHa {A rest:List Nat}:inK (i::c::A) [i,c+1] (j::d::rest)=true↔j=i/\d=c/\0<=cmpB rest A:=by
 unfold inK;have hh:([i,c+1]:List Nat)≠[]:=by simp
 rw [decide_eq_false hh,Bool.false_or,Bool.and_eq_true,decide_eq_true_eq,decide_eq_true_eq,aAw,aAw,aAw,aAw];by_cases h1:j=i
 ·subst h1;rw [if_neg (Nat.lt_irrefl _),if_neg (Nat.lt_irrefl _),if_neg (Nat.lt_irrefl _),if_neg (Nat.lt_irrefl _)];by_cases h2:d=c
  ·subst h2;rw [if_neg (Nat.lt_irrefl _),if_neg (Nat.lt_irrefl _),if_pos (by omega)];constructor
   ·rintro ⟨a,_⟩;exact ⟨rfl,rfl,a⟩
   ·rintro ⟨_,_,a⟩;exact ⟨a,by decide⟩
  ·have he:=aF1 rest;constructor
   ·rintro ⟨a,b⟩;exfalso
    split at a
    ·omega
    ·split at b
     ·omega
     ·split at b<;>omega
   ·rintro ⟨_,e,_⟩;exact absurd e h2
 ·constructor
  ·rintro ⟨a,b⟩;exfalso
   split at a
   ·omega
   ·split at b<;>(try split at b)<;>omega
  ·rintro ⟨e,_,_⟩;exact absurd e h1
theorem aKh {A E rest:List Nat}:inK (i::c::A) (i::c::E) (j::d::rest)=true↔j=i/\d=c/\0<=cmpB rest A/\cmpB rest E<0:=by
 unfold inK;have hh:(i::c::E:List Nat)≠[]:=by simp
 rw [decide_eq_false hh,Bool.false_or,Bool.and_eq_true,decide_eq_true_eq,decide_eq_true_eq,aAw,aAw,aAw,aAw];by_cases h1:j=i
 ·subst h1;rw [if_neg (Nat.lt_irrefl _),if_neg (Nat.lt_irrefl _),if_neg (Nat.lt_irrefl _),if_neg (Nat.lt_irrefl _)];by_cases h2:d=c
  ·subst h2;rw [if_neg (Nat.lt_irrefl _),if_neg (Nat.lt_irrefl _),if_neg (Nat.lt_irrefl _),if_neg (Nat.lt_irrefl _)];constructor
   ·rintro ⟨a,b⟩;exact ⟨rfl,rfl,a,b⟩
   ·rintro ⟨_,_,a,b⟩;exact ⟨a,b⟩
  ·constructor
   ·rintro ⟨a,b⟩;exfalso
    split at a
    ·omega
    ·split at b<;>(try split at b)<;>omega
   ·rintro ⟨_,e,_⟩;exact absurd e h2
 ·constructor
  ·rintro ⟨a,b⟩;exfalso
   split at a
   ·omega
   ·split at b<;>(try split at b)<;>omega
  ·rintro ⟨e,_,_⟩;exact absurd e h1
theorem cmp_apart:∀ {u v:List Nat},(∀ r,v≠u++r)->(∀ r,u≠v++r)->∃ s:Int,s≠0/\∀ f g,cmpB (u++f) (v++g)=s
 | [],v,h,_=>absurd rfl (h v)
 | a::u,[],_,h=>absurd rfl (h (a::u))
 | a::u,b::v,h1,h2=>by
  by_cases e:a=b
  ·subst e
   obtain ⟨s,h0,h⟩:=cmp_apart (u:=u) (v:=v) (fun r q=>h1 r (by rw [q];rfl)) (fun r q=>h2 r (by rw [q];rfl))
   refine ⟨s,h0,fun f g=>?_⟩
   rw [List.cons_append,List.cons_append,aAw,if_neg (Nat.lt_irrefl _),if_neg (Nat.lt_irrefl _)]
   exact h f g
  ·by_cases e2:a<b
   ·exact ⟨-1,by decide,fun f g=>by rw [List.cons_append,List.cons_append,aAw,if_pos e2]⟩
   ·exact ⟨1,by decide,fun f g=>by rw [List.cons_append,List.cons_append,aAw,if_neg e2,if_pos (by omega)]⟩
theorem aKq:∀ (u f g:List Nat),cmpB (u++f) (u++g)=cmpB f g
 | [],_,_=>rfl
 | a::u,f,g=>by
  rw [List.cons_append,List.cons_append,aAw,if_neg (Nat.lt_irrefl _),if_neg (Nat.lt_irrefl _)]
  exact aKq u f g
theorem val_apart {y:Val} (hx:x.ok) (he:x.err=0) (hy:y.ok) (hf:y.err=0) (h:x≠y):∃ s:Int,s≠0/\∀ f g,cmpB (x.bytes++f) (y.bytes++g)=s :=
 cmp_apart (fun r q=>h (aG8 hx he hy hf r q)) (fun r q=>h (aG8 hy hf hx he r q).symm)
theorem val_span {y:Val} {f:List Nat} (hx:x.ok) (he:x.err=0) (hy:y.ok) (hf:y.err=0) (hff:cmpB f [255]<0):(0<=cmpB (x.bytes++f) y.bytes/\cmpB (x.bytes++f) (y.bytes++[255])<0)↔x=y:=by
 constructor
 ·rintro ⟨h1,h2⟩;refine Decidable.of_not_not fun hne=>?_
  obtain ⟨s,h0,h⟩:=val_apart hx he hy hf hne;have a:=h f [];rw [List.append_nil] at a;have b:=h f [255];omega
 ·intro e;subst e;constructor
  ·have:=aKq x.bytes f [];rw [List.append_nil] at this;rw [this];exact aF1 f
  ·rw [aKq];exact hff
theorem first_low {f:List Nat} (hx:x.ok) (he:x.err=0):cmpB (x.bytes++f) [255]<0:=by
 obtain ⟨a,l,e,_,h⟩:=v_ne hx he;rw [e,List.cons_append,aAw,if_pos (by omega)]
 decide
section
variable {cs:List Ch} {T:List Tbl} {i:Nat} {t:Tbl}
theorem aH5 {x:Ch} (h:x∈laidR j s r):(x=⟨1,rk j (fst r),rowB r,false⟩)\/∃ c∈s.xs,x=⟨1,xk j c.1 r,rowB r,false⟩:=by
 obtain ⟨k,hk,rfl⟩:=aBs.1 h;rcases List.mem_cons.1 hk with rfl | hk
 ·exact Or.inl rfl
 ·obtain ⟨c,hc,rfl⟩:=List.mem_map.1 hk;exact Or.inr ⟨c,hc,rfl⟩
theorem Inv.rows_from (I:Inv cs T) (h:T[i]?=some t) (A:List Nat):(liveC cs 1).filter (fun c=>inK (i::0::A) [i,1] c.key)=(t.rows.filter fun r=>decide (0<=cmpB (fst r).bytes A)).map fun r=>⟨1,rk i (fst r),rowB r,false⟩:=by
 refine SrC.uniq ((aJp cs 1).filter _) ?_ fun x=>?_
 ·unfold SrC;rw [List.pairwise_map];refine ((I.srt t (at_mem h)).filter _).imp ?_;intro a b hab;show cmpB (rk i (fst a)) (rk i (fst b))<0;unfold rk;rw [aAw,if_neg (Nat.lt_irrefl _),if_neg (Nat.lt_irrefl _),aAw,if_neg (Nat.lt_irrefl _),if_neg (Nat.lt_irrefl _)];exact hab
 ·rw [List.mem_filter,I.l1 x,List.mem_map];constructor
  ·rintro ⟨⟨j,u,h2,r,hr,hx⟩,hk⟩;rcases aH5 hx with rfl | ⟨c,hc,rfl⟩
   ·unfold rk at hk;obtain ⟨e1,_,e3⟩:=aHa.1 hk;subst e1;rw [h] at h2;cases h2;exact ⟨r,List.mem_filter.2 ⟨hr,decide_eq_true e3⟩,rfl⟩
   ·exfalso;unfold xk at hk;obtain ⟨_,e2,_⟩:=aHa.1 hk;have:=(Sch.xcol (I.ok u (at_mem h2)) c hc).1;omega
  ·rintro ⟨r,hr,rfl⟩;obtain ⟨h1,h2⟩:=List.mem_filter.1 hr;refine ⟨⟨i,t,h,r,h1,aBs.2 ⟨_,List.mem_cons_self,rfl⟩⟩,?_⟩;unfold rk;exact aHa.2 ⟨rfl,rfl,of_decide_eq_true h2⟩
theorem Inv.count (I:Inv cs T) (h:T[i]?=some t):(rngC cs 1 [i,0] [i,1] 64).length=t.rows.length:=by
 rw [aE0,I.rows_from h [],List.length_take,List.length_map];have e:(t.rows.filter fun r=>decide (0<=cmpB (fst r).bytes []))=t.rows:=by
  rw [List.filter_eq_self];intro r _;exact decide_eq_true (aF1 _)
 rw [e];have:=I.cnt t (at_mem h);omega
theorem Inv.stand (I:Inv cs T) (h:T[i]?=some t) {c:Nat} {v:Val} {x:Idx} (hx:x∈t.s.xs) (hc:x.1=(c:Int)) (hv:v.ok) (he:v.err=0):∀ y,y∈(liveC cs 1).filter (fun d=>inK (i::c::v.bytes) (i::c::(v.bytes++[255])) d.key)↔∃ o∈t.rows,col o x.1=v/\y=⟨1,xk i x.1 o,rowB o,false⟩:=by
 intro y;have hs:=I.ok t (at_mem h);have hc1:=(Sch.xcol hs x hx).1;rw [List.mem_filter,I.l1 y];constructor
 ·rintro ⟨⟨j,u,h2,r,hr,hy⟩,hk⟩;have hu:=I.ok u (at_mem h2);have hro:=I.row u (at_mem h2) r hr;rcases aH5 hy with rfl | ⟨d,hd,rfl⟩
  ·exfalso;unfold rk at hk;obtain ⟨_,e2,_⟩:=aKh.1 hk;omega
  ·unfold xk at hk;obtain ⟨e1,e2,e3⟩:=aKh.1 hk;subst e1;rw [h] at h2;cases h2;have hd1:=(Sch.xcol hs d hd).1;have e4:d.1=x.1:=by omega
   have v1:=hro.val (hro.cmem hs hd);have v2:=hro.val (hro.fmem hs);have hcol:col r d.1=v:=(val_span v1.1 v1.2.1 hv he (by have:=first_low (f:=[]) v2.1 v2.2.1;rw [List.append_nil] at this;exact this)).1 e3;exact ⟨r,hr,by rw [<-e4];exact hcol,by rw [<-e4]⟩
 ·rintro ⟨o,ho,hcol,rfl⟩;have hro:=I.row t (at_mem h) o ho;have v1:=hro.val (hro.cmem hs hx);have v2:=hro.val (hro.fmem hs);refine ⟨⟨i,t,h,o,ho,aBs.2 ⟨_,List.mem_cons_of_mem _ (List.mem_map.2 ⟨x,hx,rfl⟩),rfl⟩⟩,?_⟩;unfold xk;have:=(val_span (f:=(fst o).bytes) v1.1 v1.2.1 hv he (by have:=first_low (f:=[]) v2.1 v2.2.1;rw [List.append_nil] at this;exact this)).2 hcol;exact aKh.2 ⟨rfl,by omega,this⟩
theorem Inv.stand_one (I:Inv cs T) (h:T[i]?=some t) {c:Nat} {v:Val} {x:Idx} (hx:x∈t.s.xs) (hx2:x.2=true) (hc:x.1=(c:Int)) (hv:v.ok) (he:v.err=0) (hv0:v.1≠0) {o:List Val} (ho:o∈t.rows) (hco:col o x.1=v):rngC cs 1 (i::c::v.bytes) (i::c::(v.bytes++[255])) 1=[⟨1,xk i x.1 o,rowB o,false⟩]:=by
 rw [aE0];have e:(liveC cs 1).filter (fun d=>inK (i::c::v.bytes) (i::c::(v.bytes++[255])) d.key)=[⟨1,xk i x.1 o,rowB o,false⟩]:=by
  refine SrC.uniq ((aJp cs 1).filter _) (by simp [SrC]) fun y=>?_
  rw [I.stand h hx hc hv he y,List.mem_singleton];constructor
  ·rintro ⟨o',ho',hc',rfl⟩;have:=I.uni t (at_mem h) x hx hx2 o' ho' o ho (by rw [hc'];exact hv0) (by rw [hc',hco]);rw [this]
  ·intro e;exact ⟨o,ho,hco,e⟩
 rw [e];rfl
theorem Inv.stand_none (I:Inv cs T) (h:T[i]?=some t) {c:Nat} {v:Val} {x:Idx} (hx:x∈t.s.xs) (hc:x.1=(c:Int)) (hv:v.ok) (he:v.err=0) (hn:∀ o∈t.rows,col o x.1≠v):rngC cs 1 (i::c::v.bytes) (i::c::(v.bytes++[255])) 1=[]:=by
 rw [aE0];have e:(liveC cs 1).filter (fun d=>inK (i::c::v.bytes) (i::c::(v.bytes++[255])) d.key)=[]:=by
  rw [List.eq_nil_iff_forall_not_mem];intro y hy;obtain ⟨o,ho,hc',_⟩:=(I.stand h hx hc hv he y).1 hy;exact hn o ho hc'
 rw [e];rfl
end
def clashX (rows:List (List Val)) (r:List Val) (x:Idx):Bool:=x.2 && (decide ((col r x.1).1≠0) && rows.any fun o=>decide (col o x.1=col r x.1) && decide (fst o≠fst r))
end Go.Proofs.YtdpdjpkmndnaaaaGreat
