import Derived.Test.YtdfjjhlhnfindaaGreatY30
import Derived.Test.YtdfjjhlhnfindaaGreatY25
set_option maxRecDepth 100000
set_option maxHeartbeats 16000000
set_option linter.unusedVariables false
namespace Go.Proofs.YtdfjjhlhnfindaaGreat
open Go.RowKit Tryz
variable {B B1 N b g h i j k o p px q size:Nat} {L S T gone laid ps xs:List Nat} {cs:Array Value} {d:Int} {l:List It} {lv rv v:Value} {s s':DS} {t t':PS} {w w':World}
structure Gw (s:DS) (t:PS) (s':DS) (t':PS) (L:List Nat):Prop where
 life:s'.life=s.life
 tlife:t'.life=t.life
 down:s'.down=s.down
 after:s'.after=s.after
 n:s'.n=s.n
 m:s'.m=s.m+L.length
 num:t'.num=t.num
 root:t'.root=t.root
 len:t'.st.length=t.st.length
 old:∀ i,i∉L->t'.st.getD i 0=t.st.getD i 0
 new:∀ i∈L,t.st.getD i 0=1/\t'.st.getD i 0=2
 sh:∀ i,i∉L->s'.show i=s.show i
 cnt:cntF t'.st+L.length=cntF t.st
 nd:L.Nodup
theorem Gw.refl (s:DS) (t:PS):Gw s t s t []:=⟨rfl,rfl,rfl,rfl,rfl,rfl,rfl,rfl,rfl,fun _ _=>rfl,fun i hi=>absurd hi List.not_mem_nil,fun _ _=>rfl,rfl,List.nodup_nil⟩
theorem Gw.trans {s1 s2:DS} {t1 t2:PS} {M:List Nat} (h:Gw s t s1 t1 L) (k:Gw s1 t1 s2 t2 M):Gw s t s2 t2 (L++M):=by
 have dis:∀ i∈L,i∉M:=fun i h1 h2=>by
  have a:=(h.new i h1).2;have b:=(k.new i h2).1;omega
 refine ⟨k.life.trans h.life,k.tlife.trans h.tlife,k.down.trans h.down,k.after.trans h.after,k.n.trans h.n,by rw [k.m,h.m,lA];omega,k.num.trans h.num,k.root.trans h.root,k.len.trans h.len,fun i hi=>?_,fun i hi=>?_,fun i hi=>?_,?_,?_⟩
 ·simp only [List.mem_append,not_or] at hi;rw [k.old i hi.2,h.old i hi.1]
 ·rcases List.mem_append.1 hi with q | q
  ·exact ⟨(h.new i q).1,by rw [k.old i (dis i q)];exact (h.new i q).2⟩
  ·have q2:i∉L:=fun q3=>dis i q3 q
   exact ⟨by rw [<-h.old i q2];exact (k.new i q).1,(k.new i q).2⟩
 ·simp only [List.mem_append,not_or] at hi;rw [k.sh i hi.2,h.sh i hi.1]
 ·have:=h.cnt;have:=k.cnt;rw [lA];omega
 ·exact List.nodup_append.2 ⟨h.nd,k.nd,fun x hx y hy e=>by subst e;exact dis x hx hy⟩
theorem cntF_set {st:List Nat} (h:st.getD i 0=1):cntF (st.set i 2)+1=cntF st:=by
 have hi:i<st.length:=by
  apply Classical.byContradiction;intro q;rw [List.getD_eq_getElem?_getD,List.getElem?_eq_none (by omega)] at h;cases h
 have hg:st[i]?=some 1:=by
  rw [List.getD_eq_getElem?_getD,gE hi] at h;rw [gE hi];exact congrArg some h
 unfold cntF;rw [List.set_eq_take_append_cons_drop,if_pos hi]
 conv=>rhs;rw [aAp hg]
 simp only [List.count_append,List.count_cons];simp;omega
theorem Gw.one (xs:List Nat) (ha:s.after<1) (hi:lowF t.st=some i):Gw s t (s.tick.wrote i xs) (t.set i 2) [i]:=by
 obtain ⟨h1,h2,_⟩:=aDw hi;have ht:s.tick=s:=by unfold DS.tick;rw [if_pos ha]
 rw [ht];refine ⟨rfl,rfl,rfl,rfl,rfl,by rw [aEb];rfl,rfl,rfl,by simp [PS.set],fun j hj=>?_,fun j hj=>?_,fun j hj=>?_,cntF_set h2,by simp⟩
 ·simp only [List.mem_singleton] at hj;simp only [PS.set,List.getD_eq_getElem?_getD];rw [List.getElem?_set_ne (by omega)]
 ·simp only [List.mem_singleton] at hj;subst hj;refine ⟨h2,?_⟩;simp only [PS.set,List.getD_eq_getElem?_getD];rw [List.getElem?_set_self h1];rfl
 ·simp only [List.mem_singleton] at hj;rw [aEe,if_neg hj]
theorem aBw:t.of (i:Int)=t.st.getD i 0:=by
 unfold PS.of;rw [if_pos (by omega),Int.toNat_natCast]
theorem PgI.grow {b:List Nat} (h:PgI s t i b) (g:Gw s t s' t' L):PgI s' t' i b:=by
 have hL:i∉L:=fun q=>by
  have h1:=(g.new i q).1;have h2:=h.of;rw [aBw] at h2;omega
 exact ⟨by rw [g.n];exact h.lt,by rw [aBw,g.old i hL,<-aBw];exact h.of,by rw [g.sh i hL];exact h.pg,h.ln,h.bt⟩
theorem OnD.grow (g:Gw s t s' t' L):∀ {h:Nat} {b:BT h},OnD s t h b->OnD s' t' h b
 | 0,b,hb=>⟨hb.1.grow g,hb.2⟩
 | h+1,b,⟨h1,h2,h3,h4,h5⟩=>⟨h1.grow g,h2,h3,h4,fun k hk=>OnD.grow g (h5 k hk)⟩
abbrev NT (t:TypeId):Prop:=¬ t∈[279,217,238,84,167,164,3,214,218]
def Lf [Gd] (B:Nat) (S:List Nat) (w w':World):Prop:=Below B w w' /\
 (∀ (k:Nat) (cs:Array Value) (t:TypeId) (fz:Nat×Nat),w.heap[k]?=some (Obj.cells cs t fz)->NT t->w'.heap[k]?=some (Obj.cells cs t fz)) /\
 (∀ (k:Nat) (cs:Array Value),w.heap[k]?=some (.cells cs 238 (0,0))->∃ cs',w'.heap[k]?=some (.cells cs' 238 (0,0))/\cs'.size=cs.size/\∀ (o:Nat) u,cs[o]?=some u->(∀ g∈S,u≠lfP g/\u≠brP g)->cs'[o]?=some u)/\GdK w w'
theorem Lf.refl [Gd] (B:Nat) (S:List Nat) (w:World):Lf B S w w:=⟨Below.refl _ _,fun _ _ _ _ h _=>h,fun k cs h=>⟨cs,h,rfl,fun _ _ h _=>h⟩,GdK.refl w⟩
theorem Lf.trans [Gd] {a b c:World} (h:Lf B S a b) (k:Lf B T b c):Lf B (S++T) a c:=by
 refine ⟨h.1.trans k.1,fun i cs t fz e ht=>k.2.1 i cs t fz (h.2.1 i cs t fz e ht) ht,fun i cs e=>?_,h.2.2.2.trans k.2.2.2⟩;obtain ⟨cs1,e1,s1,u1⟩:=h.2.2.1 i cs e;obtain ⟨cs2,e2,s2,u2⟩:=k.2.2.1 i cs1 e1;exact ⟨cs2,e2,s2.trans s1,fun o u ho hS=>u2 o u (u1 o u ho fun g hg=>hS g (List.mem_append_left _ hg)) fun g hg=>hS g (List.mem_append_right _ hg)⟩
theorem Lf.ft [Gd] (h:Lf B S w w'):FT B w w':=⟨h.1,fun k cs fz e=>h.2.1 k cs _ _ e (by decide)⟩
theorem NV.lf [Gd] {B B1:Nat} {T:List Nat} {w w':World} (f:Lf B T w w'):∀ {h:Nat} {e:ED h} {S:List Nat} {v:Value},(∀ g∈S,g∉T)->NV B B1 w h e S v->NV B B1 w' h e S v
 | 0,.inl t,S,v,_,hn=>hn
 | 0,.inr l,S,v,_,hn=>by
  obtain ⟨g,iv,h1,h2,h3,h4,h5⟩:=hn
  exact ⟨g,iv,h1,h2,h3,f.2.1 _ _ _ _ h4 (by decide),h5.ft f.ft fun k cs _ e=>f.2.1 k cs _ _ e (by decide)⟩
 | h+1,.inl t,S,v,_,hn=>hn
 | h+1,.inr x,S,v,hS,hn=>by
  obtain ⟨g,iv,gc,oc,cc,Sk,h1,h2,h3,h4,h5,h6,h7,h8,⟨cs,h9⟩,h10,h11⟩:=hn
  subst h1
  obtain ⟨cs',e1,e2,e3⟩:=f.2.2.1 gc cs h9
  refine ⟨g,iv,gc,oc,cc,Sk,rfl,h2,h3,f.2.1 _ _ _ _ h4 (by decide),h5.ft f.ft fun k cs _ e=>f.2.1 k cs _ _ e (by decide),h6,h7,h8,⟨cs',e1⟩,h10,fun i k Si hi hSi=>?_⟩
  obtain ⟨vk,q1,q2⟩:=h11 i k Si hi hSi
  have hsub:∀ g∈Si,g∉T:=fun g' hg'=>hS g' (List.mem_cons_of_mem _ (List.mem_flatten.2 ⟨Si,mG hSi,hg'⟩))
  refine ⟨vk,?_,NV.lf f hsub q2⟩
  rw [aAa h9] at q1
  rw [aAa e1]
  refine e3 _ _ q1 fun g' hg'=>?_
  constructor
  ·intro e
   have:g'∈Si:=by
    match h,k,q2 with
    | 0,.inl _,q2=>rw [q2.2] at e;simp [plV,lfP] at e
    | 0,.inr _,q2=>obtain ⟨g2,iv2,r1,r2,_⟩:=q2;rw [r2] at e;simp only [lfP,Value.iface.injEq,Value.pointer.injEq,oI,Addr.mk.injEq,and_true,true_and] at e;rw [r1,<-e];simp
    | h+1,.inl _,q2=>rw [q2.2] at e;simp [plV,lfP] at e
    | h+1,.inr _,q2=>obtain ⟨g2,iv2,_,_,_,_,r1,r2,_⟩:=q2;rw [r2] at e;simp [brP,lfP] at e
   exact hsub g' this hg'
  ·intro e;have:g'∈Si:=by
    match h,k,q2 with
    | 0,.inl _,q2=>rw [q2.2] at e;simp [plV,brP] at e
    | 0,.inr _,q2=>obtain ⟨g2,iv2,r1,r2,_⟩:=q2;rw [r2] at e;simp [brP,lfP] at e
    | h+1,.inl _,q2=>rw [q2.2] at e;simp [plV,brP] at e
    | h+1,.inr _,q2=>obtain ⟨g2,iv2,_,_,_,_,r1,r2,_⟩:=q2;rw [r2] at e;simp only [brP,Value.iface.injEq,Value.pointer.injEq,oI,Addr.mk.injEq,and_true,true_and] at e;rw [r1,<-e];simp
   exact hsub g' this hg'
def frE:(h:Nat)->ED h->Nat
 | 0,.inl _=>0
 | 0,.inr _=>1
 | _+1,.inl _=>0
 | h+1,.inr x=>1+(x.2.map (frE h)).sum
def OnE (s:DS) (t:PS):(h:Nat)->ED h->Prop
 | 0,.inl b=>OnD s t 0 b
 | 0,.inr l=>ItsOk l
 | h+1,.inl b=>OnD s t (h+1) b
 | h+1,.inr x=>ItsOk x.1/\x.2.length=x.1.length+1/\∀ k∈x.2,OnE s t h k
theorem OnE.grow (g:Gw s t s' t' L):∀ {h:Nat} {e:ED h},OnE s t h e->OnE s' t' h e
 | 0,.inl b,hb=>OnD.grow g hb
 | 0,.inr l,hb=>hb
 | h+1,.inl b,hb=>OnD.grow g hb
 | h+1,.inr x,⟨h1,h2,h3⟩=>⟨h1,h2,fun k hk=>OnE.grow g (h3 k hk)⟩
def LdR:(h:Nat)->ED h->BT h->List Nat->Prop
 | 0,.inl t,b,L=>b=t/\L=[]
 | 0,.inr l,b,L=>∃ i:Nat,b=(i,l)/\L=[i]
 | _+1,.inl t,b,L=>b=t/\L=[]
 | h+1,.inr x,b,L=>∃ (i:Nat) (bs:List (BT h)) (Ls:List (List Nat)),b=(i,x.1,bs)/\L=Ls.flatten++[i]/\bs.length=x.2.length/\Ls.length=x.2.length /\
   ∀ (j:Nat) k bj Lj,x.2[j]?=some k->bs[j]?=some bj->Ls[j]?=some Lj->LdR h k bj Lj
structure EL (B:Nat) (w:World) (px q:Nat) (rv:Value) (d n:Int) (gone laid:List Nat):Prop where
 hB:B<=px
 hx:∃ gv lv,w.heap[px]?=some (.cells (edV q rv d n gv lv) 279 (0,0))/\w.ownsRow B 217 1 gv gone.length (plC gone)/\w.ownsRow B 217 1 lv laid.length (plC laid)/\∀ k,gv.ownBlock=some k->lv.ownBlock≠some k
theorem own_nil {t:TypeId}:w.ownsRow B t 1 (.slice none 0 0) 0 []:=⟨rfl,Or.inl ⟨rfl,rfl⟩⟩
theorem EV.el {n:Int} (h:EV B w px q rv d n gone):EL B w px q rv d n gone []:=by
 obtain ⟨gv,h1,h2⟩:=h.hx;exact ⟨h.hB,gv,_,h1,h2,own_nil,fun k _=>by simp [Value.ownBlock]⟩
theorem EL.stay {B px q:Nat} {w w':World} {rv:Value} {d n:Int} {gone laid:List Nat} (h:EL B w px q rv d n gone laid) (hs:∀ (k:Nat) (cs:Array Value) (t:TypeId),w.heap[k]?=some (Obj.cells cs t (0,0))->t=279\/t=217->w'.heap[k]?=some (Obj.cells cs t (0,0))):EL B w' px q rv d n gone laid:=by
 obtain ⟨gv,lv,h1,h2,h3,h4⟩:=h.hx;exact ⟨h.hB,gv,lv,hs _ _ _ h1 (Or.inl rfl),aAl h2 fun k cs _ e=>hs k cs _ e (Or.inr rfl),aAl h3 fun k cs _ e=>hs k cs _ e (Or.inr rfl),h4⟩
theorem EL.later {n:Int} (h:EL B w px q rv d n gone laid) (hb:Below w.heap.size w w'):EL B w' px q rv d n gone laid :=
 h.stay fun k cs t e _=>(hb.block _ (lO e)).trans e
theorem EL.fp [Gd] {n:Int} (h:EL B w px q rv d n gone laid) (f:Fp B w w'):EL B w' px q rv d n gone laid :=
 h.stay fun k cs t e ht=>f.stay k cs t _ e (by rcases ht with rfl | rfl<;>decide) (by rcases ht with rfl | rfl<;>decide) (by rcases ht with rfl | rfl<;>decide) (by rcases ht with rfl | rfl<;>decide) (by rcases ht with rfl | rfl<;>decide) (by rcases ht with rfl | rfl<;>decide)
theorem Lf.fe [Gd] {B:Nat} (S:List Nat) {w w':World} (h:FE B w w'):Lf B S w w' :=
 ⟨h.1,fun k cs t fz e ht=>h.2 k cs t fz e (fun q=>ht (by rw [q];decide)) (fun q=>ht (by rw [q];decide)),fun k cs e=>⟨cs,h.2 k cs _ _ e (by decide) (by decide),rfl,fun _ _ h _=>h⟩,h.gdk⟩
theorem Lf.fp [Gd] (S:List Nat) {w w':World} (h:Fp B w w'):Lf B S w w' :=
 ⟨h.bel,fun k cs t fz e ht=>h.stay k cs t fz e (fun q=>ht (by rw [q];decide)) (fun q=>ht (by rw [q];decide)) (fun q=>ht (by rw [q];decide)) (fun q=>ht (by rw [q];decide)) (fun q=>ht (by rw [q];decide)) (fun q=>ht (by rw [q];decide)),fun k cs e=>⟨cs,h.stay k cs _ _ e (by decide) (by decide) (by decide) (by decide) (by decide) (by decide),rfl,fun _ _ h _=>h⟩,h.gd⟩
theorem Lf.more [Gd] (h:Lf B S w w') (hs:∀ g∈S,g∈T):Lf B T w w' :=
 ⟨h.1,h.2.1,fun k cs e=>by obtain ⟨cs',e1,e2,e3⟩:=h.2.2.1 k cs e;exact ⟨cs',e1,e2,fun o u ho hu=>e3 o u ho fun g hg=>hu g (hs g hg)⟩,h.2.2.2⟩
theorem EL.push {w3:World} {gv v3:Value} {n:Int} (hB:B<=w.heap.size) (hpB:B<=px) (h1:w.heap[px]?=some (.cells (edV q rv d n gv lv) 279 (0,0))) (h2:w.ownsRow B 217 1 gv gone.length (plC gone)) (h3:w.ownsRow B 217 1 lv laid.length (plC laid)) (h4:∀ k,gv.ownBlock=some k->lv.ownBlock≠some k)
  (ho:w3.ownsRow B 217 1 v3 (laid.length+1) (plC laid++[.int .i64 (i:Int)])) (hg:(w.alloc (.cells #[.int .i64 (i:Int)] 217)).grownBy w3 lv.ownBlock) (hat:v3.ownBlock=lv.ownBlock\/v3.ownBlock=some (w.alloc (.cells #[.int .i64 (i:Int)] 217)).heap.size) :
  w3.heap[px]?=some (.cells (edV q rv d n gv lv) 279 (0,0))/\EL B (w3.setCell ⟨px,5,none⟩ v3) px q rv d n gone (laid++[i])/\FE B w (w3.setCell ⟨px,5,none⟩ v3):=by
 have hbx:=aAc w (.cells #[.int .i64 (i:Int)] 217);have keep:∀ (k:Nat) (cs:Array Value) (t:TypeId) (fz:Nat×Nat),w.heap[k]?=some (Obj.cells cs t fz)->lv.ownBlock≠some k->w3.heap[k]?=some (Obj.cells cs t fz):=by
  intro k cs t fz e hne;have hk:=(lO e);rw [hg.block k (Nat.lt_of_lt_of_le hk hbx.size) (fun q=>hne q.symm),hbx.block k hk,e]
 have nl:∀ (k:Nat) (cs:Array Value) (t:TypeId) (fz:Nat×Nat),w.heap[k]?=some (Obj.cells cs t fz)->t≠217->lv.ownBlock≠some k:=by
  intro k cs t fz e ht q9;obtain ⟨_,cur,hc⟩:=aAm h3 q9;rw [hc] at e;simp only [oI,cI] at e;exact ht e.2.1.symm
 have hp3:=keep px _ _ _ h1 (nl px _ _ _ h1 (by decide));have hset:∀ (k:Nat) (cs:Array Value) (t:TypeId) (fz:Nat×Nat),w3.heap[k]?=some (Obj.cells cs t fz)->t≠279->(w3.setCell ⟨px,5,none⟩ v3).heap[k]?=some (Obj.cells cs t fz):=by
  intro k cs t fz e ht;rw [heap_setCell_other _ _ _ _ ?_,e];intro q9;have q9:k=px:=q9;subst q9;rw [hp3] at e;simp only [oI,cI] at e;exact ht e.2.1.symm
 refine ⟨hp3,⟨hpB,gv,v3,?_,?_,?_,?_⟩,⟨?_,?_⟩⟩
 ·rw [heap_setCell_same _ _ _ _ _ _ hp3];rfl
 ·refine aAl h2 fun k cs hk e=>hset k cs _ _ (keep k cs _ _ e (h4 k hk)) (by decide)
 ·rw [lA,plC_app];exact aAl ho fun k cs hk e=>hset k cs _ _ e (by decide)
 ·intro k hk;rcases hat with q9 | q9
  ·rw [q9];exact h4 k hk
  ·rw [q9];obtain ⟨_,cur,hc⟩:=aAm h2 hk;have h9:=(lO hc);have h8:=hbx.size;intro q8;simp only [oI] at q8;omega
 ·exact ((hbx.mono hB).trans ((Below.refl B _).grown hg (nT hB hbx.size) (fun k hk=>(h3.lt k hk).1))).trans ((Below.refl _ _).setCell (p:=⟨px,5,none⟩) hpB _)
 ·intro k cs t fz e n1 n2;exact hset k cs t fz (keep k cs t fz e (nl k cs t fz e n2)) n1
theorem lowF_pos {st:List Nat} (h:1<=cntF st):∃ i,lowF st=some i:=by
 cases hl:lowF st with
 | some i=>exact ⟨i,rfl⟩
 | none =>
  have h1:=List.findIdx?_eq_none_iff.1 hl;have h2:cntF st=0:=List.count_eq_zero.2 fun q=>by have:=h1 1 q;simp at this
  omega
theorem PgI.new (ha:s.after<1) (hi:lowF t.st=some i) (hin:i<s.n) (hx:xs.length<=8186) (hb:∀ c∈xs,c<256):PgI (s.tick.wrote i (laidP xs)) (t.set i 2) i xs:=by
 have g:=Gw.one (laidP xs) ha hi;refine ⟨by rw [g.n];exact hin,by rw [aBw];exact (g.new i (by simp)).2,?_,by omega,hb⟩;rw [aEe,if_pos rfl];exact pageOf_laid xs hx
theorem flat_byte (h:∀ x∈l,ItOk x):∀ c∈l.flatMap itB,c<256:=by
 intro c hc;obtain ⟨x,hx,hc⟩:=List.mem_flatMap.1 hc;unfold itB at hc;simp only [List.mem_append] at hc;have h1:=(h x hx).kb;have h2:=(h x hx).vb;rcases hc with hc | hc | hc | hc
 ·exact aAw _ c hc
 ·exact h1 c hc
 ·exact aAw _ c hc
 ·exact h2 c hc
theorem its_byte (h:∀ x∈l,ItOk x):∀ c∈itsB k l,c<256:=by
 intro c hc;unfold itsB at hc;simp only [List.mem_append] at hc;rcases hc with hc | hc | hc
 ·exact aAw _ c hc
 ·exact aAw _ c hc
 ·exact flat_byte h c hc
theorem its_len (hk:k<100) (h:∀ x∈l,ItOk x) (hl:l.length<=4):(itsB k l).length<=7700:=by
 have h1:=aFa h;have h2:=aAi k (by omega);have h3:=aAi l.length (by omega);unfold itsB;rw [lA,lA,aAj k (by omega),aAj _ (by omega)];omega
def LayR [Gd] (B p q px:Nat) (s:DS) (t:PS) (w:World) (rv:Value) (d n:Int) (gone laid:List Nat) (h:Nat) (e:ED h) (S:List Nat) (v:Value) (w':World):Prop :=
 ∃ (b:BT h) (s':DS) (t':PS) (L:List Nat),v=.tuple #[.int .i64 (BT.id b:Int),.int .i64 0]/\LdR h e b L/\Gw s t s' t' L/\ST B p q s' t' w'/\OnD s' t' h b/\EL B w' px q rv d n gone (laid++L)/\Lf B S w w'
theorem lay_place :
  Calls prog 178 #[.pointer (some ⟨px,0,none⟩),.pointer (some ⟨q,0,none⟩),plV i] w fun e w'=>e=.returned (.tuple #[.int .i64 (i:Int),.int .i64 0])/\Below w.heap.size w w':=by
 have ta:=aD9 (.int .i64 (i:Int)) w;unfold plV;go_enter func178,ntmps178;go_wp2;go_ret2;exact ⟨rfl,Below.refl _ _⟩
theorem own_some {e:Nat} {xs:List Value} (h:w.ownsRow B e size v N xs) (hN:1<=N):∃ g c,v=.slice (some ⟨g,0,none⟩) N c:=by
 rcases h.2 with ⟨_,e0⟩ | ⟨g,cap,cur,e,_⟩
 ·omega
 ·exact ⟨g,cap,e⟩
theorem its_pos (hk:k<100):1<=(itsB k l).length:=by
 have h2:=aAi k (by omega);unfold itsB;rw [lA,aAj k (by omega)];omega
theorem lay_leaf [Gd] {n:Int} (hg0:True) (hST:ST B p q s t w) (hB:B<=w.heap.size) (hlf:s.life=t.life) (hd:s.down=false) (ha:s.after<1) (hl1:s.life<100000) (hm:s.m<100000) (hsn:t.st.length=s.n) (hE:EL B w px q rv d n gone laid) (hlen:laid.length<1000) (hfree:1<=cntF t.st) (l:List It) (hl:ItsOk l) {S:List Nat} {v:Value} (hv:NV B B1 w 0 (.inr l) S v) :
  Calls prog 178 #[.pointer (some ⟨px,0,none⟩),.pointer (some ⟨q,0,none⟩),v] w fun e w'=>∃ v',e=.returned v'/\LayR B p q px s t w rv d n gone laid 0 (.inr l) S v' w':=by
 obtain ⟨g,iv,rfl,rfl,hg1,hg2,hI⟩:=hv;obtain ⟨i,hi⟩:=lowF_pos hfree;have hin:i<s.n:=by rw [<-hsn];exact (aDw hi).1
 obtain ⟨i0,hi0,hz0,hz1,hz2⟩:=info_parts aEj;obtain ⟨N,hN⟩:∃ N,(leafB l).length=N:=⟨_,rfl⟩;have hN8:N<=8186:=by rw [<-hN];exact nT (its_len (by omega) hl.ok hl.n4) (by omega)
 have hN1:1<=N:=by rw [<-hN];exact its_pos (by omega)
 have ta:=aEz (.pointer (some ⟨g,0,none⟩)) w;have tb:=aAx (.pointer (some ⟨g,0,none⟩)) w;have HBY:=zH (bytesOf_leaf hg2 hI hB (by have:=hl.n4;omega) hl.ok hN);have HST:=zH hST;have HE:=zH hE;have HB:=zH hB;have HL:=zH hl;have HI:=zH hi;have HIN:=zH hin;have HBT:Hid (∀ c∈leafB l,c<256):=its_byte hl.ok;have HN:=zH hN;have hll:laid.length<1000:=hlen;have HA:=zH ha;have HPN:=zH (PgI.new (xs:=leafB l) ha hi hin (by omega) HBT.o);have HGW:=zH (Gw.one (laidP (leafB l)) ha hi);have HP:=zH (fun (ww:World) (a:Option Addr) (c:Nat) (hs:ST B p q s t ww) (hb:B<=ww.heap.size) (hx:BS ww a N c (leafB l))=>put_ok a N c (leafB l) i hs hb hlf hN8 hi hin hd (by omega) hl1 hm hx);unfold lfP at HBY ⊢;clear hST hE hB hl hi hin hI hg2 hN hlf hd ha hl1 hm hsn hlen hfree;generalize hxs:leafB l=xs at *
 go_enter func178,ntmps178;go_wp2_with fail;refine HBY.o.mono ?_;rintro e w1 ⟨v1,rfl,ho1,hb1⟩;obtain ⟨g1,c1,rfl⟩:=own_some ho1 hN1;have HBS1:Hid (BS w1 (some ⟨g1,0,none⟩) N c1 xs):=BS.ofOwns ho1 (by omega) HBT.o;have HB1:=zH hb1;have HP1:=zH (HP.o w1 (some ⟨g1,0,none⟩) c1 (HST.o.later hb1) (nT HB.o hb1.size) HBS1.o);clear ho1 hb1 ta tb HBY HP;go_wp2_with fail;refine HP1.o.mono ?_;rintro e w2 ⟨rfl,hST2,hF2⟩;have HST2:=zH hST2;have HF2:=zH ((Fp.of HB1.o HB.o).trans hF2);have HE2:=zH (HE.o.fp HF2.o);have HB2:Hid (B<=w2.heap.size):=nT HB.o HF2.o.bel.size;obtain ⟨gv,lv,e1,e2,e3,e4⟩:=HE2.o.hx;have HX1:=zH e1;have HX2:=zH e2;have HX3:=zH e3;have HX4:=zH e4;have HXB:=zH HE2.o.hB;obtain ⟨la,lc,rfl⟩:=aAg e3;have r5:w2.cell? ⟨px,5,none⟩=some (.slice la laid.length lc):=aAa e1;have HBX:=zH (aAc w2 (.cells #[.int .i64 (i:Int)] 217));have HOW1:=zH (aAh e3 HBX.o);have HBS3:Hid (B<=(w2.alloc (.cells #[.int .i64 (i:Int)] 217)).heap.size):=nT HB2.o HBX.o.size;clear hST2 hF2 e1 e2 e3 e4 HP1 HBS1;go_upto_region 18 with (at_builtin;refine wpList_append_own_at _ rfl (.tmp 74) (.tmp 76) 277 rfl B 217 i0 (.int .i64 0) 1 8 underlying277 hi0 hz0 hz1 hz2 rfl (by omega) (.slice la laid.length lc) laid.length (plC laid) rfl HOW1.o ⟨w2.heap.size,0,none⟩ 1 1 [Value.int .i64 (i:Int)] (by simp [Act.eval]) rfl (cell_one_new _ _ _) (by simp [Value.oneCell']) (by unfold maxLen;omega) (by omega) HBS3.o ?_;intro v3 w3 ho3 hg3 hz3 hat3;have HPU:=zH (EL.push HB2.o HXB.o HX1.o HX2.o HX3.o HX4.o ho3 hg3 hat3);obtain ⟨a3,c3,rfl⟩:=aAg ho3;have f3:w3.frozen? ⟨px,5,none⟩=false:=aAb HPU.o.1;have r3:w3.cell? ⟨px,5,none⟩=some (.slice la laid.length lc):=aAa HPU.o.1;clear ho3 hg3 hz3 hat3);have HEP:=zH HPU.o.2.1;have HFP:=zH HPU.o.2.2;clear HPU f3 r3 r5;generalize w3.setCell ⟨px,5,none⟩ (.slice a3 (laid.length+1) c3)=w4 at *
 go_wp2;go_ret2;refine ⟨_,rfl,((i,l):BT 0),_,_,[i],rfl,⟨i,rfl,rfl⟩,HGW.o,?_,⟨?_,HL.o⟩,HEP.o,((Lf.fp [g] HF2.o).trans (T:=[]) (Lf.fe [] HFP.o)).more fun x hx=>by simpa using hx⟩
 ·exact HFP.o.st HST2.o hg0
 ·rw [hxs];exact HPN.o
theorem aHz {α:Type} (f:α->Nat):∀ (c:List α) (Ls:List (List Nat)),Ls.length=c.length->(∀ (i:Nat) k Li,c[i]?=some k->Ls[i]?=some Li->Li.length=f k)->Ls.flatten.length=(c.map f).sum
 | [],[],_,_=>rfl
 | [],_::_,h,_=>by simp at h
 | _::_,[],h,_=>by simp at h
 | a::c,L::Ls,h,hp=>by
  have h1:=aHz f c Ls (by simpa using h) fun i k Li hi hl=>hp (i+1) k Li (by simpa using hi) (by simpa using hl)
  have h2:=hp 0 a L rfl rfl
  rw [List.flatten_cons,lA,h1,h2,List.map_cons,List.sum_cons]
theorem sum_take {α:Type} (f:α->Nat) {c:List α} {j:Nat} {k:α} (h:c[j]?=some k):((c.take j).map f).sum+f k<=(c.map f).sum:=by
 conv=>rhs;rw [aAp h]
 rw [List.map_append,List.sum_append,List.map_cons,List.sum_cons];omega
theorem LdR.len:∀ {h:Nat} {e:ED h} {b:BT h} {L:List Nat},LdR h e b L->L.length=frE h e
 | 0,.inl t,b,L,⟨_,e⟩=>by subst e;rfl
 | 0,.inr l,b,L,⟨i,_,e⟩=>by subst e;rfl
 | h+1,.inl t,b,L,⟨_,e⟩=>by subst e;rfl
 | h+1,.inr x,b,L,⟨i,bs,Ls,_,e,h1,h2,h3⟩=>by
  subst e
  have h4:=aHz (frE h) x.2 Ls h2 fun j k Lj hj hL=>by
   obtain ⟨bj,hb⟩:∃ bj,bs[j]?=some bj:=⟨_,gE (by rw [h1];exact (lL hj))⟩
   exact LdR.len (h3 j k bj Lj hj hb hL)
  show _=1+(x.2.map (frE h)).sum
  rw [lA,h4]
  simp
  omega
theorem NV.form:∀ {h:Nat} {e:ED h} {S:List Nat} {v:Value},NV B B1 w h e S v->∃ ty pv,v=.iface ty pv
 | 0,.inl _,_,_,hn=>⟨_,_,hn.2⟩
 | 0,.inr _,_,_,⟨_,_,_,e,_⟩=>⟨_,_,e⟩
 | _+1,.inl _,_,_,hn=>⟨_,_,hn.2⟩
 | _+1,.inr _,_,_,⟨_,_,_,_,_,_,_,e,_⟩=>⟨_,_,e⟩
theorem lf_inj {a:Nat} (h:lfP a=lfP b):a=b:=by simpa [lfP] using h
theorem br_inj {a:Nat} (h:brP a=brP b):a=b:=by simpa [brP] using h
theorem lf_br {a:Nat}:lfP a≠brP b:=by simp [lfP,brP]
theorem pl_lf {a:Nat}:plV a≠lfP b:=by simp [lfP,plV]
theorem pl_br {a:Nat}:plV a≠brP b:=by simp [plV,brP]
theorem NV.root:∀ {h:Nat} {e:ED h} {S:List Nat} {v:Value},NV B B1 w h e S v->v=lfP g\/v=brP g->g∈S
 | 0,.inl _,_,_,hn,hv=>by rw [hn.2] at hv;exact hv.elim (fun hv=>absurd hv pl_lf) (fun hv=>absurd hv pl_br)
 | 0,.inr _,_,_,⟨g2,_,e1,e2,_⟩,hv=>by
  rw [e2] at hv
  rcases hv with hv | hv
  ·rw [e1,lf_inj hv];simp
  ·exact absurd hv lf_br
 | _+1,.inl _,_,_,hn,hv=>by rw [hn.2] at hv;exact hv.elim (fun hv=>absurd hv pl_lf) (fun hv=>absurd hv pl_br)
 | _+1,.inr _,_,_,⟨g2,_,_,_,_,_,e1,e2,_⟩,hv=>by
  rw [e2] at hv
  rcases hv with hv | hv
  ·exact absurd hv.symm lf_br
  ·rw [e1,br_inj hv];simp
theorem NV.val:∀ {h:Nat} {e:ED h} {S:List Nat} {v:Value} {b:BT h} {L:List Nat},NV B B1 w h e S v->LdR h e b L->v=plV (BT.id b)\/∃ g∈S,v=lfP g\/v=brP g
 | 0,.inl _,_,_,_,_,hn,hl=>by rw [hl.1];exact Or.inl hn.2
 | 0,.inr _,_,_,_,_,⟨g2,_,e1,e2,_⟩,_=>Or.inr ⟨g2,by rw [e1];simp,Or.inl e2⟩
 | _+1,.inl _,_,_,_,_,hn,hl=>by rw [hl.1];exact Or.inl hn.2
 | _+1,.inr _,_,_,_,_,⟨g2,_,_,_,_,_,e1,e2,_⟩,_=>Or.inr ⟨g2,by rw [e1];simp,Or.inr e2⟩
structure LayP [Gd] (B B1 p q px:Nat) (s:DS) (t:PS) (w:World) (rv:Value) (d n:Int) (gone laid:List Nat) (h:Nat) (e:ED h) (S:List Nat) (v:Value):Prop where
 st:ST B p q s t w
 hB:B<=w.heap.size
 hB1:B<=B1
 lf:s.life=t.life
 dn:s.down=false
 af:s.after<1
 l1:s.life<100000
 m:s.m+frE h e<=100000
 sn:t.st.length=s.n
 el:EL B w px q rv d n gone laid
 ln:laid.length+frE h e<=1000
 fr:frE h e<=cntF t.st
 on:OnE s t h e
 nv:NV B B1 w h e S v
 nd:S.Nodup
structure LpI [Gd] (B p q px:Nat) (s:DS) (t:PS) (w:World) (rv:Value) (d n:Int) (gone laid:List Nat) (h:Nat) (c:List (ED h)) (Sk:List (List Nat)) (gc oc j:Nat) (s1:DS) (t1:PS) (bs:List (BT h)) (Ls:List (List Nat)) (wx:World):Prop where
 bl:bs.length=j
 ll:Ls.length=j
 ld:∀ (i:Nat) k bi Li,c[i]?=some k->bs[i]?=some bi->Ls[i]?=some Li->LdR h k bi Li
 gw:Gw s t s1 t1 Ls.flatten
 st:ST B p q s1 t1 wx
 on:∀ b∈bs,OnD s1 t1 h b
 el:EL B wx px q rv d n gone (laid++Ls.flatten)
 lf:Lf B (Sk.take j).flatten w wx
 ce:∀ (i:Nat) bi,bs[i]?=some bi->wx.cell? ⟨gc,oc+i,none⟩=some (plV (BT.id bi))
section
variable [Gd] {B B1 p q px:Nat} {s:DS} {t:PS} {w:World} {rv:Value} {d n:Int} {gone laid:List Nat} {h:Nat} {x:List It×List (ED h)} {S:List Nat} {Sk:List (List Nat)} {g gc oc:Nat}
theorem LpI.zero (hp:LayP B B1 p q px s t w rv d n gone laid (h+1) (.inr x) S v):LpI B p q px s t w rv d n gone laid h x.2 Sk gc oc 0 s t [] [] w :=
 ⟨rfl,rfl,fun i k bi Li _ e _=>by simp at e,Gw.refl s t,hp.st,fun b hb=>by simp at hb,by simpa using hp.el,by simpa using Lf.refl B [] w,fun i bi e=>by simp at e⟩
omit [Gd] in
theorem nd_parts {Sj:List Nat} (hnd:(g::Sk.flatten).Nodup) (hj:Sk[j]?=some Sj):Sj.Nodup/\(∀ y∈Sj,y∉(Sk.take j).flatten)/\(Sk.take (j+1)).flatten=(Sk.take j).flatten++Sj:=by
 have h1:=(List.nodup_cons.1 hnd).2;have e:Sk=Sk.take j++Sj::Sk.drop (j+1):=aAp hj;rw [e,List.flatten_append,List.flatten_cons] at h1;obtain ⟨n1,n2,n3⟩:=List.nodup_append.1 h1;obtain ⟨n4,n5,n6⟩:=List.nodup_append.1 n2;refine ⟨n4,fun y hy q=>n3 y q y (List.mem_append_left _ hy) rfl,?_⟩;rw [List.take_add_one,hj];simp
theorem LpI.sum {s1:DS} {t1:PS} {bs:List (BT h)} {Ls:List (List Nat)} {wx:World} {c:List (ED h)} (hI:LpI B p q px s t w rv d n gone laid h c Sk gc oc j s1 t1 bs Ls wx) (hj:j<=c.length):Ls.flatten.length=((c.take j).map (frE h)).sum:=by
 refine aHz (frE h) (c.take j) Ls (by rw [hI.ll,List.length_take];omega) fun i k Li hi hL=>?_
 have hij:i<j:=by have:=(lL hL);rw [hI.ll] at this;exact this
 rw [List.getElem?_take,if_pos hij] at hi;obtain ⟨bi,hb⟩:∃ bi,bs[i]?=some bi:=⟨_,gE (by rw [hI.bl];exact hij)⟩;exact (hI.ld i k bi Li hi hb hL).len
theorem LpI.child {s1:DS} {t1:PS} {bs:List (BT h)} {Ls:List (List Nat)} {wx:World} (hp:LayP B B1 p q px s t w rv d n gone laid (h+1) (.inr x) S v) (hS:S=g::Sk.flatten) {cs:Array Value} (hc:w.heap[gc]?=some (.cells cs 238 (0,0)))
  (hI:LpI B p q px s t w rv d n gone laid h x.2 Sk gc oc j s1 t1 bs Ls wx) {k:ED h} {Sj:List Nat} (hk:x.2[j]?=some k) (hSj:Sk[j]?=some Sj) {vk:Value} (hv:w.cell? ⟨gc,oc+j,none⟩=some vk) (hn:NV B B1 w h k Sj vk) :
  LayP B B1 p q px s1 t1 wx rv d n gone (laid++Ls.flatten) h k Sj vk/\wx.cell? ⟨gc,oc+j,none⟩=some vk:=by
 obtain ⟨n1,n2,n3⟩:=nd_parts (by rw [<-hS];exact hp.nd) hSj;have hsum:=hI.sum (by have:=(lL hk);omega);have hle:=sum_take (frE h) hk;have hfr:frE (h+1) (.inr x)=1+(x.2.map (frE h)).sum:=rfl;have a1:=hp.m;have a2:=hp.ln;have a3:=hp.fr;have a4:=hI.gw.m;have a5:=hI.gw.cnt;rw [hfr] at a1 a2 a3;obtain ⟨o1,o2,o3⟩:=hp.on;refine ⟨⟨hI.st,nT hp.hB hI.lf.1.size,hp.hB1,?_,?_,?_,?_,?_,?_,hI.el,?_,?_,(o3 k (mG hk)).grow hI.gw,NV.lf hI.lf n2 hn,n1⟩,?_⟩
 ·rw [hI.gw.life,hI.gw.tlife];exact hp.lf
 ·rw [hI.gw.down];exact hp.dn
 ·rw [hI.gw.after];exact hp.af
 ·rw [hI.gw.life];exact hp.l1
 ·omega
 ·rw [hI.gw.len,hI.gw.n];exact hp.sn
 ·rw [lA];omega
 ·omega
 ·obtain ⟨cs',e1,e2,e3⟩:=hI.lf.2.2.1 gc cs hc;rw [aAa hc] at hv;rw [aAa e1];refine e3 _ _ hv fun g' hg'=>⟨fun e=>n2 g' (hn.root (Or.inl e)) hg',fun e=>n2 g' (hn.root (Or.inr e)) hg'⟩
theorem ST.setN {g':Nat} {u:Value} {s1:DS} {t1:PS} {w1:World} (hst:ST B p q s1 t1 w1) (hc:w1.heap[g']?=some (.cells cs 238 (0,0))):ST B p q s1 t1 (w1.setCell ⟨g',o,none⟩ u):=by
 have ne:∀ (k:Nat) (cs':Array Value) (t':TypeId) (fz:Nat×Nat),w1.heap[k]?=some (.cells cs' t' fz)->t'≠238->(w1.setCell ⟨g',o,none⟩ u).heap[k]?=some (.cells cs' t' fz):=by
  intro k cs' t' fz e ht;rw [heap_setCell_other _ _ _ _ ?_,e];intro q9;have q9:k=g':=q9;subst q9;rw [hc] at e;simp only [oI,cI] at e;exact ht e.2.1.symm
 obtain ⟨h1,gs,h2⟩:=hst;refine ⟨?_,gs,ne _ _ _ _ h2.hq (by decide),ne _ _ _ _ h2.hs (by decide),h2.qB,h2.gB,h2.ok,h2.hG⟩;exact h1.of_stay (fun k cs t e ht=>ne k cs t _ e (by rcases ht with rfl | rfl | rfl | rfl | rfl | rfl | rfl<;>decide))
theorem LpI.next {s1:DS} {t1:PS} {bs:List (BT h)} {Ls:List (List Nat)} {wx w5:World} (hp:LayP B B1 p q px s t w rv d n gone laid (h+1) (.inr x) S v) (hS:S=g::Sk.flatten) (hgc:B1<=gc) {cs:Array Value} (hc:w.heap[gc]?=some (.cells cs 238 (0,0)))
  (hI:LpI B p q px s t w rv d n gone laid h x.2 Sk gc oc j s1 t1 bs Ls wx) {k:ED h} {Sj:List Nat} (hk:x.2[j]?=some k) (hSj:Sk[j]?=some Sj) {vk:Value} (hv:w.cell? ⟨gc,oc+j,none⟩=some vk) (hn:NV B B1 w h k Sj vk) (hvx:wx.cell? ⟨gc,oc+j,none⟩=some vk)
  {b:BT h} {s5:DS} {t5:PS} {L:List Nat} (l1:LdR h k b L) (l2:Gw s1 t1 s5 t5 L) (l3:ST B p q s5 t5 w5) (l4:OnD s5 t5 h b) (l5:EL B w5 px q rv d n gone ((laid++Ls.flatten)++L)) (l6:Lf B Sj wx w5) :
  (∃ c5,w5.heap[gc]?=some (.cells c5 238 (0,0))/\∃ u,c5[oc+j]?=some u)/\LpI B p q px s t w rv d n gone laid h x.2 Sk gc oc (j+1) s5 t5 (bs++[b]) (Ls++[L]) (w5.setCell ⟨gc,oc+j,none⟩ (plV (BT.id b))):=by
 obtain ⟨n1,n2,n3⟩:=nd_parts (by rw [<-hS];exact hp.nd) hSj;obtain ⟨cx,x1,x2,x3⟩:=hI.lf.2.2.1 gc cs hc;obtain ⟨c5,y1,y2,y3⟩:=l6.2.2.1 gc cx x1;rw [aAa x1] at hvx;have hlt:oc+j<c5.size:=by rw [y2];exact (lO hvx)
 have hset:(w5.setCell ⟨gc,oc+j,none⟩ (plV (BT.id b))).heap[gc]?=some (.cells (c5.setIfInBounds (oc+j) (plV (BT.id b))) 238 (0,0)):=heap_setCell_same _ _ _ _ _ _ y1;have hoth:∀ (k:Nat) (cs':Array Value) (t':TypeId) (fz:Nat×Nat),w5.heap[k]?=some (.cells cs' t' fz)->k≠gc->(w5.setCell ⟨gc,oc+j,none⟩ (plV (BT.id b))).heap[k]?=some (.cells cs' t' fz):=fun k cs' t' fz e hne=>by
  rw [heap_setCell_other _ _ _ _ (by exact hne),e]
 have hty:∀ (k:Nat) (cs':Array Value) (t':TypeId) (fz:Nat×Nat),w5.heap[k]?=some (.cells cs' t' fz)->t'≠238->k≠gc:=by
  intro k cs' t' fz e ht q9;subst q9;rw [y1] at e;simp only [oI,cI] at e;exact ht e.2.1.symm
 have LF:Lf B Sj wx (w5.setCell ⟨gc,oc+j,none⟩ (plV (BT.id b))):=by
  refine ⟨l6.1.trans ((Below.refl _ _).setCell (p:=⟨gc,oc+j,none⟩) (nT hp.hB1 hgc) _),fun i cs' t' fz e ht=>?_,fun i cs' e=>?_,l6.2.2.2.trans (fun i _ hf=>heap_setCell_other _ _ _ _ (hf.ne y1 (by unfold DTy;decide)))⟩
  ·have h1:=l6.2.1 i cs' t' fz e ht;exact hoth _ _ _ _ h1 (hty _ _ _ _ h1 (fun q=>ht (by rw [q];decide)))
  ·by_cases hi:i=gc
   ·subst hi;rw [x1] at e;simp only [oI,cI,and_true] at e;subst e;refine ⟨_,hset,by rw [Array.size_setIfInBounds,y2],fun o u ho hu=>?_⟩;by_cases hoj:o=oc+j
    ·subst hoj;rw [hvx] at ho;simp only [oI] at ho;subst ho;rw [Array.getElem?_setIfInBounds_self_of_lt hlt];rcases hn.val l1 with e | ⟨g',hg',e⟩
     ·rw [e]
     ·rcases e with e | e
      ·exact absurd e (hu g' hg').1
      ·exact absurd e (hu g' hg').2
    ·rw [Array.getElem?_setIfInBounds_ne (Ne.symm hoj)];exact y3 o u ho hu
   ·obtain ⟨c1,z1,z2,z3⟩:=l6.2.2.1 i cs' e;exact ⟨c1,hoth _ _ _ _ z1 hi,z2,z3⟩
 have hfl:(Ls++[L]).flatten=Ls.flatten++L:=by simp
 refine ⟨⟨c5,y1,_,Array.getElem?_eq_getElem hlt⟩,⟨by simp [hI.bl],by simp [hI.ll],?_,?_,l3.setN y1,?_,?_,?_,?_⟩⟩
 ·intro i k' bi Li e1 e2 e3;by_cases hij:i<j
  ·rw [List.getElem?_append_left (by rw [hI.bl];exact hij)] at e2;rw [List.getElem?_append_left (by rw [hI.ll];exact hij)] at e3;exact hI.ld i k' bi Li e1 e2 e3
  ·have hie:i=j:=by have:=(lL e2);simp [hI.bl] at this;omega
   subst hie;rw [List.getElem?_append_right (by rw [hI.bl];exact nR _),hI.bl] at e2;rw [List.getElem?_append_right (by rw [hI.ll];exact nR _),hI.ll] at e3;simp at e2 e3;rw [hk] at e1;simp only [oI] at e1;subst e1;subst e2;subst e3;exact l1
 ·rw [hfl];exact hI.gw.trans l2
 ·intro b' hb';rcases List.mem_append.1 hb' with h1 | h1
  ·exact (hI.on b' h1).grow l2
  ·simp only [List.mem_singleton] at h1;subst h1;exact l4
 ·rw [hfl,<-List.append_assoc];exact l5.stay fun k' cs' t' e ht=>hoth _ _ _ _ e (hty _ _ _ _ e (by rcases ht with rfl | rfl<;>decide))
 ·rw [n3];exact hI.lf.trans LF
 ·intro i bi e;rw [aAa hset];by_cases hij:i<j
  ·rw [List.getElem?_append_left (by rw [hI.bl];exact hij)] at e;have h1:=hI.ce i bi e;rw [aAa x1] at h1;rw [Array.getElem?_setIfInBounds_ne (by omega)];exact y3 _ _ h1 fun g' _=>⟨pl_lf,pl_br⟩
  ·have hie:i=j:=by have:=(lL e);simp [hI.bl] at this;omega
   subst hie;rw [List.getElem?_append_right (by rw [hI.bl];exact nR _),hI.bl] at e;simp at e;subst e;rw [Array.getElem?_setIfInBounds_self_of_lt hlt]
end
theorem OnD.idlt:∀ {h:Nat} {b:BT h},OnD s t h b->BT.id b<s.n
 | 0,_,hb=>hb.1.lt
 | _+1,_,hb=>hb.1.lt
theorem bran_len {ids:List Nat} (h:∀ x∈l,ItOk x) (hl:l.length<=4) (hi:∀ x∈ids,x<9223372036854775808) (hn:ids.length<=5):(branB l ids).length<=8186:=by
 have h1:=its_len (k:=2) (by omega) h hl;have h2:=aH0 hi;unfold branB;rw [lA];omega
theorem bran_byte {ids:List Nat} (h:∀ x∈l,ItOk x):∀ c∈branB l ids,c<256:=by
 intro c hc;unfold branB at hc;rcases List.mem_append.1 hc with hc | hc
 ·exact its_byte h c hc
 ·obtain ⟨y,_,hc⟩:=List.mem_flatMap.1 hc;exact aAw y c hc
theorem lay_branch [Gd] {n:Int} (hg0:True)
  (IH:∀ (s:DS) (t:PS) (w:World) (laid:List Nat) (e:ED h) (S:List Nat) (v:Value),LayP B B1 p q px s t w rv d n gone laid h e S v->Calls prog 178 #[.pointer (some ⟨px,0,none⟩),.pointer (some ⟨q,0,none⟩),v] w fun e' w'=>∃ v',e'=.returned v'/\LayR B p q px s t w rv d n gone laid h e S v' w')
  {x:List It×List (ED h)} {S:List Nat} {v:Value} (hp:LayP B B1 p q px s t w rv d n gone laid (h+1) (.inr x) S v) :
  Calls prog 178 #[.pointer (some ⟨px,0,none⟩),.pointer (some ⟨q,0,none⟩),v] w fun e w'=>∃ v',e=.returned v'/\LayR B p q px s t w rv d n gone laid (h+1) (.inr x) S v' w':=by
 obtain ⟨g,iv,gc,oc,cc,Sk,hS,rfl,b1,b2,b3,b4,b5,b6,⟨cs,b7⟩,b8,b9⟩:=hp.nv;obtain ⟨o1,o2,o3⟩:=hp.on;obtain ⟨i0,hi0,hz0,hz1,hz2⟩:=info_parts aEj;have ta:=aH4 (.pointer (some ⟨g,0,none⟩)) w;have tb:=aAy (.pointer (some ⟨g,0,none⟩)) w;have r1:w.cell? ⟨g,1,none⟩=some (.slice (some ⟨gc,oc,none⟩) x.2.length cc):=aAa b2;have HIH:=zH IH;have HP:=zH hp;have HS:=zH hS;have HC:=zH b7;have HB2:=zH b2;have HB3:=zH b3;have HB8:=zH b8;have HB9:=zH b9;have HO1:=zH o1;have HO2:=zH o2;have h4:x.1.length<=4:=o1.n4;have hN5:x.2.length<=5:=by omega
 have hgl:=(lO b2);unfold brP;clear IH hp hS b2 b3 b7 b8 b9 o1 o2 o3;generalize hN:x.2.length=N at *
 go_enter func178,ntmps178;go_wp2_with fail;go_loopw [36] (fun i wx=>∃ j:Nat,j<=N/\i=.int .i64 j/\∃ s1 t1 bs Ls,LpI B p q px s t w rv d n gone laid h x.2 Sk gc oc j s1 t1 bs Ls wx) (fun i _=>N-(intOf i).toNat)
 case atStart=>exact ⟨0,by omega,rfl,s,t,[],[],LpI.zero HP.o⟩
 case round =>
  obtain ⟨j,hj,rfl,s1,t1,bs,Ls,hI⟩:=hrel;have HI:=zH hI;clear hI ta tb;by_cases hjn:j<N
  ·have x1:(j:Int)<(N:Int):=by omega
   obtain ⟨k,hk⟩:∃ k,x.2[j]?=some k:=⟨_,gE (by rw [hN];exact hjn)⟩;obtain ⟨Sj,hSj⟩:∃ Sj,Sk[j]?=some Sj:=⟨_,gE (by rw [HB8.o];exact hjn)⟩;obtain ⟨vk,hv,hn⟩:=HB9.o j k Sj hk hSj;obtain ⟨hLP,hvx⟩:=HI.o.child HP.o HS.o HC.o hk hSj hv hn;obtain ⟨ty,pv,rfl⟩:=hn.form;have HCL:=zH (HIH.o _ _ _ _ _ _ _ hLP);have HNX:=zH (fun (b:BT h) (s5:DS) (t5:PS) (L:List Nat) (w5:World) l1 l2 l3 l4 l5 l6=>HI.o.next (w5:=w5) (b:=b) (s5:=s5) (t5:=t5) (L:=L) HP.o HS.o b4 HC.o hk hSj hv hn hvx l1 l2 l3 l4 l5 l6);have HG:=zH (HI.o.lf.2.1 _ _ _ _ HB2.o (by decide));clear hk hSj hv hn hLP;go_wp2_with fail;refine HCL.o.mono ?_;rintro e w5 ⟨v5,rfl,b,s5,t5,L,rfl,l1,l2,l3,l4,l5,l6⟩;obtain ⟨⟨c5,z1,u,z2⟩,hI6⟩:=HNX.o b s5 t5 L w5 l1 l2 l3 l4 l5 l6;have HI6:=zH hI6;have HG5:=zH (l6.2.1 _ _ _ _ HG.o (by decide));have r5:w5.cell? ⟨g,1,none⟩=some (.slice (some ⟨gc,oc,none⟩) N cc):=aAa HG5.o;have r6:w5.cell? ⟨gc,oc+j,none⟩=some u:=(aAa z1).trans z2;have f6:w5.frozen? ⟨gc,oc+j,none⟩=false:=aAb z1;unfold plV at HI6;clear hI6 z1 z2 l1 l2 l3 l4 l5 l6 HNX HCL hvx;go_wp2_with fail;go_roundw
   case rel =>
    exact ⟨j+1,by omega,by go_num,s5,t5,_,_,HI6.o⟩
   case measure=>simp [intOf];omega
  ·have x1:¬ (j:Int)<(N:Int):=by omega
   obtain rfl:j=N:=by omega
   have hs4:s.n<=4096:=by
    obtain ⟨_,gs,h2⟩:=HP.o.st;rw [<-HP.o.sn];exact h2.ok.sl
   have hsum:=HI.o.sum (Nat.le_of_eq hN.symm);rw [List.take_of_length_le (Nat.le_of_eq hN)] at hsum;have hfr:frE (h+1) (.inr x)=1+(x.2.map (frE h)).sum:=rfl;have a1:=HP.o.m;have a2:=HP.o.ln;have a3:=HP.o.fr;have a4:=HI.o.gw.m;have a5:=HI.o.gw.cnt;rw [hfr] at a1 a2 a3;obtain ⟨i,hi⟩:=lowF_pos (st:=t1.st) (by omega);have hsn1:t1.st.length=s1.n:=by rw [HI.o.gw.len,HI.o.gw.n];exact HP.o.sn
   have hin:i<s1.n:=by rw [<-hsn1];exact (aDw hi).1
   have hid:∀ y∈bs.map BT.id,y<9223372036854775808:=by
    intro y hy;obtain ⟨b,hb,rfl⟩:=List.mem_map.1 hy;have:=(HI.o.on b hb).idlt;rw [HI.o.gw.n] at this;omega
   have hil:(bs.map BT.id).length=j:=by rw [List.length_map];exact HI.o.bl
   obtain ⟨M,hM⟩:∃ M,(branB x.1 (bs.map BT.id)).length=M:=⟨_,rfl⟩;have hM8:M<=8186:=by rw [<-hM];exact bran_len HO1.o.ok h4 hid (by omega)
   have hM1:1<=M:=by rw [<-hM];unfold branB;rw [lA];have:=its_pos (k:=2) (l:=x.1) (by omega);omega
   have hsw:w.heap.size<=wr.heap.size:=HI.o.lf.1.size;have HB:Hid (B<=wr.heap.size):=nT HP.o.hB hsw;have hG:wr.heap[g]?=_:=HI.o.lf.2.1 _ _ _ _ HB2.o (by decide)
   have HBY:=zH (aGd (ids:=bs.map BT.id) hG (HB3.o.ft HI.o.lf.ft fun k cs _ e=>HI.o.lf.2.1 k cs _ _ e (by decide)) HB.o (by omega) HO1.o.ok hil (by omega) hid (fun i' y hy=>by
    rw [List.getElem?_map] at hy;obtain ⟨b,hb,rfl⟩:=Option.map_eq_some_iff.1 hy
    exact HI.o.ce i' b hb) hM)
   have HBT:Hid (∀ c∈branB x.1 (bs.map BT.id),c<256):=bran_byte HO1.o.ok;have haf:s1.after<1:=by rw [HI.o.gw.after];exact HP.o.af
   have hlf1:s1.life=t1.life:=by rw [HI.o.gw.life,HI.o.gw.tlife];exact HP.o.lf
   have HPN:=zH (PgI.new (xs:=branB x.1 (bs.map BT.id)) haf hi hin (by omega) HBT.o);have HGW:=zH (Gw.one (laidP (branB x.1 (bs.map BT.id))) haf hi);have HPP:=zH (fun (ww:World) (a:Option Addr) (c:Nat) (hs:ST B p q s1 t1 ww) (hb:B<=ww.heap.size) (hx:BS ww a M c (branB x.1 (bs.map BT.id)))=>put_ok a M c (branB x.1 (bs.map BT.id)) i hs hb hlf1 hM8 hi hin (by rw [HI.o.gw.down];exact HP.o.dn) (by omega) (by rw [HI.o.gw.life];exact HP.o.l1) (by omega) hx);have hll:(laid++Ls.flatten).length<1000:=by rw [lA];omega
   have HID:=zH hid;have HHI:=zH hi;have HM:=zH hM;unfold brP at HBY;clear hid hi hG hM hin hs4 hsum hfr a1 a2 a3 a4 a5 hsn1 hil haf hlf1 r1;generalize hxs:branB x.1 (bs.map BT.id)=xs at *
   generalize hld:laid++Ls.flatten=ld at *
   have HLD:=zH hld;have HE:=zH HI.o.el;rw [hld] at HE;clear hld;go_wp2_with fail;refine HBY.o.mono ?_;rintro e w1 ⟨v1,rfl,ho1,hb1⟩;obtain ⟨g1,c1,rfl⟩:=own_some ho1 hM1;have HBS1:Hid (BS w1 (some ⟨g1,0,none⟩) M c1 xs):=BS.ofOwns ho1 (by omega) HBT.o;have HB1:=zH hb1;have HP1:=zH (HPP.o w1 (some ⟨g1,0,none⟩) c1 (HI.o.st.later hb1) (nT HB.o hb1.size) HBS1.o);clear ho1 hb1 HBY HPP;go_wp2_with fail;refine HP1.o.mono ?_;rintro e w2 ⟨rfl,hST2,hF2⟩;have HST2:=zH hST2;have HF2:=zH ((Fp.of HB1.o HB.o).trans hF2);have HE2:=zH (HE.o.fp HF2.o);have HBw2:Hid (B<=w2.heap.size):=nT HB.o HF2.o.bel.size;obtain ⟨gv,lv,e1,e2,e3,e4⟩:=HE2.o.hx;have HX1:=zH e1;have HX2:=zH e2;have HX3:=zH e3;have HX4:=zH e4;have HXB:=zH HE2.o.hB;obtain ⟨la,lc,rfl⟩:=aAg e3;have r5:w2.cell? ⟨px,5,none⟩=some (.slice la ld.length lc):=aAa e1;have HBX:=zH (aAc w2 (.cells #[.int .i64 (i:Int)] 217));have HOW1:=zH (aAh e3 HBX.o);have HBS3:Hid (B<=(w2.alloc (.cells #[.int .i64 (i:Int)] 217)).heap.size):=nT HBw2.o HBX.o.size;clear hST2 hF2 e1 e2 e3 e4 HP1 HBS1;go_upto_region 18 with (at_builtin;refine wpList_append_own_at _ rfl (.tmp 74) (.tmp 76) 277 rfl B 217 i0 (.int .i64 0) 1 8 underlying277 hi0 hz0 hz1 hz2 rfl (by omega) (.slice la ld.length lc) ld.length (plC ld) rfl HOW1.o ⟨w2.heap.size,0,none⟩ 1 1 [Value.int .i64 (i:Int)] (by simp [Act.eval]) rfl (cell_one_new _ _ _) (by simp [Value.oneCell']) (by unfold maxLen;omega) (by omega) HBS3.o ?_;intro v3 w3 ho3 hg3 hz3 hat3;have HPU:=zH (EL.push HBw2.o HXB.o HX1.o HX2.o HX3.o HX4.o ho3 hg3 hat3);obtain ⟨a3,c3,rfl⟩:=aAg ho3;have f3:w3.frozen? ⟨px,5,none⟩=false:=aAb HPU.o.1;have r3:w3.cell? ⟨px,5,none⟩=some (.slice la ld.length lc):=aAa HPU.o.1;clear ho3 hg3 hz3 hat3);have HEP:=zH HPU.o.2.1;have HFP:=zH HPU.o.2.2;clear HPU f3 r3 r5;generalize w3.setCell ⟨px,5,none⟩ (.slice a3 (ld.length+1) c3)=w4 at *
   go_wp2;go_ret2;refine ⟨_,rfl,((i,x.1,bs):BT (h+1)),_,_,Ls.flatten++[i],rfl,⟨i,bs,Ls,rfl,rfl,HI.o.bl.trans hN.symm,HI.o.ll.trans hN.symm,HI.o.ld⟩,HI.o.gw.trans HGW.o,HFP.o.st HST2.o hg0,⟨?_,HO1.o,?_,fun b hb=>HID.o _ (List.mem_map_of_mem hb),fun b hb=>(HI.o.on b hb).grow HGW.o⟩,?_,?_⟩
   ·show PgI _ _ i (branB x.1 (bs.map BT.id));rw [hxs];exact HPN.o
   ·show bs.length=x.1.length+1;rw [HI.o.bl];exact HO2.o
   ·rw [<-List.append_assoc,HLD.o];exact HEP.o
   ·have h9:=HI.o.lf;rw [List.take_of_length_le (Nat.le_of_eq HB8.o)] at h9;refine ((h9.trans (Lf.fp [] HF2.o)).trans (Lf.fe [] HFP.o)).more fun y hy=>?_
    rw [HS.o];simp only [List.append_nil] at hy;exact List.mem_cons_of_mem _ hy
theorem lay_ok [Gd] {n:Int} (hg0:True):∀ (h:Nat) (s:DS) (t:PS) (w:World) (laid:List Nat) (e:ED h) (S:List Nat) (v:Value),LayP B B1 p q px s t w rv d n gone laid h e S v->Calls prog 178 #[.pointer (some ⟨px,0,none⟩),.pointer (some ⟨q,0,none⟩),v] w fun e' w'=>∃ v',e'=.returned v'/\LayR B p q px s t w rv d n gone laid h e S v' w'
 | 0,s,t,w,laid,.inl b,S,v,hp=>by
  obtain ⟨h1,h2⟩:=hp.nv
  subst h1
  subst h2
  refine lay_place.mono ?_
  rintro e w' ⟨rfl,hb⟩
  exact ⟨_,rfl,b,s,t,[],rfl,⟨rfl,rfl⟩,Gw.refl s t,hp.st.later hb,hp.on,by simpa using hp.el.later hb,Lf.fe _ (FE.of hb hp.hB)⟩
 | 0,s,t,w,laid,.inr l,S,v,hp=>lay_leaf hg0 hp.st hp.hB hp.lf hp.dn hp.af hp.l1 (by have h1:=hp.m;have h2:frE 0 (.inr l)=1:=rfl;omega) hp.sn hp.el (by have h1:=hp.ln;have h2:frE 0 (.inr l)=1:=rfl;omega) (by have h1:=hp.fr;have h2:frE 0 (.inr l)=1:=rfl;omega) l hp.on hp.nv
 | h+1,s,t,w,laid,.inl b,S,v,hp=>by
  obtain ⟨h1,h2⟩:=hp.nv
  subst h1
  subst h2
  refine lay_place.mono ?_
  rintro e w' ⟨rfl,hb⟩
  exact ⟨_,rfl,b,s,t,[],rfl,⟨rfl,rfl⟩,Gw.refl s t,hp.st.later hb,hp.on,by simpa using hp.el.later hb,Lf.fe _ (FE.of hb hp.hB)⟩
 | h+1,s,t,w,laid,.inr x,S,v,hp=>lay_branch hg0 (lay_ok hg0 h) hp
theorem fresh_place (i:Int) (w:World):Calls prog 256 #[.int .i64 i] w fun e w'=>e=.returned (.int .i64 0)/\Below w.heap.size w w':=by
 go_enter func256,ntmps256;go_wp2;go_ret;exact ⟨rfl,Below.refl _ _⟩
theorem fresh_leaf (v:Value) (w:World):Calls prog 258 #[v] w fun e w'=>e=.returned (.int .i64 1)/\Below w.heap.size w w':=by
 go_enter func258,ntmps258;go_wp2;go_ret;exact ⟨rfl,Below.refl _ _⟩
def FrC (w:World) (v:Value) (m:Nat):Prop:=∃ (ty:TypeId) (pv:Value) (K:FuncId) (rc:Value),v=.iface ty pv/\(∀ ww:World,(method 457 ty pv "headland/tree.fresh").run prog ww=.ok (K,rc) ww)/\(∀ ww:World,(callFunc K #[rc]).run prog ww=.ok (.enter K #[rc]) ww)/\Calls prog K #[rc] w fun e w'=>e=.returned (.int .i64 (m:Int))/\Below w.heap.size w w'
theorem mt_place (i:Int) (ww:World):(method 457 217 (.int .i64 i) "headland/tree.fresh").run prog ww=.ok (256,.int .i64 i) ww:=by kernel_rfl
theorem mt_leaf (g:Nat) (ww:World):(method 457 268 (.pointer (some ⟨g,0,none⟩)) "headland/tree.fresh").run prog ww=.ok (258,.pointer (some ⟨g,0,none⟩)) ww:=by kernel_rfl
theorem mt_branch (g:Nat) (ww:World):(method 457 247 (.pointer (some ⟨g,0,none⟩)) "headland/tree.fresh").run prog ww=.ok (257,.pointer (some ⟨g,0,none⟩)) ww:=by kernel_rfl
theorem cf_place (i:Int) (ww:World):(callFunc 256 #[.int .i64 i]).run prog ww=.ok (.enter 256 #[.int .i64 i]) ww:=by kernel_rfl
theorem cf_leaf (v:Value) (ww:World):(callFunc 258 #[v]).run prog ww=.ok (.enter 258 #[v]) ww:=by kernel_rfl
theorem cf_branch (v:Value) (ww:World):(callFunc 257 #[v]).run prog ww=.ok (.enter 257 #[v]) ww:=by kernel_rfl
theorem frc_place (w:World) (i:Nat):FrC w (plV i) 0:=⟨_,_,_,_,rfl,mt_place _,cf_place _,fresh_place _ _⟩
theorem frc_leaf (w:World) (g:Nat):FrC w (lfP g) 1:=⟨_,_,_,_,rfl,mt_leaf _,cf_leaf _,fresh_leaf _ _⟩
theorem fresh_branch {x:List It×List (ED h)} (hB:B<=w.heap.size) (IH:∀ (w:World) (e:ED h) (S:List Nat) (v:Value),B<=w.heap.size->frE h e<=1000->NV B B1 w h e S v->FrC w v (frE h e)) (hx:frE (h+1) (.inr x)<=1000) (hn:NV B B1 w (h+1) (.inr x) S (brP g)) :
  Calls prog 257 #[.pointer (some ⟨g,0,none⟩)] w fun e w'=>e=.returned (.int .i64 (frE (h+1) (.inr x):Int))/\Below w.heap.size w w':=by
 obtain ⟨g',iv,gc,oc,cc,Sk,hS,hg,b1,b2,b3,b4,b5,b6,⟨cs,b7⟩,b8,b9⟩:=hn;obtain rfl:=br_inj hg;have r1:w.cell? ⟨g,1,none⟩=some (.slice (some ⟨gc,oc,none⟩) x.2.length cc):=aAa b2;have HB9:=zH b9;have HB8:=zH b8;have HIH:=zH IH;have HB:=zH hB;have hfr:frE (h+1) (.inr x)=1+(x.2.map (frE h)).sum:=rfl;rw [hfr] at hx ⊢;have HX:=zH hx;clear b2 b3 b7 b8 b9 IH hB hx hg hfr;generalize hN:x.2.length=N at *
 go_enter func257,ntmps257;go_wp2_with fail;go_loopw [11,3] (fun i m wx=>∃ j M:Nat,j<=N/\i=.int .i64 j/\m=.int .i64 (M:Int)/\M=1+((x.2.take j).map (frE h)).sum/\Below w.heap.size w wx) (fun i _ _=>N-(intOf i).toNat)
 case atStart=>exact ⟨0,1,by omega,rfl,rfl,by simp,Below.refl _ _⟩
 case round =>
  obtain ⟨j,M,hj,rfl,rfl,hM,hb⟩:=hrel;have HM:=zH hM;have HBL:=zH hb;clear hM hb;by_cases hjn:j<N
  ·have x1:(j:Int)<(N:Int):=by omega
   obtain ⟨k,hk⟩:∃ k,x.2[j]?=some k:=⟨_,gE (by rw [hN];exact hjn)⟩;obtain ⟨Sj,hSj⟩:∃ Sj,Sk[j]?=some Sj:=⟨_,gE (by rw [HB8.o];exact hjn)⟩;obtain ⟨vk,hv,hn⟩:=HB9.o j k Sj hk hSj;have hst:=sum_take (frE h) hk;have hx9:=HX.o;have hM9:=HM.o;obtain ⟨m,hm⟩:∃ m,frE h k=m:=⟨_,rfl⟩;have hMm:M+m<=1000:=by omega
   have HNX:Hid (M+m=1+((x.2.take (j+1)).map (frE h)).sum):=by
    show _=_;rw [List.take_add_one,hk];simp only [Option.toList_some,List.map_append,List.sum_append,List.map_cons,List.map_nil,List.sum_cons,List.sum_nil];omega
   obtain ⟨ty,pv,K,rc,rfl,hmt,hcf,hcl⟩:=HIH.o wr k Sj vk (nT HB.o HBL.o.size) (by omega) (@NV.lf ⟨fun _=>False⟩ _ _ [] _ _ (@Lf.fe ⟨fun _=>False⟩ _ [] _ _ (FE.of HBL.o HB.o)) _ _ _ _ (fun _ _=>List.not_mem_nil) hn);rw [hm] at hcl;have hvx:wr.cell? ⟨gc,oc+j,none⟩=some (.iface ty pv):=(HBL.o.cell (p:=⟨gc,oc+j,none⟩) (block_lt_of_cell hv)).trans hv;have hm1:=hmt wr;have hm2:=hcf wr;have HCL:=zH hcl;clear hk hSj hv hn hst hx9 hM9 hm hmt hcf hcl;go_wp2_with fail;refine HCL.o.mono ?_;rintro e w5 ⟨rfl,hb5⟩;have HB5:=zH (HBL.o.trans (hb5.mono HBL.o.size));clear hb5 hvx hm1 hm2;go_wp2_with fail;go_roundw
   case rel =>
    exact ⟨j+1,M+m,by omega,by go_num,by go_num,HNX.o,HB5.o⟩
   case measure=>simp [intOf];omega
  ·have x1:¬ (j:Int)<(N:Int):=by omega
   obtain rfl:j=N:=by omega
   rw [List.take_of_length_le (Nat.le_of_eq hN)] at HM;go_wp2;go_ret;refine ⟨?_,HBL.o⟩;have e9:(M:Int)=1+(((x.2.map (frE h)).sum:Nat):Int):=by have:=HM.o;omega
   rw [<-e9];rfl
theorem fresh_ok:∀ (h:Nat) (w:World) (e:ED h) (S:List Nat) (v:Value),B<=w.heap.size->frE h e<=1000->NV B B1 w h e S v->FrC w v (frE h e)
 | 0,w,.inl b,S,v,_,_,hn=>by rw [hn.2];exact frc_place w _
 | 0,w,.inr l,S,v,_,_,⟨g,_,_,e,_⟩=>by rw [e];exact frc_leaf w g
 | h+1,w,.inl b,S,v,_,_,hn=>by rw [hn.2];exact frc_place w _
 | h+1,w,.inr x,S,v,hB,hx,hn=>by
  have hn':=hn
  obtain ⟨g,_,_,_,_,_,_,e,_⟩:=hn
  subst e
  exact ⟨_,_,_,_,rfl,mt_branch _,cf_branch _,fresh_branch hB (fresh_ok h) hx hn'⟩
def adP (ps:List Nat) (id:Nat):List Nat:=ps.set (id / 64) (ps.getD (id / 64) 0 ||| 2 ^ (id % 64))
def drP (ps:List Nat) (id:Nat):List Nat:=ps.set (id / 64) (ps.getD (id / 64) 0 &&& (18446744073709551615-2 ^ (id % 64)))
def hsP (ps:List Nat) (id:Nat):Bool:=(ps.getD (id / 64) 0).testBit (id % 64)
theorem adP_len (ps:List Nat) (id:Nat):(adP ps id).length=ps.length:=by simp [adP]
theorem drP_len (ps:List Nat) (id:Nat):(drP ps id).length=ps.length:=by simp [drP]
theorem hs_ad (hl:ps.length=64) {id j:Nat} (hi:id<4096):hsP (adP ps id) j=(hsP ps j || decide (j=id)):=by
 unfold hsP adP;by_cases h:j / 64=id / 64
 ·have hd:(ps.set (id / 64) (ps.getD (id / 64) 0 ||| 2 ^ (id % 64))).getD (j / 64) 0=ps.getD (j / 64) 0 ||| 2 ^ (id % 64):=by
   rw [h,List.getD_eq_getElem?_getD,List.getElem?_set_self (by omega),<-h];rfl
  rw [hd,Nat.testBit_or,Nat.testBit_two_pow]
  congr 1
  exact decide_eq_decide.2 ⟨fun e=>by omega,fun e=>by omega⟩
 ·have hd:(ps.set (id / 64) (ps.getD (id / 64) 0 ||| 2 ^ (id % 64))).getD (j / 64) 0=ps.getD (j / 64) 0:=by
   rw [List.getD_eq_getElem?_getD,List.getElem?_set_ne (Ne.symm h),<-List.getD_eq_getElem?_getD]
  have hne:j≠id:=fun e=>h (by rw [e])
  rw [hd,decide_eq_false hne,Bool.or_false]
theorem hs_dr (hl:ps.length=64) {id j:Nat} (hi:id<4096):hsP (drP ps id) j=(hsP ps j && !decide (j=id)):=by
 unfold hsP drP;by_cases h:j / 64=id / 64
 ·have hd:(ps.set (id / 64) (ps.getD (id / 64) 0 &&& (18446744073709551615-2 ^ (id % 64)))).getD (j / 64) 0=ps.getD (j / 64) 0 &&& (18446744073709551615-2 ^ (id % 64)):=by
   rw [h,List.getD_eq_getElem?_getD,List.getElem?_set_self (by omega),<-h];rfl
  have e1:18446744073709551615-2 ^ (id % 64)=2 ^ 64-(2 ^ (id % 64)+1):=by omega
  rw [hd,Nat.testBit_and,e1,Nat.testBit_two_pow_sub_succ (Nat.pow_lt_pow_right (by omega) (by omega)),Nat.testBit_two_pow,decide_eq_true (show j % 64<64 by omega),Bool.true_and]
  congr 2
  exact decide_eq_decide.2 ⟨fun e=>by omega,fun e=>by omega⟩
 ·have hd:(ps.set (id / 64) (ps.getD (id / 64) 0 &&& (18446744073709551615-2 ^ (id % 64)))).getD (j / 64) 0=ps.getD (j / 64) 0:=by
   rw [List.getD_eq_getElem?_getD,List.getElem?_set_ne (Ne.symm h),<-List.getD_eq_getElem?_getD]
  have hne:j≠id:=fun e=>h (by rw [e])
  rw [hd,decide_eq_false hne,Bool.not_false,Bool.and_true]
theorem aDb (a b:Nat) (ha:a<18446744073709551616) (hb:b<18446744073709551616):bits .andNot .u64 (a:Int) (b:Int)=((a &&& (18446744073709551615-b):Nat):Int):=by
 have hx:a &&& (18446744073709551615-b)<2 ^ 64:=Nat.and_lt_two_pow _ (by omega);have h1:(BitVec.ofInt 64 (a:Int)).toNat=a:=by
  rw [BitVec.ofInt_natCast,BitVec.toNat_ofNat];exact Nat.mod_eq_of_lt (by omega)
 have h2:(BitVec.ofInt 64 (b:Int)).toNat=b:=by
  rw [BitVec.ofInt_natCast,BitVec.toNat_ofNat];exact Nat.mod_eq_of_lt (by omega)
 show IntKind.u64.wrap ((BitVec.ofInt 64 (a:Int) &&& ~~~ BitVec.ofInt 64 (b:Int)).toNat:Int)=_;rw [BitVec.toNat_and,BitVec.toNat_not,h1,h2,IntKind.wrap_u64];have e:2 ^ 64-1-b=18446744073709551615-b:=by omega
 rw [e];omega
theorem two_r {r:Nat} (h:r<64):IntKind.u64.wrap (2 ^ r)=((2 ^ r:Nat):Int)/\2 ^ r<18446744073709551616:=by
 have h1:2 ^ r<2 ^ 64:=Nat.pow_lt_pow_right (by omega) h;have h2:((2:Int) ^ r)=((2 ^ r:Nat):Int):=by simp
 have h3:2 ^ r<18446744073709551616:=h1;refine ⟨?_,h3⟩;rw [h2,IntKind.wrap_u64];generalize 2 ^ r=y at h3 ⊢;omega
def Wd (cs:Array Value) (o:Nat) (ps:List Nat):Prop:=ps.length=64/\(∀ x∈ps,x<18446744073709551616)/\∀ (i:Nat) x,ps[i]?=some x->cs[o+i]?=some (.int .u64 (x:Int))
def Sm (cs cs':Array Value) (o:Nat):Prop:=cs'.size=cs.size/\∀ k,k<o\/o+64<=k->cs'[k]?=cs[k]?
theorem Sm.refl (cs:Array Value) (o:Nat):Sm cs cs o:=⟨rfl,fun _ _=>rfl⟩
theorem Sm.trans {a b c:Array Value} (h:Sm a b o) (k:Sm b c o):Sm a c o:=⟨k.1.trans h.1,fun i hi=>(k.2 i hi).trans (h.2 i hi)⟩
theorem Wd.set {m y:Nat} (h:Wd cs o ps) (hm:m<64) (hy:y<18446744073709551616):Wd (cs.setIfInBounds (o+m) (.int .u64 (y:Int))) o (ps.set m y)/\Sm cs (cs.setIfInBounds (o+m) (.int .u64 (y:Int))) o:=by
 obtain ⟨h1,h2,h3⟩:=h;refine ⟨⟨by simp [h1],fun x hx=>?_,fun i x hi=>?_⟩,by simp,fun k hk=>?_⟩
 ·rcases List.mem_or_eq_of_mem_set hx with hx | hx
  ·exact h2 x hx
  ·omega
 ·by_cases e:i=m
  ·subst e;rw [List.getElem?_set_self (by omega)] at hi;simp only [oI] at hi;subst hi;obtain ⟨x0,hx0⟩:∃ x0,ps[i]?=some x0:=⟨_,gE (by omega)⟩;rw [Array.getElem?_setIfInBounds_self_of_lt (lO (h3 i x0 hx0))]
  ·rw [List.getElem?_set_ne (Ne.symm e)] at hi;rw [Array.getElem?_setIfInBounds_ne (by omega)];exact h3 i x hi
 ·rw [Array.getElem?_setIfInBounds_ne (by omega)]
def PsR (B g o:Nat) (t:TypeId) (w:World) (cs:Array Value) (ps:List Nat) (w':World):Prop:=∃ cs',w'.heap[g]?=some (.cells cs' t (0,0))/\Wd cs' o ps/\Sm cs cs' o/\Ex B [g] w w'
theorem PsR.one {m y:Nat} {t:TypeId} (hB:B<=g) (hg:w.heap[g]?=some (.cells cs t (0,0))) (hw:Wd cs o ps) (hm:m<64) (hy:y<18446744073709551616):PsR B g o t w cs (ps.set m y) (w.setCell ⟨g,o+m,none⟩ (.int .u64 (y:Int))).drew:=by
 obtain ⟨h1,h2⟩:=hw.set hm hy;refine ⟨_,heap_setCell_same _ _ _ _ _ _ hg,h1,h2,((Below.refl B w).setCell (p:=⟨g,o+m,none⟩) hB _).drew,fun k _ hk=>?_⟩;simp only [List.mem_singleton] at hk;exact heap_setCell_other _ _ _ _ (by exact hk)
theorem add_ok {id:Nat} {t:TypeId} (hB:B<=g) (hg:w.heap[g]?=some (.cells cs t (0,0))) (hw:Wd cs o ps) (hid:id<4096) :
  Calls prog 142 #[.pointer (some ⟨g,o,none⟩),.int .i64 (id:Int)] w fun e w'=>e=.returned (.tuple #[])/\PsR B g o t w cs (adP ps id) w':=by
 obtain ⟨x,hx⟩:∃ x,ps[id / 64]?=some x:=⟨_,gE (by have:=hw.1;omega)⟩;have hx6:=hw.2.1 x (mG hx);have hc:=hw.2.2 _ x hx;have hgd:ps.getD (id / 64) 0=x:=by rw [List.getD_eq_getElem?_getD,hx];rfl
 have hq:((id:Int) / 64)=((id / 64:Nat):Int):=by omega
 have hr:((id:Int) % 64)=((id % 64:Nat):Int):=by omega
 have e0:adP ps id=ps.set (id / 64) (x ||| 2 ^ (id % 64)):=by unfold adP;rw [hgd]
 rw [e0];obtain ⟨m,hm⟩:∃ m,id / 64=m:=⟨_,rfl⟩;obtain ⟨r,hr2⟩:∃ r,id % 64=r:=⟨_,rfl⟩;have hm64:m<64:=by omega
 have hr64:r<64:=by omega
 rw [hm] at hc hq ⊢;rw [hr2] at hr ⊢;have HE:Hid (bits BinOp.or IntKind.u64 (x:Int) (IntKind.u64.wrap (2 ^ r))=((x ||| 2 ^ r:Nat):Int)):=by
  show _=_;rw [(two_r hr64).1,u64_or_nat x _ hx6 (two_r hr64).2]
 have HR:=zH (PsR.one (y:=x ||| 2 ^ r) hB hg hw hm64 (Nat.or_lt_two_pow (n:=64) hx6 (two_r hr64).2));have c0:w.cell? ⟨g,o+m,none⟩=some (.int .u64 (x:Int)):=(aAa hg).trans hc;have f0:w.frozen? ⟨g,o+m,none⟩=false:=aAb hg;have d1:(m:Int)<64:=by omega
 have d2:¬ (m:Int)<0:=by omega
 have d3:¬ (r:Int)<0:=by omega
 have d4:(r:Int)<64:=by omega
 clear hg hc hw hx hgd e0;go_enter func142,ntmps142;go_region;go_wp2;(try simp only [Exit.inBlock,Exit.then]);refine bodyPost_end (results_none rfl _ _ _) rfl ?_;rw [HE.o];exact ⟨rfl,HR.o⟩
theorem drop_ok {id:Nat} {t:TypeId} (hB:B<=g) (hg:w.heap[g]?=some (.cells cs t (0,0))) (hw:Wd cs o ps) (hid:id<4096) :
  Calls prog 209 #[.pointer (some ⟨g,o,none⟩),.int .i64 (id:Int)] w fun e w'=>e=.returned (.tuple #[])/\PsR B g o t w cs (drP ps id) w':=by
 obtain ⟨x,hx⟩:∃ x,ps[id / 64]?=some x:=⟨_,gE (by have:=hw.1;omega)⟩;have hx6:=hw.2.1 x (mG hx);have hc:=hw.2.2 _ x hx;have hgd:ps.getD (id / 64) 0=x:=by rw [List.getD_eq_getElem?_getD,hx];rfl
 have hq:((id:Int) / 64)=((id / 64:Nat):Int):=by omega
 have hr:((id:Int) % 64)=((id % 64:Nat):Int):=by omega
 have e0:drP ps id=ps.set (id / 64) (x &&& (18446744073709551615-2 ^ (id % 64))):=by unfold drP;rw [hgd]
 rw [e0];obtain ⟨m,hm⟩:∃ m,id / 64=m:=⟨_,rfl⟩;obtain ⟨r,hr2⟩:∃ r,id % 64=r:=⟨_,rfl⟩;have hm64:m<64:=by omega
 have hr64:r<64:=by omega
 rw [hm] at hc hq ⊢;rw [hr2] at hr ⊢;have HE:Hid (bits BinOp.andNot IntKind.u64 (x:Int) (IntKind.u64.wrap (2 ^ r))=((x &&& (18446744073709551615-2 ^ r):Nat):Int)):=by
  show _=_;rw [(two_r hr64).1,aDb x _ hx6 (two_r hr64).2]
 have HR:=zH (PsR.one (y:=x &&& (18446744073709551615-2 ^ r)) hB hg hw hm64 (Nat.and_lt_two_pow (n:=64) _ (Nat.lt_of_le_of_lt (Nat.sub_le _ _) (by decide))));have c0:w.cell? ⟨g,o+m,none⟩=some (.int .u64 (x:Int)):=(aAa hg).trans hc;have f0:w.frozen? ⟨g,o+m,none⟩=false:=aAb hg;have d1:(m:Int)<64:=by omega
 have d2:¬ (m:Int)<0:=by omega
 have d3:¬ (r:Int)<0:=by omega
 have d4:(r:Int)<64:=by omega
 clear hg hc hw hx hgd e0;go_enter func209,ntmps209;go_region;go_wp2;(try simp only [Exit.inBlock,Exit.then]);refine bodyPost_end (results_none rfl _ _ _) rfl ?_;rw [HE.o];exact ⟨rfl,HR.o⟩
theorem Ex.refl (B:Nat) (S:List Nat) (w:World):Ex B S w w:=⟨Below.refl _ _,fun _ _ _=>rfl⟩
theorem Ex.trans {a b c:World} (h:Ex B S a b) (k:Ex B S b c):Ex B S a c:=⟨h.1.trans k.1,fun i hi hn=>(k.2 i (Nat.lt_of_lt_of_le hi h.1.size) hn).trans (h.2 i hi hn)⟩
theorem PsR.zero {t:TypeId} (hg:w.heap[g]?=some (.cells cs t (0,0))) (hw:Wd cs o ps):PsR B g o t w cs ps w:=⟨cs,hg,hw,Sm.refl _ _,Ex.refl _ _ _⟩
theorem own_pl {l:List Nat} (h:w.ownsRow B 217 1 v l.length (plC l)) {j x:Nat} (hj:l[j]?=some x):∃ gb c,v=.slice (some ⟨gb,0,none⟩) l.length c/\w.cell? ⟨gb,j,none⟩=some (.int .i64 (x:Int)):=by
 have hlt:=(lL hj);rcases h.2 with ⟨_,e0⟩ | ⟨gb,cap,cur,e,_,hc,_,_,h4,h5⟩
 ·omega
 ·refine ⟨gb,cap,e,?_⟩;rw [aAa hc];have h6:(plC l)[j]?=some (.int .i64 (x:Int)):=by unfold plC;rw [List.getElem?_map,hj];rfl
  rw [<-h5,List.getElem?_take,if_pos (by omega)] at h6;rw [<-Array.getElem?_toList];exact h6
theorem dropAll_ok {B':Nat} {t:TypeId} {l:List Nat} (hB:B<=g) (hg:w.heap[g]?=some (.cells cs t (0,0))) (ht:t≠217) (hw:Wd cs o ps) (hl:∀ x∈l,x<4096) (hn:l.length<100000) (hv:w.ownsRow B' 217 1 v l.length (plC l)) :
  Calls prog 196 #[.pointer (some ⟨g,o,none⟩),v] w fun e w'=>e=.returned (.tuple #[])/\PsR B g o t w cs (l.foldl drP ps) w':=by
 obtain ⟨ga,gc,rfl⟩:=aAg hv;have HG:=zH hg;have HW:=zH hw;have HL:=zH hl;have HV:=zH hv;clear hg hw hl hv;generalize hN:l.length=N at *
 go_enter func196,ntmps196;go_wp2_with fail;go_loopw [8] (fun i wx=>∃ j:Nat,j<=N/\i=.int .i64 j/\PsR B g o t w cs ((l.take j).foldl drP ps) wx) (fun i _=>N-(intOf i).toNat)
 case atStart=>exact ⟨0,by omega,rfl,PsR.zero HG.o HW.o⟩
 case round =>
  obtain ⟨j,hj,rfl,hP⟩:=hrel;have HP:=zH hP;clear hP;by_cases hjn:j<N
  ·have x1:(j:Int)<(N:Int):=by omega
   obtain ⟨x,hx⟩:∃ x,l[j]?=some x:=⟨_,gE (by rw [hN];exact hjn)⟩;obtain ⟨c1,p1,p2,p3,p4⟩:=HP.o;have hown:wr.ownsRow B' 217 1 (.slice ga N gc) l.length (plC l):=by
    rw [hN];refine aAl HV.o fun k cs' _ e=>?_
    rw [p4.2 k (lO e) ?_,e];intro q9;simp only [List.mem_singleton] at q9;subst q9;have h9:=HG.o;rw [e] at h9;simp only [oI,cI] at h9;exact ht h9.2.1.symm
   obtain ⟨gb,c2,e2,hcell⟩:=own_pl hown hx;simp only [Value.slice.injEq] at e2;obtain ⟨rfl,hz,rfl⟩:=e2;clear hz;have HD:=zH (drop_ok (B:=B) hB p1 p2 (HL.o x (mG hx)));have HNX:Hid ((l.take (j+1)).foldl drP ps=drP ((l.take j).foldl drP ps) x):=by
    show _=_;rw [List.take_add_one,hx];simp
   have HS3:=zH p3;have HE4:=zH p4;clear p1 p2 p3 p4 hown hx;go_wp2_with fail;refine HD.o.mono ?_;rintro e w5 ⟨rfl,c5,q1,q2,q3,q4⟩;have HR:Hid (PsR B g o t w cs ((l.take (j+1)).foldl drP ps) w5):=by
    rw [HNX.o];exact ⟨c5,q1,q2,HS3.o.trans q3,HE4.o.trans q4⟩
   clear q1 q2 q3 q4 hcell HD;go_wp2_with fail;go_roundw
   case rel=>exact ⟨j+1,by omega,by go_num,HR.o⟩
   case measure=>simp [intOf];omega
  ·have x1:¬ (j:Int)<(N:Int):=by omega
   obtain rfl:j=N:=by omega
   rw [List.take_of_length_le (Nat.le_of_eq hN)] at HP;go_wp2;(try simp only [Exit.inBlock,Exit.then]);refine bodyPost_end (results_none rfl _ _ _) rfl ?_;exact ⟨rfl,HP.o⟩
end Go.Proofs.YtdfjjhlhnfindaaGreat
