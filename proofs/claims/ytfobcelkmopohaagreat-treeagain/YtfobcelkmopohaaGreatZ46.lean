import Derived.Test.YtfobcelkmopohaaGreatZ45
set_option maxRecDepth 100000
set_option maxHeartbeats 16000000
set_option linter.unusedVariables false
namespace Go.Proofs.YtfobcelkmopohaaGreat
open Go.RowKit
theorem aGp {B B1 px q:Nat} {w:World} {d n:Int} {gone:List Nat}:∀ {h:Nat} {v:Value} {S:List Nat} {e:ED h},EV B w px q v d n gone->NV B B1 w h e S v->isNew e->ShE h 4 e->S.Nodup->B<=B1->B1<=w.heap.size->px<B1->d=((h+1:Nat):Int)->h<900->(1<=h\/1<=(itE e).length) ->
  Calls Tryz.prog 46 #[.pointer (some ⟨px,0,none⟩)] w fun e' w'=>e'=.returned (.tuple #[])/\∃ rv' S',EV B w' px q rv' ((dpD h e+1:Nat):Int) n gone/\NV B B1 w' (rootD h e).1 (rootD h e).2 S' rv'/\S'.Nodup/\FE B w w'
 | 0,v,S,e,hE,hn,hnew,hs,hnd,hB,hBw,hpx,hd,hh,h1=>by
  have h1:1<=(itE e).length:=by
   rcases h1 with q9 | q9
   ·omega
   ·exact q9
  have h4:=aH4 hs
  refine (aB1 hE hn hnew h1 (Sh_le (by decide) hs) hnd hB hBw hpx (by omega) (by omega)).mono ?_
  rintro e' w' ⟨rfl,rv',S',k1,k2,k3,k4⟩
  rw [if_neg (by omega)] at k1
  rw [rootE_le h4] at k2
  exact ⟨rfl,rv',S',by rw [hd] at k1;exact k1,k2,k3,k4⟩
 | h+1,v,S,.inr x,hE,hn,hnew,⟨h4,h2,h3⟩,hnd,hB,hBw,hpx,hd,hh,_=>by
  have h4:x.1.length<=4:=h4
  have h2:x.2.length=x.1.length+1:=h2
  by_cases h1:x.1.length=0
  ·obtain ⟨c,hc,hr⟩:=rootD_yes (e:=(.inr x:ED (h+1))) h1 h2
   have hc:x.2=[c]:=hc
   obtain ⟨g,iv,gc,oc,cc,Sk,rfl,rfl,n1,n2,n3,n4,n5,n6,n7,n8,n9⟩:=hn
   rw [hc] at n2 n8
   obtain ⟨S0,hS0⟩:∃ S0,Sk=[S0]:=List.length_eq_one_iff.1 n8
   subst hS0
   obtain ⟨vk,m1,m2⟩:=n9 0 c S0 (by rw [hc];rfl) rfl
   obtain ⟨⟨vt,vv⟩,hve⟩:=NV.cells m2
   subst hve
   obtain ⟨a0,c0,hiv⟩:=n3.len
   rw [show (x.1.length)=0 from h1] at hiv
   refine (aFv hE n2 ⟨a0,c0,hiv⟩ m1 (by omega) (by omega)).mono ?_
   rintro e' w' ⟨rfl,k1,k2,k3⟩
   rw [hr]
   refine ⟨rfl,_,S0,?_,NV.up k2.ft (fun k hk _=>k3 k (by omega)) (nR _) m2,?_,k2⟩
   ·have hdp:dpD (h+1) (.inr x:ED (h+1))=h:=if_pos h1
    rw [hdp]
    have:d-1=((h+1:Nat):Int):=by omega
    rw [this] at k1
    exact k1
   ·have:=(List.nodup_cons.1 hnd).2
    simpa using this
  ·have h1':1<=(itE (h:=h+1) (Sum.inr x)).length:=Nat.one_le_iff_ne_zero.2 h1
   have h4':(itE (h:=h+1) (Sum.inr x)).length<=4:=h4
   refine (aB1 hE hn hnew h1' (Sh_le (m:=4) (by decide) ⟨h4,h2,h3⟩) hnd hB hBw hpx (by omega) (by omega)).mono ?_
   rintro e' w' ⟨rfl,rv',S',k1,k2,k3,k4⟩
   rw [if_neg (by omega)] at k1
   rw [rootE_le h4'] at k2
   rw [rootD_no (e:=(.inr x:ED (h+1))) h1]
   have hdp:dpD (h+1) (.inr x:ED (h+1))=h+1:=if_neg h1
   exact ⟨rfl,rv',S',by rw [hdp,<-hd];exact k1,k2,k3,k4⟩
theorem aFt {B B1 px q:Nat} {w:World} {d n:Int} {gone S:List Nat} {v:Value} {e:ED 0} (hE:EV B w px q v d n gone) (hn:NV B B1 w 0 e S v) (hnew:isNew e) (h0:(itE e).length=0) :
  Calls Tryz.prog 46 #[.pointer (some ⟨px,0,none⟩)] w fun e' w'=>e'=.returned (.tuple #[])/\EV B w' px q (plV 0) 0 n gone/\FE B w w':=by
 match e,hn,hnew,h0 with
 | .inr l,⟨g,iv,h1,h2,h3,h4,h5⟩,_,h0 =>
  rw [h2] at hE
  obtain ⟨a,c,hiv⟩:=h5.len
  rw [show l.length=0 from h0] at hiv
  exact aFu hE h4 ⟨a,c,hiv⟩
theorem EV.turn3 {B px q:Nat} {w:World} {rv rv':Value} {d n n':Int} {gone:List Nat} (h:EV B w px q rv d n gone):EV B ((w.setCell ⟨px,1,none⟩ rv').setCell ⟨px,3,none⟩ (.int .i64 n')) px q rv' d n' gone/\FE B w ((w.setCell ⟨px,1,none⟩ rv').setCell ⟨px,3,none⟩ (.int .i64 n'))/\∀ k,k≠px->((w.setCell ⟨px,1,none⟩ rv').setCell ⟨px,3,none⟩ (.int .i64 n')).heap[k]?=w.heap[k]?:=by
 obtain ⟨gv,h1,h2⟩:=h.hx
 have e1:(w.setCell ⟨px,1,none⟩ rv').heap[px]?=some (.cells (edV q rv' d n gv (.slice none 0 0)) 97 (0,0)):=by
  rw [heap_setCell_same _ _ _ _ _ _ h1];rfl
 have oth:∀ k,k≠px->((w.setCell ⟨px,1,none⟩ rv').setCell ⟨px,3,none⟩ (.int .i64 n')).heap[k]?=w.heap[k]?:=fun k hk=>by
  rw [heap_setCell_other _ _ _ _ hk,heap_setCell_other _ _ _ _ hk]
 have ne:∀ (k:Nat) (cs:Array Value) (t:TypeId) (fz:Nat×Nat),w.heap[k]?=some (.cells cs t fz)->t≠97->k≠px:=by
  intro k cs t fz e ht q9
  subst q9
  rw [h1] at e
  simp only [oI,cI] at e
  exact ht e.2.1.symm
 refine ⟨⟨h.hB,⟨gv,?_,aAj h2 fun k cs _ e=>by rw [oth k (ne k cs _ _ e (by decide)),e]⟩,h.hn⟩,⟨((Below.refl B w).setCell (p:=⟨px,1,none⟩) h.hB _).setCell (p:=⟨px,3,none⟩) h.hB _,fun k cs t fz e n1 _=>by rw [oth k (ne k cs t fz e n1),e]⟩,oth⟩
 rw [heap_setCell_same _ _ _ _ _ _ e1];rfl
theorem delete_none {B px q:Nat} {w:World} {rv:Value} {n:Int} {gone:List Nat} {ka:Option Addr} {kn kc:Nat} (hE:EV B w px q rv 0 n gone) :
  Calls Tryz.prog 20 #[.pointer (some ⟨px,0,none⟩),.slice ka kn kc] w fun e w'=>e=.returned (.bool false)/\w'=w:=by
 obtain ⟨p0,p1,p2,p3,fz⟩:=hE.cellsx
 clear hE
 go_enter Tryz.func20,Tryz.ntmps20
 go_wp2
 go_ret
 exact ⟨rfl,rfl⟩
theorem delete_no [Gd] {B p q px h:Nat} {s:DS} {t:PS} {w:World} {d n:Int} {gone:List Nat} (hg0:True) (hlf:s.life=t.life) (hdn:s.down=false) (b:BT h) (hE:EV B w px q (plV b.id) d n gone) (hdh:d=((h+1:Nat):Int)) (hST:ST B p q s t w) (hB:B<=w.heap.size) (hlen:gone.length+3*h+4<900) (hn0:0<=n) (hn1:n<1000000) (hb:OnD s t h b) (hsh:ShB h b) (hso:Srt (flB h b)) (k:List Nat) {ka:Option Addr} {kn kc:Nat} (hkn:k.length=kn) (hk:BK B w ka kn kc k) (hw:(delE h (old b) k).2=false) :
  Calls Tryz.prog 20 #[.pointer (some ⟨px,0,none⟩),.slice ka kn kc] w fun e w'=>e=.returned (.bool false)/\FE B w w':=by
 have HRC:=zH (del_ok (B:=B) (p:=p) (q:=q) (px:=px) hg0 hlf hdn h w.drew (plV b.id) d n gone b k ka kc (hST.later (Below.refl _ _).drew) hB (hE.later (Below.refl _ _).drew) hlen hb hsh hso (by rw [hkn];exact hk.later (Below.refl _ _).drew hB))
 rw [hkn,<-hdh] at HRC
 unfold plV at HRC
 obtain ⟨p0,p1,p2,p3,fz⟩:=hE.cellsx
 unfold plV at p1
 have hpxs:px<w.heap.size:=by obtain ⟨gv,h1,_⟩:=hE.hx;exact (lO h1)
 have hd:(d == 0)=false:=by simp;omega
 have hd2:¬ d=0:=by omega
 have HB:=zH hB
 rw [hw] at HRC
 clear hE hdh hST hB hb hsh hso hk p0 fz
 have HX0:Hid ((fun wx=>wx.cell? ⟨px,1,none⟩=some (.iface 92 (.int .i64 (BT.id b:Int)))/\wx.cell? ⟨px,2,none⟩=some (.int .i64 d)) w.drew):=⟨p1,p2⟩
 go_enter Tryz.func20,Tryz.ntmps20
 go_upto_region 3 with fail
 refine wp_region_noPanic ?_
 refine wp_region_held_drew (S:=fun wx=>wx.cell? ⟨px,1,none⟩=some (.iface 92 (.int .i64 (BT.id b:Int)))/\wx.cell? ⟨px,2,none⟩=some (.int .i64 d)) (by kernel_rfl) HX0.o (fun hHeld=>?_)
 refine kT 0 13 ?_
 refine kT 1 14 ?_
 refine kT 2 15 ?_
 refine kT 3 16 ?_
 refine kT 4 17 ?_
 refine kT 5 18 ?_
 refine kT 6 19 ?_
 refine kT 7 20 ?_
 refine kT 8 21 ?_
 refine kT 9 22 ?_
 refine kC 10 ?_;intro K hK
 go_simp
 refine HRC.o.mono ?_
 rintro e w5 ⟨v5,rfl,hP5⟩
 obtain ⟨⟨vt,vv⟩,hve⟩:=hP5.2.1
 subst hve
 obtain ⟨R1,R2,R3,R4,gone8,R8⟩:=hP5
 obtain ⟨z0,z1,z2,z3,zf⟩:=R8.cellsx
 have HX1:Hid ((fun wx=>wx.cell? ⟨px,1,none⟩=some (.iface 92 (.int .i64 (BT.id b:Int)))/\wx.cell? ⟨px,2,none⟩=some (.int .i64 d)) w5):=⟨z1,z2⟩
 have HR1:=zH R1
 have HR3:=zH ((FE.of (Below.refl _ _).drew HB.o).trans R3)
 have HR4:Hid (w.heap.size<=w5.heap.size):=R4
 have HZ3:=zH z3
 have HZF:=zH zf
 clear R1 R2 R3 R4 R8 z0 z1 z2 z3 zf hHeld
 refine hK.out _ _ HX1.o (fun hHeld=>?_)
 clear hK K
 refine kT 11 12 ?_
 refine kT 12 24 ?_
 refine kT 13 25 ?_
 refine kT 14 5 ?_
 refine kT 15 6 ?_
 refine wpAnyH_done (by kernel_rfl) ?_ _
 refine NoPanic.normal ?_
 clear hHeld HX0 HRC
 clear HX1
 go_wp2
 go_ret
 exact ⟨rfl,HR3.o⟩
theorem aHb [Gd] {B p q px h:Nat} {s:DS} {t:PS} {w:World} {d n:Int} {gone:List Nat} {Q:World->Prop} (hg0:True) (hlf:s.life=t.life) (hdn:s.down=false) (b:BT h) (hE:EV B w px q (plV b.id) d n gone) (hdh:d=((h+1:Nat):Int)) (hST:ST B p q s t w) (hB:B<=w.heap.size) (hlen:gone.length+3*h+4<900) (hn0:0<=n) (hn1:n<1000000) (hb:OnD s t h b) (hsh:ShB h b) (hso:Srt (flB h b)) (k:List Nat) {ka:Option Addr} {kn kc:Nat} (hkn:k.length=kn) (hk:BK B w ka kn kc k) (hw:(delE h (old b) k).2=true)
  (hSR:∀ (v:Value) (S:List Nat) (w7:World),EV B w7 px q v d (n-1) (gone++gnD h (old b) k)->NV B w.heap.size w7 h (delE h (old b) k).1 S v->S.Nodup->FE B w w7->w.heap.size<=w7.heap.size->Calls Tryz.prog 46 #[.pointer (some ⟨px,0,none⟩)] w7 fun e' w'=>e'=.returned (.tuple #[])/\Q w') :
  Calls Tryz.prog 20 #[.pointer (some ⟨px,0,none⟩),.slice ka kn kc] w fun e w'=>e=.returned (.bool true)/\Q w':=by
 have HRC:=zH (del_ok (B:=B) (p:=p) (q:=q) (px:=px) hg0 hlf hdn h w.drew (plV b.id) d n gone b k ka kc (hST.later (Below.refl _ _).drew) hB (hE.later (Below.refl _ _).drew) hlen hb hsh hso (by rw [hkn];exact hk.later (Below.refl _ _).drew hB))
 rw [hkn,<-hdh] at HRC
 unfold plV at HRC
 obtain ⟨p0,p1,p2,p3,fz⟩:=hE.cellsx
 unfold plV at p1
 have hpxs:px<w.heap.size:=by obtain ⟨gv,h1,_⟩:=hE.hx;exact (lO h1)
 have hd:(d == 0)=false:=by simp;omega
 have hd2:¬ d=0:=by omega
 have HB:=zH hB
 rw [hw] at HRC
 have HSR:=zH hSR
 have hwr:IntKind.i64.wrap (n-1)=n-1:=by rw [IntKind.wrap_i64];omega
 clear hSR hE hdh hST hB hb hsh hso hk p0 fz
 have HX0:Hid ((fun wx=>wx.cell? ⟨px,1,none⟩=some (.iface 92 (.int .i64 (BT.id b:Int)))/\wx.cell? ⟨px,2,none⟩=some (.int .i64 d)) w.drew):=⟨p1,p2⟩
 go_enter Tryz.func20,Tryz.ntmps20
 go_upto_region 3 with fail
 refine wp_region_noPanic ?_
 refine wp_region_held_drew (S:=fun wx=>wx.cell? ⟨px,1,none⟩=some (.iface 92 (.int .i64 (BT.id b:Int)))/\wx.cell? ⟨px,2,none⟩=some (.int .i64 d)) (by kernel_rfl) HX0.o (fun hHeld=>?_)
 refine kT 0 13 ?_
 refine kT 1 14 ?_
 refine kT 2 15 ?_
 refine kT 3 16 ?_
 refine kT 4 17 ?_
 refine kT 5 18 ?_
 refine kT 6 19 ?_
 refine kT 7 20 ?_
 refine kT 8 21 ?_
 refine kT 9 22 ?_
 refine kC 10 ?_;intro K hK
 go_simp
 refine HRC.o.mono ?_
 rintro e w5 ⟨v5,rfl,hP5⟩
 obtain ⟨⟨vt,vv⟩,hve⟩:=hP5.2.1
 subst hve
 obtain ⟨R1,R2,R3,R4,gone8,R8⟩:=hP5
 obtain ⟨z0,z1,z2,z3,zf⟩:=R8.cellsx
 have HX1:Hid ((fun wx=>wx.cell? ⟨px,1,none⟩=some (.iface 92 (.int .i64 (BT.id b:Int)))/\wx.cell? ⟨px,2,none⟩=some (.int .i64 d)) w5):=⟨z1,z2⟩
 have HR1:=zH R1
 have HR3:=zH ((FE.of (Below.refl _ _).drew HB.o).trans R3)
 have HR4:Hid (w.heap.size<=w5.heap.size):=R4
 have HZ3:=zH z3
 have HZF:=zH zf
 clear R1 R2 R3 R4 R8 z0 z1 z2 z3 zf hHeld
 refine hK.out _ _ HX1.o (fun hHeld=>?_)
 clear hK K
 refine kT 11 12 ?_
 refine kT 12 24 ?_
 refine kT 13 25 ?_
 refine kT 14 5 ?_
 refine kT 15 6 ?_
 refine wpAnyH_done (by kernel_rfl) ?_ _
 refine NoPanic.normal ?_
 clear hHeld HX0 HRC
 obtain ⟨⟨SS,N5,D5⟩,E5⟩:=HR1.o hw
 obtain ⟨z0,z1,z2,z3,zf⟩:=E5.cellsx
 have f1:=zf 1
 have f3:=zf 3
 obtain ⟨t1,t2,t3⟩:=E5.turn3 (rv':=.iface vt vv) (n':=n-1)
 have HSZ:Hid (w5.heap.size=((w5.setCell ⟨px,1,none⟩ (.iface vt vv)).setCell ⟨px,3,none⟩ (.int .i64 (n-1))).heap.size):=by show _=_;simp only [World.setCell,Array.size_modify]
 have HCL:=zH (HSR.o _ SS _ t1 (NV.up t2.ft (fun j hj _=>t3 j (by have:w.drew.heap.size=w.heap.size:=rfl;omega)) (nR _) N5) D5 (HR3.o.trans t2) (by rw [<-HSZ.o];exact HR4.o))
 obtain ⟨gv5,h5,_⟩:=E5.hx
 have HE6:Hid ((w5.setCell ⟨px,1,none⟩ (.iface vt vv)).heap[px]?=some (.cells (edV q (.iface vt vv) d n gv5 (.slice none 0 0)) 97 (0,0))):=by
  show _=_
  rw [heap_setCell_same _ _ _ _ _ _ h5];rfl
 clear z0 z2 zf t1 t2 t3 N5 D5 E5 HX1 p1 p2 p3 f3 h5
 go_upto_region 7 with fail
 generalize w5.setCell ⟨px,1,none⟩ (.iface vt vv)=w6 at *
 have y3:w6.cell? ⟨px,3,none⟩=some (.int .i64 n):=aAa HE6.o
 have f3:w6.frozen? ⟨px,3,none⟩=false:=aAc HE6.o
 clear z1 z3 f1
 go_wp2_with fail
 refine HCL.o.mono ?_
 rintro e w7 ⟨rfl,hq⟩
 have HQ:=zH hq
 clear hq HCL
 go_wp2
 go_ret
 exact ⟨rfl,HQ.o⟩
end Go.Proofs.YtfobcelkmopohaaGreat
