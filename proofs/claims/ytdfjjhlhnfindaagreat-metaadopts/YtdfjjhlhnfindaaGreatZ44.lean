import Derived.Test.YtdfjjhlhnfindaaGreatZ43
set_option maxRecDepth 100000
set_option maxHeartbeats 16000000
set_option linter.unusedVariables false
namespace Go.Proofs.YtdfjjhlhnfindaaGreat
open Go.RowKit
def ChT (B:Nat) (w:World) (k v:List Nat) (e:Ending) (w':World):Prop:=∃ ka kc va vc,e=.returned (.agg #[.int .i64 15,.slice ka k.length kc,.slice va v.length vc,.bool false])/\BK B w' ka k.length kc k/\BK B w' va v.length vc v/\Below w.heap.size w w'
theorem aCn {a b:Nat} (ha:a<9223372036854775808) (hb:b<9223372036854775808):(enc a++enc b).length=grp a+grp b/\1<=grp a/\grp a<=9/\1<=grp b/\grp b<=9:=by
 obtain ⟨g1,g2,_⟩:=aAi a ha
 obtain ⟨k1,k2,_⟩:=aAi b hb
 exact ⟨by rw [lA,aAj a g1,aAj b k1],g1,g2,k1,k2⟩
theorem aFy {B v:Nat} {w:World} {rv:Value} {r:Rec} (hr:RcV B w rv r) (hB:B<=w.heap.size) (hv:v<256) (h1:r.1<9223372036854775808) (h2:r.2.1<9223372036854775808) :
  Calls Tryz.prog 69 #[.int .i64 (v:Int),rv] w fun e w'=>ChT B w [v] (enc r.1++enc r.2.1) e w':=by
 have lt:∀ {k:Nat} {o:Obj} {ww:World},ww.heap[k]?=some o->k<ww.heap.size:=fun e=>(lO e)
 obtain ⟨hlen,hp1,hp9,hl1,hl9⟩:=aCn h1 h2
 have HLEN:=hide hlen
 have HH1:=hide h1
 have HH2:=hide h2
 have HV:=hide hv
 clear hlen h1 h2 hv
 obtain ⟨rp,rl,rval⟩:=r
 rcases hr with ⟨q0,rfl⟩ | ⟨q0,a,c,rfl,hbk⟩
 ·have hz0:((rl:Nat):Int)=0:=by have q0:rl=0:=q0;omega
  have HZ0:=hide hz0
  clear q0 hz0
  have q1:=aAf [Obj.cells #[.int .i64 0,.slice none 0 0,.slice none 0 0,.bool false] 152,Obj.cells #[.int .i64 0,.int .i64 0,.slice none 0 0] 156] w 0 _ rfl
  have qb:=(aAm [Obj.cells #[.int .i64 0,.slice none 0 0,.slice none 0 0,.bool false] 152,Obj.cells #[.int .i64 0,.int .i64 0,.slice none 0 0] 156] w).1
  have q2:=aAf [Obj.cells #[.int .i64 0,.slice none 0 0,.slice none 0 0,.bool false] 152,Obj.cells #[.int .i64 0,.int .i64 0,.slice none 0 0] 156] w 1 _ rfl
  have HN2:Hid (((w.alloc (.cells #[.int .i64 0,.slice none 0 0,.slice none 0 0,.bool false] 152)).alloc (.cells #[.int .i64 0,.int .i64 0,.slice none 0 0] 156)).heap[w.heap.size]?=some (.cells #[.int .i64 0,.slice none 0 0,.slice none 0 0,.bool false] 152 (0,0))):=q1
  have HB2:Hid (Below w.heap.size w ((w.alloc (.cells #[.int .i64 0,.slice none 0 0,.slice none 0 0,.bool false] 152)).alloc (.cells #[.int .i64 0,.int .i64 0,.slice none 0 0] 156))):=qb
  have y1:((w.alloc (.cells #[.int .i64 0,.slice none 0 0,.slice none 0 0,.bool false] 152)).alloc (.cells #[.int .i64 0,.int .i64 0,.slice none 0 0] 156)).cell? ⟨w.heap.size+1,1,none⟩=some (.int .i64 0):=aAa (show ((w.alloc (.cells #[.int .i64 0,.slice none 0 0,.slice none 0 0,.bool false] 152)).alloc (.cells #[.int .i64 0,.int .i64 0,.slice none 0 0] 156)).heap[w.heap.size+1]?=_ from q2)
  have as1:=aEh (.int .i64 (rp:Int)) (w.alloc (.cells #[.int .i64 0,.slice none 0 0,.slice none 0 0,.bool false] 152))
  have m1:=mt_pr (rp:Int) ((w.alloc (.cells #[.int .i64 0,.slice none 0 0,.slice none 0 0,.bool false] 152)).alloc (.cells #[.int .i64 0,.int .i64 0,.slice none 0 0] 156))
  have m2:=cf_pr (.int .i64 (rp:Int)) ((w.alloc (.cells #[.int .i64 0,.slice none 0 0,.slice none 0 0,.bool false] 152)).alloc (.cells #[.int .i64 0,.int .i64 0,.slice none 0 0] 156))
  clear q1 q2 qb
  go_enter Tryz.func69,Tryz.ntmps69
  go_upto_region 5 with fail
  generalize ((w.alloc (.cells #[.int .i64 0,.slice none 0 0,.slice none 0 0,.bool false] 152)).alloc (.cells #[.int .i64 0,.int .i64 0,.slice none 0 0] 156))=w2 at *
  clear y1 as1
  have HU1:=hide (aA9 rp w2 HH1.out)
  go_wp2_with fail
  refine (aA3 (rp:Int) _).mono ?_
  rintro e w9 ⟨rfl,hw⟩
  have hw:=hw.symm
  subst hw
  clear m1 m2
  go_wp2_with fail
  refine HU1.out.mono ?_
  rintro e w3 ⟨g3,c3,rfl,ho3,hb3⟩
  have HO3:=hide ho3
  have HB3:Hid (Below w.heap.size w w3):=HB2.out.trans (hb3.mono HB2.out.size)
  have HN3:=hide ((hb3.block w.heap.size (lt HN2.out)).trans HN2.out)
  have HU2:=hide (aA9 rl w3 HH2.out)
  have HS23:Hid (w2.heap.size<=w3.heap.size):=hb3.size
  clear ho3 hb3 HU1
  rw [HZ0.out] at HU2
  go_wp2_with fail
  refine HU2.out.mono ?_
  rintro e w4 ⟨g4,c4,rfl,ho4,hb4⟩
  have HB4:Hid (Below w.heap.size w w4):=HB3.out.trans (hb4.mono HB3.out.size)
  have HN4:=hide ((hb4.block w.heap.size (lt HN3.out)).trans HN3.out)
  have HO4:=hide (aAh HO3.out hb4)
  have HX4:=hide (BS.ofOwns ho4 (by omega) (aAu rl))
  have HS24:Hid (w2.heap.size<=w4.heap.size):=nT HS23.out hb4.size
  have HE1:Hid ((enc rp).length=grp rp):=aAj rp hp1
  clear ho4 hb4 HU2
  go_wp2_with (at_builtin;refine aD8 (B:=B) (by rfl) (.tmp 19) (.tmp 21) rfl rfl rfl HO4.out HE1.out HX4.out (aAu rp) (by omega) HS24.out ?_;intro b5 d5 w5 hk5 hb5;have HK5:=hide hk5;have HB5:=hide hb5;clear hk5 hb5)
  have HB05:Hid (Below w.heap.size w w5):=HB4.out.trans (HB5.out.mono HB2.out.size)
  have HN5:=hide ((HB5.out.block w.heap.size (lt HN2.out)).trans HN4.out)
  have HBK:=hide (aCa (B:=B) HV.out w5)
  have HBw5:Hid (B<=w5.heap.size):=nT hB HB05.out.size
  refine HBK.out.mono ?_
  rintro e w6 ⟨ka,kc,rfl,hk6,hb6⟩
  have HN6:=hide ((hb6.block w.heap.size (lt HN5.out)).trans HN5.out)
  have HB6:Hid (Below w.heap.size w w6):=HB05.out.trans (hb6.mono HB05.out.size)
  have HK6:=hide hk6
  have HV6:=hide (HK5.out.later hb6 HBw5.out)
  clear hk6 hb6 HBK
  generalize hn0:w.heap.size=n0 at *
  have zc0:w6.cell? ⟨n0,0,none⟩=some (.int .i64 0):=aAa HN6.out
  have zf0:w6.frozen? ⟨n0,0,none⟩=false:=aAb HN6.out
  have zc1:w6.cell? ⟨n0,1,none⟩=some (.slice none 0 0):=aAa HN6.out
  have zf1:w6.frozen? ⟨n0,1,none⟩=false:=aAb HN6.out
  have zc2:w6.cell? ⟨n0,2,none⟩=some (.slice none 0 0):=aAa HN6.out
  have zf2:w6.frozen? ⟨n0,2,none⟩=false:=aAb HN6.out
  have zc3:w6.cell? ⟨n0,3,none⟩=some (.bool false):=aAa HN6.out
  have zf3:w6.frozen? ⟨n0,3,none⟩=false:=aAb HN6.out
  go_wp2
  (try simp only [Exit.inBlock,Exit.then])
  have HBF:=hide (bel4 (b0:=.int .i64 15) (b1:=.slice ka 1 kc) (b2:=.slice b5 (grp rp+grp rl) d5) (b3:=.bool false) HB6.out (nR n0))
  have hft:FT B w6 ((((w6.setCell ⟨n0,0,none⟩ (.int .i64 15)).setCell ⟨n0,1,none⟩ (.slice ka 1 kc)).setCell ⟨n0,2,none⟩ (.slice b5 (grp rp+grp rl) d5)).setCell ⟨n0,3,none⟩ (.bool false)):=by
   refine ⟨bel4 (Below.refl B w6) (by rw [<-hn0];rw [<-hn0] at hB;exact hB),fun k cs fz e=>?_⟩
   have hne:k≠n0:=aAr e HN6.out (by decide)
   rw [heap_setCell_other _ _ _ _ hne,heap_setCell_other _ _ _ _ hne,heap_setCell_other _ _ _ _ hne,heap_setCell_other _ _ _ _ hne,e]
  refine bodyPost_ret (results_cell_row Tryz.results69 _ _ n0 _ _ _ _ rfl (set4 HN6.out) Tryz.underlying152 rfl aC8) rfl ?_
  exact ⟨ka,kc,b5,d5,by rw [HLEN.out];rfl,HK6.out.ft hft,by rw [HLEN.out];exact HV6.out.ft hft,by rw [hn0];exact HBF.out⟩
 ·clear hbk q0
  have q1:=aAf [Obj.cells #[.int .i64 0,.slice none 0 0,.slice none 0 0,.bool false] 152,Obj.cells #[.int .i64 (rp:Int),.int .i64 (rl:Int),.slice a rval.length c] 156] w 0 _ rfl
  have qb:=(aAm [Obj.cells #[.int .i64 0,.slice none 0 0,.slice none 0 0,.bool false] 152,Obj.cells #[.int .i64 (rp:Int),.int .i64 (rl:Int),.slice a rval.length c] 156] w).1
  have q2:=aAf [Obj.cells #[.int .i64 0,.slice none 0 0,.slice none 0 0,.bool false] 152,Obj.cells #[.int .i64 (rp:Int),.int .i64 (rl:Int),.slice a rval.length c] 156] w 1 _ rfl
  have HN2:Hid (((w.alloc (.cells #[.int .i64 0,.slice none 0 0,.slice none 0 0,.bool false] 152)).alloc (.cells #[.int .i64 (rp:Int),.int .i64 (rl:Int),.slice a rval.length c] 156)).heap[w.heap.size]?=some (.cells #[.int .i64 0,.slice none 0 0,.slice none 0 0,.bool false] 152 (0,0))):=q1
  have HB2:Hid (Below w.heap.size w ((w.alloc (.cells #[.int .i64 0,.slice none 0 0,.slice none 0 0,.bool false] 152)).alloc (.cells #[.int .i64 (rp:Int),.int .i64 (rl:Int),.slice a rval.length c] 156))):=qb
  have y1:((w.alloc (.cells #[.int .i64 0,.slice none 0 0,.slice none 0 0,.bool false] 152)).alloc (.cells #[.int .i64 (rp:Int),.int .i64 (rl:Int),.slice a rval.length c] 156)).cell? ⟨w.heap.size+1,1,none⟩=some (.int .i64 (rl:Int)):=aAa (show ((w.alloc (.cells #[.int .i64 0,.slice none 0 0,.slice none 0 0,.bool false] 152)).alloc (.cells #[.int .i64 (rp:Int),.int .i64 (rl:Int),.slice a rval.length c] 156)).heap[w.heap.size+1]?=_ from q2)
  have as1:=aDc (.agg #[.int .i64 (rp:Int),.int .i64 (rl:Int),.slice a rval.length c]) (w.alloc (.cells #[.int .i64 0,.slice none 0 0,.slice none 0 0,.bool false] 152))
  have m1:=mt_ac (rp:Int) (.int .i64 (rl:Int)) (.slice a rval.length c) ((w.alloc (.cells #[.int .i64 0,.slice none 0 0,.slice none 0 0,.bool false] 152)).alloc (.cells #[.int .i64 (rp:Int),.int .i64 (rl:Int),.slice a rval.length c] 156))
  have m2:=cf_pr (.int .i64 (rp:Int)) ((w.alloc (.cells #[.int .i64 0,.slice none 0 0,.slice none 0 0,.bool false] 152)).alloc (.cells #[.int .i64 (rp:Int),.int .i64 (rl:Int),.slice a rval.length c] 156))
  clear q1 q2 qb
  go_enter Tryz.func69,Tryz.ntmps69
  go_upto_region 5 with fail
  generalize ((w.alloc (.cells #[.int .i64 0,.slice none 0 0,.slice none 0 0,.bool false] 152)).alloc (.cells #[.int .i64 (rp:Int),.int .i64 (rl:Int),.slice a rval.length c] 156))=w2 at *
  clear y1 as1
  have HU1:=hide (aA9 rp w2 HH1.out)
  go_wp2_with fail
  refine (aA3 (rp:Int) _).mono ?_
  rintro e w9 ⟨rfl,hw⟩
  have hw:=hw.symm
  subst hw
  clear m1 m2
  go_wp2_with fail
  refine HU1.out.mono ?_
  rintro e w3 ⟨g3,c3,rfl,ho3,hb3⟩
  have HO3:=hide ho3
  have HB3:Hid (Below w.heap.size w w3):=HB2.out.trans (hb3.mono HB2.out.size)
  have HN3:=hide ((hb3.block w.heap.size (lt HN2.out)).trans HN2.out)
  have HU2:=hide (aA9 rl w3 HH2.out)
  have HS23:Hid (w2.heap.size<=w3.heap.size):=hb3.size
  clear ho3 hb3 HU1
  go_wp2_with fail
  refine HU2.out.mono ?_
  rintro e w4 ⟨g4,c4,rfl,ho4,hb4⟩
  have HB4:Hid (Below w.heap.size w w4):=HB3.out.trans (hb4.mono HB3.out.size)
  have HN4:=hide ((hb4.block w.heap.size (lt HN3.out)).trans HN3.out)
  have HO4:=hide (aAh HO3.out hb4)
  have HX4:=hide (BS.ofOwns ho4 (by omega) (aAu rl))
  have HS24:Hid (w2.heap.size<=w4.heap.size):=nT HS23.out hb4.size
  have HE1:Hid ((enc rp).length=grp rp):=aAj rp hp1
  clear ho4 hb4 HU2
  go_wp2_with (at_builtin;refine aD8 (B:=B) (by rfl) (.tmp 19) (.tmp 21) rfl rfl rfl HO4.out HE1.out HX4.out (aAu rp) (by omega) HS24.out ?_;intro b5 d5 w5 hk5 hb5;have HK5:=hide hk5;have HB5:=hide hb5;clear hk5 hb5)
  have HB05:Hid (Below w.heap.size w w5):=HB4.out.trans (HB5.out.mono HB2.out.size)
  have HN5:=hide ((HB5.out.block w.heap.size (lt HN2.out)).trans HN4.out)
  have HBK:=hide (aCa (B:=B) HV.out w5)
  have HBw5:Hid (B<=w5.heap.size):=nT hB HB05.out.size
  refine HBK.out.mono ?_
  rintro e w6 ⟨ka,kc,rfl,hk6,hb6⟩
  have HN6:=hide ((hb6.block w.heap.size (lt HN5.out)).trans HN5.out)
  have HB6:Hid (Below w.heap.size w w6):=HB05.out.trans (hb6.mono HB05.out.size)
  have HK6:=hide hk6
  have HV6:=hide (HK5.out.later hb6 HBw5.out)
  clear hk6 hb6 HBK
  generalize hn0:w.heap.size=n0 at *
  have zc0:w6.cell? ⟨n0,0,none⟩=some (.int .i64 0):=aAa HN6.out
  have zf0:w6.frozen? ⟨n0,0,none⟩=false:=aAb HN6.out
  have zc1:w6.cell? ⟨n0,1,none⟩=some (.slice none 0 0):=aAa HN6.out
  have zf1:w6.frozen? ⟨n0,1,none⟩=false:=aAb HN6.out
  have zc2:w6.cell? ⟨n0,2,none⟩=some (.slice none 0 0):=aAa HN6.out
  have zf2:w6.frozen? ⟨n0,2,none⟩=false:=aAb HN6.out
  have zc3:w6.cell? ⟨n0,3,none⟩=some (.bool false):=aAa HN6.out
  have zf3:w6.frozen? ⟨n0,3,none⟩=false:=aAb HN6.out
  go_wp2
  (try simp only [Exit.inBlock,Exit.then])
  have HBF:=hide (bel4 (b0:=.int .i64 15) (b1:=.slice ka 1 kc) (b2:=.slice b5 (grp rp+grp rl) d5) (b3:=.bool false) HB6.out (nR n0))
  have hft:FT B w6 ((((w6.setCell ⟨n0,0,none⟩ (.int .i64 15)).setCell ⟨n0,1,none⟩ (.slice ka 1 kc)).setCell ⟨n0,2,none⟩ (.slice b5 (grp rp+grp rl) d5)).setCell ⟨n0,3,none⟩ (.bool false)):=by
   refine ⟨bel4 (Below.refl B w6) (by rw [<-hn0];rw [<-hn0] at hB;exact hB),fun k cs fz e=>?_⟩
   have hne:k≠n0:=aAr e HN6.out (by decide)
   rw [heap_setCell_other _ _ _ _ hne,heap_setCell_other _ _ _ _ hne,heap_setCell_other _ _ _ _ hne,heap_setCell_other _ _ _ _ hne,e]
  refine bodyPost_ret (results_cell_row Tryz.results69 _ _ n0 _ _ _ _ rfl (set4 HN6.out) Tryz.underlying152 rfl aC8) rfl ?_
  exact ⟨ka,kc,b5,d5,by rw [HLEN.out];rfl,HK6.out.ft hft,by rw [HLEN.out];exact HV6.out.ft hft,by rw [hn0];exact HBF.out⟩
theorem ft4 {B g:Nat} {w:World} {b0 b1 b2 b3:Value} {cs:Array Value} {t:TypeId} {fz:Nat×Nat} (h:w.heap[g]?=some (.cells cs t fz)) (ht:t≠5) (hB:B<=g):FT B w ((((w.setCell ⟨g,0,none⟩ b0).setCell ⟨g,1,none⟩ b1).setCell ⟨g,2,none⟩ b2).setCell ⟨g,3,none⟩ b3):=by
 refine ⟨bel4 (Below.refl B w) hB,fun k cs fz e=>?_⟩
 have hne:k≠g:=aAr e h (Ne.symm ht)
 rw [heap_setCell_other _ _ _ _ hne,heap_setCell_other _ _ _ _ hne,heap_setCell_other _ _ _ _ hne,heap_setCell_other _ _ _ _ hne,e]
theorem ft6 {B g:Nat} {w:World} {b0 b1 b2 b3 b4 b5:Value} {cs:Array Value} {t:TypeId} {fz:Nat×Nat} (h:w.heap[g]?=some (.cells cs t fz)) (ht:t≠5) (hB:B<=g):FT B w ((((((w.setCell ⟨g,0,none⟩ b0).setCell ⟨g,1,none⟩ b1).setCell ⟨g,2,none⟩ b2).setCell ⟨g,3,none⟩ b3).setCell ⟨g,4,none⟩ b4).setCell ⟨g,5,none⟩ b5):=by
 refine ⟨bel6 (Below.refl B w) hB,fun k cs fz e=>?_⟩
 have hne:k≠g:=aAr e h (Ne.symm ht)
 rw [heap_setCell_other _ _ _ _ hne,heap_setCell_other _ _ _ _ hne,heap_setCell_other _ _ _ _ hne,heap_setCell_other _ _ _ _ hne,heap_setCell_other _ _ _ _ hne,heap_setCell_other _ _ _ _ hne,e]
theorem ft1 {B g o:Nat} {w:World} {b0:Value} {cs:Array Value} {t:TypeId} {fz:Nat×Nat} (h:w.heap[g]?=some (.cells cs t fz)) (ht:t≠5) (hB:B<=g):FT B w (w.setCell ⟨g,o,none⟩ b0):=by
 refine ⟨(Below.refl B w).setCell (p:=⟨g,o,none⟩) hB _,fun k cs fz e=>?_⟩
 rw [heap_setCell_other _ _ _ _ (aAr e h (Ne.symm ht)),e]
theorem ballotsOf_ok {B:Nat} {w:World} {a:Option Addr} {n c rp rl:Nat} (h1:rp<9223372036854775808) (h2:rl<9223372036854775808) (hp:1<=rp) (hl:rl<=rp) (hb:BS w a n c (enc rp++enc rl)) :
  Calls Tryz.prog 124 #[.slice a n c] w fun e w'=>e=.returned (.tuple #[.int .i64 (rp:Int),.int .i64 (rl:Int),.int .i64 0])/\w'=w:=by
 obtain ⟨hlen,g1,g9,k1,k9⟩:=aCn h1 h2
 have hn:=hb.hlen
 have R1:=aBs a n c (enc rp++enc rl) 0 w hb
 have R2:=aBs a n c (enc rp++enc rl) (grp rp:Int) w hb
 obtain ⟨a1,a2,a3⟩:=@ru_at [] (enc rl) rp h1
 obtain ⟨b1,b2,b3⟩:=@ru_at (enc rp) [] rl h2
 simp only [List.nil_append,List.append_nil,List.length_nil] at a1 a2 a3 b1 b2 b3
 rw [aAj rp g1] at b1 b2 b3
 have a1:ruN (enc rp++enc rl) 0=rp:=a1
 have a2:ruP (enc rp++enc rl) 0=0+grp rp:=a2
 have a3:ruE (enc rp++enc rl) 0=0:=a3
 rw [Nat.zero_add] at a2
 rw [a1,a2,a3] at R1
 rw [b1,b2,b3] at R2
 have HR1:=hide R1
 have HR2:=hide R2
 have z1:((grp rp+grp rl:Nat):Int)=(n:Int):=by omega
 have z2:¬ (rp:Int)<1:=by omega
 have z3:¬ (rp:Int)<(rl:Int):=by omega
 rw [z1] at HR2
 clear R1 R2 a1 a2 a3 b1 b2 b3 hb hlen hn h1 h2 z1
 go_enter Tryz.func124,Tryz.ntmps124
 go_wp2_with fail
 refine HR1.out.mono ?_
 rintro e w1 ⟨rfl,hw⟩
 have hw:=hw.symm
 subst hw
 go_wp2_with fail
 refine HR2.out.mono ?_
 rintro e w1 ⟨rfl,hw⟩
 have hw:=hw.symm
 subst hw
 go_wp2
 go_ret3
 exact ⟨rfl,rfl⟩
theorem aHb {B b:Nat} {w:World} {rv:Value} {r:Rec} (hr:RcV B w rv r) (hB:B<=w.heap.size) :
  Calls Tryz.prog 67 #[rv,.int .i64 (b:Int)] w fun e w'=>∃ rv',e=.returned rv'/\RcV B w' rv' (b,r.2.1,r.2.2)/\Below w.heap.size w w':=by
 obtain ⟨rp,rl,rval⟩:=r
 rcases hr with ⟨q0,rfl⟩ | ⟨q0,a,c,rfl,hbk⟩
 ·have as1:=aEh (.int .i64 (rp:Int)) w
  have HBX:=hide (aAc w (.cells #[.int .i64 0,.int .i64 0,.slice none 0 0] 156))
  have HQ:=hide q0
  clear q0
  go_enter Tryz.func67,Tryz.ntmps67
  go_wp2
  go_ret
  exact ⟨_,rfl,Or.inl ⟨HQ.out,rfl⟩,HBX.out⟩
 ·have hbk:BK B w a rval.length c rval:=hbk
  have as1:=aDc (.agg #[.int .i64 (rp:Int),.int .i64 (rl:Int),.slice a rval.length c]) w
  have HNW:Hid ((w.alloc (.cells #[.int .i64 (rp:Int),.int .i64 (rl:Int),.slice a rval.length c] 156)).heap[w.heap.size]?=some (.cells #[.int .i64 (rp:Int),.int .i64 (rl:Int),.slice a rval.length c] 156 (0,0))):=heap_alloc_new w _
  have HBX:=hide (aAc w (.cells #[.int .i64 (rp:Int),.int .i64 (rl:Int),.slice a rval.length c] 156))
  have HQ:=hide q0
  have HBK:=hide hbk
  clear q0 hbk
  go_enter Tryz.func67,Tryz.ntmps67
  go_upto_region 3 with fail
  generalize hn0:w.heap.size=n0 at *
  have HB1:=hide (HBK.out.later (by rw [hn0];exact HBX.out) (by rw [hn0];exact hB))
  generalize w.alloc (.cells #[.int .i64 (rp:Int),.int .i64 (rl:Int),.slice a rval.length c] 156)=w1 at *
  have c0:w1.cell? ⟨n0,0,none⟩=some (.int .i64 (rp:Int)):=aAa HNW.out
  have f0:w1.frozen? ⟨n0,0,none⟩=false:=aAb HNW.out
  have HS:Hid ((w1.setCell ⟨n0,0,none⟩ (.int .i64 (b:Int))).heap[n0]?=some (.cells #[.int .i64 (b:Int),.int .i64 (rl:Int),.slice a rval.length c] 156 (0,0))):=heap_setCell_same _ _ _ _ _ _ HNW.out
  have HFS:=hide (HB1.out.ft (ft1 (o:=0) (b0:=.int .i64 (b:Int)) HNW.out (by decide) hB))
  have HBS:Hid (Below n0 w (w1.setCell ⟨n0,0,none⟩ (.int .i64 (b:Int)))):=HBX.out.setCell (p:=⟨n0,0,none⟩) (nR n0) _
  clear as1
  go_upto_region 4 with fail
  generalize w1.setCell ⟨n0,0,none⟩ (.int .i64 (b:Int))=w2 at *
  have c0:w2.cell? ⟨n0,0,none⟩=some (.int .i64 (b:Int)):=aAa HS.out
  have c1:w2.cell? ⟨n0,1,none⟩=some (.int .i64 (rl:Int)):=aAa HS.out
  have c2:w2.cell? ⟨n0,2,none⟩=some (.slice a rval.length c):=aAa HS.out
  go_wp2
  go_ret
  exact ⟨_,rfl,Or.inr ⟨HQ.out,a,c,rfl,HFS.out⟩,HBS.out⟩
theorem accepted_any {B v:Nat} {w:World} {x y:Value} {a:Option Addr} {vn c:Nat} {val:List Nat} (hbk:BK B w a vn c val) (hB:B<=w.heap.size) (hv:v<256) :
  Calls Tryz.prog 70 #[.int .i64 (v:Int),.agg #[x,y,.slice a vn c]] w fun e w'=>ChT B w [v,0] val e w':=by
 have lt:∀ {k:Nat} {o:Obj} {ww:World},ww.heap[k]?=some o->k<ww.heap.size:=fun e=>(lO e)
 have hvl:=hbk.len
 have q1:=aAf [Obj.cells #[x,y,.slice a vn c] 156,Obj.cells #[.int .i64 0,.slice none 0 0,.slice none 0 0,.bool false] 152] w 0 _ rfl
 have q2:=aAf [Obj.cells #[x,y,.slice a vn c] 156,Obj.cells #[.int .i64 0,.slice none 0 0,.slice none 0 0,.bool false] 152] w 1 _ rfl
 have qb:=(aAm [Obj.cells #[x,y,.slice a vn c] 156,Obj.cells #[.int .i64 0,.slice none 0 0,.slice none 0 0,.bool false] 152] w).1
 have HN1:Hid (((w.alloc (.cells #[x,y,.slice a vn c] 156)).alloc (.cells #[.int .i64 0,.slice none 0 0,.slice none 0 0,.bool false] 152)).heap[w.heap.size]?=some (.cells #[x,y,.slice a vn c] 156 (0,0))):=q1
 have HN2:Hid (((w.alloc (.cells #[x,y,.slice a vn c] 156)).alloc (.cells #[.int .i64 0,.slice none 0 0,.slice none 0 0,.bool false] 152)).heap[w.heap.size+1]?=some (.cells #[.int .i64 0,.slice none 0 0,.slice none 0 0,.bool false] 152 (0,0))):=q2
 have HB2:Hid (Below w.heap.size w ((w.alloc (.cells #[x,y,.slice a vn c] 156)).alloc (.cells #[.int .i64 0,.slice none 0 0,.slice none 0 0,.bool false] 152))):=qb
 have HBK:=hide hbk
 have HV:=hide hv
 clear hbk hv q1 q2 qb
 go_enter Tryz.func70,Tryz.ntmps70
 go_upto_region 1 with fail
 generalize ((w.alloc (.cells #[x,y,.slice a vn c] 156)).alloc (.cells #[.int .i64 0,.slice none 0 0,.slice none 0 0,.bool false] 152))=w1 at *
 generalize hn0:w.heap.size=n0 at *
 generalize hn1:n0+1=n1 at *
 have HBD:Hid (Below n0 w w1.drew):=HB2.out.drew
 have HND1:Hid (w1.drew.heap[n0]?=some (.cells #[x,y,.slice a vn c] 156 (0,0))):=HN1.out
 have HND2:Hid (w1.drew.heap[n1]?=some (.cells #[.int .i64 0,.slice none 0 0,.slice none 0 0,.bool false] 152 (0,0))):=HN2.out
 have HKD:=hide (HBK.out.later (by rw [hn0];exact HBD.out) (by rw [hn0];exact hB))
 have HBw:Hid (B<=w1.drew.heap.size):=nT hB (by have:=HBD.out.size;omega)
 have HX0:Hid ((fun wx=>wx.cell? ⟨n0,2,none⟩=some (.slice a vn c)) w1.drew):=aAa HN1.out
 have HVK:=hide (aEk (B:=B) HV.out w1.drew)
 refine wp_region_noPanic ?_
 refine wp_region_held_drew (S:=fun wx=>wx.cell? ⟨n0,2,none⟩=some (.slice a vn c)) (by kernel_rfl) HX0.out (fun hHeld=>?_)
 refine wpAnyH_tk 0 5 ?_
 refine wpAnyH_tk 2 7 ?_
 refine wpAnyH_tk 3 8 ?_
 refine wpAnyH_cm 1 ?_;intro K hK
 go_simp
 refine HVK.out.mono ?_
 rintro e w2 ⟨ka,kc,rfl,hk2,hb2⟩
 have HN1':=hide ((hb2.block n0 (lt HND1.out)).trans HND1.out)
 have HN2':=hide ((hb2.block n1 (lt HND2.out)).trans HND2.out)
 have HB3:Hid (Below n0 w w2):=HBD.out.trans (hb2.mono (by have:=HBD.out.size;omega))
 have HK2:=hide hk2
 have HV2:=hide (HKD.out.later hb2 HBw.out)
 have HX2:Hid ((fun wx=>wx.cell? ⟨n0,2,none⟩=some (.slice a vn c)) w2):=aAa HN1'.out
 have zc0:w2.cell? ⟨n1,0,none⟩=some (.int .i64 0):=aAa HN2'.out
 have zf0:w2.frozen? ⟨n1,0,none⟩=false:=aAb HN2'.out
 have zc1:w2.cell? ⟨n1,1,none⟩=some (.slice none 0 0):=aAa HN2'.out
 have zf1:w2.frozen? ⟨n1,1,none⟩=false:=aAb HN2'.out
 have zc2:w2.cell? ⟨n1,2,none⟩=some (.slice none 0 0):=aAa HN2'.out
 have zf2:w2.frozen? ⟨n1,2,none⟩=false:=aAb HN2'.out
 have zc3:w2.cell? ⟨n1,3,none⟩=some (.bool false):=aAa HN2'.out
 have zf3:w2.frozen? ⟨n1,3,none⟩=false:=aAb HN2'.out
 clear hk2 hb2 hHeld
 refine hK.out _ _ HX2.out (fun hHeld=>?_)
 clear hK K
 try simp only [Act.put,siT,scZ,scS]
 refine wpAnyH_tk 4 9 ?_
 refine wpAnyH_tk 5 10 ?_
 refine wpAnyH_cm 6 ?_;intro K hK
 go_simp
 have HXS:Hid (∀ b0 b1 b2 b3,(fun wx=>wx.cell? ⟨n0,2,none⟩=some (.slice a vn c)) ((((w2.setCell ⟨n1,0,none⟩ b0).setCell ⟨n1,1,none⟩ b1).setCell ⟨n1,2,none⟩ b2).setCell ⟨n1,3,none⟩ b3)):=fun b0 b1 b2 b3=>by
  have hne:n0≠n1:=by omega
  have hx:((((w2.setCell ⟨n1,0,none⟩ b0).setCell ⟨n1,1,none⟩ b1).setCell ⟨n1,2,none⟩ b2).setCell ⟨n1,3,none⟩ b3).heap[n0]?=some (.cells #[x,y,.slice a vn c] 156 (0,0)):=by
   rw [heap_setCell_other _ _ _ _ hne,heap_setCell_other _ _ _ _ hne,heap_setCell_other _ _ _ _ hne,heap_setCell_other _ _ _ _ hne]
   exact HN1'.out
  exact aAa hx
 clear hHeld
 refine hK.out _ _ (HXS.out _ _ _ _) (fun hHeld=>?_)
 clear hK K
 try simp only [Act.put,siT,scZ,scS]
 refine wpAnyH_done (by kernel_rfl) ?_ _
 refine NoPanic.normal ?_
 clear hHeld
 go_wp2
 (try simp only [Exit.inBlock,Exit.then])
 have HBF:=hide (bel4 (b0:=.int .i64 15) (b1:=.slice ka 2 kc) (b2:=.slice a vn c) (b3:=.bool false) HB3.out (show n0<=n1 by omega))
 have hft:=ft4 (B:=B) (b0:=.int .i64 15) (b1:=.slice ka 2 kc) (b2:=.slice a vn c) (b3:=.bool false) HN2'.out (by decide) (show B<=n1 by omega)
 refine bodyPost_ret (results_cell_row Tryz.results70 _ _ n1 _ _ _ _ rfl (set4 HN2'.out) Tryz.underlying152 rfl aC8) rfl ?_
 exact ⟨ka,kc,a,c,by rw [hvl];rfl,HK2.out.ft hft,by rw [hvl];exact HV2.out.ft hft,by rw [hn0];exact HBF.out⟩
def AnT (B:Nat) (w:World) (ae at_:Int) (r:Rec) (e:Ending) (w':World):Prop:=∃ va vc,e=.returned (.agg #[.int .i64 ae,.int .i64 at_,.bool false,.int .i64 0,.int .i64 (r.2.1:Int),.slice va (if r.2.1=0 then 0 else r.2.2.length) vc])/\BK B w' va (if r.2.1=0 then 0 else r.2.2.length) vc (if r.2.1=0 then [] else r.2.2)/\Below w.heap.size w w'
theorem aCo {B:Nat} {w:World} {ae at_:Int} {rv:Value} {r:Rec} (hr:RcV B w rv r) (hB:B<=w.heap.size) (hl:r.2.2.length<=100000) :
  Calls Tryz.prog 66 #[.agg #[.int .i64 ae,.int .i64 at_,.bool false,.int .i64 0,.int .i64 0,.slice none 0 0],rv] w fun e w'=>AnT B w ae at_ r e w':=by
 have lt:∀ {k:Nat} {o:Obj} {ww:World},ww.heap[k]?=some o->k<ww.heap.size:=fun e=>(lO e)
 obtain ⟨rp,rl,rval⟩:=r
 rcases hr with ⟨q0,rfl⟩ | ⟨q0,a,c,rfl,hbk⟩
 ·have as1:=aEh (.int .i64 (rp:Int)) ((w.alloc (.cells #[.int .i64 ae,.int .i64 at_,.bool false,.int .i64 0,.int .i64 0,.slice none 0 0] 75)).alloc (.cells #[.int .i64 0,.int .i64 0,.bool false,.int .i64 0,.int .i64 0,.slice none 0 0] 75))
  have q0:rl=0:=q0
  have HQ0:=hide q0
  clear q0
  have q1:=aAf [Obj.cells #[.int .i64 ae,.int .i64 at_,.bool false,.int .i64 0,.int .i64 0,.slice none 0 0] 75,Obj.cells #[.int .i64 0,.int .i64 0,.bool false,.int .i64 0,.int .i64 0,.slice none 0 0] 75,Obj.cells #[.int .i64 0,.int .i64 0,.slice none 0 0] 156] w 0 _ rfl
  have q2:=aAf [Obj.cells #[.int .i64 ae,.int .i64 at_,.bool false,.int .i64 0,.int .i64 0,.slice none 0 0] 75,Obj.cells #[.int .i64 0,.int .i64 0,.bool false,.int .i64 0,.int .i64 0,.slice none 0 0] 75,Obj.cells #[.int .i64 0,.int .i64 0,.slice none 0 0] 156] w 1 _ rfl
  have q3:=aAf [Obj.cells #[.int .i64 ae,.int .i64 at_,.bool false,.int .i64 0,.int .i64 0,.slice none 0 0] 75,Obj.cells #[.int .i64 0,.int .i64 0,.bool false,.int .i64 0,.int .i64 0,.slice none 0 0] 75,Obj.cells #[.int .i64 0,.int .i64 0,.slice none 0 0] 156] w 2 _ rfl
  have qb:=(aAm [Obj.cells #[.int .i64 ae,.int .i64 at_,.bool false,.int .i64 0,.int .i64 0,.slice none 0 0] 75,Obj.cells #[.int .i64 0,.int .i64 0,.bool false,.int .i64 0,.int .i64 0,.slice none 0 0] 75,Obj.cells #[.int .i64 0,.int .i64 0,.slice none 0 0] 156] w).1
  have HQ:Hid ((((w.alloc (.cells #[.int .i64 ae,.int .i64 at_,.bool false,.int .i64 0,.int .i64 0,.slice none 0 0] 75)).alloc (.cells #[.int .i64 0,.int .i64 0,.bool false,.int .i64 0,.int .i64 0,.slice none 0 0] 75)).alloc (.cells #[.int .i64 0,.int .i64 0,.slice none 0 0] 156)).heap[w.heap.size]?=some (.cells #[.int .i64 ae,.int .i64 at_,.bool false,.int .i64 0,.int .i64 0,.slice none 0 0] 75 (0,0))/\(((w.alloc (.cells #[.int .i64 ae,.int .i64 at_,.bool false,.int .i64 0,.int .i64 0,.slice none 0 0] 75)).alloc (.cells #[.int .i64 0,.int .i64 0,.bool false,.int .i64 0,.int .i64 0,.slice none 0 0] 75)).alloc (.cells #[.int .i64 0,.int .i64 0,.slice none 0 0] 156)).heap[w.heap.size+1]?=some (.cells #[.int .i64 0,.int .i64 0,.bool false,.int .i64 0,.int .i64 0,.slice none 0 0] 75 (0,0))/\(((w.alloc (.cells #[.int .i64 ae,.int .i64 at_,.bool false,.int .i64 0,.int .i64 0,.slice none 0 0] 75)).alloc (.cells #[.int .i64 0,.int .i64 0,.bool false,.int .i64 0,.int .i64 0,.slice none 0 0] 75)).alloc (.cells #[.int .i64 0,.int .i64 0,.slice none 0 0] 156)).heap[w.heap.size+2]?=some (.cells #[.int .i64 0,.int .i64 0,.slice none 0 0] 156 (0,0))/\Below w.heap.size w (((w.alloc (.cells #[.int .i64 ae,.int .i64 at_,.bool false,.int .i64 0,.int .i64 0,.slice none 0 0] 75)).alloc (.cells #[.int .i64 0,.int .i64 0,.bool false,.int .i64 0,.int .i64 0,.slice none 0 0] 75)).alloc (.cells #[.int .i64 0,.int .i64 0,.slice none 0 0] 156))):=⟨q1,q2,q3,qb⟩
  clear q1 q2 q3 qb
  go_enter Tryz.func66,Tryz.ntmps66
  go_upto_region 4 with fail
  generalize (((w.alloc (.cells #[.int .i64 ae,.int .i64 at_,.bool false,.int .i64 0,.int .i64 0,.slice none 0 0] 75)).alloc (.cells #[.int .i64 0,.int .i64 0,.bool false,.int .i64 0,.int .i64 0,.slice none 0 0] 75)).alloc (.cells #[.int .i64 0,.int .i64 0,.slice none 0 0] 156))=w1 at *
  obtain ⟨h1,h2,h3,hb⟩:=HQ.out
  generalize hn0:w.heap.size=n0 at *
  generalize hn1:n0+1=n1 at *
  have HN1:=hide h1
  have HN2:=hide h2
  have HBX:=hide hb
  have yc0:w1.cell? ⟨n0,0,none⟩=some (.int .i64 ae):=aAa h1
  have yf0:w1.frozen? ⟨n0,0,none⟩=false:=aAb h1
  have yc1:w1.cell? ⟨n0,1,none⟩=some (.int .i64 at_):=aAa h1
  have yf1:w1.frozen? ⟨n0,1,none⟩=false:=aAb h1
  have yc2:w1.cell? ⟨n0,2,none⟩=some (.bool false):=aAa h1
  have yf2:w1.frozen? ⟨n0,2,none⟩=false:=aAb h1
  have yc3:w1.cell? ⟨n0,3,none⟩=some (.int .i64 0):=aAa h1
  have yf3:w1.frozen? ⟨n0,3,none⟩=false:=aAb h1
  have yc4:w1.cell? ⟨n0,4,none⟩=some (.int .i64 0):=aAa h1
  have yf4:w1.frozen? ⟨n0,4,none⟩=false:=aAb h1
  have yc5:w1.cell? ⟨n0,5,none⟩=some (.slice none 0 0):=aAa h1
  have yf5:w1.frozen? ⟨n0,5,none⟩=false:=aAb h1
  have zc0:w1.cell? ⟨n1,0,none⟩=some (.int .i64 0):=aAa h2
  have zf0:w1.frozen? ⟨n1,0,none⟩=false:=aAb h2
  have zc1:w1.cell? ⟨n1,1,none⟩=some (.int .i64 0):=aAa h2
  have zf1:w1.frozen? ⟨n1,1,none⟩=false:=aAb h2
  have zc2:w1.cell? ⟨n1,2,none⟩=some (.bool false):=aAa h2
  have zf2:w1.frozen? ⟨n1,2,none⟩=false:=aAb h2
  have zc3:w1.cell? ⟨n1,3,none⟩=some (.int .i64 0):=aAa h2
  have zf3:w1.frozen? ⟨n1,3,none⟩=false:=aAb h2
  have zc4:w1.cell? ⟨n1,4,none⟩=some (.int .i64 0):=aAa h2
  have zf4:w1.frozen? ⟨n1,4,none⟩=false:=aAb h2
  have zc5:w1.cell? ⟨n1,5,none⟩=some (.slice none 0 0):=aAa h2
  have zf5:w1.frozen? ⟨n1,5,none⟩=false:=aAb h2
  clear h1 h2 h3 hb HQ as1
  go_wp2
  (try simp only [Exit.inBlock,Exit.then])
  have hs:=HQ0.out
  subst hs
  have HBF:=hide (bel6 (b0:=.int .i64 ae) (b1:=.int .i64 at_) (b2:=.bool false) (b3:=.int .i64 0) (b4:=.int .i64 0) (b5:=.slice none 0 0) HBX.out (show n0<=n1 by omega))
  refine bodyPost_ret (results_cell_row Tryz.results66 _ _ n1 _ _ _ _ rfl (set6 HN2.out) Tryz.underlying75 rfl aA4) rfl ?_
  exact ⟨none,0,rfl,BK.nil _ _,by rw [hn0];exact HBF.out⟩
 ·have hbk:BK B w a rval.length c rval:=hbk
  have q0:rl≠0:=q0
  have hl:rval.length<=100000:=hl
  have as1:=aDc (.agg #[.int .i64 (rp:Int),.int .i64 (rl:Int),.slice a rval.length c]) ((w.alloc (.cells #[.int .i64 ae,.int .i64 at_,.bool false,.int .i64 0,.int .i64 0,.slice none 0 0] 75)).alloc (.cells #[.int .i64 0,.int .i64 0,.bool false,.int .i64 0,.int .i64 0,.slice none 0 0] 75))
  have HQ0:=hide q0
  have HBK:=hide hbk
  have HRL:=hide hl
  clear q0 hbk hl
  have q1:=aAf [Obj.cells #[.int .i64 ae,.int .i64 at_,.bool false,.int .i64 0,.int .i64 0,.slice none 0 0] 75,Obj.cells #[.int .i64 0,.int .i64 0,.bool false,.int .i64 0,.int .i64 0,.slice none 0 0] 75,Obj.cells #[.int .i64 (rp:Int),.int .i64 (rl:Int),.slice a rval.length c] 156] w 0 _ rfl
  have q2:=aAf [Obj.cells #[.int .i64 ae,.int .i64 at_,.bool false,.int .i64 0,.int .i64 0,.slice none 0 0] 75,Obj.cells #[.int .i64 0,.int .i64 0,.bool false,.int .i64 0,.int .i64 0,.slice none 0 0] 75,Obj.cells #[.int .i64 (rp:Int),.int .i64 (rl:Int),.slice a rval.length c] 156] w 1 _ rfl
  have q3:=aAf [Obj.cells #[.int .i64 ae,.int .i64 at_,.bool false,.int .i64 0,.int .i64 0,.slice none 0 0] 75,Obj.cells #[.int .i64 0,.int .i64 0,.bool false,.int .i64 0,.int .i64 0,.slice none 0 0] 75,Obj.cells #[.int .i64 (rp:Int),.int .i64 (rl:Int),.slice a rval.length c] 156] w 2 _ rfl
  have qb:=(aAm [Obj.cells #[.int .i64 ae,.int .i64 at_,.bool false,.int .i64 0,.int .i64 0,.slice none 0 0] 75,Obj.cells #[.int .i64 0,.int .i64 0,.bool false,.int .i64 0,.int .i64 0,.slice none 0 0] 75,Obj.cells #[.int .i64 (rp:Int),.int .i64 (rl:Int),.slice a rval.length c] 156] w).1
  have HQ:Hid ((((w.alloc (.cells #[.int .i64 ae,.int .i64 at_,.bool false,.int .i64 0,.int .i64 0,.slice none 0 0] 75)).alloc (.cells #[.int .i64 0,.int .i64 0,.bool false,.int .i64 0,.int .i64 0,.slice none 0 0] 75)).alloc (.cells #[.int .i64 (rp:Int),.int .i64 (rl:Int),.slice a rval.length c] 156)).heap[w.heap.size]?=some (.cells #[.int .i64 ae,.int .i64 at_,.bool false,.int .i64 0,.int .i64 0,.slice none 0 0] 75 (0,0))/\(((w.alloc (.cells #[.int .i64 ae,.int .i64 at_,.bool false,.int .i64 0,.int .i64 0,.slice none 0 0] 75)).alloc (.cells #[.int .i64 0,.int .i64 0,.bool false,.int .i64 0,.int .i64 0,.slice none 0 0] 75)).alloc (.cells #[.int .i64 (rp:Int),.int .i64 (rl:Int),.slice a rval.length c] 156)).heap[w.heap.size+1]?=some (.cells #[.int .i64 0,.int .i64 0,.bool false,.int .i64 0,.int .i64 0,.slice none 0 0] 75 (0,0))/\(((w.alloc (.cells #[.int .i64 ae,.int .i64 at_,.bool false,.int .i64 0,.int .i64 0,.slice none 0 0] 75)).alloc (.cells #[.int .i64 0,.int .i64 0,.bool false,.int .i64 0,.int .i64 0,.slice none 0 0] 75)).alloc (.cells #[.int .i64 (rp:Int),.int .i64 (rl:Int),.slice a rval.length c] 156)).heap[w.heap.size+2]?=some (.cells #[.int .i64 (rp:Int),.int .i64 (rl:Int),.slice a rval.length c] 156 (0,0))/\Below w.heap.size w (((w.alloc (.cells #[.int .i64 ae,.int .i64 at_,.bool false,.int .i64 0,.int .i64 0,.slice none 0 0] 75)).alloc (.cells #[.int .i64 0,.int .i64 0,.bool false,.int .i64 0,.int .i64 0,.slice none 0 0] 75)).alloc (.cells #[.int .i64 (rp:Int),.int .i64 (rl:Int),.slice a rval.length c] 156))):=⟨q1,q2,q3,qb⟩
  clear q1 q2 q3 qb
  go_enter Tryz.func66,Tryz.ntmps66
  go_upto_region 3 with fail
  generalize (((w.alloc (.cells #[.int .i64 ae,.int .i64 at_,.bool false,.int .i64 0,.int .i64 0,.slice none 0 0] 75)).alloc (.cells #[.int .i64 0,.int .i64 0,.bool false,.int .i64 0,.int .i64 0,.slice none 0 0] 75)).alloc (.cells #[.int .i64 (rp:Int),.int .i64 (rl:Int),.slice a rval.length c] 156))=w1 at *
  obtain ⟨h1,h2,h3,hb⟩:=HQ.out
  generalize hn0:w.heap.size=n0 at *
  have e3:n0+2=n0+1+1:=by omega
  rw [e3] at h3
  generalize hn1:n0+1=n1 at *
  generalize hn2:n1+1=n2 at *
  have HN1:Hid (w1.drew.heap[n0]?=some (.cells #[.int .i64 ae,.int .i64 at_,.bool false,.int .i64 0,.int .i64 0,.slice none 0 0] 75 (0,0))):=h1
  have HN2:Hid (w1.drew.heap[n1]?=some (.cells #[.int .i64 0,.int .i64 0,.bool false,.int .i64 0,.int .i64 0,.slice none 0 0] 75 (0,0))):=h2
  have HN3:Hid (w1.drew.heap[n2]?=some (.cells #[.int .i64 (rp:Int),.int .i64 (rl:Int),.slice a rval.length c] 156 (0,0))):=h3
  have HBX:Hid (Below n0 w w1.drew):=hb.drew
  have HKD:=hide (HBK.out.later (by rw [hn0];exact HBX.out) (by rw [hn0];exact hB))
  have HBw:Hid (B<=w1.drew.heap.size):=nT hB (by have:=HBX.out.size;omega)
  have HCL:=hide (aB4 a rval.length c rval w1.drew HKD.out.1)
  have HX0:Hid ((fun wx=>wx.cell? ⟨n2,1,none⟩=some (.int .i64 (rl:Int))/\wx.cell? ⟨n2,2,none⟩=some (.slice a rval.length c)) w1.drew):=⟨aAa HN3.out,aAa HN3.out⟩
  clear h1 h2 h3 hb HQ as1 e3
  refine wp_region_noPanic ?_
  refine wp_region_held_drew (S:=fun wx=>wx.cell? ⟨n2,1,none⟩=some (.int .i64 (rl:Int))/\wx.cell? ⟨n2,2,none⟩=some (.slice a rval.length c)) (by kernel_rfl) HX0.out (fun hHeld=>?_)
  refine wpAnyH_tk 0 13 ?_
  refine wpAnyH_tk 1 14 ?_
  refine wpAnyH_tk 2 15 ?_
  refine wpAnyH_tk 3 16 ?_
  refine wpAnyH_tk 5 18 ?_
  refine wpAnyH_cm 4 ?_;intro K hK
  go_simp
  refine HCL.out.mono ?_
  rintro e w2 ⟨cv,rfl,ho2,hb2⟩
  obtain ⟨va,vc,rfl,hk2⟩:=BK.owned (B:=B) ho2 (by have:=HRL.out;omega) HKD.out.1.hbyte
  have HM1:=hide ((hb2.block n0 (lt HN1.out)).trans HN1.out)
  have HM2:=hide ((hb2.block n1 (lt HN2.out)).trans HN2.out)
  have HM3:=hide ((hb2.block n2 (lt HN3.out)).trans HN3.out)
  have HB3:Hid (Below n0 w w2):=HBX.out.trans (hb2.mono (by have:=HBX.out.size;omega))
  have HK2:=hide hk2
  have HX2:Hid ((fun wx=>wx.cell? ⟨n2,1,none⟩=some (.int .i64 (rl:Int))/\wx.cell? ⟨n2,2,none⟩=some (.slice a rval.length c)) w2):=⟨aAa HM3.out,aAa HM3.out⟩
  have y4:w2.cell? ⟨n0,4,none⟩=some (.int .i64 0):=aAa HM1.out
  have g4:w2.frozen? ⟨n0,4,none⟩=false:=aAb HM1.out
  clear ho2 hk2 hb2 hHeld
  refine hK.out _ _ HX2.out (fun hHeld=>?_)
  clear hK K
  try simp only [Act.put,siT,scZ,scS]
  refine wpAnyH_cm 6 ?_;intro K hK
  go_simp
  have hne:n2≠n0:=by omega
  have hx:(w2.setCell ⟨n0,4,none⟩ (.int .i64 (rl:Int))).heap[n2]?=some (.cells #[.int .i64 (rp:Int),.int .i64 (rl:Int),.slice a rval.length c] 156 (0,0)):=by
   rw [heap_setCell_other _ _ _ _ hne];exact HM3.out
  have HXS:Hid ((fun wx=>wx.cell? ⟨n2,1,none⟩=some (.int .i64 (rl:Int))/\wx.cell? ⟨n2,2,none⟩=some (.slice a rval.length c)) (w2.setCell ⟨n0,4,none⟩ (.int .i64 (rl:Int)))):=⟨aAa hx,aAa hx⟩
  have HX3:=hide hx
  have HP1:Hid ((w2.setCell ⟨n0,4,none⟩ (.int .i64 (rl:Int))).heap[n0]?=some (.cells #[.int .i64 ae,.int .i64 at_,.bool false,.int .i64 0,.int .i64 (rl:Int),.slice none 0 0] 75 (0,0))):=heap_setCell_same _ _ _ _ _ _ HM1.out
  have y5:(w2.setCell ⟨n0,4,none⟩ (.int .i64 (rl:Int))).cell? ⟨n0,5,none⟩=some (.slice none 0 0):=aAa HP1.out
  have g5:(w2.setCell ⟨n0,4,none⟩ (.int .i64 (rl:Int))).frozen? ⟨n0,5,none⟩=false:=aAb HP1.out
  clear hHeld hx
  refine hK.out _ _ HXS.out (fun hHeld=>?_)
  clear hK K
  try simp only [Act.put,siT,scZ,scS]
  refine wpAnyH_tk 7 19 ?_
  refine wpAnyH_cm 8 ?_;intro K hK
  go_simp
  have hx:((w2.setCell ⟨n0,4,none⟩ (.int .i64 (rl:Int))).setCell ⟨n0,5,none⟩ (.slice va rval.length vc)).heap[n2]?=some (.cells #[.int .i64 (rp:Int),.int .i64 (rl:Int),.slice a rval.length c] 156 (0,0)):=by
   rw [heap_setCell_other _ _ _ _ (show n2≠n0 by omega)];exact HX3.out
  have HXT:Hid ((fun wx=>wx.cell? ⟨n2,1,none⟩=some (.int .i64 (rl:Int))/\wx.cell? ⟨n2,2,none⟩=some (.slice a rval.length c)) ((w2.setCell ⟨n0,4,none⟩ (.int .i64 (rl:Int))).setCell ⟨n0,5,none⟩ (.slice va rval.length vc))):=⟨aAa hx,aAa hx⟩
  have HP2:Hid (((w2.setCell ⟨n0,4,none⟩ (.int .i64 (rl:Int))).setCell ⟨n0,5,none⟩ (.slice va rval.length vc)).heap[n0]?=some (.cells #[.int .i64 ae,.int .i64 at_,.bool false,.int .i64 0,.int .i64 (rl:Int),.slice va rval.length vc] 75 (0,0))):=heap_setCell_same _ _ _ _ _ _ HP1.out
  have HP3:Hid (((w2.setCell ⟨n0,4,none⟩ (.int .i64 (rl:Int))).setCell ⟨n0,5,none⟩ (.slice va rval.length vc)).heap[n1]?=some (.cells #[.int .i64 0,.int .i64 0,.bool false,.int .i64 0,.int .i64 0,.slice none 0 0] 75 (0,0))):=by
   show _=_
   rw [heap_setCell_other _ _ _ _ (show n1≠n0 by omega),heap_setCell_other _ _ _ _ (show n1≠n0 by omega)];exact HM2.out
  have HB4:Hid (Below n0 w ((w2.setCell ⟨n0,4,none⟩ (.int .i64 (rl:Int))).setCell ⟨n0,5,none⟩ (.slice va rval.length vc))):=(HB3.out.setCell (p:=⟨n0,4,none⟩) (nR n0) _).setCell (p:=⟨n0,5,none⟩) (nR n0) _
  have HK4:=hide ((HK2.out.ft (ft1 (o:=4) (b0:=.int .i64 (rl:Int)) HM1.out (by decide) hB)).ft (ft1 (o:=5) (b0:=.slice va rval.length vc) HP1.out (by decide) hB))
  clear hHeld hx y4 g4 y5 g5
  refine hK.out _ _ HXT.out (fun hHeld=>?_)
  clear hK K
  try simp only [Act.put,siT,scZ,scS]
  refine wpAnyH_done (by kernel_rfl) ?_ _
  refine NoPanic.normal ?_
  clear hHeld
  go_upto_region 4 with fail
  generalize ((w2.setCell ⟨n0,4,none⟩ (.int .i64 (rl:Int))).setCell ⟨n0,5,none⟩ (.slice va rval.length vc))=w3 at *
  have yc0:w3.cell? ⟨n0,0,none⟩=some (.int .i64 ae):=aAa HP2.out
  have yf0:w3.frozen? ⟨n0,0,none⟩=false:=aAb HP2.out
  have yc1:w3.cell? ⟨n0,1,none⟩=some (.int .i64 at_):=aAa HP2.out
  have yf1:w3.frozen? ⟨n0,1,none⟩=false:=aAb HP2.out
  have yc2:w3.cell? ⟨n0,2,none⟩=some (.bool false):=aAa HP2.out
  have yf2:w3.frozen? ⟨n0,2,none⟩=false:=aAb HP2.out
  have yc3:w3.cell? ⟨n0,3,none⟩=some (.int .i64 0):=aAa HP2.out
  have yf3:w3.frozen? ⟨n0,3,none⟩=false:=aAb HP2.out
  have yc4:w3.cell? ⟨n0,4,none⟩=some (.int .i64 (rl:Int)):=aAa HP2.out
  have yf4:w3.frozen? ⟨n0,4,none⟩=false:=aAb HP2.out
  have yc5:w3.cell? ⟨n0,5,none⟩=some (.slice va rval.length vc):=aAa HP2.out
  have yf5:w3.frozen? ⟨n0,5,none⟩=false:=aAb HP2.out
  have zc0:w3.cell? ⟨n1,0,none⟩=some (.int .i64 0):=aAa HP3.out
  have zf0:w3.frozen? ⟨n1,0,none⟩=false:=aAb HP3.out
  have zc1:w3.cell? ⟨n1,1,none⟩=some (.int .i64 0):=aAa HP3.out
  have zf1:w3.frozen? ⟨n1,1,none⟩=false:=aAb HP3.out
  have zc2:w3.cell? ⟨n1,2,none⟩=some (.bool false):=aAa HP3.out
  have zf2:w3.frozen? ⟨n1,2,none⟩=false:=aAb HP3.out
  have zc3:w3.cell? ⟨n1,3,none⟩=some (.int .i64 0):=aAa HP3.out
  have zf3:w3.frozen? ⟨n1,3,none⟩=false:=aAb HP3.out
  have zc4:w3.cell? ⟨n1,4,none⟩=some (.int .i64 0):=aAa HP3.out
  have zf4:w3.frozen? ⟨n1,4,none⟩=false:=aAb HP3.out
  have zc5:w3.cell? ⟨n1,5,none⟩=some (.slice none 0 0):=aAa HP3.out
  have zf5:w3.frozen? ⟨n1,5,none⟩=false:=aAb HP3.out
  go_wp2
  (try simp only [Exit.inBlock,Exit.then])
  have HBF:=hide (bel6 (b0:=.int .i64 ae) (b1:=.int .i64 at_) (b2:=.bool false) (b3:=.int .i64 0) (b4:=.int .i64 (rl:Int)) (b5:=.slice va rval.length vc) HB4.out (show n0<=n1 by omega))
  have hft:=ft6 (B:=B) (b0:=.int .i64 ae) (b1:=.int .i64 at_) (b2:=.bool false) (b3:=.int .i64 0) (b4:=.int .i64 (rl:Int)) (b5:=.slice va rval.length vc) HP3.out (by decide) (show B<=n1 by omega)
  refine bodyPost_ret (results_cell_row Tryz.results66 _ _ n1 _ _ _ _ rfl (set6 HP3.out) Tryz.underlying75 rfl aA4) rfl ?_
  have hq:=HQ0.out
  exact ⟨va,vc,by rw [if_neg hq],by rw [if_neg hq,if_neg hq];exact HK4.out.ft hft,by rw [hn0];exact HBF.out⟩
theorem LS.readAccepted [Gd] {B p q g ls N c u:Nat} {l:List It} {W w:World} (h:LS B p q g ls N c u l W w) {v rp rl:Nat} {val:List Nat} (hv:v<=16) (hl:rl≠0) (hval:valL l [15,v,0]=some val) :
  Calls Tryz.prog 125 #[.pointer (some ⟨ls,0,none⟩),.int .i64 (v:Int),.agg #[.int .i64 (rp:Int),.int .i64 (rl:Int),.slice none 0 0]] w fun e w'=>∃ rv,e=.returned (.tuple #[rv,.int .i64 0])/\RcV B w' rv (rp,rl,val)/\Below w.heap.size w w':=by
 have lt:∀ {k:Nat} {o:Obj} {ww:World},ww.heap[k]?=some o->k<ww.heap.size:=fun e=>(lO e)
 have HNW:Hid ((w.alloc (.cells #[.int .i64 (rp:Int),.int .i64 (rl:Int),.slice none 0 0] 156)).heap[w.heap.size]?=some (.cells #[.int .i64 (rp:Int),.int .i64 (rl:Int),.slice none 0 0] 156 (0,0))):=heap_alloc_new w _
 have HBX:=hide (aAc w (.cells #[.int .i64 (rp:Int),.int .i64 (rl:Int),.slice none 0 0] 156))
 have HL1:=hide (h.later HBX.out)
 have HB0:=hide h.bw
 have HVK:=hide (aEk (B:=B) (show v<256 by omega) (w.alloc (.cells #[.int .i64 (rp:Int),.int .i64 (rl:Int),.slice none 0 0] 156)))
 have HQ:=hide hl
 have HVV:=hide hval
 clear h hl hval hv
 go_enter Tryz.func125,Tryz.ntmps125
 go_wp2_with fail
 refine HVK.out.mono ?_
 rintro e w2 ⟨ka,kc,rfl,hk2,hb2⟩
 have HN2:=hide ((hb2.block w.heap.size (lt HNW.out)).trans HNW.out)
 have HL2:=hide (HL1.out.later hb2)
 have HB2:Hid (Below w.heap.size w w2):=HBX.out.trans (hb2.mono HBX.out.size)
 have HG:=hide (HL2.out.Get hk2 (by decide) (by decide))
 clear hk2 hb2 HVK
 go_wp2_with fail
 refine HG.out.mono ?_
 rintro e w3 ⟨vv,isb,rfl,hv3,hb3⟩
 rw [HVV.out] at hv3
 obtain ⟨rfl,va,vc,rfl,hk3⟩:=hv3
 have HN3:=hide ((hb3.block w.heap.size (lt HN2.out)).trans HN2.out)
 have HB3:Hid (Below w.heap.size w w3):=HB2.out.trans (hb3.mono HB2.out.size)
 have HK3:=hide hk3
 clear hk3 hb3 HG
 generalize hn0:w.heap.size=n0 at *
 have c2:w3.cell? ⟨n0,2,none⟩=some (.slice none 0 0):=aAa HN3.out
 have f2:w3.frozen? ⟨n0,2,none⟩=false:=aAb HN3.out
 have HS:Hid ((w3.setCell ⟨n0,2,none⟩ (.slice va val.length vc)).heap[n0]?=some (.cells #[.int .i64 (rp:Int),.int .i64 (rl:Int),.slice va val.length vc] 156 (0,0))):=heap_setCell_same _ _ _ _ _ _ HN3.out
 have HFS:=hide (HK3.out.ft (ft1 (o:=2) (b0:=.slice va val.length vc) HN3.out (by decide) HB0.out))
 have HBS:Hid (Below n0 w (w3.setCell ⟨n0,2,none⟩ (.slice va val.length vc))):=HB3.out.setCell (p:=⟨n0,2,none⟩) (nR n0) _
 go_upto_region 7 with fail
 generalize w3.setCell ⟨n0,2,none⟩ (.slice va val.length vc)=w4 at *
 have c0:w4.cell? ⟨n0,0,none⟩=some (.int .i64 (rp:Int)):=aAa HS.out
 have c1:w4.cell? ⟨n0,1,none⟩=some (.int .i64 (rl:Int)):=aAa HS.out
 have c3:w4.cell? ⟨n0,2,none⟩=some (.slice va val.length vc):=aAa HS.out
 go_wp2
 go_ret2
 exact ⟨_,rfl,Or.inr ⟨HQ.out,va,vc,rfl,HFS.out⟩,by rw [hn0];exact HBS.out⟩
structure RL (l:List It) (R:Nat->Rec):Prop where
 z:∀ v,v<=16->(R v).1=0->(R v).2.1=0/\valL l [15,v]=none
 n:∀ v,v<=16->(R v).1≠0->valL l [15,v]=some (enc (R v).1++enc (R v).2.1)
 b:∀ v,v<=16->(R v).2.1<=(R v).1/\(R v).1<9223372036854775808/\(R v).2.2.length<=1800
 a:∀ v,v<=16->(R v).2.1≠0->valL l [15,v,0]=some (R v).2.2
def RdT (B:Nat) (r:Rec) (w:World) (e:Ending) (w':World):Prop:=∃ rv,e=.returned (.tuple #[rv,.int .i64 0])/\RcV B w' rv r/\Below w.heap.size w w'
theorem LS.read [Gd] {B p q g ls N c u:Nat} {l:List It} {W w:World} (h:LS B p q g ls N c u l W w) {R:Nat->Rec} (hR:RL l R) {v:Nat} (hv:v<=16) :
  Calls Tryz.prog 90 #[.pointer (some ⟨ls,0,none⟩),.int .i64 (v:Int)] w fun e w'=>RdT B (R v) w e w':=by
 have hz:=hR.z v hv
 have hn:=hR.n v hv
 have hb:=hR.b v hv
 have ha:=hR.a v hv
 generalize R v=r at *
 obtain ⟨rp,rl,rval⟩:=r
 have HVK:=hide (aCa (B:=B) (show v<256 by omega) w)
 have HL0:=hide h
 have HV16:=hide hv
 have HZ:=hide hz
 have HN:=hide hn
 have HB:=hide hb
 have HA:=hide ha
 clear h hR hz hn hb ha hv
 go_enter Tryz.func90,Tryz.ntmps90
 go_wp2_with fail
 refine HVK.out.mono ?_
 rintro e w2 ⟨ka,kc,rfl,hk2,hb2⟩
 have HL2:=hide (HL0.out.later hb2)
 have HB2:=hide hb2
 have HG:=hide (HL2.out.Get hk2 (by decide) (by decide))
 clear hk2 hb2 HVK
 go_wp2_with fail
 refine HG.out.mono ?_
 rintro e w3 ⟨vv,isb,rfl,hv3,hb3⟩
 have HL3:=hide (HL2.out.later hb3)
 have HB3:Hid (Below w.heap.size w w3):=HB2.out.trans (hb3.mono HB2.out.size)
 clear hb3 HG
 by_cases h0:rp=0
 ·obtain ⟨z1,z2⟩:=HZ.out h0
  have z1:rl=0:=z1
  rw [z2] at hv3
  obtain ⟨rfl,rfl⟩:=hv3
  subst h0
  have HZZ:=hide z1
  clear z1 z2
  go_wp2
  go_ret2
  exact ⟨_,rfl,Or.inl ⟨HZZ.out,rfl⟩,HB3.out⟩
 ·have hn2:=HN.out h0
  rw [hn2] at hv3
  obtain ⟨rfl,va,vc,rfl,hk3⟩:=hv3
  obtain ⟨b1,b2,b3⟩:=HB.out
  have b1:rl<=rp:=b1
  have b2:rp<9223372036854775808:=b2
  have HBO:=hide (ballotsOf_ok (B:=B) b2 (show rl<9223372036854775808 by omega) (show 1<=rp by omega) b1 hk3.1)
  clear hn2 hk3 b3 b2 b1
  generalize (enc rp++enc rl).length=bn at *
  go_wp2_with fail
  refine HBO.out.mono ?_
  rintro e w4 ⟨rfl,hw⟩
  have hw:=hw.symm
  subst hw
  clear HBO
  by_cases hl0:rl=0
  ·have y0:((rl:Nat):Int)=0:=by omega
   have HZZ:=hide hl0
   clear hl0 h0
   go_wp2
   go_ret2
   exact ⟨_,rfl,Or.inl ⟨HZZ.out,rfl⟩,HB3.out⟩
  ·have y0:¬ ((rl:Nat):Int)=0:=by omega
   have HRA:=hide (HL3.out.readAccepted (rp:=rp) HV16.out hl0 (HA.out hl0))
   clear hl0 h0
   go_wp2_with fail
   refine HRA.out.mono ?_
   rintro e w5 ⟨rv,rfl,hr5,hb5⟩
   have HR5:=hide hr5
   have HB5:=hide (HB3.out.trans (hb5.mono HB3.out.size))
   clear hr5 hb5 HRA
   go_wp2
   go_ret2
   exact ⟨_,rfl,HR5.out,HB5.out⟩
structure RGM [Gd] (B p q g ls rg N c u:Nat) (l:List It) (W w:World):Prop where
 s:LS B p q g ls N c u l W w
 b:B<=rg
 v:∃ cs,w.heap[rg]?=some (.cells cs 135 (0,0))/\cs.size=18/\cs[0]?=some (.pointer (some ⟨ls,0,none⟩))
structure RgF [Gd] (B g ls rg:Nat) (w w':World):Prop where
 bel:Below B w w'
 stay:∀ (k:Nat) (cs:Array Value) (t:TypeId) (fz:Nat×Nat),w.heap[k]?=some (Obj.cells cs t fz)->NT t->k≠g->k≠ls->k≠rg->w'.heap[k]?=some (Obj.cells cs t fz)
 gd:GdK w w'
theorem RgF.trans [Gd] {B g ls rg:Nat} {a b c:World} (h:RgF B g ls rg a b) (k:RgF B g ls rg b c):RgF B g ls rg a c:=⟨h.1.trans k.1,fun i cs t fz e n1 n2 n3 n4=>k.2 i cs t fz (h.2 i cs t fz e n1 n2 n3 n4) n1 n2 n3 n4,h.gd.trans k.gd⟩
theorem RgF.of [Gd] {B g ls rg:Nat} {w w':World} (h:Below w.heap.size w w') (hB:B<=w.heap.size):RgF B g ls rg w w':=⟨h.mono hB,fun i cs t fz e _ _ _ _=>(h.block i (lO e)).trans e,GdK.of h⟩
theorem RgF.ly [Gd] {B g ls rg:Nat} {w w':World} (h:LyF B g ls w w'):RgF B g ls rg w w':=⟨h.1,fun k cs t fz e n1 n2 n3 _=>h.2 k cs t fz e n1 n2 n3,h.gd⟩
theorem RgF.set [Gd] {B g ls rg o:Nat} {w:World} {x:Value} (hB:B<=rg) {cg:Array Value} {tg:TypeId} {fz:Nat×Nat} (hg:w.heap[rg]?=some (.cells cg tg fz)) (htg:¬ DTy tg):RgF B g ls rg w (w.setCell ⟨rg,o,none⟩ x):=⟨(Ex.set hB).1,fun i cs t fz e h1 h2 h3 h4=>by rw [(Ex.set (w:=w) (o:=o) (u:=x) hB).2 i (lO e) (by simpa using h4),e],(Ex.set hB).gdk hg htg⟩
section
variable [Gd] {B p q g ls rg N c u:Nat} {l:List It} {W w w':World}
theorem RGM.later (h:RGM B p q g ls rg N c u l W w) (hb:Below w.heap.size w w'):RGM B p q g ls rg N c u l W w':=by
 obtain ⟨cs,h1,h2⟩:=h.v
 exact ⟨h.s.later hb,h.b,cs,(hb.block rg (lO h1)).trans h1,h2⟩
theorem RGM.bw (h:RGM B p q g ls rg N c u l W w):B<=w.heap.size:=h.s.bw
theorem RGM.cell0 (h:RGM B p q g ls rg N c u l W w):w.cell? ⟨rg,0,none⟩=some (.pointer (some ⟨ls,0,none⟩)):=by
 obtain ⟨cs,h1,h2,h3⟩:=h.v
 exact (aAa h1).trans h3
theorem RGM.known (h:RGM B p q g ls rg N c u l W w) {v:Nat} (hv:v<=16):(∃ x,w.cell? ⟨rg,1+v,none⟩=some x)/\w.frozen? ⟨rg,1+v,none⟩=false:=by
 obtain ⟨cs,h1,h2,h3⟩:=h.v
 refine ⟨?_,aAb h1⟩
 rw [aAa h1]
 exact ⟨_,Array.getElem?_eq_getElem (by omega)⟩
theorem RGM.set (h:RGM B p q g ls rg N c u l W w) {o:Nat} {x:Value} (ho:1<=o):RGM B p q g ls rg N c u l W (w.setCell ⟨rg,o,none⟩ x):=by
 obtain ⟨cs,h1,h2,h3⟩:=h.v
 have keep:∀ (k:Nat) (cs:Array Value) (t:TypeId) (fz:Nat×Nat),w.heap[k]?=some (Obj.cells cs t fz)->t≠135->(w.setCell ⟨rg,o,none⟩ x).heap[k]?=some (Obj.cells cs t fz):=fun k cs t fz e ht=>by
  rw [(Ex.set (w:=w) (o:=o) (u:=x) h.b).2 k (lO e) (by simpa using aAr e h1 ht),e]
 obtain ⟨cl,k1,k2⟩:=h.s.lv
 refine ⟨⟨h.s.kx.same (Ex.set h.b).1 (fun k cs t fz e ht=>keep k cs t fz e ?_),h.s.bl,cl,keep _ _ _ _ k1 (by decide),k2⟩,h.b,_,heap_setCell_same _ _ _ _ _ _ h1,by rw [Array.size_setIfInBounds];exact h2,by rw [Array.getElem?_setIfInBounds_ne (by omega)];exact h3⟩
 rcases ht with rfl | rfl | ht
 ·decide
 ·decide
 ·intro q9
  rw [q9] at ht
  exact ht (by decide)
theorem RGM.ft (h:RGM B p q g ls rg N c u l W w) (f:RgF B g ls rg w w'):FT B w w':=by
 obtain ⟨cg,hg⟩:=h.s.kx.blk
 obtain ⟨cl,k1,_⟩:=h.s.lv
 obtain ⟨cs,h1,_⟩:=h.v
 exact ⟨f.1,fun k cs fz e=>f.2 k cs _ fz e (by decide) (aAr e hg (by decide)) (aAr e k1 (by decide)) (aAr e h1 (by decide))⟩
end
def LkT [Gd] (B p q g ls rg N c u:Nat) (l:List It) (W:World) (r:Rec) (w:World) (e:Ending) (w':World):Prop:=∃ rv,e=.returned (.tuple #[rv,.int .i64 0])/\RcV B w' rv r/\RGM B p q g ls rg N c u l W w'/\∀ x1 x2,RgF B x1 x2 rg w w'
theorem RGM.look [Gd] {B p q g ls rg N c u:Nat} {l:List It} {W w:World} (h:RGM B p q g ls rg N c u l W w) {R:Nat->Rec} (hR:RL l R) {v:Nat} (hv:v<=16) :
  Calls Tryz.prog 58 #[.pointer (some ⟨rg,0,none⟩),.int .i64 (v:Int)] w fun e w'=>LkT B p q g ls rg N c u l W (R v) w e w':=by
 have r0:=h.cell0
 have HD:=hide h.s.dead
 have H:=hide h
 have HR:=hide hR
 have HV:=hide hv
 have i0:(0:Int)<=(v:Int):=by omega
 have i1:(v:Int)<17:=by omega
 clear h hR hv
 go_enter Tryz.func58,Tryz.ntmps58
 go_wp2_with fail
 refine HD.out.mono ?_
 rintro e w1 ⟨rfl,hb1⟩
 have H1:=hide (H.out.later hb1)
 have HB1:=hide hb1
 have r1:=H1.out.cell0
 have HRD:=hide (H1.out.s.read HR.out HV.out)
 clear hb1 r0 HD
 go_wp2_with fail
 refine HRD.out.mono ?_
 rintro e w2 ⟨rv,rfl,hr2,hb2⟩
 have H2:=hide (H1.out.later hb2)
 have HB2:=hide (HB1.out.trans (hb2.mono HB1.out.size))
 obtain ⟨⟨x,hx⟩,hf⟩:=H2.out.known HV.out
 have HBR:=hide H2.out.b
 obtain ⟨cs,k1,_⟩:=H2.out.v
 have HK1:=hide k1
 have HF2:Hid (∀ x1 x2,RgF B x1 x2 rg w w2):=fun x1 x2=>RgF.of HB2.out H.out.bw
 have HR2:=hide hr2
 have HRF:Hid (∀ x,RcV B (w2.setCell ⟨rg,1+v,none⟩ x) rv (R v)):=fun x=>HR2.out.ft (ft1 HK1.out (by decide) HBR.out)
 clear hb2 r1 HRD k1
 obtain ⟨ty,pv,hform⟩:∃ ty pv,rv=.iface ty pv:=by
  rcases hr2 with ⟨_,e⟩ | ⟨_,a,c,e,_⟩
  ·exact ⟨_,_,e⟩
  ·exact ⟨_,_,e⟩
 subst hform
 clear hr2
 go_wp2
 go_ret2
 exact ⟨_,rfl,HRF.out _,H2.out.set (by omega),fun x1 x2=>by
  obtain ⟨cr,k2,_⟩:=H2.out.v
  exact (HF2.out x1 x2).trans (RgF.set HBR.out k2 (by unfold DTy;decide))⟩
theorem RGM.keep [Gd] {B p q g ls rg N c u:Nat} {l cl:List It} {W w:World} {ty:TypeId} {pv cv:Value} {v:Nat} (hg0:True) (h:RGM B p q g ls rg N c u l W w) (hv:v<=16) (hN:3<=N) (hc9:c<900) (hu:u+9*cl.length+11<=N) (hu2:u<=2000) (hl:l.length+cl.length<90) (hcv:CHV B w cv cl) (hok:∀ x∈cl,0<x.1.length/\x.1.length<=60/\x.2.length<=1800/\(∀ n∈x.1,n<256)/\∀ n∈x.2,n<256) :
  Calls Tryz.prog 68 #[.pointer (some ⟨rg,0,none⟩),.int .i64 (v:Int),.iface ty pv,cv] w fun e w'=>e=.returned (.int .i64 0)/\RGM B p q g ls rg N (c+1) (apL l cl).length (apL l cl) W w'/\RgF B g ls rg w w':=by
 have lt:∀ {k:Nat} {o:Obj} {ww:World},ww.heap[k]?=some o->k<ww.heap.size:=fun e=>(lO e)
 have hd:Below w.heap.size w w.drew:=(Below.refl _ _).drew
 have H:=hide (h.later hd)
 have HBW:=hide h.bw
 have HPO:=hide H.out.s.pos
 have HAP:=hide (H.out.s.Apply hg0 hN hc9 hu hu2 hl (hcv.later hd h.bw) hok)
 have HV:=hide hv
 have i0:(0:Int)<=(v:Int):=by omega
 have i1:(v:Int)<17:=by omega
 have HX0:Hid ((fun wx=>wx.cell? ⟨rg,0,none⟩=some (.pointer (some ⟨ls,0,none⟩))) w.drew):=H.out.cell0
 obtain ⟨gv,cap,hform⟩:∃ g cap,cv=.slice (some ⟨g,0,none⟩) cl.length cap:=by
  obtain ⟨kv,g,cap,h1,_⟩:=hcv
  exact ⟨g,cap,h1⟩
 subst hform
 have HD:Hid (RgF B g ls rg w w.drew):=RgF.of hd h.bw
 clear h hcv hok hd hv
 generalize cl.length=M at *
 go_enter Tryz.func68,Tryz.ntmps68
 go_upto_region 1 with fail
 refine wp_region_noPanic ?_
 refine wp_region_held_drew (S:=fun wx=>wx.cell? ⟨rg,0,none⟩=some (.pointer (some ⟨ls,0,none⟩))) (by kernel_rfl) HX0.out (fun hHeld=>?_)
 refine wpAnyH_tk 0 10 ?_
 refine wpAnyH_tk 1 11 ?_
 refine wpAnyH_tk 2 12 ?_
 refine wpAnyH_tk 3 13 ?_
 refine wpAnyH_tk 4 14 ?_
 refine wpAnyH_tk 5 15 ?_
 refine wpAnyH_tk 6 16 ?_
 refine wpAnyH_tk 7 17 ?_
 refine wpAnyH_tk 9 19 ?_
 refine wpAnyH_cm 8 ?_;intro K hK
 go_simp
 refine HPO.out.mono ?_
 rintro e w9 ⟨rfl,hw⟩
 subst hw
 refine hK.out _ _ hHeld (fun hHeld=>?_)
 clear hK K
 try simp only [Act.put,siT,scZ,scS]
 refine wpAnyH_cm 10 ?_;intro K hK
 go_simp
 refine HAP.out.mono ?_
 rintro e w3 ⟨rfl,b1,b2⟩
 obtain ⟨cg,hg⟩:=H.out.s.kx.blk
 obtain ⟨cl0,k1,_⟩:=H.out.s.lv
 obtain ⟨cs,k2,k3,k4⟩:=H.out.v
 have h3:RGM B p q g ls rg N (c+1) (apL l cl).length (apL l cl) W w3:=⟨b2,H.out.b,cs,b1.2 _ _ _ _ k2 (by decide) (aAr k2 hg (by decide)) (aAr k2 k1 (by decide)),k3,k4⟩
 have H3:=hide h3
 have HF3:Hid (RgF B g ls rg w w3):=HD.out.trans (RgF.ly b1)
 have HX3:Hid ((fun wx=>wx.cell? ⟨rg,0,none⟩=some (.pointer (some ⟨ls,0,none⟩))) w3):=h3.cell0
 clear b1 b2 hg k1 k2 k3 k4 h3 hHeld
 refine hK.out _ _ HX3.out (fun hHeld=>?_)
 clear hK K
 try simp only [Act.put,siT,scZ,scS]
 refine wpAnyH_tk 11 9 ?_
 refine wpAnyH_done (by kernel_rfl) ?_ _
 refine NoPanic.normal ?_
 clear hHeld HX0 HX3 HPO HAP
 obtain ⟨⟨x,hx⟩,hf⟩:=H3.out.known HV.out
 have HBR:=hide H3.out.b
 go_wp2
 go_ret
 obtain ⟨cr,k2,_⟩:=H3.out.v
 exact ⟨rfl,H3.out.set (by omega),HF3.out.trans (RgF.set HBR.out k2 (by unfold DTy;decide))⟩
abbrev Lg:=Nat×Nat×Bool
structure NDV (cs:Array Value) (ls rg:Nat) (L:Nat->Lg):Prop where
 sz:cs.size=53
 c0:cs[0]?=some (.pointer (some ⟨ls,0,none⟩))
 c1:cs[1]?=some (.pointer (some ⟨rg,0,none⟩))
 cl:∀ j,j<=16->cs[2+j*3]?=some (.int .i64 ((L j).1:Int))/\cs[2+j*3+1]?=some (.int .i64 ((L j).2.1:Int))/\cs[2+j*3+2]?=some (.bool (L j).2.2)
structure NDM [Gd] (B p q g ls rg nd N c u:Nat) (l:List It) (L:Nat->Lg) (W w:World):Prop where
 s:LS B p q g ls N c u l W w
 b:B<=nd
 v:∃ cs,w.heap[nd]?=some (.cells cs 115 (0,0))/\NDV cs ls rg L
section
variable [Gd] {B p q g ls rg nd N c u:Nat} {l:List It} {L:Nat->Lg} {W w w':World}
theorem NDM.later (h:NDM B p q g ls rg nd N c u l L W w) (hb:Below w.heap.size w w'):NDM B p q g ls rg nd N c u l L W w':=by
 obtain ⟨cs,h1,h2⟩:=h.v
 exact ⟨h.s.later hb,h.b,cs,(hb.block nd (lO h1)).trans h1,h2⟩
theorem NDM.bw (h:NDM B p q g ls rg nd N c u l L W w):B<=w.heap.size:=h.s.bw
theorem NDM.cell0 (h:NDM B p q g ls rg nd N c u l L W w):w.cell? ⟨nd,0,none⟩=some (.pointer (some ⟨ls,0,none⟩)):=by
 obtain ⟨cs,h1,h2⟩:=h.v
 exact (aAa h1).trans h2.c0
theorem NDM.dead (h:NDM B p q g ls rg nd N c u l L W w):Calls Tryz.prog 49 #[.pointer (some ⟨nd,0,none⟩)] w fun e w'=>e=.returned (.bool false)/\Below w.heap.size w w':=by
 have x0:=h.cell0
 have HD:=hide h.s.dead
 clear h
 go_enter Tryz.func49,Tryz.ntmps49
 go_wp2_with fail
 refine HD.out.mono ?_
 rintro e w1 ⟨rfl,hb1⟩
 have HB1:=hide hb1
 clear hb1 HD x0
 go_wp2
 go_ret
 exact ⟨rfl,HB1.out⟩
end
theorem nref_ok [Gd] {B p q g ls rg nd N c u lg at_ n cp:Nat} {l:List It} {L:Nat->Lg} {W w:World} {k:Int} {va:Option Addr} (h:NDM B p q g ls rg nd N c u l L W w) (hk1:1<=k) (hk2:k<=8) (hlg:lg<=16) (hn:n<=1800) :
  Calls Tryz.prog 50 #[.pointer (some ⟨nd,0,none⟩),.agg #[.int .i64 k,.int .i64 (lg:Int),.int .i64 (at_:Int),.slice va n cp]] w fun e w'=>e=.returned (.int .i64 0)/\Below w.heap.size w w':=by
 have lt:∀ {k:Nat} {o:Obj} {ww:World},ww.heap[k]?=some o->k<ww.heap.size:=fun e=>(lO e)
 have z1:¬ k<1:=by omega
 have z2:¬ 8<k:=by omega
 have z3:¬ (lg:Int)<0:=by omega
 have z4:¬ (16:Int)<(lg:Int):=by omega
 have z5:¬ (at_:Int)<0:=by omega
 have z6:¬ (1800:Int)<(n:Int):=by omega
 have HNW:Hid ((w.alloc (.cells #[.int .i64 k,.int .i64 (lg:Int),.int .i64 (at_:Int),.slice va n cp] 68)).heap[w.heap.size]?=some (.cells #[.int .i64 k,.int .i64 (lg:Int),.int .i64 (at_:Int),.slice va n cp] 68 (0,0))):=heap_alloc_new w _
 have HBX:=hide (aAc w (.cells #[.int .i64 k,.int .i64 (lg:Int),.int .i64 (at_:Int),.slice va n cp] 68))
 have HD:=hide (h.later HBX.out).dead
 clear h hk1 hk2 hlg hn
 go_enter Tryz.func50,Tryz.ntmps50
 go_wp2_with fail
 refine HD.out.mono ?_
 rintro e w1 ⟨rfl,hb1⟩
 have HN1:=hide ((hb1.block _ (lt HNW.out)).trans HNW.out)
 have HB1:=hide (HBX.out.trans (hb1.mono HBX.out.size))
 clear hb1 HD HNW
 generalize hn0:w.heap.size=n0 at *
 have y0:w1.cell? ⟨n0,0,none⟩=some (.int .i64 k):=aAa HN1.out
 have y1:w1.cell? ⟨n0,1,none⟩=some (.int .i64 (lg:Int)):=aAa HN1.out
 have y2:w1.cell? ⟨n0,2,none⟩=some (.int .i64 (at_:Int)):=aAa HN1.out
 have y3:w1.cell? ⟨n0,3,none⟩=some (.slice va n cp):=aAa HN1.out
 go_wp2
 go_ret
 exact ⟨rfl,by rw [hn0];exact HB1.out⟩
theorem NDM.fp [Gd] {B p q g ls rg nd N c u:Nat} {l:List It} {L:Nat->Lg} {W w:World} (h:NDM B p q g ls rg nd N c u l L W w):∃ F:Nat->Prop,(∀ k,F k->FBk w k)/\(∀ k,Gd.s k->¬ F k)/\∀ (w':World) (S':Nat->Prop),(∀ k,F k->w'.heap[k]?=w.heap[k]?)->ByK w w'->w'.heap[g]?=w.heap[g]?->w'.heap[ls]?=w.heap[ls]?->w'.heap[nd]?=w.heap[nd]?->Below B w w'->(∀ k,S' k->FBk w' k/\¬ F k)->@NDM ⟨S'⟩ B p q g ls rg nd N c u l L W w':=by
 obtain ⟨⟨kx,bl,cl,k1,k2⟩,nb,cn,k3,k4⟩:=h
 obtain ⟨F,h1,h2,h3⟩:=kx.fp
 refine ⟨F,h1,h2,fun w' S' hF hB hg hl hn hb hS=>?_⟩
 have h4:=h3 w' S' hF hB hg hb hS
 letI:Gd:=⟨S'⟩
 exact ⟨⟨h4,bl,cl,hl.trans k1,k2⟩,nb,cn,hn.trans k3,k4⟩
theorem putL_self {l:List It} (hs:Srt l) (it:It):it∈putL l it:=by
 unfold putL
 by_cases h:hasI l it.1=true
 ·obtain ⟨x,hx,_⟩:=(hs.has it.1).1 h
  rw [if_pos h]
  exact mG (i:=fndI l it.1) (by rw [List.getElem?_set,if_pos rfl,if_pos (lL hx)])
 ·rw [if_neg h]
  simp
theorem putL_old {l:List It} (hs:Srt l) {it x:It} (hx:x∈l) (hne:x.1≠it.1):x∈putL l it:=by
 unfold putL
 by_cases h:hasI l it.1=true
 ·obtain ⟨y,hy,hk⟩:=(hs.has it.1).1 h
  rw [if_pos h]
  obtain ⟨i,hi⟩:=List.getElem?_of_mem hx
  refine mG (i:=i) ?_
  rw [List.getElem?_set,if_neg (fun q=>?_)]
  ·exact hi
  ·rw [<-q,hy] at hi
   cases hi
   exact hne hk
 ·rw [if_neg h]
  rw [<-List.take_append_drop (fndI l it.1) l] at hx
  rcases List.mem_append.1 hx with q | q
  ·exact List.mem_append_left _ q
  ·exact List.mem_append_right _ (List.mem_cons_of_mem _ q)
theorem aGz {l:List It} (hs:Srt l) (it:It) (k:List Nat):valL (putL l it) k=if it.1=k then some it.2 else valL l k:=by
 by_cases h:it.1=k
 ·rw [if_pos h,<-h]
  exact aCh (aB6 hs) (putL_self hs it)
 ·rw [if_neg h]
  by_cases c:∃ x∈l,x.1=k
  ·obtain ⟨x,hx,rfl⟩:=c
   rw [aCh hs hx,aCh (aB6 hs) (putL_old hs hx (fun q=>h q.symm))]
  ·rw [aCs fun x hx q=>c ⟨x,hx,q⟩]
   refine aCs fun x hx q=>?_
   rcases mem_putL hx with q9 | q9
   ·exact c ⟨x,q9,q⟩
   ·rw [q9] at q
    exact h q
def upR (R:Nat->Rec) (v:Nat) (r:Rec):Nat->Rec:=fun j=>if j=v then r else R j
theorem RL.prep {l:List It} {R:Nat->Rec} (h:RL l R) (hs:Srt l) {v b:Nat} (hv:v<=16) (hb:1<=b) (hb2:b<9223372036854775808) (hlt:(R v).1<b):RL (apL l [([v],enc b++enc (R v).2.1)]) (upR R v (b,(R v).2.1,(R v).2.2)):=by
 have e:∀ k,valL (apL l [([v],enc b++enc (R v).2.1)]) k=if [15,v]=k then some (enc b++enc (R v).2.1) else valL l k:=fun k=>aGz hs ([15,v],enc b++enc (R v).2.1) k
 have hB:=h.b v hv
 refine ⟨fun j hj h0=>?_,fun j hj h0=>?_,fun j hj=>?_,fun j hj h0=>?_⟩
 ·unfold upR at h0 ⊢
  by_cases q:j=v
  ·rw [if_pos q] at h0
   have h0:b=0:=h0
   omega
  ·rw [if_neg q] at h0 ⊢
   rw [e,if_neg (by simp;omega)]
   exact h.z j hj h0
 ·unfold upR at h0 ⊢
  rw [e]
  by_cases q:j=v
  ·subst q
   rw [if_pos rfl,if_pos rfl]
  ·rw [if_neg q] at h0 ⊢
   rw [if_neg (by simp;omega)]
   exact h.n j hj h0
 ·unfold upR
  by_cases q:j=v
  ·rw [if_pos q]
   exact ⟨by show (R v).2.1<=b;omega,hb2,hB.2.2⟩
  ·rw [if_neg q]
   exact h.b j hj
 ·unfold upR at h0 ⊢
  rw [e,if_neg (by simp)]
  by_cases q:j=v
  ·subst q
   rw [if_pos rfl] at h0 ⊢
   exact h.a j hj h0
  ·rw [if_neg q] at h0 ⊢
   exact h.a j hj h0
theorem RL.acc {l:List It} {R:Nat->Rec} (h:RL l R) (hs:Srt l) {v b:Nat} {val:List Nat} (hv:v<=16) (hb:1<=b) (hb2:b<9223372036854775808) (hl:val.length<=1800):RL (apL l [([v],enc b++enc b),([v,0],val)]) (upR R v (b,b,val)):=by
 have hs1:Srt (putL l ([15,v],enc b++enc b)):=aB6 hs
 have e:∀ k,valL (apL l [([v],enc b++enc b),([v,0],val)]) k=if [15,v,0]=k then some val else if [15,v]=k then some (enc b++enc b) else valL l k:=fun k=>by
  show valL (putL (putL l ([15,v],enc b++enc b)) ([15,v,0],val)) k=_
  rw [aGz hs1,aGz hs]
 refine ⟨fun j hj h0=>?_,fun j hj h0=>?_,fun j hj=>?_,fun j hj h0=>?_⟩
 ·unfold upR at h0 ⊢
  by_cases q:j=v
  ·rw [if_pos q] at h0
   have h0:b=0:=h0
   omega
  ·rw [if_neg q] at h0 ⊢
   rw [e,if_neg (by simp),if_neg (by simp;omega)]
   exact h.z j hj h0
 ·unfold upR at h0 ⊢
  rw [e,if_neg (by simp)]
  by_cases q:j=v
  ·subst q
   rw [if_pos rfl,if_pos rfl]
  ·rw [if_neg q] at h0 ⊢
   rw [if_neg (by simp;omega)]
   exact h.n j hj h0
 ·unfold upR
  by_cases q:j=v
  ·rw [if_pos q]
   exact ⟨nR b,hb2,hl⟩
  ·rw [if_neg q]
   exact h.b j hj
 ·unfold upR at h0 ⊢
  rw [e]
  by_cases q:j=v
  ·subst q
   rw [if_pos rfl,if_pos rfl]
  ·rw [if_neg q] at h0 ⊢
   rw [if_neg (by simp;omega),if_neg (by simp)]
   exact h.a j hj h0
theorem RL.nil:RL [] (fun _=>(0,0,[])):=⟨fun v _ _=>⟨rfl,rfl⟩,fun v _ h=>absurd rfl h,fun v _=>⟨nR _,by decide,by decide⟩,fun v _ h=>absurd rfl h⟩
theorem RcV.pr {B:Nat} {w:World} {rv:Value} {r:Rec} (h:RcV B w rv r):∃ ty pv,rv=.iface ty pv/\∀ ww:World,(method 457 ty pv "headland/register.promised").run Tryz.prog ww=.ok (255,.int .i64 (r.1:Int)) ww:=by
 rcases h with ⟨_,e⟩ | ⟨_,a,c,e,_⟩
 ·exact ⟨_,_,e,fun ww=>mt_pr _ ww⟩
 ·exact ⟨_,_,e,fun ww=>mt_ac _ _ _ ww⟩
theorem RGM.an [Gd] {B p q g ls rg N c u:Nat} {l:List It} {W w:World} (h:RGM B p q g ls rg N c u l W w) {n0 o:Nat} {x:Value} {ca:Array Value} (hn:w.heap[n0]?=some (.cells ca 75 (0,0))) (hB:B<=n0):RGM B p q g ls rg N c u l W (w.setCell ⟨n0,o,none⟩ x):=by
 obtain ⟨cs,h1,h2⟩:=h.v
 obtain ⟨cl,k1,k2⟩:=h.s.lv
 have keep:∀ (k:Nat) (cs:Array Value) (t:TypeId) (fz:Nat×Nat),w.heap[k]?=some (Obj.cells cs t fz)->t≠75->(w.setCell ⟨n0,o,none⟩ x).heap[k]?=some (Obj.cells cs t fz):=fun k cs t fz e ht=>by
  rw [(Ex.set (w:=w) (o:=o) (u:=x) hB).2 k (lO e) (by simpa using aAr e hn ht),e]
 refine ⟨⟨h.s.kx.same (Ex.set hB).1 (fun k cs t fz e ht=>keep k cs t fz e ?_),h.s.bl,cl,keep _ _ _ _ k1 (by decide),k2⟩,h.b,cs,keep _ _ _ _ h1 (by decide),h2⟩
 rcases ht with rfl | rfl | ht
 ·decide
 ·decide
 ·intro q9
  rw [q9] at ht
  exact ht (by decide)
theorem RGM.an6 [Gd] {B p q g ls rg N c u:Nat} {l:List It} {W w:World} (h:RGM B p q g ls rg N c u l W w) {n0:Nat} {a0 a1 a2 a3 a4 a5 b0 b1 b2 b3 b4 b5:Value} (hn:w.heap[n0]?=some (.cells #[a0,a1,a2,a3,a4,a5] 75 (0,0))) (hB:B<=n0):RGM B p q g ls rg N c u l W ((((((w.setCell ⟨n0,0,none⟩ b0).setCell ⟨n0,1,none⟩ b1).setCell ⟨n0,2,none⟩ b2).setCell ⟨n0,3,none⟩ b3).setCell ⟨n0,4,none⟩ b4).setCell ⟨n0,5,none⟩ b5):=by
 have s1:(w.setCell ⟨n0,0,none⟩ b0).heap[n0]?=some (.cells (#[a0,a1,a2,a3,a4,a5].setIfInBounds 0 b0) 75 (0,0)):=heap_setCell_same _ _ _ _ _ _ hn
 have s2:((w.setCell ⟨n0,0,none⟩ b0).setCell ⟨n0,1,none⟩ b1).heap[n0]?=some (.cells ((#[a0,a1,a2,a3,a4,a5].setIfInBounds 0 b0).setIfInBounds 1 b1) 75 (0,0)):=heap_setCell_same _ _ _ _ _ _ s1
 have s3:(((w.setCell ⟨n0,0,none⟩ b0).setCell ⟨n0,1,none⟩ b1).setCell ⟨n0,2,none⟩ b2).heap[n0]?=some (.cells (((#[a0,a1,a2,a3,a4,a5].setIfInBounds 0 b0).setIfInBounds 1 b1).setIfInBounds 2 b2) 75 (0,0)):=heap_setCell_same _ _ _ _ _ _ s2
 have s4:((((w.setCell ⟨n0,0,none⟩ b0).setCell ⟨n0,1,none⟩ b1).setCell ⟨n0,2,none⟩ b2).setCell ⟨n0,3,none⟩ b3).heap[n0]?=some (.cells ((((#[a0,a1,a2,a3,a4,a5].setIfInBounds 0 b0).setIfInBounds 1 b1).setIfInBounds 2 b2).setIfInBounds 3 b3) 75 (0,0)):=heap_setCell_same _ _ _ _ _ _ s3
 have s5:(((((w.setCell ⟨n0,0,none⟩ b0).setCell ⟨n0,1,none⟩ b1).setCell ⟨n0,2,none⟩ b2).setCell ⟨n0,3,none⟩ b3).setCell ⟨n0,4,none⟩ b4).heap[n0]?=some (.cells (((((#[a0,a1,a2,a3,a4,a5].setIfInBounds 0 b0).setIfInBounds 1 b1).setIfInBounds 2 b2).setIfInBounds 3 b3).setIfInBounds 4 b4) 75 (0,0)):=heap_setCell_same _ _ _ _ _ _ s4
 exact (((((h.an hn hB).an s1 hB).an s2 hB).an s3 hB).an s4 hB).an s5 hB
theorem RgF.an6 [Gd] {B g ls rg n0:Nat} {w0 w:World} {b0 b1 b2 b3 b4 b5:Value} (h:RgF B g ls rg w0 w) (hn:w0.heap.size<=n0) (hB:B<=n0):RgF B g ls rg w0 ((((((w.setCell ⟨n0,0,none⟩ b0).setCell ⟨n0,1,none⟩ b1).setCell ⟨n0,2,none⟩ b2).setCell ⟨n0,3,none⟩ b3).setCell ⟨n0,4,none⟩ b4).setCell ⟨n0,5,none⟩ b5):=by
 refine ⟨bel6 h.1 hB,fun k cs t fz e n1 n2 n3 n4=>?_,fun k hk hf=>by
  have hne:k≠n0:=by
   have:=hf.lt
   omega
  rw [heap_setCell_other _ _ _ _ hne,heap_setCell_other _ _ _ _ hne,heap_setCell_other _ _ _ _ hne,heap_setCell_other _ _ _ _ hne,heap_setCell_other _ _ _ _ hne,heap_setCell_other _ _ _ _ hne]
  exact h.gd k hk hf⟩
 have hne:k≠n0:=by
  have:=(lO e)
  omega
 rw [heap_setCell_other _ _ _ _ hne,heap_setCell_other _ _ _ _ hne,heap_setCell_other _ _ _ _ hne,heap_setCell_other _ _ _ _ hne,heap_setCell_other _ _ _ _ hne,heap_setCell_other _ _ _ _ hne]
 exact h.2 k cs t fz e n1 n2 n3 n4
def AnV (B:Nat) (w:World) (ae at_:Int) (r:Rec) (av:Value):Prop:=∃ va vc,av=.agg #[.int .i64 ae,.int .i64 at_,.bool false,.int .i64 0,.int .i64 (r.2.1:Int),.slice va (if r.2.1=0 then 0 else r.2.2.length) vc]/\BK B w va (if r.2.1=0 then 0 else r.2.2.length) vc (if r.2.1=0 then [] else r.2.2)
def RgU [Gd] (B p q g ls rg N c u:Nat) (l:List It) (W w w':World) (R':Nat->Rec) (k:Nat) (l2:List It):Prop:=∃ c' u',RGM B p q g ls rg N c' u' l2 W w'/\RL l2 R'/\l2.length<=l.length+k/\c'<=c+min k 1/\u'<=max u (l.length+k)/\RgF B g ls rg w w'
theorem aBb [Gd] {B p q g ls rg N c u:Nat} {l:List It} {W w w':World} (h:RGM B p q g ls rg N c u l W w) (f:RgF B g ls rg w w') {k:Nat} {cs:Array Value} {fz:Nat×Nat} {t:TypeId} (e:w.heap[k]?=some (.cells cs t fz)) (hn:NT t) (h1:t≠183) (h2:t≠130) (h3:t≠135):w'.heap[k]?=some (.cells cs t fz):=by
 obtain ⟨cg,hg⟩:=h.s.kx.blk
 obtain ⟨cl,k1,_⟩:=h.s.lv
 obtain ⟨cr,k2,_⟩:=h.v
 exact f.2 _ _ _ _ e hn (aAr e hg h1) (aAr e k1 h2) (aAr e k2 h3)
theorem aF3 [Gd] {B p q g ls rg N c u:Nat} {l:List It} {W w:World} {R:Nat->Rec} (h:RGM B p q g ls rg N c u l W w) (hR:RL l R) {v b:Nat} (hv:v<=16) (hb1:1<=b) (hb2:b<9223372036854775808) (hlt:b<=(R v).1) :
  Calls Tryz.prog 51 #[.pointer (some ⟨rg,0,none⟩),.int .i64 (v:Int),.int .i64 (b:Int)] w fun e w'=>(∃ av,e=.returned av/\AnV B w' 41 (((R v).1:Nat):Int) (R v) av)/\RgU B p q g ls rg N c u l W w w' R 0 l:=by
 have lt:∀ {k:Nat} {o:Obj} {ww:World},ww.heap[k]?=some o->k<ww.heap.size:=fun e=>(lO e)
 have HNW:Hid ((w.alloc (.cells #[.int .i64 0,.int .i64 0,.bool false,.int .i64 0,.int .i64 0,.slice none 0 0] 75)).heap[w.heap.size]?=some (.cells #[.int .i64 0,.int .i64 0,.bool false,.int .i64 0,.int .i64 0,.slice none 0 0] 75 (0,0))):=heap_alloc_new w _
 have HBX:=hide (aAc w (.cells #[.int .i64 0,.int .i64 0,.bool false,.int .i64 0,.int .i64 0,.slice none 0 0] 75))
 have H1:=hide (h.later HBX.out)
 have HBW:=hide h.bw
 have HRR:=hide hR
 have HSR:=hide h.s.kx.srt
 have HMB:=hide (aDs (v:=(v:Int)) (b:=(b:Int)) (by omega) (by omega) (by omega) (w.alloc (.cells #[.int .i64 0,.int .i64 0,.bool false,.int .i64 0,.int .i64 0,.slice none 0 0] 75)))
 have HV:=hide hv
 have HB1:=hide hb1
 have HB2:=hide hb2
 have hRb:=hR.b v hv
 have HRB:=hide hRb
 have HLT:=hide hlt
 have x0:(b:Int)<=(((R v).1:Nat):Int):=by omega
 clear h hR hv hb1 hb2 hRb hlt
 go_enter Tryz.func51,Tryz.ntmps51
 go_wp2_with fail
 refine HMB.out.mono ?_
 rintro e w1 ⟨rfl,rfl⟩
 generalize hn0:w.heap.size=n0 at *
 generalize w.alloc (.cells #[.int .i64 0,.int .i64 0,.bool false,.int .i64 0,.int .i64 0,.slice none 0 0] 75)=w1 at *
 have HF1:Hid (RgF B g ls rg w w1):=RgF.of (by rw [hn0];exact HBX.out) (by rw [hn0];exact HBW.out)
 have HLK:=hide (H1.out.look HRR.out HV.out)
 clear HMB
 go_wp2_with fail
 refine HLK.out.mono ?_
 rintro e w2 ⟨rv,rfl,hr2,h2,hf2⟩
 replace hf2:=hf2 g ls
 obtain ⟨ty,pv,hform,hmt⟩:=hr2.pr
 have HN2:=hide (aBb H1.out hf2 HNW.out (by decide) (by decide) (by decide) (by decide))
 have H2:=hide h2
 have HF2:=hide (HF1.out.trans hf2)
 have HR2:=hide hr2
 subst hform
 have m1:=hmt w2
 have m2:=cf_pr (.int .i64 ((R v).1:Int)) w2
 clear hr2 h2 hf2 HLK
 generalize hrp:(R v).1=rp at *
 go_wp2_with fail
 refine (aA3 (rp:Int) w2).mono ?_
 rintro e w9 ⟨rfl,hw⟩
 have hw:=hw.symm
 subst hw
 have HWA:=hide (aCo (ae:=41) (at_:=(rp:Int)) HR2.out H2.out.bw (by have:=HRB.out.2.2;omega))
 go_wp2_with fail
 refine (aA3 (rp:Int) w2).mono ?_
 rintro e w9 ⟨rfl,hw⟩
 have hw:=hw.symm
 subst hw
 clear m1 m2
 go_wp2_with fail
 refine HWA.out.mono ?_
 rintro e w3 ⟨va,vc,rfl,hk3,hb3⟩
 have HN3:=hide ((hb3.block n0 (lt HN2.out)).trans HN2.out)
 have H3:=hide (H2.out.later hb3)
 have HF3:=hide (HF2.out.trans (RgF.of hb3 H2.out.bw))
 have HK3:Hid (BK B w3 va (if (R v).2.1=0 then 0 else (R v).2.2.length) vc (if (R v).2.1=0 then [] else (R v).2.2)):=hk3
 clear hk3 hb3 HWA hmt
 generalize hvl:(if (R v).2.1=0 then 0 else (R v).2.2.length)=vn at *
 generalize hrl:(R v).2.1=rl at *
 have zc0:w3.cell? ⟨n0,0,none⟩=some (.int .i64 0):=aAa HN3.out
 have zf0:w3.frozen? ⟨n0,0,none⟩=false:=aAb HN3.out
 have zc1:w3.cell? ⟨n0,1,none⟩=some (.int .i64 0):=aAa HN3.out
 have zf1:w3.frozen? ⟨n0,1,none⟩=false:=aAb HN3.out
 have zc2:w3.cell? ⟨n0,2,none⟩=some (.bool false):=aAa HN3.out
 have zf2:w3.frozen? ⟨n0,2,none⟩=false:=aAb HN3.out
 have zc3:w3.cell? ⟨n0,3,none⟩=some (.int .i64 0):=aAa HN3.out
 have zf3:w3.frozen? ⟨n0,3,none⟩=false:=aAb HN3.out
 have zc4:w3.cell? ⟨n0,4,none⟩=some (.int .i64 0):=aAa HN3.out
 have zf4:w3.frozen? ⟨n0,4,none⟩=false:=aAb HN3.out
 have zc5:w3.cell? ⟨n0,5,none⟩=some (.slice none 0 0):=aAa HN3.out
 have zf5:w3.frozen? ⟨n0,5,none⟩=false:=aAb HN3.out
 go_wp2
 (try simp only [Exit.inBlock,Exit.then])
 refine bodyPost_ret (results_cell_row Tryz.results51 _ _ n0 _ _ _ _ rfl (set6 HN3.out) Tryz.underlying75 rfl aA4) rfl ?_
 refine ⟨⟨_,rfl,va,vc,?_,?_⟩,c,u,H3.out.an6 HN3.out HBW.out,HRR.out,by omega,by omega,by omega,HF3.out.an6 (by rw [hn0];exact nR _) HBW.out⟩
 ·rw [hrp,hrl,hvl]
 ·rw [hrl,hvl]
  exact HK3.out.ft (ft6 HN3.out (by decide) HBW.out)
theorem prepare_u [Gd] {B p q g ls rg N c u:Nat} {l:List It} {W w:World} {R:Nat->Rec} (hg0:True) (h:RGM B p q g ls rg N c u l W w) (hR:RL l R) {v b:Nat} (hv:v<=16) (hb1:1<=b) (hb2:b<9223372036854775808) (hlt:(R v).1<b) (hN:3<=N) (hc9:c<900) (hu:u+20<=N) (hu2:u<=2000) (hl:l.length+2<90) :
  Calls Tryz.prog 51 #[.pointer (some ⟨rg,0,none⟩),.int .i64 (v:Int),.int .i64 (b:Int)] w fun e w'=>(∃ av,e=.returned av/\AnV B w' 0 (b:Int) (R v) av)/\RgU B p q g ls rg N c u l W w w' (upR R v (b,(R v).2.1,(R v).2.2)) 1 (apL l [([v],enc b++enc (R v).2.1)]):=by
 have lt:∀ {k:Nat} {o:Obj} {ww:World},ww.heap[k]?=some o->k<ww.heap.size:=fun e=>(lO e)
 have HNW:Hid ((w.alloc (.cells #[.int .i64 0,.int .i64 0,.bool false,.int .i64 0,.int .i64 0,.slice none 0 0] 75)).heap[w.heap.size]?=some (.cells #[.int .i64 0,.int .i64 0,.bool false,.int .i64 0,.int .i64 0,.slice none 0 0] 75 (0,0))):=heap_alloc_new w _
 have HBX:=hide (aAc w (.cells #[.int .i64 0,.int .i64 0,.bool false,.int .i64 0,.int .i64 0,.slice none 0 0] 75))
 have H1:=hide (h.later HBX.out)
 have HBW:=hide h.bw
 have HRR:=hide hR
 have HSR:=hide h.s.kx.srt
 have HMB:=hide (aDs (v:=(v:Int)) (b:=(b:Int)) (by omega) (by omega) (by omega) (w.alloc (.cells #[.int .i64 0,.int .i64 0,.bool false,.int .i64 0,.int .i64 0,.slice none 0 0] 75)))
 have HV:=hide hv
 have HB1:=hide hb1
 have HB2:=hide hb2
 have hRb:=hR.b v hv
 have HRB:=hide hRb
 have HLT:=hide hlt
 have x0:¬ (b:Int)<=(((R v).1:Nat):Int):=by omega
 have HAL:=hide (apL_len l [([v],enc b++enc (R v).2.1)])
 have HRL2:=hide (hR.prep h.s.kx.srt hv hb1 hb2 hlt)
 clear h hR hv hb1 hb2 hRb hlt
 go_enter Tryz.func51,Tryz.ntmps51
 go_wp2_with fail
 refine HMB.out.mono ?_
 rintro e w1 ⟨rfl,rfl⟩
 generalize hn0:w.heap.size=n0 at *
 generalize w.alloc (.cells #[.int .i64 0,.int .i64 0,.bool false,.int .i64 0,.int .i64 0,.slice none 0 0] 75)=w1 at *
 have HF1:Hid (RgF B g ls rg w w1):=RgF.of (by rw [hn0];exact HBX.out) (by rw [hn0];exact HBW.out)
 have HLK:=hide (H1.out.look HRR.out HV.out)
 clear HMB
 go_wp2_with fail
 refine HLK.out.mono ?_
 rintro e w2 ⟨rv,rfl,hr2,h2,hf2⟩
 replace hf2:=hf2 g ls
 obtain ⟨ty,pv,hform,hmt⟩:=hr2.pr
 have HN2:=hide (aBb H1.out hf2 HNW.out (by decide) (by decide) (by decide) (by decide))
 have H2:=hide h2
 have HF2:=hide (HF1.out.trans hf2)
 have HR2:=hide hr2
 subst hform
 have m1:=hmt w2
 have m2:=cf_pr (.int .i64 ((R v).1:Int)) w2
 clear hr2 h2 hf2 HLK
 generalize hrp:(R v).1=rp at *
 go_wp2_with fail
 refine (aA3 (rp:Int) w2).mono ?_
 rintro e w9 ⟨rfl,hw⟩
 have hw:=hw.symm
 subst hw
 clear m1 m2 hmt
 have HPR:=hide (aHb (b:=b) HR2.out H2.out.bw)
 go_wp2_with fail
 refine HPR.out.mono ?_
 rintro e w3 ⟨rv3,rfl,hr3,hb3⟩
 obtain ⟨ty3,pv3,hform3,_⟩:=hr3.pr
 subst hform3
 have HN3:=hide ((hb3.block n0 (lt HN2.out)).trans HN2.out)
 have H3:=hide (H2.out.later hb3)
 have HF3:=hide (HF2.out.trans (RgF.of hb3 H2.out.bw))
 have HR3:=hide hr3
 have HBL:=hide (aFy hr3 H3.out.bw (show v<256 by have:=HV.out;omega) HB2.out (show (R v).2.1<9223372036854775808 by have h8:=HRB.out.1;have:=HLT.out;have:=HB2.out;omega))
 clear hr3 hb3 HPR
 go_wp2_with fail
 refine HBL.out.mono ?_
 rintro e w4 ⟨ka,kc,va,vc,rfl,hk4,hv4,hb4⟩
 have hv4:BK B w4 va (enc b++enc (R v).2.1).length vc (enc b++enc (R v).2.1):=hv4
 have HVB:=hide hv4.1.hbyte
 obtain ⟨x5,hx5⟩:∃ x,x=w4.alloc (.cells #[.int .i64 15,.slice ka 1 kc,.slice va (enc b++enc (R v).2.1).length vc,.bool false] 152):=⟨_,rfl⟩
 have hb5:Below w4.heap.size w4 x5:=by rw [hx5];exact aAc w4 _
 have hb35:Below w3.heap.size w3 x5:=hb4.trans (hb5.mono hb4.size)
 have hnw:x5.heap[w4.heap.size]?=some (.cells #[.int .i64 15,.slice ka 1 kc,.slice va (enc b++enc (R v).2.1).length vc,.bool false] 152 (0,0)):=by rw [hx5];exact heap_alloc_new w4 _
 have hbw4:B<=w4.heap.size:=nT H3.out.bw hb4.size
 have HCV:CHV B x5 (.slice (some ⟨w4.heap.size,0,none⟩) 1 1) [([v],enc b++enc (R v).2.1)]:=CHV.one hnw ⟨ka,kc,rfl,hk4.later hb5 hbw4⟩ ⟨va,vc,rfl,hv4.later hb5 hbw4⟩
 have H5:=hide (H3.out.later hb35)
 have HN5:=hide ((hb35.block n0 (lt HN3.out)).trans HN3.out)
 have HR5:=hide (HR3.out.later hb35 H3.out.bw)
 have HF5:=hide (HF3.out.trans (RgF.of hb35 H3.out.bw))
 have hel:(enc b++enc (R v).2.1).length<=18:=by
  have h8:=HRB.out.1
  have h9:=aCn (a:=b) (b:=(R v).2.1) HB2.out (by have:=HLT.out;have:=HB2.out;omega)
  omega
 have HKP:=hide (H5.out.keep (cl:=[([v],enc b++enc (R v).2.1)]) (ty:=ty3) (pv:=pv3) hg0 HV.out hN hc9 (show u+9*1+11<=N by omega) hu2 (show l.length+1<90 by omega) HCV (by
  intro x hx
  simp only [List.mem_singleton] at hx
  subst hx
  refine ⟨by show 0<1;decide,by show 1<=60;decide,by show (enc b++enc (R v).2.1).length<=1800;omega,fun n hn=>?_,HVB.out⟩
  have hn:n=v:=by simpa using hn
  have:=HV.out
  omega))
 rw [hx5] at HKP
 generalize (enc b++enc (R v).2.1).length=vn4 at *
 clear hk4 hv4 hb4 hb5 hb35 hnw hbw4 HCV hel HBL
 go_wp2_with fail
 refine HKP.out.mono ?_
 rintro e w6 ⟨rfl,h6,hf6⟩
 rw [<-hx5] at hf6
 have HN6:=hide (aBb H5.out hf6 HN5.out (by decide) (by decide) (by decide) (by decide))
 have H6:=hide h6
 have HF6:=hide (HF5.out.trans hf6)
 have HR6:=hide (HR5.out.ft (H5.out.ft hf6))
 have HWA:=hide (aCo (ae:=0) (at_:=(b:Int)) HR6.out h6.bw (by have:=HRB.out.2.2;show (R v).2.2.length<=100000;omega))
 clear h6 hf6 HKP
 go_wp2_with fail
 refine HWA.out.mono ?_
 rintro e w7 ⟨wa,wc,rfl,hk7,hb7⟩
 have HN7:=hide ((hb7.block n0 (lt HN6.out)).trans HN6.out)
 have H7:=hide (H6.out.later hb7)
 have HF7:=hide (HF6.out.trans (RgF.of hb7 H6.out.bw))
 have HK7:Hid (BK B w7 wa (if (R v).2.1=0 then 0 else (R v).2.2.length) wc (if (R v).2.1=0 then [] else (R v).2.2)):=hk7
 clear hk7 hb7 HWA hx5
 generalize hvl:(if (R v).2.1=0 then 0 else (R v).2.2.length)=vn at *
 generalize hrl:(R v).2.1=rl at *
 have zc0:w7.cell? ⟨n0,0,none⟩=some (.int .i64 0):=aAa HN7.out
 have zf0:w7.frozen? ⟨n0,0,none⟩=false:=aAb HN7.out
 have zc1:w7.cell? ⟨n0,1,none⟩=some (.int .i64 0):=aAa HN7.out
 have zf1:w7.frozen? ⟨n0,1,none⟩=false:=aAb HN7.out
 have zc2:w7.cell? ⟨n0,2,none⟩=some (.bool false):=aAa HN7.out
 have zf2:w7.frozen? ⟨n0,2,none⟩=false:=aAb HN7.out
 have zc3:w7.cell? ⟨n0,3,none⟩=some (.int .i64 0):=aAa HN7.out
 have zf3:w7.frozen? ⟨n0,3,none⟩=false:=aAb HN7.out
 have zc4:w7.cell? ⟨n0,4,none⟩=some (.int .i64 0):=aAa HN7.out
 have zf4:w7.frozen? ⟨n0,4,none⟩=false:=aAb HN7.out
 have zc5:w7.cell? ⟨n0,5,none⟩=some (.slice none 0 0):=aAa HN7.out
 have zf5:w7.frozen? ⟨n0,5,none⟩=false:=aAb HN7.out
 go_wp2
 (try simp only [Exit.inBlock,Exit.then])
 refine bodyPost_ret (results_cell_row Tryz.results51 _ _ n0 _ _ _ _ rfl (set6 HN7.out) Tryz.underlying75 rfl aA4) rfl ?_
 have hal:=HAL.out
 have hal:(apL l [([v],enc b++enc rl)]).length<=l.length+1:=hal
 refine ⟨⟨_,rfl,wa,wc,?_,?_⟩,c+1,_,by rw [hrl];exact H7.out.an6 HN7.out HBW.out,by rw [hrl];exact HRL2.out,by rw [hrl];omega,by omega,by omega,HF7.out.an6 (by rw [hn0];exact nR _) HBW.out⟩
 ·rw [hrl,hvl]
 ·rw [hrl,hvl]
  exact HK7.out.ft (ft6 HN7.out (by decide) HBW.out)
end Go.Proofs.YtdfjjhlhnfindaaGreat
