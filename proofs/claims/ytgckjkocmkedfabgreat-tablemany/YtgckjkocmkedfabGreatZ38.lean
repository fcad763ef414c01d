import Derived.Shelf.SlSortCmp.WholeK
import Derived.Ground.SlsfProg
import Derived.Test.YtgckjkocmkedfabGreatProg
import Derived.Test.YtgckjkocmkedfabGreatZ33
import Derived.Test.YtgckjkocmkedfabGreatZ23
import Derived.Lib.AppendZerosOnto
set_option maxRecDepth 100000
set_option maxHeartbeats 16000000
set_option linter.unusedVariables false
namespace Go.Proofs.YtgckjkocmkedfabGreat
open Go.RowKit
def lfP (g:Nat):Value:=.iface 371 (.pointer (some ⟨g,0,none⟩))
def brP (g:Nat):Value:=.iface 343 (.pointer (some ⟨g,0,none⟩))
theorem aDo {w:World} {g:Nat} {iv:Value} (h:w.heap[g]?=some (.cells #[iv] 370 (0,0))) :
  Calls Tryz.prog 236 #[lfP g] w fun e w'=>e=.returned iv∧w'=w:=by
 have t1:=aC5 (.pointer (some ⟨g,0,none⟩)) w
 have t2:=asr_leaf (.pointer (some ⟨g,0,none⟩)) w
 have r0:w.cell? ⟨g,0,none⟩=some iv:=aAc h
 unfold lfP
 clear h
 go_enter Tryz.func236,Tryz.ntmps236
 go_wp2
 go_ret
 exact ⟨rfl,rfl⟩
theorem aCe {w:World} {g:Nat} {iv cv:Value} (h:w.heap[g]?=some (.cells #[iv,cv] 347 (0,0))) :
  Calls Tryz.prog 236 #[brP g] w fun e w'=>e=.returned iv∧w'=w:=by
 have t1:=aCf (.pointer (some ⟨g,0,none⟩)) w
 have r0:w.cell? ⟨g,0,none⟩=some iv:=aAc h
 unfold brP
 clear h
 go_enter Tryz.func236,Tryz.ntmps236
 go_wp2
 go_ret
 exact ⟨rfl,rfl⟩
def plC (l:List Nat):List Value:=l.map fun (i:Nat)=>Value.int .i64 (i:Int)
def Ex (B:Nat) (S:List Nat) (w w':World):Prop:=Below B w w'∧∀ k,k<w.heap.size→k∉S→w'.heap[k]?=w.heap[k]?
structure PgI (s:DS) (t:PS) (i:Nat) (b:List Nat):Prop where
 lt:i<s.n
 of:t.of (i:Int)=2
 pg:pageOf (pad (s.show i))=some b
 ln:b.length≤8192
 bt:∀ c∈b,c<256
structure ItsOk (l:List It):Prop where
 n1:1≤l.length
 n4:l.length≤4
 ok:∀ x∈l,ItOk x
 so:Srt l
def OnD (s:DS) (t:PS):(h:Nat)→BT h→Prop
 | 0,b=>PgI s t b.1 (leafB b.2)∧ItsOk b.2
 | h+1,b=>PgI s t b.1 (branB b.2.1 (b.2.2.map BT.id))∧ItsOk b.2.1∧b.2.2.length=b.2.1.length+1∧(∀ k∈b.2.2,BT.id k<9223372036854775808)∧∀ k∈b.2.2,OnD s t h k
end Go.Proofs.YtgckjkocmkedfabGreat
set_option maxRecDepth 100000
set_option maxHeartbeats 16000000
namespace Go.Proofs.YtgckjkocmkedfabGreat
open Go.Shelf
def sortC_ren:Go.Shelf.Ren:=⟨fun | 6=>116 | 15=>171 | 14=>170 | 28=>226 | 29=>227 | 20=>218 | 21=>219 | 22=>220 | 23=>221 | 24=>222 | 25=>223 | 26=>224 | 27=>225 | 46=>253 | 47=>254 | 48=>255 | 49=>256 | 50=>257 | 57=>275 | n=>n,fun | 22=>66 | 24=>127 | 25=>204 | 3=>3 | 39=>268 | 0=>0 | 53=>327 | 55=>133 | 4=>4 | 46=>321 | 45=>320 | 50=>232 | 5=>5 | 9=>9 | 66=>361 | 70=>365 | 76=>383 | 77=>384 | n=>n,fun | n=>n⟩
theorem sortC:Go.Proofs.SlLaysF0.n6 Tryz.prog sortC_ren:={
 mixed:=by kernel_rfl
 f6:=⟨Tryz.f116.name,by decide,Tryz.func116.trans (congrArg some (by kernel_rfl))⟩
 f14:=⟨Tryz.f170.name,by decide,Tryz.func170.trans (congrArg some (by kernel_rfl))⟩
 f15:=Tryz.func171.trans (congrArg some (by kernel_rfl))
 f20:=⟨Tryz.f218.name,by decide,Tryz.func218.trans (congrArg some (by kernel_rfl))⟩
 f21:=⟨Tryz.f219.name,by decide,Tryz.func219.trans (congrArg some (by kernel_rfl))⟩
 f22:=⟨Tryz.f220.name,by decide,Tryz.func220.trans (congrArg some (by kernel_rfl))⟩
 f23:=⟨Tryz.f221.name,by decide,Tryz.func221.trans (congrArg some (by kernel_rfl))⟩
 f24:=⟨Tryz.f222.name,by decide,Tryz.func222.trans (congrArg some (by kernel_rfl))⟩
 f25:=⟨Tryz.f223.name,by decide,Tryz.func223.trans (congrArg some (by kernel_rfl))⟩
 f26:=⟨Tryz.f224.name,by decide,Tryz.func224.trans (congrArg some (by kernel_rfl))⟩
 f27:=⟨Tryz.f225.name,by decide,Tryz.func225.trans (congrArg some (by kernel_rfl))⟩
 f28:=Tryz.func226.trans (congrArg some (by kernel_rfl))
 f29:=Tryz.func227.trans (congrArg some (by kernel_rfl))
 f46:=⟨Tryz.f253.name,by decide,Tryz.func253.trans (congrArg some (by kernel_rfl))⟩
 f47:=Tryz.func254.trans (congrArg some (by kernel_rfl))
 f48:=Tryz.func255.trans (congrArg some (by kernel_rfl))
 f49:=⟨Tryz.f256.name,by decide,Tryz.func256.trans (congrArg some (by kernel_rfl))⟩
 f50:=⟨Tryz.f257.name,by decide,Tryz.func257.trans (congrArg some (by kernel_rfl))⟩
 f57:=⟨Tryz.f275.name,by decide,Tryz.func275.trans (congrArg some (by kernel_rfl))⟩
 t0:=Tryz.underlying0
 a0:=Tryz.isAgg0
 z0:=Tryz.sizeOf0
 v0:=Tryz.zeroValue0
 t3:=Tryz.underlying3
 a3:=Tryz.isAgg3
 z3:=Tryz.sizeOf3
 v3:=Tryz.zeroValue3
 t4:=Tryz.underlying4
 a4:=Tryz.isAgg4
 z4:=Tryz.sizeOf4
 v4:=Tryz.zeroValue4
 t5:=Tryz.underlying5
 a5:=Tryz.isAgg5
 z5:=Tryz.sizeOf5
 v5:=Tryz.zeroValue5
 t9:=Tryz.underlying9
 a9:=Tryz.isAgg9
 z9:=Tryz.sizeOf9
 v9:=Tryz.zeroValue9
 t22:=Tryz.underlying66
 a22:=Tryz.isAgg66
 z22:=Tryz.sizeOf66
 v22:=Tryz.zeroValue66
 t25:=Tryz.underlying204
 a25:=Tryz.isAgg204
 z25:=Tryz.sizeOf204
 v25:=Tryz.zeroValue204
 t39:=Tryz.underlying268
 a39:=Tryz.isAgg268
 z39:=Tryz.sizeOf268
 v39:=Tryz.zeroValue268
 t45:=Tryz.underlying320
 a45:=Tryz.isAgg320
 z45:=Tryz.sizeOf320
 v45:=Tryz.zeroValue320
 t46:=Tryz.underlying321
 a46:=Tryz.isAgg321
 z46:=Tryz.sizeOf321
 v46:=Tryz.zeroValue321
 t50:=Tryz.underlying232
 a50:=Tryz.isAgg232
 z50:=Tryz.sizeOf232
 v50:=Tryz.zeroValue232
 t53:=Tryz.underlying327
 a53:=Tryz.isAgg327
 z53:=Tryz.sizeOf327
 v53:=Tryz.zeroValue327
 t55:=Tryz.underlying133
 a55:=Tryz.isAgg133
 z55:=Tryz.sizeOf133
 v55:=Tryz.zeroValue133
 t66:=Tryz.underlying361
 a66:=Tryz.isAgg361
 z66:=Tryz.sizeOf361
 v66:=Tryz.zeroValue361
 t70:=Tryz.underlying365
 a70:=Tryz.isAgg365
 z70:=Tryz.sizeOf365
 v70:=Tryz.zeroValue365
 t76:=Tryz.underlying383
 a76:=Tryz.isAgg383
 z76:=Tryz.sizeOf383
 v76:=Tryz.zeroValue383
 t77:=Tryz.underlying384
 a77:=Tryz.isAgg384
 z77:=Tryz.sizeOf384
 v77:=Tryz.zeroValue384 }
end Go.Proofs.YtgckjkocmkedfabGreat
