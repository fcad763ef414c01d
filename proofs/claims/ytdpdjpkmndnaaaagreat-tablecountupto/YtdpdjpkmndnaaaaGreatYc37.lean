import Derived.Shelf.SlSortCmp.WholeK
import Derived.Ground.SlsfProg
import Derived.Test.YtdpdjpkmndnaaaaGreatProg
import Derived.Test.YtdpdjpkmndnaaaaGreatYc35
import Derived.Test.YtdpdjpkmndnaaaaGreatYc22
import Derived.Lib.AppendZerosOnto
set_option maxRecDepth 100000
set_option maxHeartbeats 16000000
set_option linter.unusedVariables false
namespace Go.Proofs.YtdpdjpkmndnaaaaGreat
open Go.RowKit _root_.Go.Proofs.Tryz
variable {g:Nat} {w:World}
def lfP (g:Nat):Value:=.iface 331 (.pointer (some ⟨g,0,none⟩))
def brP (g:Nat):Value:=.iface 302 (.pointer (some ⟨g,0,none⟩))
theorem aDw {iv:Value} (h:w.heap[g]?=some (.cells #[iv] 330 (0,0))) :
  Calls prog 188 #[lfP g] w fun e w'=>e=.returned iv/\w'=w:=by
 have t1:=aDf (.pointer (some ⟨g,0,none⟩)) w;have t2:=asr_leaf (.pointer (some ⟨g,0,none⟩)) w;have r0:w.cell? ⟨g,0,none⟩=some iv:=aAc h;unfold lfP;clear h;go_enter func188,ntmps188;go_wp2;go_ret;exact ⟨rfl,rfl⟩
theorem aCn {iv cv:Value} (h:w.heap[g]?=some (.cells #[iv,cv] 306 (0,0))) :
  Calls prog 188 #[brP g] w fun e w'=>e=.returned iv/\w'=w:=by
 have t1:=aCo (.pointer (some ⟨g,0,none⟩)) w;have r0:w.cell? ⟨g,0,none⟩=some iv:=aAc h;unfold brP;clear h;go_enter func188,ntmps188;go_wp2;go_ret;exact ⟨rfl,rfl⟩
def plC (l:List Nat):List Value:=l.map fun (i:Nat)=>Value.int .i64 (i:Int)
def Ex (B:Nat) (S:List Nat) (w w':World):Prop:=Below B w w'/\∀ k,k<w.heap.size->k∉S->w'.heap[k]?=w.heap[k]?
structure PgI (s:DS) (t:PS) (i:Nat) (b:List Nat):Prop where
 lt:i<s.n
 of:t.of (i:Int)=2
 pg:pageOf (pad (s.show i))=some b
 ln:b.length<=8192
 bt:∀ c∈b,c<256
structure ItsOk (l:List It):Prop where
 n1:1<=l.length
 n4:l.length<=4
 ok:∀ x∈l,ItOk x
 so:Srt l
def OnD (s:DS) (t:PS):(h:Nat)->BT h->Prop
 | 0,b=>PgI s t b.1 (leafB b.2)/\ItsOk b.2
 | h+1,b=>PgI s t b.1 (branB b.2.1 (b.2.2.map BT.id))/\ItsOk b.2.1/\b.2.2.length=b.2.1.length+1/\(∀ k∈b.2.2,BT.id k<9223372036854775808)/\∀ k∈b.2.2,OnD s t h k
end Go.Proofs.YtdpdjpkmndnaaaaGreat
set_option maxRecDepth 100000
set_option maxHeartbeats 16000000
namespace Go.Proofs.YtdpdjpkmndnaaaaGreat
open Go.Shelf _root_.Go.Proofs.Tryz
def sortC_ren:Go.Shelf.Ren:=⟨fun | 6=>124 | 15=>165 | 14=>164 | 28=>203 | 29=>204 | 20=>195 | 21=>196 | 22=>197 | 23=>198 | 24=>199 | 25=>200 | 26=>201 | 27=>202 | 46=>221 | 47=>222 | 48=>223 | 49=>224 | 50=>225 | 57=>238 | n=>n,fun | 22=>122 | 24=>164 | 25=>224 | 3=>3 | 39=>235 | 0=>0 | 53=>319 | 55=>137 | 4=>4 | 46=>313 | 45=>312 | 50=>156 | 5=>5 | 9=>9 | 66=>335 | 70=>339 | 76=>361 | 77=>362 | n=>n,fun | n=>n⟩
theorem sortC:Go.Proofs.SlLaysF0.n6 prog sortC_ren:={
 mixed:=by kernel_rfl
 f6:=⟨f124.name,by decide,func124.trans (congrArg some (by kernel_rfl))⟩
 f14:=⟨f164.name,by decide,func164.trans (congrArg some (by kernel_rfl))⟩
 f15:=func165.trans (congrArg some (by kernel_rfl))
 f20:=⟨f195.name,by decide,func195.trans (congrArg some (by kernel_rfl))⟩
 f21:=⟨f196.name,by decide,func196.trans (congrArg some (by kernel_rfl))⟩
 f22:=⟨f197.name,by decide,func197.trans (congrArg some (by kernel_rfl))⟩
 f23:=⟨f198.name,by decide,func198.trans (congrArg some (by kernel_rfl))⟩
 f24:=⟨f199.name,by decide,func199.trans (congrArg some (by kernel_rfl))⟩
 f25:=⟨f200.name,by decide,func200.trans (congrArg some (by kernel_rfl))⟩
 f26:=⟨f201.name,by decide,func201.trans (congrArg some (by kernel_rfl))⟩
 f27:=⟨f202.name,by decide,func202.trans (congrArg some (by kernel_rfl))⟩
 f28:=func203.trans (congrArg some (by kernel_rfl))
 f29:=func204.trans (congrArg some (by kernel_rfl))
 f46:=⟨f221.name,by decide,func221.trans (congrArg some (by kernel_rfl))⟩
 f47:=func222.trans (congrArg some (by kernel_rfl))
 f48:=func223.trans (congrArg some (by kernel_rfl))
 f49:=⟨f224.name,by decide,func224.trans (congrArg some (by kernel_rfl))⟩
 f50:=⟨f225.name,by decide,func225.trans (congrArg some (by kernel_rfl))⟩
 f57:=⟨f238.name,by decide,func238.trans (congrArg some (by kernel_rfl))⟩
 t0:=underlying0
 a0:=isAgg0
 z0:=sizeOf0
 v0:=zeroValue0
 t3:=underlying3
 a3:=isAgg3
 z3:=sizeOf3
 v3:=zeroValue3
 t4:=underlying4
 a4:=isAgg4
 z4:=sizeOf4
 v4:=zeroValue4
 t5:=underlying5
 a5:=isAgg5
 z5:=sizeOf5
 v5:=zeroValue5
 t9:=underlying9
 a9:=isAgg9
 z9:=sizeOf9
 v9:=zeroValue9
 t22:=underlying122
 a22:=isAgg122
 z22:=sizeOf122
 v22:=zeroValue122
 t25:=underlying224
 a25:=isAgg224
 z25:=sizeOf224
 v25:=zeroValue224
 t39:=underlying235
 a39:=isAgg235
 z39:=sizeOf235
 v39:=zeroValue235
 t45:=underlying312
 a45:=isAgg312
 z45:=sizeOf312
 v45:=zeroValue312
 t46:=underlying313
 a46:=isAgg313
 z46:=sizeOf313
 v46:=zeroValue313
 t50:=underlying156
 a50:=isAgg156
 z50:=sizeOf156
 v50:=zeroValue156
 t53:=underlying319
 a53:=isAgg319
 z53:=sizeOf319
 v53:=zeroValue319
 t55:=underlying137
 a55:=isAgg137
 z55:=sizeOf137
 v55:=zeroValue137
 t66:=underlying335
 a66:=isAgg335
 z66:=sizeOf335
 v66:=zeroValue335
 t70:=underlying339
 a70:=isAgg339
 z70:=sizeOf339
 v70:=zeroValue339
 t76:=underlying361
 a76:=isAgg361
 z76:=sizeOf361
 v76:=zeroValue361
 t77:=underlying362
 a77:=isAgg362
 z77:=sizeOf362
 v77:=zeroValue362 }
end Go.Proofs.YtdpdjpkmndnaaaaGreat
