import Derived.Test.YtmmcebojbbdfmaaGreatY4
import Derived.Test.YtmmcebojbbdfmaaGreatY3
import Derived.WalkKit
import Derived.BigCall
import Derived.Below
import Derived.Lib.OthersKept
set_option maxRecDepth 100000
set_option maxHeartbeats 16000000
namespace Go.Proofs.YtmmcebojbbdfmaaGreat
open Go.RowKit _root_.Go.Proofs.Tryz
variable {pos:Nat} {s:ByteArray}
def bl (s:ByteArray):List UInt8:=s.data.toList
def countOf (o:Option (List Nat)):Int:=match o with | none=>-1 | some l=>l.length
theorem dec_at (s:ByteArray) (pos:Nat):Utf8.decode s pos=dl ((bl s).drop pos):=decode_dl s pos
theorem aDc (s:ByteArray):(bl s).length=s.size:=(aFr s).symm
theorem aCd (h:pos<s.size):(bl s).drop pos≠[]:=by
 intro e;have h2:((bl s).drop pos).length=0:=by rw [e];rfl
 rw [List.length_drop,aDc] at h2;omega
theorem drop_end (h:¬ pos<s.size):(bl s).drop pos=[]:=List.drop_eq_nil_of_le (by rw [aDc];omega)
theorem pre_bad {W:Nat} (hp:pos<s.size) (hd:dl ((bl s).drop pos)=(65533,W)):Lib.hasPrefix (List.take (s.size-pos) (List.drop pos s.data.toList)) [239,191,189]=true↔W≠1:=by
 have e:List.take (s.size-pos) (List.drop pos s.data.toList)=(bl s).drop pos:=List.take_of_length_le (by rw [List.length_drop,aFr];exact Nat.le_refl _);have b:=bad_prefix (aCd hp) (by rw [hd]);rw [hd] at b;simp only [Prod.mk.injEq,true_and] at b;rw [e,Lib.hasPrefix,List.isPrefixOf_iff_prefix];constructor
 ·intro h1 h2;exact b.1 h2 h1
 ·intro h1;exact Classical.byContradiction fun h2=>h1 (b.2 h2)
theorem aBf (w:World) (s:ByteArray) (pos:Nat):Below w.heap.size w (w.iter s pos):=(Below.refl _ w).alloc (Nat.le_refl _) _
def Met (s:ByteArray) (pos:Nat) (pre:List Nat):Prop:=runes (bl s)=(runes ((bl s).drop pos)).map (pre++·)/\pre.length<=pos
theorem Met.start (s:ByteArray):Met s 0 []:=⟨by simp,by simp⟩
theorem Met.step {R W:Nat} {pre:List Nat} (h:Met s pos pre) (hp:pos<s.size) (hd:dl ((bl s).drop pos)=(R,W)) (hb:(R,W)≠(65533,1)):Met s (pos+W) (pre++[R]):=by
 have hw:=aCe (aCd hp);rw [hd] at hw;refine ⟨?_,by simp only [List.length_append,List.length_singleton];have:=h.2;omega⟩;rw [h.1,aD1 (aCd hp) (by rw [hd];exact hb),hd,List.drop_drop];simp [Option.map_map,Function.comp_def]
theorem Met.bad {pre:List Nat} (h:Met s pos pre) (hp:pos<s.size) (hd:dl ((bl s).drop pos)=(65533,1)):runes (bl s)=none:=by
 rw [h.1,runes_bad (aCd hp) hd];rfl
theorem Met.fin {pre:List Nat} (h:Met s pos pre) (hp:¬ pos<s.size):runes (bl s)=some pre:=by
 rw [h.1,drop_end hp,aDs];simp
theorem aEn (s:ByteArray) (w:World) (hs:s.size<=140737488355328) :
  Calls prog 90 #[.string s] w fun e w'=>e=.returned (.int .i64 (countOf (runes (bl s))))/\Below w.heap.size w w':=by
 go_enter func90,ntmps90;go_wp2;go_loopw [3] (fun c wr=>∃ (pos:Nat) (pre:List Nat),wr=w.iter s pos/\c=.int .i64 pre.length/\Met s pos pre/\pos<=s.size) (fun _ wr=>s.size-wr.iterPos w.heap.size)
 case atStart=>exact ⟨0,[],rfl,rfl,Met.start s,by omega⟩
 case round =>
  obtain ⟨pos,pre,rfl,rfl,hm,hps⟩:=hrel;have hpl:=hm.2;have HM:Hid (Met s pos pre):=hm;clear hm;by_cases hp:pos<s.size
  ·obtain ⟨R,W,hd⟩:∃ R W,dl ((bl s).drop pos)=(R,W):=⟨_,_,rfl⟩;have hw:=aCe (aCd hp);rw [hd] at hw;rw [List.length_drop,aDc] at hw;have hnx:∀ ty,(Instr.next (.pointer (some ⟨w.heap.size,0,none⟩)) true ty).run prog (w.iter s pos)=.ok (.tuple #[.bool true,.int .i64 pos,.int .i32 R]) (w.iter s (pos+W)):=fun ty=>by rw [run_next_any w s pos ty hp,dec_at,hd]
   have HD:Hid (dl ((bl s).drop pos)=(R,W)):=hd;clear hd;by_cases hR:R=65533
   ·subst hR;have hpb:=pre_bad hp HD.out;by_cases hW:W=1
    ·subst hW;have hpx:Lib.hasPrefix (List.take (s.size-pos) (List.drop pos s.data.toList)) [239,191,189]=false:=by
      cases hq:Lib.hasPrefix (List.take (s.size-pos) (List.drop pos s.data.toList)) [239,191,189] with
      | false=>rfl
      | true=>exact absurd rfl (hpb.1 hq)
     clear hpb;go_wp2_with (go_at_call 106;refine (strings_HasPrefix _ _ _).mono ?_;rintro e w1 ⟨rfl,rfl⟩);go_ret;rw [HM.out.bad hp HD.out];exact ⟨rfl,aBf w s _⟩
    ·have hpx:=hpb.2 hW;clear hpb;go_wp2_with (go_at_call 106;refine (strings_HasPrefix _ _ _).mono ?_;rintro e w1 ⟨rfl,rfl⟩);go_roundw
     case rel =>
      exact ⟨pos+W,pre++[65533],rfl,by simp only [List.length_append,List.length_singleton];go_num,HM.out.step hp HD.out (by simp [hW]),by omega⟩
     case measure =>
      simp;omega
   ·have hR':((R:Int) == 65533)=false:=by simp;omega
    go_wp2;go_roundw
    case rel =>
     exact ⟨pos+W,pre++[R],rfl,by simp only [List.length_append,List.length_singleton];go_num,HM.out.step hp HD.out (by simp [hR]),by omega⟩
    case measure =>
     simp;omega
  ·have hnx:∀ ty,(Instr.next (.pointer (some ⟨w.heap.size,0,none⟩)) true ty).run prog (w.iter s pos)=_:=fun ty=>run_next_end w s pos ty hp
   go_wp2;go_ret;rw [HM.out.fin hp];exact ⟨rfl,aBf w s pos⟩
end Go.Proofs.YtmmcebojbbdfmaaGreat
