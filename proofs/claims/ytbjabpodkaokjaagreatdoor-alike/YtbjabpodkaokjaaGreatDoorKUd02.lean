/- For every two lists of raw numbers and every two numbers the law haspkeep.Alike answers true, with no condition but that the program's tables read as its own text lays them: the tied card. -/
import Derived.Test.YtbjabpodkaokjaaGreatDoorDUd01
import Derived.Test.YtbjabpodkaokjaaGreatDoorKUd01
set_option linter.unusedVariables false
set_option linter.unusedSimpArgs false
set_option maxHeartbeats 4000000
set_option maxRecDepth 100000
namespace Go.Proofs.YtbjabpodkaokjaaGreatDoor
open Go
theorem alike_card:Rows.AlikeCardSaid:=
 Claim7.holds_tied_plain_at .later [] _ _ _ _
  alike_said (fun _ h=>by cases h) (by kernel_rfl) (fun _ h=>by cases h) alike_row_tie rfl ⟨rfl,rfl⟩ (by kernel_rfl) rfl
  (fun f fn hf hfn=>by
   obtain rfl : f = 8 := Option.some.inj ((show Tryz.prog.funcNamed "hasp/haspkeep.Alike" = some 8 by kernel_rfl).symm.trans hf) |>.symm
   obtain rfl:fn=Tryz.f8:=(Option.some.inj (Tryz.func8.symm.trans hfn)).symm
   exact⟨by kernel_rfl,fun j t ht=>by
    rw[Tryz.params8] at ht
    have hm:t∈[40,40,3,3]:=by simpa using Array.mem_of_getElem? ht
    have hall:([40,40,3,3].all fun u=>!Tryz.prog.wantsStandIn u)=true:=by kernel_rfl
    exact(show Tryz.prog.wantsStandIn t=false by simpa using List.all_eq_true.1 hall t hm)⟩)
  (by kernel_rfl)
#print axioms alike_card
end Go.Proofs.YtbjabpodkaokjaaGreatDoor
