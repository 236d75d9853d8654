/- For every text and every two numbers the law haspkeep.Limits answers true, with no condition but that the program's tables read as its own text lays them: the tied card. -/
import Derived.Test.YtbjabpodkaokjaaGreatDoorDQj01
import Derived.Test.YtbjabpodkaokjaaGreatDoorKQj02
set_option linter.unusedVariables false
set_option linter.unusedSimpArgs false
set_option maxHeartbeats 4000000
set_option maxRecDepth 100000
namespace Go.Proofs.YtbjabpodkaokjaaGreatDoor
open Go
theorem limits_card:Rows.LimitsCardSaid:=
 Claim7.holds_tied_plain_at .later [] _ _ _ _
  limits_said (fun _ h=>by cases h) (by kernel_rfl) (fun _ h=>by cases h) limits_row_tie rfl ⟨rfl,rfl⟩ (by kernel_rfl) rfl
  (fun f fn hf hfn=>by
   obtain rfl : f = 7 := Option.some.inj ((show Tryz.prog.funcNamed "hasp/haspkeep.Limits" = some 7 by kernel_rfl).symm.trans hf) |>.symm
   obtain rfl:fn=Tryz.f7:=(Option.some.inj (Tryz.func7.symm.trans hfn)).symm
   exact⟨by kernel_rfl,fun j t ht=>by
    rw[Tryz.params7] at ht
    have hm:t∈[9,3,3]:=by simpa using Array.mem_of_getElem? ht
    have hall:([9,3,3].all fun u=>!Tryz.prog.wantsStandIn u)=true:=by kernel_rfl
    exact(show Tryz.prog.wantsStandIn t=false by simpa using List.all_eq_true.1 hall t hm)⟩)
  (by kernel_rfl)
#print axioms limits_card
end Go.Proofs.YtbjabpodkaokjaaGreatDoor
