/- For every text and every number the law haspkeep.Least answers true, with no condition but that the program's tables read as its own text lays them: the tied card. -/
import Derived.Test.YtbjabpodkaokjaaGreatDoorDRi01
import Derived.Test.YtbjabpodkaokjaaGreatDoorKRi03
import Derived.Test.YtbjabpodkaokjaaGreatDoorKRi04
set_option linter.unusedVariables false
set_option linter.unusedSimpArgs false
set_option maxHeartbeats 4000000
set_option maxRecDepth 100000
namespace Go.Proofs.YtbjabpodkaokjaaGreatDoor
open Go
theorem told_c:ToldC:=fun w t c va vn h hok=>told_any w t c va vn h hok
theorem least_card:Rows.LeastCardSaid:=
 Claim7.holds_tied_plain_at .later [] _ _ _ _
  (least_said told_c) (fun _ h=>by cases h) (by kernel_rfl) (fun _ h=>by cases h) least_row_tie rfl ⟨rfl,rfl⟩ (by kernel_rfl) rfl
  (fun f fn hf hfn=>by
   obtain rfl : f = 6 := Option.some.inj ((show Tryz.prog.funcNamed "hasp/haspkeep.Least" = some 6 by kernel_rfl).symm.trans hf) |>.symm
   obtain rfl:fn=Tryz.f6:=(Option.some.inj (Tryz.func6.symm.trans hfn)).symm
   exact⟨by kernel_rfl,fun j t ht=>by
    rw[Tryz.params6] at ht
    have hm:t∈[9,3]:=by simpa using Array.mem_of_getElem? ht
    have hall:([9,3].all fun u=>!Tryz.prog.wantsStandIn u)=true:=by kernel_rfl
    exact(show Tryz.prog.wantsStandIn t=false by simpa using List.all_eq_true.1 hall t hm)⟩)
  (by kernel_rfl)
#print axioms least_card
end Go.Proofs.YtbjabpodkaokjaaGreatDoor
