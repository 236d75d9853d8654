/- For every list of raw numbers, every number and every list of letters the law haspkeep.Found answers true, with no condition but that the program's tables read as its own text lays them: the tied card. -/
import Derived.Test.YtbjabpodkaokjaaGreatDoorDFp01
import Derived.Test.YtbjabpodkaokjaaGreatDoorKFp01
set_option linter.unusedVariables false
set_option linter.unusedSimpArgs false
set_option maxHeartbeats 4000000
set_option maxRecDepth 100000
namespace Go.Proofs.YtbjabpodkaokjaaGreatDoor
open Go
theorem found_card:Rows.FoundCardSaid:=
 Claim7.holds_tied_plain_at .later [] _ _ _ _
  found_said (fun _ h=>by cases h) (by kernel_rfl) (fun _ h=>by cases h) found_row_tie rfl ⟨rfl,rfl⟩ (by kernel_rfl) rfl
  (fun f fn hf hfn=>by
   obtain rfl : f = 9 := Option.some.inj ((show Tryz.prog.funcNamed "hasp/haspkeep.Found" = some 9 by kernel_rfl).symm.trans hf) |>.symm
   obtain rfl:fn=Tryz.f9:=(Option.some.inj (Tryz.func9.symm.trans hfn)).symm
   exact⟨by kernel_rfl,fun j t ht=>by
    rw[Tryz.params9] at ht
    have hm:t∈[40,3,40]:=by simpa using Array.mem_of_getElem? ht
    have hall:([40,3,40].all fun u=>!Tryz.prog.wantsStandIn u)=true:=by kernel_rfl
    exact(show Tryz.prog.wantsStandIn t=false by simpa using List.all_eq_true.1 hall t hm)⟩)
  (by kernel_rfl)
#print axioms found_card
end Go.Proofs.YtbjabpodkaokjaaGreatDoor
