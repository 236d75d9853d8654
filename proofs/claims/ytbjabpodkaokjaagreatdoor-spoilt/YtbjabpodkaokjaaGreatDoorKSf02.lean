/- For every list of raw numbers, every three numbers and every four masks the law haspkeep.Spoilt answers true, with no condition but that the program's tables read as its own text lays them: the tied card. -/
import Derived.Test.YtbjabpodkaokjaaGreatDoorDSf01
import Derived.Test.YtbjabpodkaokjaaGreatDoorKSf01
set_option linter.unusedVariables false
set_option linter.unusedSimpArgs false
set_option maxHeartbeats 4000000
set_option maxRecDepth 100000
namespace Go.Proofs.YtbjabpodkaokjaaGreatDoor
open Go
theorem spoilt_card:Rows.SpoiltCardSaid:=
 Claim7.holds_tied_plain_at .later [] _ _ _ _
  spoilt_said (fun _ h=>by cases h) (by kernel_rfl) (fun _ h=>by cases h) spoilt_row_tie rfl ⟨rfl,rfl⟩ (by kernel_rfl) rfl
  (fun f fn hf hfn=>by
   obtain rfl : f = 10 := Option.some.inj ((show Tryz.prog.funcNamed "hasp/haspkeep.Spoilt" = some 10 by kernel_rfl).symm.trans hf) |>.symm
   obtain rfl:fn=Tryz.f10:=(Option.some.inj (Tryz.func10.symm.trans hfn)).symm
   exact⟨by kernel_rfl,fun j t ht=>by
    rw[Tryz.params10] at ht
    have hm:t∈[40,3,3,3,72]:=by simpa using Array.mem_of_getElem? ht
    have hall:([40,3,3,3,72].all fun u=>!Tryz.prog.wantsStandIn u)=true:=by kernel_rfl
    exact(show Tryz.prog.wantsStandIn t=false by simpa using List.all_eq_true.1 hall t hm)⟩)
  (by kernel_rfl)
#print axioms spoilt_card
end Go.Proofs.YtbjabpodkaokjaaGreatDoor
