/- For every text and every number the law hasplaw.Compiles answers true, with no condition but that the program's tables read as its own text lays them: the tied card. -/
import Derived.Test.YtbjabpodkaokjaaGreatDoorCC39
set_option linter.all false
set_option maxHeartbeats 4000000
set_option maxRecDepth 100000
open List Nat Go.World Go.Proofs.Tryz
namespace Go.Proofs.YtbjabpodkaokjaaGreatDoor
open Go
theorem compiles_card:Rows.CompilesCardSaid:=
 Claim7.holds_tied_plain_at .later [] _ _ _ _
  sS (λ_ h=>by cases h) κ (λ_ h=>by cases h) compiles_row_tie rfl ⟨rfl,rfl⟩ κ rfl
  (λf fn hf hfn=>by
   obtain rfl : f = 5 := Option.some.inj ((show Tryz.prog.funcNamed "hasp/hasplaw.Compiles" = some 5 by kernel_rfl).symm.trans hf) |>.symm
   obtain rfl:fn=f5:=(Option.some.inj (func5.symm.trans hfn)).symm
   exact⟨κ,λj t ht=>by
    rw[params5] at ht;have hm:t∈[9,3]:=by simpa using Array.mem_of_getElem? ht
    have hall:([9,3].all λu=>!prog.wantsStandIn u)=true:=κ
    exact(show prog.wantsStandIn t=false by simpa using all_eq_true.1 hall t hm)⟩)
  κ
#print axioms compiles_card
end Go.Proofs.YtbjabpodkaokjaaGreatDoor
