import Derived.Test.YtbjabpodkaokjaaGreatDoorJ50
set_option linter.unusedVariables false
set_option linter.unusedSimpArgs false
namespace Go.Proofs.YtbjabpodkaokjaaGreatDoor
set_option maxHeartbeats 8000000 in
theorem machines_closed : joinedFacts Tryz.prog 3 Tryz.f3 (Rows.OpenSpec.upto Rows.machinesSpec).bare Rows.machinesUptoRow = true := by
  unfold joinedFacts
  simp only [Bool.and_eq_true]
  repeat' apply And.intro
  all_goals first | with_reducible exact machines_inPlace | with_reducible exact machines_unfollowed | with_reducible exact machines_recurses | with_reducible exact machines_named | (as_aux_lemma => kernel_rfl)
end Go.Proofs.YtbjabpodkaokjaaGreatDoor
