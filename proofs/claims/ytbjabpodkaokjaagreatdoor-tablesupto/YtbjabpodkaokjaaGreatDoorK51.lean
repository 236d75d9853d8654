import Derived.Test.YtbjabpodkaokjaaGreatDoorK50
set_option linter.unusedVariables false
set_option linter.unusedSimpArgs false
namespace Go.Proofs.YtbjabpodkaokjaaGreatDoor
set_option maxHeartbeats 8000000 in
theorem tables_closed : joinedFacts Tryz.prog 4 Tryz.f4 (Rows.OpenSpec.upto Rows.tablesSpec).bare Rows.tablesUptoRow = true := by
  unfold joinedFacts
  simp only [Bool.and_eq_true]
  repeat' apply And.intro
  all_goals first | with_reducible exact tables_inPlace | with_reducible exact tables_unfollowed | with_reducible exact tables_recurses | with_reducible exact tables_named | (as_aux_lemma => kernel_rfl)
end Go.Proofs.YtbjabpodkaokjaaGreatDoor
