import Derived.Test.YtbjabpodkaokjaaGreatDoorRows
import Derived.Test.YtbjabpodkaokjaaGreatDoorChecked
import Derived.JoinedCond
set_option linter.unusedVariables false
set_option linter.unusedSimpArgs false
namespace Go.Proofs.YtbjabpodkaokjaaGreatDoor
theorem tables_inPlace : (Rows.tablesUptoRow.inPlace == Tryz.prog.inPlace 4) = true := by kernel_rfl
theorem tables_unfollowed : (Rows.tablesUptoRow.unfollowed == Tryz.prog.unfollowed 4) = true := by kernel_rfl
theorem tables_recurses : (Rows.tablesUptoRow.recurses == Tryz.prog.recurses 4) = true := by kernel_rfl
theorem tables_named : (Rows.tablesUptoRow.named == Tryz.prog.varsNamed 4) = true := by kernel_rfl
end Go.Proofs.YtbjabpodkaokjaaGreatDoor
