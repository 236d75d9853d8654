import Derived.Test.YtbjabpodkaokjaaGreatDoorRows
import Derived.Test.YtbjabpodkaokjaaGreatDoorChecked
import Derived.JoinedCond
set_option linter.unusedVariables false
set_option linter.unusedSimpArgs false
namespace Go.Proofs.YtbjabpodkaokjaaGreatDoor
theorem machines_inPlace : (Rows.machinesUptoRow.inPlace == Tryz.prog.inPlace 3) = true := by kernel_rfl
theorem machines_unfollowed : (Rows.machinesUptoRow.unfollowed == Tryz.prog.unfollowed 3) = true := by kernel_rfl
theorem machines_recurses : (Rows.machinesUptoRow.recurses == Tryz.prog.recurses 3) = true := by kernel_rfl
theorem machines_named : (Rows.machinesUptoRow.named == Tryz.prog.varsNamed 3) = true := by kernel_rfl
end Go.Proofs.YtbjabpodkaokjaaGreatDoor
