import Derived.Test.YtbjabpodkaokjaaGreatDoorS07
import Derived.BigGuard
set_option linter.unusedVariables false
set_option linter.unusedSimpArgs false
set_option maxHeartbeats 4000000
set_option maxRecDepth 100000
namespace Go.Proofs.YtbjabpodkaokjaaGreatDoor
open Go.RowKit
structure SpK (w:World) (ob:Obj) (W:World):Prop where
 b:Below w.heap.size w W
 k:W.heap[w.heap.size]?=some ob
theorem SpK.next {w W W':World}{ob:Obj} (h:SpK w ob W) (hb:Below W.heap.size W W'):SpK w ob W':=⟨h.b.trans (hb.mono h.b.size),(hb.block _ (some_lt h.k)).trans h.k⟩
theorem SpK.alloc {w W:World}{ob:Obj} (h:SpK w ob W) (x:Obj):SpK w ob (W.alloc x):=h.next ((Below.refl _ _).alloc (Nat.le_refl _) _)
end Go.Proofs.YtbjabpodkaokjaaGreatDoor
