import Derived.Test.YtbjabpodkaokjaaJ25
import Derived.Test.YtbjabpodkaokjaaJ26
set_option linter.unusedVariables false
set_option linter.unusedSimpArgs false
namespace Go.Proofs.Ytbjabpodkaokjaa
open Go.RowKit

theorem rnum1z (w : World) (n : Nat) (z : Int) (hz : z = (n : Int)) (hn : n < 4294967296) (big : Bool) :
    Calls Try.prog 36 #[.int .i64 z, .int .i64 1, .bool big] w fun e w' => e = .returned (.string (ba [UInt8.ofNat n])) ∧ Below w.heap.size w w' := by
  subst hz
  rw [← numL1 big n]
  exact rnum1 w n hn big
theorem rnum4z (w : World) (n : Nat) (hn : n < 4294967296) (big : Bool) :
    Calls Try.prog 36 #[.int .i64 n, .int .i64 4, .bool big] w fun e w' => e = .returned (.string (ba (num4 big n))) ∧ Below w.heap.size w w' := by
  rw [← numL4 big n]
  exact rnum4 w n hn big
theorem row_ref (w : World) (big : Bool) (v : Value) (zs : List Int) (kind : Nat) (z : Int) (hz : z = (kind : Int)) (hk : kind ≤ 1) (hv : RowE eI w v zs) (hl : zs.length ≤ 256) (ho : ∀ z ∈ zs, okZ z) :
    Calls Try.prog 38 #[v, .int .i64 z, .bool big] w fun e w' => e = .returned (.string (ba (wrRow kind big zs))) ∧ Below w.heap.size w w' := by
  subst hz
  rcases (show kind = 0 ∨ kind = 1 by omega) with rfl | rfl
  · exact dense_ref w big v zs hv hl ho
  · exact sparse_ref w big v zs hv hl ho
def fl2 (f b : Bool) : Nat := bt f + 2 * bt b
end Go.Proofs.Ytbjabpodkaokjaa
