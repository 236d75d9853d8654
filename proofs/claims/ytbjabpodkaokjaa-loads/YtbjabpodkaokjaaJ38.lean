import Derived.Test.YtbjabpodkaokjaaJ30
import Derived.Test.YtbjabpodkaokjaaJ31
import Derived.Test.YtbjabpodkaokjaaJ32
import Derived.Test.YtbjabpodkaokjaaJ33
import Derived.Test.YtbjabpodkaokjaaJ34
import Derived.Test.YtbjabpodkaokjaaJ35
import Derived.Test.YtbjabpodkaokjaaJ36
import Derived.Test.YtbjabpodkaokjaaJ37
set_option linter.unusedVariables false
set_option linter.unusedSimpArgs false
namespace Go.Proofs.Ytbjabpodkaokjaa
open Go.RowKit

theorem encode_ref (w : World) (t : Tb) (c : Nat) (va vn : Value) (kind : Nat) (big : Bool) (hk : kind ≤ 1) (h : TabIn w t va vn) (hok : TbOk t c) :
    Calls Try.prog 22 #[tv t va vn, .int .i64 kind, .bool big] w fun e w' => e = .returned (.string (ba (enc t kind big))) ∧ Below w.heap.size w w' := by
  cases hf : t.front <;> cases hb : t.back <;> cases hg : big
  · exact encode_fff w t c va vn kind _ hk h hok hf hb rfl
  · exact encode_fft w t c va vn kind _ hk h hok hf hb rfl
  · exact encode_ftf w t c va vn kind _ hk h hok hf hb rfl
  · exact encode_ftt w t c va vn kind _ hk h hok hf hb rfl
  · exact encode_tff w t c va vn kind _ hk h hok hf hb rfl
  · exact encode_tft w t c va vn kind _ hk h hok hf hb rfl
  · exact encode_ttf w t c va vn kind _ hk h hok hf hb rfl
  · exact encode_ttt w t c va vn kind _ hk h hok hf hb rfl
end Go.Proofs.Ytbjabpodkaokjaa
