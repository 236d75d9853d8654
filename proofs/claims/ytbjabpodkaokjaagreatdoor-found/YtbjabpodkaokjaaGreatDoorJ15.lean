import Derived.WalkKit
import Derived.Maps.AppendAt
import Derived.Deep.RegionLaw
import Derived.Deep.Draws
import Derived.Below
set_option linter.unusedVariables false
set_option linter.unusedSimpArgs false
set_option maxHeartbeats 4000000
set_option maxRecDepth 100000
namespace Go.Proofs.YtbjabpodkaokjaaGreatDoor.Sx
open Go
theorem wp_scope_once {P:Program} {a:Act} {w:World} {Q:Exit→Act→World→Prop} {c rest:Code} (l:Nat)(J:Act→World→Prop)(μ:Act→World→Nat)
  (hf:findLabel c l=some(Code.skip.seq rest))
  (first:(∀ a w,J a w→rest.wp P(Exit.jump l J Q)a w)→c.wp P(Exit.jump l J Q)a w)
  (pass:∀ a w,J a w→rest.wp P(Exit.jump l(fun a' w'=>J a' w'∧μ a' w'<μ a w)Q)a w):(Code.scope c).wp P Q a w:=by
 refine wp_scope_jumps l J μ hf(first fun a w hJ=>?_)(fun a w hJ=>?_)
 ·refine wp_mono(pass a w hJ)?_
  intro e a' w' h
  cases e<;>first|exact h|exact⟨h.1,h.2.1⟩
 ·apply wp_seq
  apply wp_skip
  exact pass a w hJ
end Go.Proofs.YtbjabpodkaokjaaGreatDoor.Sx
