import Derived.Test.YtbjabpodkaokjaaGreatDoorJ20
set_option linter.unusedVariables false
set_option linter.unusedSimpArgs false
namespace Go.Proofs.YtbjabpodkaokjaaGreatDoor

end Go.Proofs.YtbjabpodkaokjaaGreatDoor

