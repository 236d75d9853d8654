import Derived.KernelRfl
import Derived.Test.YtbjabpodkaokjaaGreatDoorChecked
import GoSem.Claim
import GoSem.ClaimJoined
import GoSem.ClaimMapViews
import Derived.RowKit
import Derived.WalkKit
import Derived.WalkSpells
import Derived.WalkLawsBesides
import Derived.Deep.Light
set_option linter.unusedVariables false
set_option linter.unusedSimpArgs false
set_option maxHeartbeats 4000000
set_option maxRecDepth 100000
namespace Go.Proofs.YtbjabpodkaokjaaGreatDoor.Sx
structure Md where
 M:Int
 Depth:Int
 Most:Int
 Class:Bool
 Low:Int
 Value:Int
 Least:Int
 N:Int
deriving DecidableEq,Inhabited
def signs14:List Int:=[92,46,91,93,40,41,123,125,124,42,43,63,94,36]
def isSignB (c:Int):Bool:=signs14.contains c
open Go.RowKit
abbrev mv8 (M D Mo:Int) (C:Bool) (L V Le N:Int):Value:=.agg #[.int .i64 M,.int .i64 D,.int .i64 Mo,.bool C,.int .i64 L,.int .i64 V,.int .i64 Le,.int .i64 N]
abbrev mv (m:Md):Value:=mv8 m.M m.Depth m.Most m.Class m.Low m.Value m.Least m.N
theorem ret_bool {a b:Bool} (h:a=b):Ending.returned (.bool a)=.returned (.bool b):=by rw[h]
theorem isSign_of_at (k:Nat) (h:k<14) (c:Int) (e:signs14.getD k 0=c):isSignB c=true:=by
 have H:∀ i:Fin 14,isSignB (signs14.getD i.val 0)=true:=by decide
 rw[←e];exact H ⟨k,h⟩
theorem isSign_none (c:Int) (h:∀ j,j<14→signs14.getD j 0≠c):isSignB c=false:=by
 have g:=fun j (hj:j<14)=>h j hj
 have:=g 0 (by decide);have:=g 1 (by decide);have:=g 2 (by decide);have:=g 3 (by decide);have:=g 4 (by decide)
 have:=g 5 (by decide);have:=g 6 (by decide);have:=g 7 (by decide);have:=g 8 (by decide);have:=g 9 (by decide)
 have:=g 10 (by decide);have:=g 11 (by decide);have:=g 12 (by decide);have:=g 13 (by decide)
 clear g h
 simp[signs14] at *
 simp[isSignB,signs14]
 omega
end Go.Proofs.YtbjabpodkaokjaaGreatDoor.Sx
