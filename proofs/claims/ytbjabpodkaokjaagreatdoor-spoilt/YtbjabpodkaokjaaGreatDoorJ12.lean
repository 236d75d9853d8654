import Derived.KernelRfl
import Derived.Test.YtbjabpodkaokjaaGreatDoorRows
import Derived.WalkKit
import Derived.WalkSpells
import Derived.WalkLawsBesides
import Derived.Deep.Light
set_option linter.unusedVariables false
set_option linter.unusedSimpArgs false
namespace Go.Proofs.YtbjabpodkaokjaaGreatDoor.Sx

structure Md where
 M:Int
 Depth:Int
 Most:Int
 Class:Bool
 Low:Int
 Value:Int
 Least:Int
 N:Int
deriving DecidableEq,Inhabited

def hexv (c:Int):Int:=if 48 ≤ c then (if c ≤ 57 then c - 48 else if 97 ≤ c then (if c ≤ 102 then c - 97 + 10 else -1) else -1) else -1

def signs14:List Int:=[92,46,91,93,40,41,123,125,124,42,43,63,94,36]
def isSignB (c:Int):Bool:=signs14.contains c

def Md.to (m:Md) (k:Int):Md:={ m with M:=k }
def Md.byteItem (m:Md) (v:Int):Md :=
 if 0 ≤ m.Low then (if v < m.Low then m.to 16 else { m with Low:=-1,M:=9 })
 else { m with Value:=v,M:=8 }
def Md.one (m:Md) (v:Int):Md:=if m.Class then m.byteItem v else m.to 2
def Md.escape (m:Md) (c:Int):Md :=
 if isSignB c || c == 45 then m.one c
 else if c == 110 then m.one 10
 else if c == 116 then m.one 9
 else if c == 120 then m.to 4
 else if (c == 100 || c == 119 || c == 115) && !m.Class then m.to 2
 else if (c == 100 || c == 119 || c == 115) && m.Low < 0 then m.to 9
 else m.to 16
def Md.cls (m:Md) (c:Int):Md :=
 if c == 94 && m.M == 6 then m.to 7
 else if c == 92 then { m with Class:=true,M:=3 }
 else if c == 93 && (m.M == 8 || m.M == 9) then { m with Class:=false,M:=2 }
 else if c == 45 && m.M == 8 then { m with Low:=m.Value,M:=10 }
 else if c == 91 || c == 93 || c == 94 || c == 45 then m.to 16
 else m.byteItem c
def reachesB (v lo:Int):Bool:=(List.range 31).any fun n => decide (lo ≤ n) && (n == v || (decide (0 < v) && (n:Int) / 10 == v))
def Md.count (m:Md) (c:Int):Md :=
 let digit:=decide (48 ≤ c) && decide (c ≤ 57)
 let v:=(if digit then c - 48 else 0) + (if m.M == 12 || m.M == 14 then 10 * m.N else 0)
 let lo:=if m.M == 13 || m.M == 14 then m.Least else 0
 let fits:=reachesB v lo
 if digit && fits && (m.M == 11 || m.M == 13) then { m with N:=v,M:=m.M + 1 }
 else if digit && fits && decide (0 < m.N) && (m.M == 12 || m.M == 14) then { m with N:=v }
 else if c == 44 && m.M == 12 then { m with Least:=m.N,M:=13 }
 else if c == 125 && (m.M == 12 || m.M == 13 || (m.M == 14 && decide (m.Least ≤ m.N))) then m.to 2
 else m.to 16
def Md.group (m:Md) (c:Int):Md :=
 if c == 40 then { m with Depth:=m.Depth + 1,Most:=if m.Most < m.Depth + 1 then m.Depth + 1 else m.Most,M:=1 }
 else if m.Depth == 0 then m.to 16
 else { m with Depth:=m.Depth - 1,M:=2 }
def Md.chain (m:Md) (c:Int):Md :=
 if c == 94 then (if m.M == 0 then m.to 1 else m.to 16)
 else if c == 36 then (if m.Depth == 0 then m.to 15 else m.to 16)
 else if c == 124 then m.to 1
 else if c == 40 || c == 41 then m.group c
 else if c == 91 then { m with Low:=-1,M:=6 }
 else if c == 92 then { m with Class:=false,Low:=-1,M:=3 }
 else if c == 42 || c == 43 || c == 63 then (if m.M == 2 then m else m.to 16)
 else if c == 123 then (if m.M == 2 then m.to 11 else m.to 16)
 else if c == 125 || c == 93 then m.to 16
 else m.to 2
def Md.step (m:Md) (c:Int):Md :=
 if m.M == 0 || m.M == 1 || m.M == 2 then m.chain c
 else if m.M == 3 then m.escape c
 else if m.M == 4 then (if hexv c < 0 || 16 * hexv c + 15 < m.Low then m.to 16 else { m with Value:=hexv c,M:=5 })
 else if m.M == 5 then (if hexv c < 0 || 16 * m.Value + hexv c < m.Low then m.to 16 else m.one (16 * m.Value + hexv c))
 else if m.M == 6 || m.M == 7 || m.M == 8 || m.M == 9 then m.cls c
 else if m.M == 10 then (if c == 92 then { m with Class:=true,M:=3 } else if c == 91 || c == 93 || c == 94 || c == 45 then m.to 16 else m.byteItem c)
 else if m.M == 11 || m.M == 12 || m.M == 13 || m.M == 14 then m.count c
 else m.to 16

end Go.Proofs.YtbjabpodkaokjaaGreatDoor.Sx

namespace Go.Proofs.YtbjabpodkaokjaaGreatDoor.Sx
open Go.RowKit

abbrev mv8 (M D Mo:Int) (C:Bool) (L V Le N:Int):Value:=.agg #[.int .i64 M,.int .i64 D,.int .i64 Mo,.bool C,.int .i64 L,.int .i64 V,.int .i64 Le,.int .i64 N]
abbrev mv (m:Md):Value:=mv8 m.M m.Depth m.Most m.Class m.Low m.Value m.Least m.N

theorem ret_bool {a b:Bool} (h:a = b):Ending.returned (.bool a) = .returned (.bool b):=by rw [h]
end Go.Proofs.YtbjabpodkaokjaaGreatDoor.Sx

namespace Go.Proofs.YtbjabpodkaokjaaGreatDoor.Sx
open Go.RowKit

theorem isSign_of_at (k:Nat) (h:k < 14) (c:Int) (e:signs14.getD k 0 = c):isSignB c = true:=by
 have H:∀ i:Fin 14,isSignB (signs14.getD i.val 0) = true:=by decide
 rw [← e]; exact H ⟨k,h⟩
theorem isSign_none (c:Int) (h:∀ j,j < 14 → signs14.getD j 0 ≠ c):isSignB c = false:=by
 have g:=fun j (hj:j < 14) => h j hj
 have:=g 0 (by decide); have:=g 1 (by decide); have:=g 2 (by decide); have:=g 3 (by decide); have:=g 4 (by decide)
 have:=g 5 (by decide); have:=g 6 (by decide); have:=g 7 (by decide); have:=g 8 (by decide); have:=g 9 (by decide)
 have:=g 10 (by decide); have:=g 11 (by decide); have:=g 12 (by decide); have:=g 13 (by decide)
 clear g h
 simp [signs14] at *
 simp [isSignB,signs14]
 omega

end Go.Proofs.YtbjabpodkaokjaaGreatDoor.Sx

