import Derived.KernelRfl
import Derived.Test.YtbjabpodkaokjaaDoorRows
import Derived.WalkKit
import Derived.WalkSpells
import Derived.WalkLawsBesides
import Derived.Deep.Light
set_option linter.unusedVariables false
set_option linter.unusedSimpArgs false
namespace Go.Proofs.YtbjabpodkaokjaaDoor

structure Md where
  M : Int
  Depth : Int
  Most : Int
  Class : Bool
  Low : Int
  Value : Int
  Least : Int
  N : Int
deriving DecidableEq, Inhabited

def hexv (c : Int) : Int := if 48 ≤ c then (if c ≤ 57 then c - 48 else if 97 ≤ c then (if c ≤ 102 then c - 97 + 10 else -1) else -1) else -1

def signs14 : List Int := [92, 46, 91, 93, 40, 41, 123, 125, 124, 42, 43, 63, 94, 36]
def isSignB (c : Int) : Bool := signs14.contains c

def Md.to (m : Md) (k : Int) : Md := { m with M := k }
def Md.byteItem (m : Md) (v : Int) : Md :=
  if 0 ≤ m.Low then (if v < m.Low then m.to 16 else { m with Low := -1, M := 9 })
  else { m with Value := v, M := 8 }
def Md.one (m : Md) (v : Int) : Md := if m.Class then m.byteItem v else m.to 2
def Md.escape (m : Md) (c : Int) : Md :=
  if isSignB c || c == 45 then m.one c
  else if c == 110 then m.one 10
  else if c == 116 then m.one 9
  else if c == 120 then m.to 4
  else if (c == 100 || c == 119 || c == 115) && !m.Class then m.to 2
  else if (c == 100 || c == 119 || c == 115) && m.Low < 0 then m.to 9
  else m.to 16
def Md.cls (m : Md) (c : Int) : Md :=
  if c == 94 && m.M == 6 then m.to 7
  else if c == 92 then { m with Class := true, M := 3 }
  else if c == 93 && (m.M == 8 || m.M == 9) then { m with Class := false, M := 2 }
  else if c == 45 && m.M == 8 then { m with Low := m.Value, M := 10 }
  else if c == 91 || c == 93 || c == 94 || c == 45 then m.to 16
  else m.byteItem c
def reachesB (v lo : Int) : Bool := (List.range 31).any fun n => decide (lo ≤ n) && (n == v || (decide (0 < v) && (n : Int) / 10 == v))
def Md.count (m : Md) (c : Int) : Md :=
  let digit := decide (48 ≤ c) && decide (c ≤ 57)
  let v := (if digit then c - 48 else 0) + (if m.M == 12 || m.M == 14 then 10 * m.N else 0)
  let lo := if m.M == 13 || m.M == 14 then m.Least else 0
  let fits := reachesB v lo
  if digit && fits && (m.M == 11 || m.M == 13) then { m with N := v, M := m.M + 1 }
  else if digit && fits && decide (0 < m.N) && (m.M == 12 || m.M == 14) then { m with N := v }
  else if c == 44 && m.M == 12 then { m with Least := m.N, M := 13 }
  else if c == 125 && (m.M == 12 || m.M == 13 || (m.M == 14 && decide (m.Least ≤ m.N))) then m.to 2
  else m.to 16
def Md.group (m : Md) (c : Int) : Md :=
  if c == 40 then { m with Depth := m.Depth + 1, Most := if m.Most < m.Depth + 1 then m.Depth + 1 else m.Most, M := 1 }
  else if m.Depth == 0 then m.to 16
  else { m with Depth := m.Depth - 1, M := 2 }
def Md.chain (m : Md) (c : Int) : Md :=
  if c == 94 then (if m.M == 0 then m.to 1 else m.to 16)
  else if c == 36 then (if m.Depth == 0 then m.to 15 else m.to 16)
  else if c == 124 then m.to 1
  else if c == 40 || c == 41 then m.group c
  else if c == 91 then { m with Low := -1, M := 6 }
  else if c == 92 then { m with Class := false, Low := -1, M := 3 }
  else if c == 42 || c == 43 || c == 63 then (if m.M == 2 then m else m.to 16)
  else if c == 123 then (if m.M == 2 then m.to 11 else m.to 16)
  else if c == 125 || c == 93 then m.to 16
  else m.to 2
def Md.step (m : Md) (c : Int) : Md :=
  if m.M == 0 || m.M == 1 || m.M == 2 then m.chain c
  else if m.M == 3 then m.escape c
  else if m.M == 4 then (if hexv c < 0 || 16 * hexv c + 15 < m.Low then m.to 16 else { m with Value := hexv c, M := 5 })
  else if m.M == 5 then (if hexv c < 0 || 16 * m.Value + hexv c < m.Low then m.to 16 else m.one (16 * m.Value + hexv c))
  else if m.M == 6 || m.M == 7 || m.M == 8 || m.M == 9 then m.cls c
  else if m.M == 10 then (if c == 92 then { m with Class := true, M := 3 } else if c == 91 || c == 93 || c == 94 || c == 45 then m.to 16 else m.byteItem c)
  else if m.M == 11 || m.M == 12 || m.M == 13 || m.M == 14 then m.count c
  else m.to 16

end Go.Proofs.YtbjabpodkaokjaaDoor

namespace Go.Proofs.YtbjabpodkaokjaaDoor
open Go.RowKit

abbrev mv8 (M D Mo : Int) (C : Bool) (L V Le N : Int) : Value := .agg #[.int .i64 M, .int .i64 D, .int .i64 Mo, .bool C, .int .i64 L, .int .i64 V, .int .i64 Le, .int .i64 N]
abbrev mv (m : Md) : Value := mv8 m.M m.Depth m.Most m.Class m.Low m.Value m.Least m.N

theorem ret_int {k : IntKind} {a b : Int} (h : a = b) : Ending.returned (.int k a) = .returned (.int k b) := by rw [h]
theorem ret_bool {a b : Bool} (h : a = b) : Ending.returned (.bool a) = .returned (.bool b) := by rw [h]
theorem bcell {W w1 : World} (hb : Below W.heap.size W w1) : (∀ b o, b < W.heap.size → w1.cell? ⟨b, o, none⟩ = W.cell? ⟨b, o, none⟩) ∧ (∀ b o, b < W.heap.size → w1.frozen? ⟨b, o, none⟩ = W.frozen? ⟨b, o, none⟩) :=
  ⟨fun b o h => hb.cell (p := ⟨b, o, none⟩) h, fun b o h => hb.frozen (p := ⟨b, o, none⟩) h⟩

set_option maxHeartbeats 400000 in
theorem hex_any (c : Int) (w : World) (h0 : 0 ≤ c) (h1 : c ≤ 255) :
    Calls Tryd.prog 21 #[.int .u8 c] w fun e w' => e = .returned (.int .i64 (hexv c)) ∧ w' = w := by
  unfold hexv
  by_cases a : 48 ≤ c <;> by_cases b : c ≤ 57 <;> by_cases d : 97 ≤ c <;> by_cases f : c ≤ 102 <;> first | omega | skip
  all_goals
    go_enter Tryd.func21, Tryd.ntmps21
    go_wp2
    go_ret
    exact ⟨by simp [*], rfl⟩

set_option maxHeartbeats 400000 in
theorem to_raw (M D Mo : Int) (C : Bool) (L V Le N k : Int) (w : World) :
    Calls Tryd.prog 24 #[mv8 M D Mo C L V Le N, .int .i64 k] w fun e w' => e = .returned (mv8 k D Mo C L V Le N) ∧ Below w.heap.size w w' := by
  go_enter Tryd.func24, Tryd.ntmps24
  go_wp2
  exact bodyPost_ret (v := mv8 k D Mo C L V Le N) (by simp [results, Tryd.results24, go_sem]) rfl ⟨rfl, ((Below.refl _ _).alloc (Nat.le_refl _) _).alloc (by simp) _⟩

set_option maxHeartbeats 400000 in
theorem byteItem_raw (M D Mo : Int) (C : Bool) (L V Le N v : Int) (w : World) :
    Calls Tryd.prog 27 #[mv8 M D Mo C L V Le N, .int .i64 v] w fun e w' => e = .returned (mv (Md.byteItem ⟨M, D, Mo, C, L, V, Le, N⟩ v)) ∧ Below w.heap.size w w' := by
  by_cases h1 : 0 ≤ L
  · by_cases h2 : v < L
    · have e : mv (Md.byteItem ⟨M, D, Mo, C, L, V, Le, N⟩ v) = mv8 16 D Mo C L V Le N := by simp [mv, Md.byteItem, Md.to, h1, h2]
      rw [e]; clear e
      go_enter Tryd.func27, Tryd.ntmps27
      go_wp2_with (go_at_call 24; refine (to_raw _ _ _ _ _ _ _ _ _ _).mono ?_; rintro e w' ⟨rfl, hb⟩; obtain ⟨hc, hf⟩ := bcell hb; have hz := hb.size; simp at hz)
      exact bodyPost_ret (v := mv8 16 D Mo C L V Le N) (by simp [results, Tryd.results27, go_sem, hc, hz]) rfl ⟨rfl, (by (repeat refine Below.setCell ?_ (by first | (simp; done) | (simp; omega)) _); refine Below.trans ?_ (Below.mono hb (by first | (simp; done) | (simp; omega))); (repeat refine Below.alloc ?_ (by first | (simp; done) | (simp; omega)) _); exact Below.refl _ _)⟩
    · have e : mv (Md.byteItem ⟨M, D, Mo, C, L, V, Le, N⟩ v) = mv8 9 D Mo C (-1) V Le N := by simp [mv, Md.byteItem, h1, h2]
      rw [e]; clear e
      go_enter Tryd.func27, Tryd.ntmps27
      go_wp2_with (go_at_call 24; refine (to_raw _ _ _ _ _ _ _ _ _ _).mono ?_; rintro e w' ⟨rfl, hb⟩; obtain ⟨hc, hf⟩ := bcell hb; have hz := hb.size; simp at hz)
      exact bodyPost_ret (v := mv8 9 D Mo C (-1) V Le N) (by simp [results, Tryd.results27, go_sem, hc, hz]) rfl ⟨rfl, (by (repeat refine Below.setCell ?_ (by first | (simp; done) | (simp; omega)) _); refine Below.trans ?_ (Below.mono hb (by first | (simp; done) | (simp; omega))); (repeat refine Below.alloc ?_ (by first | (simp; done) | (simp; omega)) _); exact Below.refl _ _)⟩
  · have e : mv (Md.byteItem ⟨M, D, Mo, C, L, V, Le, N⟩ v) = mv8 8 D Mo C L v Le N := by simp [mv, Md.byteItem, h1]
    rw [e]; clear e
    go_enter Tryd.func27, Tryd.ntmps27
    go_wp2_with (go_at_call 24; refine (to_raw _ _ _ _ _ _ _ _ _ _).mono ?_; rintro e w' ⟨rfl, hb⟩; obtain ⟨hc, hf⟩ := bcell hb; have hz := hb.size; simp at hz)
    exact bodyPost_ret (v := mv8 8 D Mo C L v Le N) (by simp [results, Tryd.results27, go_sem, hc, hz]) rfl ⟨rfl, (by (repeat refine Below.setCell ?_ (by first | (simp; done) | (simp; omega)) _); refine Below.trans ?_ (Below.mono hb (by first | (simp; done) | (simp; omega))); (repeat refine Below.alloc ?_ (by first | (simp; done) | (simp; omega)) _); exact Below.refl _ _)⟩
end Go.Proofs.YtbjabpodkaokjaaDoor

namespace Go.Proofs.YtbjabpodkaokjaaDoor
open Go.RowKit

theorem signs_at (k : Nat) (h : k < 14) (h' : k < (ByteArray.mk #[92, 46, 91, 93, 40, 41, 123, 125, 124, 42, 43, 63, 94, 36]).size) :
    (((ByteArray.mk #[92, 46, 91, 93, 40, 41, 123, 125, 124, 42, 43, 63, 94, 36])[k]).toNat : Int) = signs14.getD k 0 := by
  have H : ∀ i : Fin 14, (((ByteArray.mk #[92, 46, 91, 93, 40, 41, 123, 125, 124, 42, 43, 63, 94, 36])[i.val]'(i.isLt)).toNat : Int) = signs14.getD i.val 0 := by decide
  exact H ⟨k, h⟩
theorem isSign_of_at (k : Nat) (h : k < 14) (c : Int) (e : signs14.getD k 0 = c) : isSignB c = true := by
  have H : ∀ i : Fin 14, isSignB (signs14.getD i.val 0) = true := by decide
  rw [← e]; exact H ⟨k, h⟩
theorem isSign_none (c : Int) (h : ∀ j, j < 14 → signs14.getD j 0 ≠ c) : isSignB c = false := by
  have g := fun j (hj : j < 14) => h j hj
  have := g 0 (by decide); have := g 1 (by decide); have := g 2 (by decide); have := g 3 (by decide); have := g 4 (by decide)
  have := g 5 (by decide); have := g 6 (by decide); have := g 7 (by decide); have := g 8 (by decide); have := g 9 (by decide)
  have := g 10 (by decide); have := g 11 (by decide); have := g 12 (by decide); have := g 13 (by decide)
  clear g h
  simp [signs14] at *
  simp [isSignB, signs14]
  omega

set_option maxHeartbeats 400000 in
theorem sign_any (c : Int) (w : World) (h0 : 0 ≤ c) (h1 : c ≤ 255) :
    Calls Tryd.prog 35 #[.int .u8 c] w fun e w' => e = .returned (.bool (isSignB c)) ∧ w' = w := by
  go_enter Tryd.func35, Tryd.ntmps35
  go_wp2
  go_loop [4] (fun i => ∃ k : Nat, k ≤ 14 ∧ i = .int .i64 k ∧ ∀ j, j < k → signs14.getD j 0 ≠ c) (fun i => 14 - (intOf i).toNat)
  case atStart => exact ⟨0, Nat.zero_le _, rfl, fun j hj => absurd hj (Nat.not_lt_zero _)⟩
  case round =>
    obtain ⟨k, hk, rfl, hno⟩ := hrel
    by_cases hlt : k < 14
    · have hat := signs_at k hlt hlt
      have HA : Hid ((((ByteArray.mk #[92, 46, 91, 93, 40, 41, 123, 125, 124, 42, 43, 63, 94, 36])[k]).toNat : Int) = signs14.getD k 0) := hat
      clear hat
      go_wp2
      · have hh : ((((ByteArray.mk #[92, 46, 91, 93, 40, 41, 123, 125, 124, 42, 43, 63, 94, 36])[k]).toNat : Int) == c) = true := by assumption
        go_ret
        exact ⟨ret_bool (isSign_of_at k hlt c (by rw [← HA.out]; simpa using hh)).symm, rfl⟩
      · go_round
        case rel =>
          have hh : ((((ByteArray.mk #[92, 46, 91, 93, 40, 41, 123, 125, 124, 42, 43, 63, 94, 36])[k]).toNat : Int) == c) = false := by assumption
          have := HA.out
          refine ⟨k + 1, by omega, by go_num, fun j hj => ?_⟩
          by_cases e : j = k
          · subst e; rw [← this]; simpa using hh
          · exact hno j (by omega)
        case measure => simp [intOf]; omega
    · go_wp2
      go_ret
      exact ⟨ret_bool (isSign_none c (fun j hj => hno j (by omega))).symm, rfl⟩
end Go.Proofs.YtbjabpodkaokjaaDoor
