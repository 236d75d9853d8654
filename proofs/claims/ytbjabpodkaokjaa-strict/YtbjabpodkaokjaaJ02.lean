import Derived.Test.YtbjabpodkaokjaaProg
import Derived.WalkKit
import Derived.Below
import Derived.RowKit
import Derived.KernelRfl
set_option linter.unusedVariables false
set_option linter.unusedSimpArgs false
namespace Go.Proofs.Ytbjabpodkaokjaa
open Go.RowKit

def isSt (n m : Int) : Bool := decide (0 ≤ n ∧ n < m)
set_option maxHeartbeats 400000 in
theorem isState_any (n m : Int) (w : World) :
    Calls Try.prog 51 #[.int .i64 n, .int .i64 m] w fun e w' => e = .returned (.bool (isSt n m)) ∧ w' = w := by
  by_cases h1 : 0 ≤ n
  · by_cases h2 : n < m
    · go_enter Try.func51, Try.ntmps51
      go_wp2
      go_ret
      exact ⟨by simp [isSt, h1, h2], rfl⟩
    · have h2' : decide (n < m) = false := by simpa using h2
      go_enter Try.func51, Try.ntmps51
      go_wp2
      go_ret
      exact ⟨by simp [isSt, h2], rfl⟩
  · have h1' : decide (0 ≤ n) = false := by simpa using h1
    go_enter Try.func51, Try.ntmps51
    go_wp2
    go_ret
    exact ⟨by simp [isSt]; omega, rfl⟩

/-- How many classes the bytes have, from n on, if they are numbered as a table's are. -/
def cntC : Nat → List UInt8 → Option Nat
  | n, [] => some n
  | n, c :: t => if n < c.toNat then none else cntC (max n (c.toNat + 1)) t
def cntR (s : ByteArray) : Option Nat := if s.size = 256 then cntC 0 s.data.toList else none
theorem cntC_le : ∀ (l : List UInt8) (n m : Nat), cntC n l = some m → n ≤ m ∧ m ≤ max n 256
  | [], n, m, h => by simp [cntC] at h; omega
  | c :: t, n, m, h => by
    simp only [cntC] at h
    split at h
    · simp at h
    · have := cntC_le t _ m h
      have := c.toNat_lt
      omega
set_option maxRecDepth 4000 in
set_option maxHeartbeats 1000000 in
theorem countClasses_any (s : ByteArray) (hs : s.size ≤ maxLen) (w : World) :
    Calls Try.prog 52 #[.string s] w fun e w' => e = .returned (.tuple #[.int .i64 ((cntR s).getD 0 : Nat), .bool (cntR s).isSome]) ∧ w' = w := by
  unfold maxLen at hs
  by_cases h256 : s.size = 256
  · have hR : cntR s = cntC 0 s.data.toList := by simp [cntR, h256]
    have HR : Hid (cntR s = cntC 0 s.data.toList) := hR
    have hne : ((s.size : Int) != 256) = false := by simp; omega
    clear hR
    go_enter Try.func52, Try.ntmps52
    go_wp2
    go_loop [4, 12] (fun c i => ∃ k n : Nat, i = .int .i64 k ∧ c = .int .i64 n ∧ k ≤ 256 ∧ n ≤ 256 ∧ cntC n (s.data.toList.drop k) = cntR s) (fun _ i => 256 - (intOf i).toNat)
    case atStart => exact ⟨0, 0, rfl, rfl, by omega, by omega, by rw [HR.out]; rfl⟩
    case round =>
      obtain ⟨k, n, rfl, rfl, hk, hn, heq⟩ := hrel
      have HE : Hid (cntC n (s.data.toList.drop k) = cntR s) := heq
      clear heq
      by_cases hlt : k < 256
      · have hks : k < s.size := by omega
        have hd : s.data.toList.drop k = s[k] :: s.data.toList.drop (k + 1) := by
          rw [List.drop_eq_getElem_cons (by simpa using hks)]; rfl
        have hc8 := (s[k]).toNat_lt
        have HD : Hid (cntC n (s[k] :: s.data.toList.drop (k + 1)) = cntR s) := by have := HE.out; rwa [hd] at this
        clear hd
        by_cases hgt : n < s[k].toNat
        · have hgtI : (n : Int) < s[k].toNat := by omega
          have HN : Hid (cntR s = none) := by
            have := HD.out; simp only [cntC, hgt, if_true] at this; exact this.symm
          go_wp2
          go_ret2
          exact ⟨by rw [HN.out]; rfl, rfl⟩
        · have hgtI : ¬ (n : Int) < s[k].toNat := by omega
          have HN : Hid (cntC (max n (s[k].toNat + 1)) (s.data.toList.drop (k + 1)) = cntR s) := by
            have := HD.out; simp only [cntC, hgt, if_false] at this; exact this
          by_cases hmx : (n : Int) < s[k].toNat + 1
          · have HM : Hid (cntC (s[k].toNat + 1) (s.data.toList.drop (k + 1)) = cntR s) := by
              have := HN.out; rwa [Nat.max_eq_right (by omega)] at this
            go_wp2
            go_round
            case rel => exact ⟨k + 1, s[k].toNat + 1, by go_num, by go_num, by omega, by omega, HM.out⟩
            case measure => simp [intOf] <;> omega
          · have HM : Hid (cntC n (s.data.toList.drop (k + 1)) = cntR s) := by
              have := HN.out; rwa [Nat.max_eq_left (by omega)] at this
            go_wp2
            go_round
            case rel => exact ⟨k + 1, n, by go_num, rfl, by omega, by omega, HM.out⟩
            case measure => simp [intOf] <;> omega
      · have e : k = 256 := by omega
        have HN : Hid (cntR s = some n) := by
          have := HE.out; rw [e, List.drop_of_length_le (by simp; omega)] at this; simp only [cntC] at this; exact this.symm
        have hkI : ¬ (k : Int) < s.size := by omega
        go_wp2
        go_ret2
        exact ⟨by rw [HN.out]; rfl, rfl⟩
  · have hR : cntR s = none := by simp [cntR, h256]
    rw [hR]
    have hne : ((s.size : Int) != 256) = true := by simp; omega
    go_enter Try.func52, Try.ntmps52
    go_wp2
    go_ret2
    exact ⟨rfl, rfl⟩
end Go.Proofs.Ytbjabpodkaokjaa

namespace Go.Proofs.Ytbjabpodkaokjaa
open Go.RowKit

/-- A list of numbers that lies in memory. -/
def RowI (w : World) (v : Value) (zs : List Int) : Prop := (zs = [] ∧ ∃ a c, v = .slice a 0 c) ∨ ∃ b o c, v = .slice (some ⟨b, o, none⟩) zs.length c ∧ ∀ j (hj : j < zs.length), w.cell? ⟨b, o + j, none⟩ = some (.int .i64 zs[j])

set_option maxRecDepth 4000 in
set_option maxHeartbeats 400000 in
theorem areStates_any (v : Value) (zs : List Int) (m : Int) (w : World) (hv : RowI w v zs) (hl : zs.length ≤ maxLen) :
    Calls Try.prog 53 #[v, .int .i64 m] w fun e w' => e = .returned (.bool (zs.all fun z => isSt z m)) ∧ w' = w := by
  unfold maxLen at hl
  rcases hv with ⟨rfl, a, c, rfl⟩ | ⟨b, o, c, rfl, hc⟩
  · go_enter Try.func53, Try.ntmps53
    go_wp2
    go_loop [9] (fun i => i = .int .i64 0) (fun _ => 0)
    case atStart => rfl
    case round =>
      obtain rfl := hrel
      go_wp2
      go_ret
      exact ⟨rfl, rfl⟩
  · obtain ⟨n, hn⟩ : ∃ n, n = zs.length := ⟨_, rfl⟩
    have HN : Hid (n = zs.length) := hn
    have HC : Hid (∀ j (hj : j < zs.length), w.cell? ⟨b, o + j, none⟩ = some (.int .i64 zs[j])) := hc
    rw [← hn] at hl ⊢
    clear hn hc
    go_enter Try.func53, Try.ntmps53
    go_wp2
    go_loop [9] (fun i => ∃ k : Nat, i = .int .i64 k ∧ k ≤ n ∧ (zs.all fun z => isSt z m) = ((zs.drop k).all fun z => isSt z m)) (fun i => n - (intOf i).toNat)
    case atStart => exact ⟨0, rfl, Nat.zero_le _, rfl⟩
    case round =>
      obtain ⟨k, rfl, hk, heq⟩ := hrel
      have HE : Hid ((zs.all fun z => isSt z m) = ((zs.drop k).all fun z => isSt z m)) := heq
      clear heq
      by_cases hlt : k < n
      · have hlt' : k < zs.length := by have := HN.out; omega
        have hck := HC.out k hlt'
        have hltI : (k : Int) < n := by omega
        obtain ⟨z, hz⟩ : ∃ z, z = zs[k] := ⟨_, rfl⟩
        rw [← hz] at hck
        have HD : Hid ((zs.all fun z => isSt z m) = (isSt z m && (zs.drop (k + 1)).all fun z => isSt z m)) := by
          show _ = _
          have := HE.out; rw [List.drop_eq_getElem_cons hlt', ← hz] at this; simpa only [List.all_cons] using this
        clear hz
        by_cases h1 : 0 ≤ z
        · by_cases h2 : z < m
          · have HQ : Hid (isSt z m = true) := by show _ = _; simp [isSt, h1, h2]
            go_wp2
            go_round
            case rel => exact ⟨k + 1, by go_num, by omega, by rw [HD.out, HQ.out]; rfl⟩
            case measure => simp [intOf] <;> omega
          · have HQ : Hid (isSt z m = false) := by show _ = _; simp [isSt, h2]
            have h2' : decide (z < m) = false := by simpa using h2
            go_wp2
            go_ret
            exact ⟨by rw [HD.out, HQ.out]; rfl, rfl⟩
        · have HQ : Hid (isSt z m = false) := by show _ = _; simp [isSt]; omega
          have h1' : decide (0 ≤ z) = false := by simpa using h1
          go_wp2
          go_ret
          exact ⟨by rw [HD.out, HQ.out]; rfl, rfl⟩
      · have e : k = zs.length := by have := HN.out; omega
        have hkI : ¬ (k : Int) < n := by omega
        have HF : Hid ((zs.all fun z => isSt z m) = true) := by
          show _ = _
          rw [HE.out, e]; simp
        go_wp2
        go_ret
        exact ⟨by rw [HF.out]; rfl, rfl⟩
end Go.Proofs.Ytbjabpodkaokjaa
