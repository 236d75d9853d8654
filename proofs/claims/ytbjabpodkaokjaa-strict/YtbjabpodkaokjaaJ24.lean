import Derived.Test.YtbjabpodkaokjaaJ23
import Derived.Test.YtbjabpodkaokjaaJ11
set_option linter.unusedVariables false
set_option linter.unusedSimpArgs false
namespace Go.Proofs.Ytbjabpodkaokjaa
open Go.RowKit

def idxB (big : Bool) (many j : Nat) : Nat := if big then many - 1 - j else j
def byB (n i : Nat) : UInt8 := UInt8.ofNat (n / 256 ^ i)
def numL (big : Bool) (many n : Nat) : List UInt8 := (List.range many).map fun j => byB n (idxB big many j)
def celB (big : Bool) (many n k j : Nat) : Value := if idxB big many j < k then eU (byB n (idxB big many j)) else .int .u8 0
theorem numL2 (big : Bool) (n : Nat) : numL big 2 n = pr big n := by cases big <;> simp [numL, idxB, byB, pr, List.range, List.range.loop]
theorem numL4 (big : Bool) (n : Nat) : numL big 4 n = num4 big n := by cases big <;> simp [numL, idxB, byB, num4, List.range, List.range.loop]
theorem numL1 (big : Bool) (n : Nat) : numL big 1 n = [UInt8.ofNat n] := by cases big <;> simp [numL, idxB, byB, List.range, List.range.loop]
theorem celB_step {w : World} {g : Nat} {big : Bool} {many n k : Nat} (h : Nw w g many (celB big many n k)) (hk : k < many) (p : Nat) (hp : p = if big then many - 1 - k else k) (z : Int) (hz : z = ((byB n k).toNat : Int)) :
    Nw (w.setCell ⟨g, p, none⟩ (.int .u8 z)) g many (celB big many n (k + 1)) := by
  subst hz
  have hpm : p < many := by rw [hp]; split <;> omega
  refine (h.set p hpm _).congr (fun j hj => ?_)
  have e : (j = p) = (idxB big many j = k) := by
    rw [eq_iff_iff, hp]; unfold idxB; cases big <;> simp <;> omega
  by_cases q : j = p
  · rw [if_pos q]
    have q2 : idxB big many j = k := e ▸ q
    unfold celB
    rw [q2, if_pos (by omega)]
  · rw [if_neg q]
    have q2 : ¬ idxB big many j = k := fun x => q (e ▸ x)
    unfold celB
    by_cases q3 : idxB big many j < k
    · rw [if_pos q3, if_pos (by omega)]
    · rw [if_neg q3, if_neg (by omega)]
theorem celB_done {w : World} {g : Nat} {big : Bool} {many n : Nat} (h : Nw w g many (celB big many n many)) : (convert 46 9 (.slice (some ⟨g, 0, none⟩) many many)).run Try.prog w = .ok (.string (ba (numL big many n))) w := by
  have hl : (numL big many n).length = many := by simp [numL]
  have := run_convert_bytes_back (P := Try.prog) w 46 9 5 ⟨g, 0, none⟩ many (numL big many n) Try.underlying46 und_byte und_str (by
    intro j hj
    have hj' : j < many := by omega
    have e : (⟨g, 0, none⟩ : Addr).add j = ⟨g, j, none⟩ := by unfold Addr.add; split <;> simp_all
    rw [e, h.c j hj']
    have hi : idxB big many j < many := by unfold idxB; split <;> omega
    unfold celB
    rw [if_pos hi]
    simp [numL])
  rw [hl] at this
  exact this
set_option maxRecDepth 4000 in
set_option maxHeartbeats 4000000 in
theorem rnum1 (w : World) (n : Nat) (hn : n < 4294967296) (big : Bool) :
    Calls Try.prog 36 #[.int .i64 n, .int .i64 1, .bool big] w fun e w' => e = .returned (.string (ba (numL big 1 n))) ∧ Below w.heap.size w w' := by
  obtain ⟨i0, hi, hz0, hz1, hz2⟩ := info_parts Try.infoU8
  have hmk : ∀ w, (Instr.makeSlice 46 (.int .i64 1) (.int .i64 1)).run Try.prog w = .ok (.slice (some ⟨w.heap.size, 0, none⟩) 1 1) (w.alloc (.cells (mkA 1 (.int .u8 0)) 5)) := fun w => make_eq Try.underlying46 hi hz0 hz1 hz2 1 (by omega) (by unfold maxLen; omega) w
  have HNW : Hid (Nw (w.alloc (.cells (mkA 1 (.int .u8 0)) 5)) w.heap.size 1 (celB big 1 n 0)) := (Nw.new w 1 (.int .u8 0) rfl _).congr (fun j _ => by simp [celB])
  have HB : Hid (Below w.heap.size w (w.alloc (.cells (mkA 1 (.int .u8 0)) 5))) := (Below.refl _ _).alloc (Nat.le_refl _) _
  go_enter Try.func36, Try.ntmps36
  go_wp2
  go_loopw [8] (fun i wr => ∃ k : Nat, i = .int .i64 k ∧ k ≤ 1 ∧ Nw wr w.heap.size 1 (celB big 1 n k) ∧ Below w.heap.size w wr) (fun i _ => 1 - (intOf i).toNat)
  case atStart => exact ⟨0, rfl, by omega, HNW.out, HB.out⟩
  case round =>
    obtain ⟨k, rfl, hk, hnw, hbl⟩ := hrel
    have HBL : Hid (Below w.heap.size w wr) := hbl
    have HW : Hid (Nw wr w.heap.size 1 (celB big 1 n k)) := hnw
    clear hbl hnw HNW HB
    rcases (show k = 0 ∨ k = 1 by omega) with rfl | rfl
    · cases big with
      | false =>
        have d1 := HW.out.c 0 (by omega)
        have d2 := HW.out.fz 0
        go_wp2
        go_roundw
        case rel => exact ⟨1, by go_num, by omega, celB_step HW.out (by omega) 0 rfl _ (by first | (simp [byB]; done) | (simp [byB]; omega)), HBL.out.setCell (p := ⟨w.heap.size, 0, none⟩) (Nat.le_refl _) _⟩
        case measure => simp [intOf] <;> omega
      | true =>
        have d1 := HW.out.c 0 (by omega)
        have d2 := HW.out.fz 0
        go_wp2
        go_roundw
        case rel => exact ⟨1, by go_num, by omega, celB_step HW.out (by omega) 0 rfl _ (by first | (simp [byB]; done) | (simp [byB]; omega)), HBL.out.setCell (p := ⟨w.heap.size, 0, none⟩) (Nat.le_refl _) _⟩
        case measure => simp [intOf] <;> omega
    · have hcv := celB_done HW.out
      go_wp2
      go_ret
      exact ⟨rfl, HBL.out⟩
set_option maxRecDepth 4000 in
set_option maxHeartbeats 4000000 in
theorem rnum2 (w : World) (n : Nat) (hn : n < 4294967296) (big : Bool) :
    Calls Try.prog 36 #[.int .i64 n, .int .i64 2, .bool big] w fun e w' => e = .returned (.string (ba (numL big 2 n))) ∧ Below w.heap.size w w' := by
  obtain ⟨i0, hi, hz0, hz1, hz2⟩ := info_parts Try.infoU8
  have hmk : ∀ w, (Instr.makeSlice 46 (.int .i64 2) (.int .i64 2)).run Try.prog w = .ok (.slice (some ⟨w.heap.size, 0, none⟩) 2 2) (w.alloc (.cells (mkA 2 (.int .u8 0)) 5)) := fun w => make_eq Try.underlying46 hi hz0 hz1 hz2 2 (by omega) (by unfold maxLen; omega) w
  have HNW : Hid (Nw (w.alloc (.cells (mkA 2 (.int .u8 0)) 5)) w.heap.size 2 (celB big 2 n 0)) := (Nw.new w 2 (.int .u8 0) rfl _).congr (fun j _ => by simp [celB])
  have HB : Hid (Below w.heap.size w (w.alloc (.cells (mkA 2 (.int .u8 0)) 5))) := (Below.refl _ _).alloc (Nat.le_refl _) _
  go_enter Try.func36, Try.ntmps36
  go_wp2
  go_loopw [8] (fun i wr => ∃ k : Nat, i = .int .i64 k ∧ k ≤ 2 ∧ Nw wr w.heap.size 2 (celB big 2 n k) ∧ Below w.heap.size w wr) (fun i _ => 2 - (intOf i).toNat)
  case atStart => exact ⟨0, rfl, by omega, HNW.out, HB.out⟩
  case round =>
    obtain ⟨k, rfl, hk, hnw, hbl⟩ := hrel
    have HBL : Hid (Below w.heap.size w wr) := hbl
    have HW : Hid (Nw wr w.heap.size 2 (celB big 2 n k)) := hnw
    clear hbl hnw HNW HB
    rcases (show k = 0 ∨ k = 1 ∨ k = 2 by omega) with rfl | rfl | rfl
    · cases big with
      | false =>
        have d1 := HW.out.c 0 (by omega)
        have d2 := HW.out.fz 0
        go_wp2
        go_roundw
        case rel => exact ⟨1, by go_num, by omega, celB_step HW.out (by omega) 0 rfl _ (by first | (simp [byB]; done) | (simp [byB]; omega)), HBL.out.setCell (p := ⟨w.heap.size, 0, none⟩) (Nat.le_refl _) _⟩
        case measure => simp [intOf] <;> omega
      | true =>
        have d1 := HW.out.c 1 (by omega)
        have d2 := HW.out.fz 1
        go_wp2
        go_roundw
        case rel => exact ⟨1, by go_num, by omega, celB_step HW.out (by omega) 1 rfl _ (by first | (simp [byB]; done) | (simp [byB]; omega)), HBL.out.setCell (p := ⟨w.heap.size, 1, none⟩) (Nat.le_refl _) _⟩
        case measure => simp [intOf] <;> omega
    · cases big with
      | false =>
        have d1 := HW.out.c 1 (by omega)
        have d2 := HW.out.fz 1
        go_wp2
        go_roundw
        case rel => exact ⟨2, by go_num, by omega, celB_step HW.out (by omega) 1 rfl _ (by first | (simp [byB]; done) | (simp [byB]; omega)), HBL.out.setCell (p := ⟨w.heap.size, 1, none⟩) (Nat.le_refl _) _⟩
        case measure => simp [intOf] <;> omega
      | true =>
        have d1 := HW.out.c 0 (by omega)
        have d2 := HW.out.fz 0
        go_wp2
        go_roundw
        case rel => exact ⟨2, by go_num, by omega, celB_step HW.out (by omega) 0 rfl _ (by first | (simp [byB]; done) | (simp [byB]; omega)), HBL.out.setCell (p := ⟨w.heap.size, 0, none⟩) (Nat.le_refl _) _⟩
        case measure => simp [intOf] <;> omega
    · have hcv := celB_done HW.out
      go_wp2
      go_ret
      exact ⟨rfl, HBL.out⟩
set_option maxRecDepth 4000 in
set_option maxHeartbeats 4000000 in
theorem rnum4 (w : World) (n : Nat) (hn : n < 4294967296) (big : Bool) :
    Calls Try.prog 36 #[.int .i64 n, .int .i64 4, .bool big] w fun e w' => e = .returned (.string (ba (numL big 4 n))) ∧ Below w.heap.size w w' := by
  obtain ⟨i0, hi, hz0, hz1, hz2⟩ := info_parts Try.infoU8
  have hmk : ∀ w, (Instr.makeSlice 46 (.int .i64 4) (.int .i64 4)).run Try.prog w = .ok (.slice (some ⟨w.heap.size, 0, none⟩) 4 4) (w.alloc (.cells (mkA 4 (.int .u8 0)) 5)) := fun w => make_eq Try.underlying46 hi hz0 hz1 hz2 4 (by omega) (by unfold maxLen; omega) w
  have HNW : Hid (Nw (w.alloc (.cells (mkA 4 (.int .u8 0)) 5)) w.heap.size 4 (celB big 4 n 0)) := (Nw.new w 4 (.int .u8 0) rfl _).congr (fun j _ => by simp [celB])
  have HB : Hid (Below w.heap.size w (w.alloc (.cells (mkA 4 (.int .u8 0)) 5))) := (Below.refl _ _).alloc (Nat.le_refl _) _
  go_enter Try.func36, Try.ntmps36
  go_wp2
  go_loopw [8] (fun i wr => ∃ k : Nat, i = .int .i64 k ∧ k ≤ 4 ∧ Nw wr w.heap.size 4 (celB big 4 n k) ∧ Below w.heap.size w wr) (fun i _ => 4 - (intOf i).toNat)
  case atStart => exact ⟨0, rfl, by omega, HNW.out, HB.out⟩
  case round =>
    obtain ⟨k, rfl, hk, hnw, hbl⟩ := hrel
    have HBL : Hid (Below w.heap.size w wr) := hbl
    have HW : Hid (Nw wr w.heap.size 4 (celB big 4 n k)) := hnw
    clear hbl hnw HNW HB
    rcases (show k = 0 ∨ k = 1 ∨ k = 2 ∨ k = 3 ∨ k = 4 by omega) with rfl | rfl | rfl | rfl | rfl
    · cases big with
      | false =>
        have d1 := HW.out.c 0 (by omega)
        have d2 := HW.out.fz 0
        go_wp2
        go_roundw
        case rel => exact ⟨1, by go_num, by omega, celB_step HW.out (by omega) 0 rfl _ (by first | (simp [byB]; done) | (simp [byB]; omega)), HBL.out.setCell (p := ⟨w.heap.size, 0, none⟩) (Nat.le_refl _) _⟩
        case measure => simp [intOf] <;> omega
      | true =>
        have d1 := HW.out.c 3 (by omega)
        have d2 := HW.out.fz 3
        go_wp2
        go_roundw
        case rel => exact ⟨1, by go_num, by omega, celB_step HW.out (by omega) 3 rfl _ (by first | (simp [byB]; done) | (simp [byB]; omega)), HBL.out.setCell (p := ⟨w.heap.size, 3, none⟩) (Nat.le_refl _) _⟩
        case measure => simp [intOf] <;> omega
    · cases big with
      | false =>
        have d1 := HW.out.c 1 (by omega)
        have d2 := HW.out.fz 1
        go_wp2
        go_roundw
        case rel => exact ⟨2, by go_num, by omega, celB_step HW.out (by omega) 1 rfl _ (by first | (simp [byB]; done) | (simp [byB]; omega)), HBL.out.setCell (p := ⟨w.heap.size, 1, none⟩) (Nat.le_refl _) _⟩
        case measure => simp [intOf] <;> omega
      | true =>
        have d1 := HW.out.c 2 (by omega)
        have d2 := HW.out.fz 2
        go_wp2
        go_roundw
        case rel => exact ⟨2, by go_num, by omega, celB_step HW.out (by omega) 2 rfl _ (by first | (simp [byB]; done) | (simp [byB]; omega)), HBL.out.setCell (p := ⟨w.heap.size, 2, none⟩) (Nat.le_refl _) _⟩
        case measure => simp [intOf] <;> omega
    · cases big with
      | false =>
        have d1 := HW.out.c 2 (by omega)
        have d2 := HW.out.fz 2
        go_wp2
        go_roundw
        case rel => exact ⟨3, by go_num, by omega, celB_step HW.out (by omega) 2 rfl _ (by first | (simp [byB]; done) | (simp [byB]; omega)), HBL.out.setCell (p := ⟨w.heap.size, 2, none⟩) (Nat.le_refl _) _⟩
        case measure => simp [intOf] <;> omega
      | true =>
        have d1 := HW.out.c 1 (by omega)
        have d2 := HW.out.fz 1
        go_wp2
        go_roundw
        case rel => exact ⟨3, by go_num, by omega, celB_step HW.out (by omega) 1 rfl _ (by first | (simp [byB]; done) | (simp [byB]; omega)), HBL.out.setCell (p := ⟨w.heap.size, 1, none⟩) (Nat.le_refl _) _⟩
        case measure => simp [intOf] <;> omega
    · cases big with
      | false =>
        have d1 := HW.out.c 3 (by omega)
        have d2 := HW.out.fz 3
        go_wp2
        go_roundw
        case rel => exact ⟨4, by go_num, by omega, celB_step HW.out (by omega) 3 rfl _ (by first | (simp [byB]; done) | (simp [byB]; omega)), HBL.out.setCell (p := ⟨w.heap.size, 3, none⟩) (Nat.le_refl _) _⟩
        case measure => simp [intOf] <;> omega
      | true =>
        have d1 := HW.out.c 0 (by omega)
        have d2 := HW.out.fz 0
        go_wp2
        go_roundw
        case rel => exact ⟨4, by go_num, by omega, celB_step HW.out (by omega) 0 rfl _ (by first | (simp [byB]; done) | (simp [byB]; omega)), HBL.out.setCell (p := ⟨w.heap.size, 0, none⟩) (Nat.le_refl _) _⟩
        case measure => simp [intOf] <;> omega
    · have hcv := celB_done HW.out
      go_wp2
      go_ret
      exact ⟨rfl, HBL.out⟩
end Go.Proofs.Ytbjabpodkaokjaa
