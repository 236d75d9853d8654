import Derived.Test.YtbjabpodkaokjaaDoorJ32
set_option linter.unusedVariables false
set_option linter.unusedSimpArgs false
namespace Go.Proofs.YtbjabpodkaokjaaDoor
open Go.RowKit

theorem cls_cases (k : Nat) (h : k < 256) : k < 9 ∨ k = 9 ∨ k = 10 ∨ (10 < k ∧ k < 13) ∨ k = 13 ∨ (13 < k ∧ k < 32) ∨ k = 32 ∨ (32 < k ∧ k < 48) ∨ (48 ≤ k ∧ k ≤ 57) ∨ (57 < k ∧ k < 65) ∨ (65 ≤ k ∧ k ≤ 90) ∨ (90 < k ∧ k < 95) ∨ k = 95 ∨ k = 96 ∨ (97 ≤ k ∧ k ≤ 122) ∨ 122 < k := by omega
theorem Bs.congr {w : World} {g : Nat} {B C : Nat → Bool} (h : Bs w g B) (e : ∀ i, B i = C i) : Bs w g C := by
  have : B = C := funext e
  rw [← this]; exact h
theorem upTo_step (S : Nat → Bool) (k : Nat) (v : Bool) (hv : S k = v) (i : Nat) : (if i = k then v else decide (i < k) && S i) = (decide (i < k + 1) && S i) := by
  by_cases e : i = k
  · subst e; simp [hv]
  · have : (i < k + 1) = (i < k) := by simp; omega
    simp [e, this]
abbrev wSet : Nat → Bool := fun n => inSpan 48 57 n || inSpan 65 90 n || inSpan 95 95 n || inSpan 97 122 n
abbrev sSet : Nat → Bool := fun n => inSpan 9 10 n || inSpan 13 13 n || inSpan 32 32 n

set_option maxRecDepth 20000 in
set_option maxHeartbeats 8000000 in
theorem several_d (w : World) :
    Calls Tryd.prog 64 #[.int .u8 100] w fun e w' => e = .returned (.agg (bA (inSpan 48 57))) ∧ Below w.heap.size w w' := by
  obtain ⟨S, hS⟩ : ∃ S, S = inSpan 48 57 := ⟨_, rfl⟩
  have HS : Hid (S = inSpan 48 57) := hS
  rw [← hS]
  clear hS
  go_enter Tryd.func64, Tryd.ntmps64
  go_wp2_with (first | (refine wpList_alloc52 rfl rfl _ rfl w.heap.size rfl ?_; generalize hw1 : World.alloc w _ = w1; have b1 : Bs w1 w.heap.size (fun _ => false) := (by rw [← hw1]; exact bA_new _ _ _); have l1 : Below w.heap.size w w1 := (by rw [← hw1]; exact (Below.refl _ _).alloc (Nat.le_refl _) _); have z1 : w1.heap.size = w.heap.size + 1 := (by rw [← hw1]; simp); clear hw1) | (refine wpList_alloc52 rfl rfl _ rfl (w.heap.size + 1) z1 ?_; generalize hw2 : World.alloc w1 _ = w2; have b2 : Bs w2 (w.heap.size + 1) (fun _ => false) := (by rw [← hw2, ← z1]; exact bA_new _ _ _); have b1' : Bs w2 w.heap.size (fun _ => false) := (by rw [← hw2]; exact b1.of_heap (Below.heap_alloc _ _ _ (by omega))); have l2 : Below w.heap.size w w2 := (by rw [← hw2]; exact l1.alloc (by omega) _); have z2 : w2.heap.size = w.heap.size + 2 := (by rw [← hw2]; simp [z1]); clear hw2))
  go_loopw [4] (fun i wr => ∃ k : Nat, k ≤ 256 ∧ i = .int .i64 k ∧ Bs wr (w.heap.size + 1) (fun j => decide (j < k) && S j) ∧ Bs wr w.heap.size (fun _ => false) ∧ Below w.heap.size w wr ∧ wr.heap.size = w.heap.size + 2) (fun i _ => 256 - (intOf i).toNat)
  case atStart => exact ⟨0, by omega, rfl, by simpa using b2, b1', l2, z2⟩
  case round =>
    obtain ⟨k, hk, rfl, hb, hb1, hl, hz⟩ := hrel
    by_cases hlt : k < 256
    · have hcell := hb.cB k hlt
      have hfz := hb.fz k
      rcases cls_cases k hlt with q | rfl | rfl | q | rfl | q | rfl | q | q | q | q | q | rfl | rfl | q | q
      · have e48 : decide ((48 : Int) ≤ k) = false := by simp; omega
        have e97 : decide ((97 : Int) ≤ k) = false := by simp; omega
        have e65 : decide ((65 : Int) ≤ k) = false := by simp; omega
        have e57 : (k : Int) ≤ 57 := by omega
        have e122 : (k : Int) ≤ 122 := by omega
        have e90 : (k : Int) ≤ 90 := by omega
        have e95 : ((k : Int) == 95) = false := by simp; omega
        have e9 : ((k : Int) == 9) = false := by simp; omega
        have e10 : ((k : Int) == 10) = false := by simp; omega
        have e13 : ((k : Int) == 13) = false := by simp; omega
        have e32 : ((k : Int) == 32) = false := by simp; omega
        have HV : Hid (S k = false) := by show _ = _; rw [HS.out]; simp [inSpan] <;> omega
        go_wp2
        go_roundw
        case rel => exact ⟨k + 1, by omega, by go_num, (hb.bit k hlt false).congr (upTo_step S k false HV.out), hb1.of_heap (Below.heap_setCell _ _ _ _ (by simp)), (by (repeat first | (with_reducible refine Below.setCell ?_ (by first | exact Nat.le_refl _ | (simp; done) | (simp; omega)) _) | (with_reducible refine Below.alloc ?_ (by first | omega | (simp; done) | (simp; omega)) _) | (with_reducible refine Below.drew ?_)); exact hl), by simpa [World.setCell] using hz⟩
        case measure => simp [intOf] <;> omega
      · have HV : Hid (S 9 = false) := by show _ = _; rw [HS.out]; simp [inSpan] <;> omega
        go_wp2
        go_roundw
        case rel => exact ⟨9 + 1, by omega, by go_num, (hb.bit 9 hlt false).congr (upTo_step S 9 false HV.out), hb1.of_heap (Below.heap_setCell _ _ _ _ (by simp)), (by (repeat first | (with_reducible refine Below.setCell ?_ (by first | exact Nat.le_refl _ | (simp; done) | (simp; omega)) _) | (with_reducible refine Below.alloc ?_ (by first | omega | (simp; done) | (simp; omega)) _) | (with_reducible refine Below.drew ?_)); exact hl), by simpa [World.setCell] using hz⟩
        case measure => simp [intOf] <;> omega
      · have HV : Hid (S 10 = false) := by show _ = _; rw [HS.out]; simp [inSpan] <;> omega
        go_wp2
        go_roundw
        case rel => exact ⟨10 + 1, by omega, by go_num, (hb.bit 10 hlt false).congr (upTo_step S 10 false HV.out), hb1.of_heap (Below.heap_setCell _ _ _ _ (by simp)), (by (repeat first | (with_reducible refine Below.setCell ?_ (by first | exact Nat.le_refl _ | (simp; done) | (simp; omega)) _) | (with_reducible refine Below.alloc ?_ (by first | omega | (simp; done) | (simp; omega)) _) | (with_reducible refine Below.drew ?_)); exact hl), by simpa [World.setCell] using hz⟩
        case measure => simp [intOf] <;> omega
      · have e48 : decide ((48 : Int) ≤ k) = false := by simp; omega
        have e97 : decide ((97 : Int) ≤ k) = false := by simp; omega
        have e65 : decide ((65 : Int) ≤ k) = false := by simp; omega
        have e57 : (k : Int) ≤ 57 := by omega
        have e122 : (k : Int) ≤ 122 := by omega
        have e90 : (k : Int) ≤ 90 := by omega
        have e95 : ((k : Int) == 95) = false := by simp; omega
        have e9 : ((k : Int) == 9) = false := by simp; omega
        have e10 : ((k : Int) == 10) = false := by simp; omega
        have e13 : ((k : Int) == 13) = false := by simp; omega
        have e32 : ((k : Int) == 32) = false := by simp; omega
        have HV : Hid (S k = false) := by show _ = _; rw [HS.out]; simp [inSpan] <;> omega
        go_wp2
        go_roundw
        case rel => exact ⟨k + 1, by omega, by go_num, (hb.bit k hlt false).congr (upTo_step S k false HV.out), hb1.of_heap (Below.heap_setCell _ _ _ _ (by simp)), (by (repeat first | (with_reducible refine Below.setCell ?_ (by first | exact Nat.le_refl _ | (simp; done) | (simp; omega)) _) | (with_reducible refine Below.alloc ?_ (by first | omega | (simp; done) | (simp; omega)) _) | (with_reducible refine Below.drew ?_)); exact hl), by simpa [World.setCell] using hz⟩
        case measure => simp [intOf] <;> omega
      · have HV : Hid (S 13 = false) := by show _ = _; rw [HS.out]; simp [inSpan] <;> omega
        go_wp2
        go_roundw
        case rel => exact ⟨13 + 1, by omega, by go_num, (hb.bit 13 hlt false).congr (upTo_step S 13 false HV.out), hb1.of_heap (Below.heap_setCell _ _ _ _ (by simp)), (by (repeat first | (with_reducible refine Below.setCell ?_ (by first | exact Nat.le_refl _ | (simp; done) | (simp; omega)) _) | (with_reducible refine Below.alloc ?_ (by first | omega | (simp; done) | (simp; omega)) _) | (with_reducible refine Below.drew ?_)); exact hl), by simpa [World.setCell] using hz⟩
        case measure => simp [intOf] <;> omega
      · have e48 : decide ((48 : Int) ≤ k) = false := by simp; omega
        have e97 : decide ((97 : Int) ≤ k) = false := by simp; omega
        have e65 : decide ((65 : Int) ≤ k) = false := by simp; omega
        have e57 : (k : Int) ≤ 57 := by omega
        have e122 : (k : Int) ≤ 122 := by omega
        have e90 : (k : Int) ≤ 90 := by omega
        have e95 : ((k : Int) == 95) = false := by simp; omega
        have e9 : ((k : Int) == 9) = false := by simp; omega
        have e10 : ((k : Int) == 10) = false := by simp; omega
        have e13 : ((k : Int) == 13) = false := by simp; omega
        have e32 : ((k : Int) == 32) = false := by simp; omega
        have HV : Hid (S k = false) := by show _ = _; rw [HS.out]; simp [inSpan] <;> omega
        go_wp2
        go_roundw
        case rel => exact ⟨k + 1, by omega, by go_num, (hb.bit k hlt false).congr (upTo_step S k false HV.out), hb1.of_heap (Below.heap_setCell _ _ _ _ (by simp)), (by (repeat first | (with_reducible refine Below.setCell ?_ (by first | exact Nat.le_refl _ | (simp; done) | (simp; omega)) _) | (with_reducible refine Below.alloc ?_ (by first | omega | (simp; done) | (simp; omega)) _) | (with_reducible refine Below.drew ?_)); exact hl), by simpa [World.setCell] using hz⟩
        case measure => simp [intOf] <;> omega
      · have HV : Hid (S 32 = false) := by show _ = _; rw [HS.out]; simp [inSpan] <;> omega
        go_wp2
        go_roundw
        case rel => exact ⟨32 + 1, by omega, by go_num, (hb.bit 32 hlt false).congr (upTo_step S 32 false HV.out), hb1.of_heap (Below.heap_setCell _ _ _ _ (by simp)), (by (repeat first | (with_reducible refine Below.setCell ?_ (by first | exact Nat.le_refl _ | (simp; done) | (simp; omega)) _) | (with_reducible refine Below.alloc ?_ (by first | omega | (simp; done) | (simp; omega)) _) | (with_reducible refine Below.drew ?_)); exact hl), by simpa [World.setCell] using hz⟩
        case measure => simp [intOf] <;> omega
      · have e48 : decide ((48 : Int) ≤ k) = false := by simp; omega
        have e97 : decide ((97 : Int) ≤ k) = false := by simp; omega
        have e65 : decide ((65 : Int) ≤ k) = false := by simp; omega
        have e57 : (k : Int) ≤ 57 := by omega
        have e122 : (k : Int) ≤ 122 := by omega
        have e90 : (k : Int) ≤ 90 := by omega
        have e95 : ((k : Int) == 95) = false := by simp; omega
        have e9 : ((k : Int) == 9) = false := by simp; omega
        have e10 : ((k : Int) == 10) = false := by simp; omega
        have e13 : ((k : Int) == 13) = false := by simp; omega
        have e32 : ((k : Int) == 32) = false := by simp; omega
        have HV : Hid (S k = false) := by show _ = _; rw [HS.out]; simp [inSpan] <;> omega
        go_wp2
        go_roundw
        case rel => exact ⟨k + 1, by omega, by go_num, (hb.bit k hlt false).congr (upTo_step S k false HV.out), hb1.of_heap (Below.heap_setCell _ _ _ _ (by simp)), (by (repeat first | (with_reducible refine Below.setCell ?_ (by first | exact Nat.le_refl _ | (simp; done) | (simp; omega)) _) | (with_reducible refine Below.alloc ?_ (by first | omega | (simp; done) | (simp; omega)) _) | (with_reducible refine Below.drew ?_)); exact hl), by simpa [World.setCell] using hz⟩
        case measure => simp [intOf] <;> omega
      · have e48 : (48 : Int) ≤ k := by omega
        have e97 : decide ((97 : Int) ≤ k) = false := by simp; omega
        have e65 : decide ((65 : Int) ≤ k) = false := by simp; omega
        have e57 : (k : Int) ≤ 57 := by omega
        have e122 : (k : Int) ≤ 122 := by omega
        have e90 : (k : Int) ≤ 90 := by omega
        have e95 : ((k : Int) == 95) = false := by simp; omega
        have e9 : ((k : Int) == 9) = false := by simp; omega
        have e10 : ((k : Int) == 10) = false := by simp; omega
        have e13 : ((k : Int) == 13) = false := by simp; omega
        have e32 : ((k : Int) == 32) = false := by simp; omega
        have HV : Hid (S k = true) := by show _ = _; rw [HS.out]; simp [inSpan] <;> omega
        go_wp2
        go_roundw
        case rel => exact ⟨k + 1, by omega, by go_num, (hb.bit k hlt true).congr (upTo_step S k true HV.out), hb1.of_heap (Below.heap_setCell _ _ _ _ (by simp)), (by (repeat first | (with_reducible refine Below.setCell ?_ (by first | exact Nat.le_refl _ | (simp; done) | (simp; omega)) _) | (with_reducible refine Below.alloc ?_ (by first | omega | (simp; done) | (simp; omega)) _) | (with_reducible refine Below.drew ?_)); exact hl), by simpa [World.setCell] using hz⟩
        case measure => simp [intOf] <;> omega
      · have e48 : (48 : Int) ≤ k := by omega
        have e97 : decide ((97 : Int) ≤ k) = false := by simp; omega
        have e65 : decide ((65 : Int) ≤ k) = false := by simp; omega
        have e57 : decide ((k : Int) ≤ 57) = false := by simp; omega
        have e122 : (k : Int) ≤ 122 := by omega
        have e90 : (k : Int) ≤ 90 := by omega
        have e95 : ((k : Int) == 95) = false := by simp; omega
        have e9 : ((k : Int) == 9) = false := by simp; omega
        have e10 : ((k : Int) == 10) = false := by simp; omega
        have e13 : ((k : Int) == 13) = false := by simp; omega
        have e32 : ((k : Int) == 32) = false := by simp; omega
        have HV : Hid (S k = false) := by show _ = _; rw [HS.out]; simp [inSpan] <;> omega
        go_wp2
        go_roundw
        case rel => exact ⟨k + 1, by omega, by go_num, (hb.bit k hlt false).congr (upTo_step S k false HV.out), hb1.of_heap (Below.heap_setCell _ _ _ _ (by simp)), (by (repeat first | (with_reducible refine Below.setCell ?_ (by first | exact Nat.le_refl _ | (simp; done) | (simp; omega)) _) | (with_reducible refine Below.alloc ?_ (by first | omega | (simp; done) | (simp; omega)) _) | (with_reducible refine Below.drew ?_)); exact hl), by simpa [World.setCell] using hz⟩
        case measure => simp [intOf] <;> omega
      · have e48 : (48 : Int) ≤ k := by omega
        have e97 : decide ((97 : Int) ≤ k) = false := by simp; omega
        have e65 : (65 : Int) ≤ k := by omega
        have e57 : decide ((k : Int) ≤ 57) = false := by simp; omega
        have e122 : (k : Int) ≤ 122 := by omega
        have e90 : (k : Int) ≤ 90 := by omega
        have e95 : ((k : Int) == 95) = false := by simp; omega
        have e9 : ((k : Int) == 9) = false := by simp; omega
        have e10 : ((k : Int) == 10) = false := by simp; omega
        have e13 : ((k : Int) == 13) = false := by simp; omega
        have e32 : ((k : Int) == 32) = false := by simp; omega
        have HV : Hid (S k = false) := by show _ = _; rw [HS.out]; simp [inSpan] <;> omega
        go_wp2
        go_roundw
        case rel => exact ⟨k + 1, by omega, by go_num, (hb.bit k hlt false).congr (upTo_step S k false HV.out), hb1.of_heap (Below.heap_setCell _ _ _ _ (by simp)), (by (repeat first | (with_reducible refine Below.setCell ?_ (by first | exact Nat.le_refl _ | (simp; done) | (simp; omega)) _) | (with_reducible refine Below.alloc ?_ (by first | omega | (simp; done) | (simp; omega)) _) | (with_reducible refine Below.drew ?_)); exact hl), by simpa [World.setCell] using hz⟩
        case measure => simp [intOf] <;> omega
      · have e48 : (48 : Int) ≤ k := by omega
        have e97 : decide ((97 : Int) ≤ k) = false := by simp; omega
        have e65 : (65 : Int) ≤ k := by omega
        have e57 : decide ((k : Int) ≤ 57) = false := by simp; omega
        have e122 : (k : Int) ≤ 122 := by omega
        have e90 : decide ((k : Int) ≤ 90) = false := by simp; omega
        have e95 : ((k : Int) == 95) = false := by simp; omega
        have e9 : ((k : Int) == 9) = false := by simp; omega
        have e10 : ((k : Int) == 10) = false := by simp; omega
        have e13 : ((k : Int) == 13) = false := by simp; omega
        have e32 : ((k : Int) == 32) = false := by simp; omega
        have HV : Hid (S k = false) := by show _ = _; rw [HS.out]; simp [inSpan] <;> omega
        go_wp2
        go_roundw
        case rel => exact ⟨k + 1, by omega, by go_num, (hb.bit k hlt false).congr (upTo_step S k false HV.out), hb1.of_heap (Below.heap_setCell _ _ _ _ (by simp)), (by (repeat first | (with_reducible refine Below.setCell ?_ (by first | exact Nat.le_refl _ | (simp; done) | (simp; omega)) _) | (with_reducible refine Below.alloc ?_ (by first | omega | (simp; done) | (simp; omega)) _) | (with_reducible refine Below.drew ?_)); exact hl), by simpa [World.setCell] using hz⟩
        case measure => simp [intOf] <;> omega
      · have HV : Hid (S 95 = false) := by show _ = _; rw [HS.out]; simp [inSpan] <;> omega
        go_wp2
        go_roundw
        case rel => exact ⟨95 + 1, by omega, by go_num, (hb.bit 95 hlt false).congr (upTo_step S 95 false HV.out), hb1.of_heap (Below.heap_setCell _ _ _ _ (by simp)), (by (repeat first | (with_reducible refine Below.setCell ?_ (by first | exact Nat.le_refl _ | (simp; done) | (simp; omega)) _) | (with_reducible refine Below.alloc ?_ (by first | omega | (simp; done) | (simp; omega)) _) | (with_reducible refine Below.drew ?_)); exact hl), by simpa [World.setCell] using hz⟩
        case measure => simp [intOf] <;> omega
      · have HV : Hid (S 96 = false) := by show _ = _; rw [HS.out]; simp [inSpan] <;> omega
        go_wp2
        go_roundw
        case rel => exact ⟨96 + 1, by omega, by go_num, (hb.bit 96 hlt false).congr (upTo_step S 96 false HV.out), hb1.of_heap (Below.heap_setCell _ _ _ _ (by simp)), (by (repeat first | (with_reducible refine Below.setCell ?_ (by first | exact Nat.le_refl _ | (simp; done) | (simp; omega)) _) | (with_reducible refine Below.alloc ?_ (by first | omega | (simp; done) | (simp; omega)) _) | (with_reducible refine Below.drew ?_)); exact hl), by simpa [World.setCell] using hz⟩
        case measure => simp [intOf] <;> omega
      · have e48 : (48 : Int) ≤ k := by omega
        have e97 : (97 : Int) ≤ k := by omega
        have e65 : (65 : Int) ≤ k := by omega
        have e57 : decide ((k : Int) ≤ 57) = false := by simp; omega
        have e122 : (k : Int) ≤ 122 := by omega
        have e90 : decide ((k : Int) ≤ 90) = false := by simp; omega
        have e95 : ((k : Int) == 95) = false := by simp; omega
        have e9 : ((k : Int) == 9) = false := by simp; omega
        have e10 : ((k : Int) == 10) = false := by simp; omega
        have e13 : ((k : Int) == 13) = false := by simp; omega
        have e32 : ((k : Int) == 32) = false := by simp; omega
        have HV : Hid (S k = false) := by show _ = _; rw [HS.out]; simp [inSpan] <;> omega
        go_wp2
        go_roundw
        case rel => exact ⟨k + 1, by omega, by go_num, (hb.bit k hlt false).congr (upTo_step S k false HV.out), hb1.of_heap (Below.heap_setCell _ _ _ _ (by simp)), (by (repeat first | (with_reducible refine Below.setCell ?_ (by first | exact Nat.le_refl _ | (simp; done) | (simp; omega)) _) | (with_reducible refine Below.alloc ?_ (by first | omega | (simp; done) | (simp; omega)) _) | (with_reducible refine Below.drew ?_)); exact hl), by simpa [World.setCell] using hz⟩
        case measure => simp [intOf] <;> omega
      · have e48 : (48 : Int) ≤ k := by omega
        have e97 : (97 : Int) ≤ k := by omega
        have e65 : (65 : Int) ≤ k := by omega
        have e57 : decide ((k : Int) ≤ 57) = false := by simp; omega
        have e122 : decide ((k : Int) ≤ 122) = false := by simp; omega
        have e90 : decide ((k : Int) ≤ 90) = false := by simp; omega
        have e95 : ((k : Int) == 95) = false := by simp; omega
        have e9 : ((k : Int) == 9) = false := by simp; omega
        have e10 : ((k : Int) == 10) = false := by simp; omega
        have e13 : ((k : Int) == 13) = false := by simp; omega
        have e32 : ((k : Int) == 32) = false := by simp; omega
        have HV : Hid (S k = false) := by show _ = _; rw [HS.out]; simp [inSpan] <;> omega
        go_wp2
        go_roundw
        case rel => exact ⟨k + 1, by omega, by go_num, (hb.bit k hlt false).congr (upTo_step S k false HV.out), hb1.of_heap (Below.heap_setCell _ _ _ _ (by simp)), (by (repeat first | (with_reducible refine Below.setCell ?_ (by first | exact Nat.le_refl _ | (simp; done) | (simp; omega)) _) | (with_reducible refine Below.alloc ?_ (by first | omega | (simp; done) | (simp; omega)) _) | (with_reducible refine Below.drew ?_)); exact hl), by simpa [World.setCell] using hz⟩
        case measure => simp [intOf] <;> omega
    · have e : k = 256 := by omega
      subst e
      have hfull : Bs wr (w.heap.size + 1) S := ⟨fun i hi => by rw [hb.cB i hi]; simp [hi], hb.fz⟩
      go_wp2_with (first | (refine wpList_load_mid rfl 52 (.tmp 3) rfl (w.heap.size + 1) 0 rfl (bL S) _ hfull.range Tryd.underlying52 rfl (by rw [bL_len]; exact sizeA) ?_) | (refine wpList_store_mid rfl 52 (.tmp 2) (.tmp 71) rfl w.heap.size 0 (bA S) rfl rfl (by rw [bA_size]; exact hb1.there) (by rw [bA_size]; exact sizeA) (bL_one S) ?_))
      generalize hw4 : World.setCells wr _ _ _ = w4
      have b4 : Bs w4 w.heap.size S := by rw [← hw4]; exact hb1.all S
      have l4 : Below w.heap.size w w4 := by rw [← hw4]; exact below_setCells hl _ (Nat.le_refl _) _ _
      clear hw4
      exact bodyPost_ret (v := .agg (bA S)) (results_cell_mid Tryd.results64 _ _ w.heap.size (bL S) _ rfl b4.range Tryd.underlying52 rfl (by rw [bL_len]; exact sizeA)) rfl ⟨rfl, l4⟩
set_option maxRecDepth 20000 in
set_option maxHeartbeats 8000000 in
theorem several_w (w : World) :
    Calls Tryd.prog 64 #[.int .u8 119] w fun e w' => e = .returned (.agg (bA wSet)) ∧ Below w.heap.size w w' := by
  obtain ⟨S, hS⟩ : ∃ S, S = wSet := ⟨_, rfl⟩
  have HS : Hid (S = wSet) := hS
  rw [← hS]
  clear hS
  go_enter Tryd.func64, Tryd.ntmps64
  go_wp2_with (first | (refine wpList_alloc52 rfl rfl _ rfl w.heap.size rfl ?_; generalize hw1 : World.alloc w _ = w1; have b1 : Bs w1 w.heap.size (fun _ => false) := (by rw [← hw1]; exact bA_new _ _ _); have l1 : Below w.heap.size w w1 := (by rw [← hw1]; exact (Below.refl _ _).alloc (Nat.le_refl _) _); have z1 : w1.heap.size = w.heap.size + 1 := (by rw [← hw1]; simp); clear hw1) | (refine wpList_alloc52 rfl rfl _ rfl (w.heap.size + 1) z1 ?_; generalize hw2 : World.alloc w1 _ = w2; have b2 : Bs w2 (w.heap.size + 1) (fun _ => false) := (by rw [← hw2, ← z1]; exact bA_new _ _ _); have b1' : Bs w2 w.heap.size (fun _ => false) := (by rw [← hw2]; exact b1.of_heap (Below.heap_alloc _ _ _ (by omega))); have l2 : Below w.heap.size w w2 := (by rw [← hw2]; exact l1.alloc (by omega) _); have z2 : w2.heap.size = w.heap.size + 2 := (by rw [← hw2]; simp [z1]); clear hw2))
  go_loopw [4] (fun i wr => ∃ k : Nat, k ≤ 256 ∧ i = .int .i64 k ∧ Bs wr (w.heap.size + 1) (fun j => decide (j < k) && S j) ∧ Bs wr w.heap.size (fun _ => false) ∧ Below w.heap.size w wr ∧ wr.heap.size = w.heap.size + 2) (fun i _ => 256 - (intOf i).toNat)
  case atStart => exact ⟨0, by omega, rfl, by simpa using b2, b1', l2, z2⟩
  case round =>
    obtain ⟨k, hk, rfl, hb, hb1, hl, hz⟩ := hrel
    by_cases hlt : k < 256
    · have hcell := hb.cB k hlt
      have hfz := hb.fz k
      rcases cls_cases k hlt with q | rfl | rfl | q | rfl | q | rfl | q | q | q | q | q | rfl | rfl | q | q
      · have e48 : decide ((48 : Int) ≤ k) = false := by simp; omega
        have e97 : decide ((97 : Int) ≤ k) = false := by simp; omega
        have e65 : decide ((65 : Int) ≤ k) = false := by simp; omega
        have e57 : (k : Int) ≤ 57 := by omega
        have e122 : (k : Int) ≤ 122 := by omega
        have e90 : (k : Int) ≤ 90 := by omega
        have e95 : ((k : Int) == 95) = false := by simp; omega
        have e9 : ((k : Int) == 9) = false := by simp; omega
        have e10 : ((k : Int) == 10) = false := by simp; omega
        have e13 : ((k : Int) == 13) = false := by simp; omega
        have e32 : ((k : Int) == 32) = false := by simp; omega
        have HV : Hid (S k = false) := by show _ = _; rw [HS.out]; simp [inSpan, wSet] <;> omega
        go_wp2
        go_roundw
        case rel => exact ⟨k + 1, by omega, by go_num, (hb.bit k hlt false).congr (upTo_step S k false HV.out), hb1.of_heap (Below.heap_setCell _ _ _ _ (by simp)), (by (repeat first | (with_reducible refine Below.setCell ?_ (by first | exact Nat.le_refl _ | (simp; done) | (simp; omega)) _) | (with_reducible refine Below.alloc ?_ (by first | omega | (simp; done) | (simp; omega)) _) | (with_reducible refine Below.drew ?_)); exact hl), by simpa [World.setCell] using hz⟩
        case measure => simp [intOf] <;> omega
      · have HV : Hid (S 9 = false) := by show _ = _; rw [HS.out]; simp [inSpan, wSet] <;> omega
        go_wp2
        go_roundw
        case rel => exact ⟨9 + 1, by omega, by go_num, (hb.bit 9 hlt false).congr (upTo_step S 9 false HV.out), hb1.of_heap (Below.heap_setCell _ _ _ _ (by simp)), (by (repeat first | (with_reducible refine Below.setCell ?_ (by first | exact Nat.le_refl _ | (simp; done) | (simp; omega)) _) | (with_reducible refine Below.alloc ?_ (by first | omega | (simp; done) | (simp; omega)) _) | (with_reducible refine Below.drew ?_)); exact hl), by simpa [World.setCell] using hz⟩
        case measure => simp [intOf] <;> omega
      · have HV : Hid (S 10 = false) := by show _ = _; rw [HS.out]; simp [inSpan, wSet] <;> omega
        go_wp2
        go_roundw
        case rel => exact ⟨10 + 1, by omega, by go_num, (hb.bit 10 hlt false).congr (upTo_step S 10 false HV.out), hb1.of_heap (Below.heap_setCell _ _ _ _ (by simp)), (by (repeat first | (with_reducible refine Below.setCell ?_ (by first | exact Nat.le_refl _ | (simp; done) | (simp; omega)) _) | (with_reducible refine Below.alloc ?_ (by first | omega | (simp; done) | (simp; omega)) _) | (with_reducible refine Below.drew ?_)); exact hl), by simpa [World.setCell] using hz⟩
        case measure => simp [intOf] <;> omega
      · have e48 : decide ((48 : Int) ≤ k) = false := by simp; omega
        have e97 : decide ((97 : Int) ≤ k) = false := by simp; omega
        have e65 : decide ((65 : Int) ≤ k) = false := by simp; omega
        have e57 : (k : Int) ≤ 57 := by omega
        have e122 : (k : Int) ≤ 122 := by omega
        have e90 : (k : Int) ≤ 90 := by omega
        have e95 : ((k : Int) == 95) = false := by simp; omega
        have e9 : ((k : Int) == 9) = false := by simp; omega
        have e10 : ((k : Int) == 10) = false := by simp; omega
        have e13 : ((k : Int) == 13) = false := by simp; omega
        have e32 : ((k : Int) == 32) = false := by simp; omega
        have HV : Hid (S k = false) := by show _ = _; rw [HS.out]; simp [inSpan, wSet] <;> omega
        go_wp2
        go_roundw
        case rel => exact ⟨k + 1, by omega, by go_num, (hb.bit k hlt false).congr (upTo_step S k false HV.out), hb1.of_heap (Below.heap_setCell _ _ _ _ (by simp)), (by (repeat first | (with_reducible refine Below.setCell ?_ (by first | exact Nat.le_refl _ | (simp; done) | (simp; omega)) _) | (with_reducible refine Below.alloc ?_ (by first | omega | (simp; done) | (simp; omega)) _) | (with_reducible refine Below.drew ?_)); exact hl), by simpa [World.setCell] using hz⟩
        case measure => simp [intOf] <;> omega
      · have HV : Hid (S 13 = false) := by show _ = _; rw [HS.out]; simp [inSpan, wSet] <;> omega
        go_wp2
        go_roundw
        case rel => exact ⟨13 + 1, by omega, by go_num, (hb.bit 13 hlt false).congr (upTo_step S 13 false HV.out), hb1.of_heap (Below.heap_setCell _ _ _ _ (by simp)), (by (repeat first | (with_reducible refine Below.setCell ?_ (by first | exact Nat.le_refl _ | (simp; done) | (simp; omega)) _) | (with_reducible refine Below.alloc ?_ (by first | omega | (simp; done) | (simp; omega)) _) | (with_reducible refine Below.drew ?_)); exact hl), by simpa [World.setCell] using hz⟩
        case measure => simp [intOf] <;> omega
      · have e48 : decide ((48 : Int) ≤ k) = false := by simp; omega
        have e97 : decide ((97 : Int) ≤ k) = false := by simp; omega
        have e65 : decide ((65 : Int) ≤ k) = false := by simp; omega
        have e57 : (k : Int) ≤ 57 := by omega
        have e122 : (k : Int) ≤ 122 := by omega
        have e90 : (k : Int) ≤ 90 := by omega
        have e95 : ((k : Int) == 95) = false := by simp; omega
        have e9 : ((k : Int) == 9) = false := by simp; omega
        have e10 : ((k : Int) == 10) = false := by simp; omega
        have e13 : ((k : Int) == 13) = false := by simp; omega
        have e32 : ((k : Int) == 32) = false := by simp; omega
        have HV : Hid (S k = false) := by show _ = _; rw [HS.out]; simp [inSpan, wSet] <;> omega
        go_wp2
        go_roundw
        case rel => exact ⟨k + 1, by omega, by go_num, (hb.bit k hlt false).congr (upTo_step S k false HV.out), hb1.of_heap (Below.heap_setCell _ _ _ _ (by simp)), (by (repeat first | (with_reducible refine Below.setCell ?_ (by first | exact Nat.le_refl _ | (simp; done) | (simp; omega)) _) | (with_reducible refine Below.alloc ?_ (by first | omega | (simp; done) | (simp; omega)) _) | (with_reducible refine Below.drew ?_)); exact hl), by simpa [World.setCell] using hz⟩
        case measure => simp [intOf] <;> omega
      · have HV : Hid (S 32 = false) := by show _ = _; rw [HS.out]; simp [inSpan, wSet] <;> omega
        go_wp2
        go_roundw
        case rel => exact ⟨32 + 1, by omega, by go_num, (hb.bit 32 hlt false).congr (upTo_step S 32 false HV.out), hb1.of_heap (Below.heap_setCell _ _ _ _ (by simp)), (by (repeat first | (with_reducible refine Below.setCell ?_ (by first | exact Nat.le_refl _ | (simp; done) | (simp; omega)) _) | (with_reducible refine Below.alloc ?_ (by first | omega | (simp; done) | (simp; omega)) _) | (with_reducible refine Below.drew ?_)); exact hl), by simpa [World.setCell] using hz⟩
        case measure => simp [intOf] <;> omega
      · have e48 : decide ((48 : Int) ≤ k) = false := by simp; omega
        have e97 : decide ((97 : Int) ≤ k) = false := by simp; omega
        have e65 : decide ((65 : Int) ≤ k) = false := by simp; omega
        have e57 : (k : Int) ≤ 57 := by omega
        have e122 : (k : Int) ≤ 122 := by omega
        have e90 : (k : Int) ≤ 90 := by omega
        have e95 : ((k : Int) == 95) = false := by simp; omega
        have e9 : ((k : Int) == 9) = false := by simp; omega
        have e10 : ((k : Int) == 10) = false := by simp; omega
        have e13 : ((k : Int) == 13) = false := by simp; omega
        have e32 : ((k : Int) == 32) = false := by simp; omega
        have HV : Hid (S k = false) := by show _ = _; rw [HS.out]; simp [inSpan, wSet] <;> omega
        go_wp2
        go_roundw
        case rel => exact ⟨k + 1, by omega, by go_num, (hb.bit k hlt false).congr (upTo_step S k false HV.out), hb1.of_heap (Below.heap_setCell _ _ _ _ (by simp)), (by (repeat first | (with_reducible refine Below.setCell ?_ (by first | exact Nat.le_refl _ | (simp; done) | (simp; omega)) _) | (with_reducible refine Below.alloc ?_ (by first | omega | (simp; done) | (simp; omega)) _) | (with_reducible refine Below.drew ?_)); exact hl), by simpa [World.setCell] using hz⟩
        case measure => simp [intOf] <;> omega
      · have e48 : (48 : Int) ≤ k := by omega
        have e97 : decide ((97 : Int) ≤ k) = false := by simp; omega
        have e65 : decide ((65 : Int) ≤ k) = false := by simp; omega
        have e57 : (k : Int) ≤ 57 := by omega
        have e122 : (k : Int) ≤ 122 := by omega
        have e90 : (k : Int) ≤ 90 := by omega
        have e95 : ((k : Int) == 95) = false := by simp; omega
        have e9 : ((k : Int) == 9) = false := by simp; omega
        have e10 : ((k : Int) == 10) = false := by simp; omega
        have e13 : ((k : Int) == 13) = false := by simp; omega
        have e32 : ((k : Int) == 32) = false := by simp; omega
        have HV : Hid (S k = true) := by show _ = _; rw [HS.out]; simp [inSpan, wSet] <;> omega
        go_wp2
        go_roundw
        case rel => exact ⟨k + 1, by omega, by go_num, (hb.bit k hlt true).congr (upTo_step S k true HV.out), hb1.of_heap (Below.heap_setCell _ _ _ _ (by simp)), (by (repeat first | (with_reducible refine Below.setCell ?_ (by first | exact Nat.le_refl _ | (simp; done) | (simp; omega)) _) | (with_reducible refine Below.alloc ?_ (by first | omega | (simp; done) | (simp; omega)) _) | (with_reducible refine Below.drew ?_)); exact hl), by simpa [World.setCell] using hz⟩
        case measure => simp [intOf] <;> omega
      · have e48 : (48 : Int) ≤ k := by omega
        have e97 : decide ((97 : Int) ≤ k) = false := by simp; omega
        have e65 : decide ((65 : Int) ≤ k) = false := by simp; omega
        have e57 : decide ((k : Int) ≤ 57) = false := by simp; omega
        have e122 : (k : Int) ≤ 122 := by omega
        have e90 : (k : Int) ≤ 90 := by omega
        have e95 : ((k : Int) == 95) = false := by simp; omega
        have e9 : ((k : Int) == 9) = false := by simp; omega
        have e10 : ((k : Int) == 10) = false := by simp; omega
        have e13 : ((k : Int) == 13) = false := by simp; omega
        have e32 : ((k : Int) == 32) = false := by simp; omega
        have HV : Hid (S k = false) := by show _ = _; rw [HS.out]; simp [inSpan, wSet] <;> omega
        go_wp2
        go_roundw
        case rel => exact ⟨k + 1, by omega, by go_num, (hb.bit k hlt false).congr (upTo_step S k false HV.out), hb1.of_heap (Below.heap_setCell _ _ _ _ (by simp)), (by (repeat first | (with_reducible refine Below.setCell ?_ (by first | exact Nat.le_refl _ | (simp; done) | (simp; omega)) _) | (with_reducible refine Below.alloc ?_ (by first | omega | (simp; done) | (simp; omega)) _) | (with_reducible refine Below.drew ?_)); exact hl), by simpa [World.setCell] using hz⟩
        case measure => simp [intOf] <;> omega
      · have e48 : (48 : Int) ≤ k := by omega
        have e97 : decide ((97 : Int) ≤ k) = false := by simp; omega
        have e65 : (65 : Int) ≤ k := by omega
        have e57 : decide ((k : Int) ≤ 57) = false := by simp; omega
        have e122 : (k : Int) ≤ 122 := by omega
        have e90 : (k : Int) ≤ 90 := by omega
        have e95 : ((k : Int) == 95) = false := by simp; omega
        have e9 : ((k : Int) == 9) = false := by simp; omega
        have e10 : ((k : Int) == 10) = false := by simp; omega
        have e13 : ((k : Int) == 13) = false := by simp; omega
        have e32 : ((k : Int) == 32) = false := by simp; omega
        have HV : Hid (S k = true) := by show _ = _; rw [HS.out]; simp [inSpan, wSet] <;> omega
        go_wp2
        go_roundw
        case rel => exact ⟨k + 1, by omega, by go_num, (hb.bit k hlt true).congr (upTo_step S k true HV.out), hb1.of_heap (Below.heap_setCell _ _ _ _ (by simp)), (by (repeat first | (with_reducible refine Below.setCell ?_ (by first | exact Nat.le_refl _ | (simp; done) | (simp; omega)) _) | (with_reducible refine Below.alloc ?_ (by first | omega | (simp; done) | (simp; omega)) _) | (with_reducible refine Below.drew ?_)); exact hl), by simpa [World.setCell] using hz⟩
        case measure => simp [intOf] <;> omega
      · have e48 : (48 : Int) ≤ k := by omega
        have e97 : decide ((97 : Int) ≤ k) = false := by simp; omega
        have e65 : (65 : Int) ≤ k := by omega
        have e57 : decide ((k : Int) ≤ 57) = false := by simp; omega
        have e122 : (k : Int) ≤ 122 := by omega
        have e90 : decide ((k : Int) ≤ 90) = false := by simp; omega
        have e95 : ((k : Int) == 95) = false := by simp; omega
        have e9 : ((k : Int) == 9) = false := by simp; omega
        have e10 : ((k : Int) == 10) = false := by simp; omega
        have e13 : ((k : Int) == 13) = false := by simp; omega
        have e32 : ((k : Int) == 32) = false := by simp; omega
        have HV : Hid (S k = false) := by show _ = _; rw [HS.out]; simp [inSpan, wSet] <;> omega
        go_wp2
        go_roundw
        case rel => exact ⟨k + 1, by omega, by go_num, (hb.bit k hlt false).congr (upTo_step S k false HV.out), hb1.of_heap (Below.heap_setCell _ _ _ _ (by simp)), (by (repeat first | (with_reducible refine Below.setCell ?_ (by first | exact Nat.le_refl _ | (simp; done) | (simp; omega)) _) | (with_reducible refine Below.alloc ?_ (by first | omega | (simp; done) | (simp; omega)) _) | (with_reducible refine Below.drew ?_)); exact hl), by simpa [World.setCell] using hz⟩
        case measure => simp [intOf] <;> omega
      · have HV : Hid (S 95 = true) := by show _ = _; rw [HS.out]; simp [inSpan, wSet] <;> omega
        go_wp2
        go_roundw
        case rel => exact ⟨95 + 1, by omega, by go_num, (hb.bit 95 hlt true).congr (upTo_step S 95 true HV.out), hb1.of_heap (Below.heap_setCell _ _ _ _ (by simp)), (by (repeat first | (with_reducible refine Below.setCell ?_ (by first | exact Nat.le_refl _ | (simp; done) | (simp; omega)) _) | (with_reducible refine Below.alloc ?_ (by first | omega | (simp; done) | (simp; omega)) _) | (with_reducible refine Below.drew ?_)); exact hl), by simpa [World.setCell] using hz⟩
        case measure => simp [intOf] <;> omega
      · have HV : Hid (S 96 = false) := by show _ = _; rw [HS.out]; simp [inSpan, wSet] <;> omega
        go_wp2
        go_roundw
        case rel => exact ⟨96 + 1, by omega, by go_num, (hb.bit 96 hlt false).congr (upTo_step S 96 false HV.out), hb1.of_heap (Below.heap_setCell _ _ _ _ (by simp)), (by (repeat first | (with_reducible refine Below.setCell ?_ (by first | exact Nat.le_refl _ | (simp; done) | (simp; omega)) _) | (with_reducible refine Below.alloc ?_ (by first | omega | (simp; done) | (simp; omega)) _) | (with_reducible refine Below.drew ?_)); exact hl), by simpa [World.setCell] using hz⟩
        case measure => simp [intOf] <;> omega
      · have e48 : (48 : Int) ≤ k := by omega
        have e97 : (97 : Int) ≤ k := by omega
        have e65 : (65 : Int) ≤ k := by omega
        have e57 : decide ((k : Int) ≤ 57) = false := by simp; omega
        have e122 : (k : Int) ≤ 122 := by omega
        have e90 : decide ((k : Int) ≤ 90) = false := by simp; omega
        have e95 : ((k : Int) == 95) = false := by simp; omega
        have e9 : ((k : Int) == 9) = false := by simp; omega
        have e10 : ((k : Int) == 10) = false := by simp; omega
        have e13 : ((k : Int) == 13) = false := by simp; omega
        have e32 : ((k : Int) == 32) = false := by simp; omega
        have HV : Hid (S k = true) := by show _ = _; rw [HS.out]; simp [inSpan, wSet] <;> omega
        go_wp2
        go_roundw
        case rel => exact ⟨k + 1, by omega, by go_num, (hb.bit k hlt true).congr (upTo_step S k true HV.out), hb1.of_heap (Below.heap_setCell _ _ _ _ (by simp)), (by (repeat first | (with_reducible refine Below.setCell ?_ (by first | exact Nat.le_refl _ | (simp; done) | (simp; omega)) _) | (with_reducible refine Below.alloc ?_ (by first | omega | (simp; done) | (simp; omega)) _) | (with_reducible refine Below.drew ?_)); exact hl), by simpa [World.setCell] using hz⟩
        case measure => simp [intOf] <;> omega
      · have e48 : (48 : Int) ≤ k := by omega
        have e97 : (97 : Int) ≤ k := by omega
        have e65 : (65 : Int) ≤ k := by omega
        have e57 : decide ((k : Int) ≤ 57) = false := by simp; omega
        have e122 : decide ((k : Int) ≤ 122) = false := by simp; omega
        have e90 : decide ((k : Int) ≤ 90) = false := by simp; omega
        have e95 : ((k : Int) == 95) = false := by simp; omega
        have e9 : ((k : Int) == 9) = false := by simp; omega
        have e10 : ((k : Int) == 10) = false := by simp; omega
        have e13 : ((k : Int) == 13) = false := by simp; omega
        have e32 : ((k : Int) == 32) = false := by simp; omega
        have HV : Hid (S k = false) := by show _ = _; rw [HS.out]; simp [inSpan, wSet] <;> omega
        go_wp2
        go_roundw
        case rel => exact ⟨k + 1, by omega, by go_num, (hb.bit k hlt false).congr (upTo_step S k false HV.out), hb1.of_heap (Below.heap_setCell _ _ _ _ (by simp)), (by (repeat first | (with_reducible refine Below.setCell ?_ (by first | exact Nat.le_refl _ | (simp; done) | (simp; omega)) _) | (with_reducible refine Below.alloc ?_ (by first | omega | (simp; done) | (simp; omega)) _) | (with_reducible refine Below.drew ?_)); exact hl), by simpa [World.setCell] using hz⟩
        case measure => simp [intOf] <;> omega
    · have e : k = 256 := by omega
      subst e
      have hfull : Bs wr (w.heap.size + 1) S := ⟨fun i hi => by rw [hb.cB i hi]; simp [hi], hb.fz⟩
      go_wp2_with (first | (refine wpList_load_mid rfl 52 (.tmp 3) rfl (w.heap.size + 1) 0 rfl (bL S) _ hfull.range Tryd.underlying52 rfl (by rw [bL_len]; exact sizeA) ?_) | (refine wpList_store_mid rfl 52 (.tmp 2) (.tmp 71) rfl w.heap.size 0 (bA S) rfl rfl (by rw [bA_size]; exact hb1.there) (by rw [bA_size]; exact sizeA) (bL_one S) ?_))
      generalize hw4 : World.setCells wr _ _ _ = w4
      have b4 : Bs w4 w.heap.size S := by rw [← hw4]; exact hb1.all S
      have l4 : Below w.heap.size w w4 := by rw [← hw4]; exact below_setCells hl _ (Nat.le_refl _) _ _
      clear hw4
      exact bodyPost_ret (v := .agg (bA S)) (results_cell_mid Tryd.results64 _ _ w.heap.size (bL S) _ rfl b4.range Tryd.underlying52 rfl (by rw [bL_len]; exact sizeA)) rfl ⟨rfl, l4⟩
set_option maxRecDepth 20000 in
set_option maxHeartbeats 8000000 in
theorem several_s (w : World) :
    Calls Tryd.prog 64 #[.int .u8 115] w fun e w' => e = .returned (.agg (bA sSet)) ∧ Below w.heap.size w w' := by
  obtain ⟨S, hS⟩ : ∃ S, S = sSet := ⟨_, rfl⟩
  have HS : Hid (S = sSet) := hS
  rw [← hS]
  clear hS
  go_enter Tryd.func64, Tryd.ntmps64
  go_wp2_with (first | (refine wpList_alloc52 rfl rfl _ rfl w.heap.size rfl ?_; generalize hw1 : World.alloc w _ = w1; have b1 : Bs w1 w.heap.size (fun _ => false) := (by rw [← hw1]; exact bA_new _ _ _); have l1 : Below w.heap.size w w1 := (by rw [← hw1]; exact (Below.refl _ _).alloc (Nat.le_refl _) _); have z1 : w1.heap.size = w.heap.size + 1 := (by rw [← hw1]; simp); clear hw1) | (refine wpList_alloc52 rfl rfl _ rfl (w.heap.size + 1) z1 ?_; generalize hw2 : World.alloc w1 _ = w2; have b2 : Bs w2 (w.heap.size + 1) (fun _ => false) := (by rw [← hw2, ← z1]; exact bA_new _ _ _); have b1' : Bs w2 w.heap.size (fun _ => false) := (by rw [← hw2]; exact b1.of_heap (Below.heap_alloc _ _ _ (by omega))); have l2 : Below w.heap.size w w2 := (by rw [← hw2]; exact l1.alloc (by omega) _); have z2 : w2.heap.size = w.heap.size + 2 := (by rw [← hw2]; simp [z1]); clear hw2))
  go_loopw [4] (fun i wr => ∃ k : Nat, k ≤ 256 ∧ i = .int .i64 k ∧ Bs wr (w.heap.size + 1) (fun j => decide (j < k) && S j) ∧ Bs wr w.heap.size (fun _ => false) ∧ Below w.heap.size w wr ∧ wr.heap.size = w.heap.size + 2) (fun i _ => 256 - (intOf i).toNat)
  case atStart => exact ⟨0, by omega, rfl, by simpa using b2, b1', l2, z2⟩
  case round =>
    obtain ⟨k, hk, rfl, hb, hb1, hl, hz⟩ := hrel
    by_cases hlt : k < 256
    · have hcell := hb.cB k hlt
      have hfz := hb.fz k
      rcases cls_cases k hlt with q | rfl | rfl | q | rfl | q | rfl | q | q | q | q | q | rfl | rfl | q | q
      · have e48 : decide ((48 : Int) ≤ k) = false := by simp; omega
        have e97 : decide ((97 : Int) ≤ k) = false := by simp; omega
        have e65 : decide ((65 : Int) ≤ k) = false := by simp; omega
        have e57 : (k : Int) ≤ 57 := by omega
        have e122 : (k : Int) ≤ 122 := by omega
        have e90 : (k : Int) ≤ 90 := by omega
        have e95 : ((k : Int) == 95) = false := by simp; omega
        have e9 : ((k : Int) == 9) = false := by simp; omega
        have e10 : ((k : Int) == 10) = false := by simp; omega
        have e13 : ((k : Int) == 13) = false := by simp; omega
        have e32 : ((k : Int) == 32) = false := by simp; omega
        have HV : Hid (S k = false) := by show _ = _; rw [HS.out]; simp [inSpan, sSet] <;> omega
        go_wp2
        go_roundw
        case rel => exact ⟨k + 1, by omega, by go_num, (hb.bit k hlt false).congr (upTo_step S k false HV.out), hb1.of_heap (Below.heap_setCell _ _ _ _ (by simp)), (by (repeat first | (with_reducible refine Below.setCell ?_ (by first | exact Nat.le_refl _ | (simp; done) | (simp; omega)) _) | (with_reducible refine Below.alloc ?_ (by first | omega | (simp; done) | (simp; omega)) _) | (with_reducible refine Below.drew ?_)); exact hl), by simpa [World.setCell] using hz⟩
        case measure => simp [intOf] <;> omega
      · have HV : Hid (S 9 = true) := by show _ = _; rw [HS.out]; simp [inSpan, sSet] <;> omega
        go_wp2
        go_roundw
        case rel => exact ⟨9 + 1, by omega, by go_num, (hb.bit 9 hlt true).congr (upTo_step S 9 true HV.out), hb1.of_heap (Below.heap_setCell _ _ _ _ (by simp)), (by (repeat first | (with_reducible refine Below.setCell ?_ (by first | exact Nat.le_refl _ | (simp; done) | (simp; omega)) _) | (with_reducible refine Below.alloc ?_ (by first | omega | (simp; done) | (simp; omega)) _) | (with_reducible refine Below.drew ?_)); exact hl), by simpa [World.setCell] using hz⟩
        case measure => simp [intOf] <;> omega
      · have HV : Hid (S 10 = true) := by show _ = _; rw [HS.out]; simp [inSpan, sSet] <;> omega
        go_wp2
        go_roundw
        case rel => exact ⟨10 + 1, by omega, by go_num, (hb.bit 10 hlt true).congr (upTo_step S 10 true HV.out), hb1.of_heap (Below.heap_setCell _ _ _ _ (by simp)), (by (repeat first | (with_reducible refine Below.setCell ?_ (by first | exact Nat.le_refl _ | (simp; done) | (simp; omega)) _) | (with_reducible refine Below.alloc ?_ (by first | omega | (simp; done) | (simp; omega)) _) | (with_reducible refine Below.drew ?_)); exact hl), by simpa [World.setCell] using hz⟩
        case measure => simp [intOf] <;> omega
      · have e48 : decide ((48 : Int) ≤ k) = false := by simp; omega
        have e97 : decide ((97 : Int) ≤ k) = false := by simp; omega
        have e65 : decide ((65 : Int) ≤ k) = false := by simp; omega
        have e57 : (k : Int) ≤ 57 := by omega
        have e122 : (k : Int) ≤ 122 := by omega
        have e90 : (k : Int) ≤ 90 := by omega
        have e95 : ((k : Int) == 95) = false := by simp; omega
        have e9 : ((k : Int) == 9) = false := by simp; omega
        have e10 : ((k : Int) == 10) = false := by simp; omega
        have e13 : ((k : Int) == 13) = false := by simp; omega
        have e32 : ((k : Int) == 32) = false := by simp; omega
        have HV : Hid (S k = false) := by show _ = _; rw [HS.out]; simp [inSpan, sSet] <;> omega
        go_wp2
        go_roundw
        case rel => exact ⟨k + 1, by omega, by go_num, (hb.bit k hlt false).congr (upTo_step S k false HV.out), hb1.of_heap (Below.heap_setCell _ _ _ _ (by simp)), (by (repeat first | (with_reducible refine Below.setCell ?_ (by first | exact Nat.le_refl _ | (simp; done) | (simp; omega)) _) | (with_reducible refine Below.alloc ?_ (by first | omega | (simp; done) | (simp; omega)) _) | (with_reducible refine Below.drew ?_)); exact hl), by simpa [World.setCell] using hz⟩
        case measure => simp [intOf] <;> omega
      · have HV : Hid (S 13 = true) := by show _ = _; rw [HS.out]; simp [inSpan, sSet] <;> omega
        go_wp2
        go_roundw
        case rel => exact ⟨13 + 1, by omega, by go_num, (hb.bit 13 hlt true).congr (upTo_step S 13 true HV.out), hb1.of_heap (Below.heap_setCell _ _ _ _ (by simp)), (by (repeat first | (with_reducible refine Below.setCell ?_ (by first | exact Nat.le_refl _ | (simp; done) | (simp; omega)) _) | (with_reducible refine Below.alloc ?_ (by first | omega | (simp; done) | (simp; omega)) _) | (with_reducible refine Below.drew ?_)); exact hl), by simpa [World.setCell] using hz⟩
        case measure => simp [intOf] <;> omega
      · have e48 : decide ((48 : Int) ≤ k) = false := by simp; omega
        have e97 : decide ((97 : Int) ≤ k) = false := by simp; omega
        have e65 : decide ((65 : Int) ≤ k) = false := by simp; omega
        have e57 : (k : Int) ≤ 57 := by omega
        have e122 : (k : Int) ≤ 122 := by omega
        have e90 : (k : Int) ≤ 90 := by omega
        have e95 : ((k : Int) == 95) = false := by simp; omega
        have e9 : ((k : Int) == 9) = false := by simp; omega
        have e10 : ((k : Int) == 10) = false := by simp; omega
        have e13 : ((k : Int) == 13) = false := by simp; omega
        have e32 : ((k : Int) == 32) = false := by simp; omega
        have HV : Hid (S k = false) := by show _ = _; rw [HS.out]; simp [inSpan, sSet] <;> omega
        go_wp2
        go_roundw
        case rel => exact ⟨k + 1, by omega, by go_num, (hb.bit k hlt false).congr (upTo_step S k false HV.out), hb1.of_heap (Below.heap_setCell _ _ _ _ (by simp)), (by (repeat first | (with_reducible refine Below.setCell ?_ (by first | exact Nat.le_refl _ | (simp; done) | (simp; omega)) _) | (with_reducible refine Below.alloc ?_ (by first | omega | (simp; done) | (simp; omega)) _) | (with_reducible refine Below.drew ?_)); exact hl), by simpa [World.setCell] using hz⟩
        case measure => simp [intOf] <;> omega
      · have HV : Hid (S 32 = true) := by show _ = _; rw [HS.out]; simp [inSpan, sSet] <;> omega
        go_wp2
        go_roundw
        case rel => exact ⟨32 + 1, by omega, by go_num, (hb.bit 32 hlt true).congr (upTo_step S 32 true HV.out), hb1.of_heap (Below.heap_setCell _ _ _ _ (by simp)), (by (repeat first | (with_reducible refine Below.setCell ?_ (by first | exact Nat.le_refl _ | (simp; done) | (simp; omega)) _) | (with_reducible refine Below.alloc ?_ (by first | omega | (simp; done) | (simp; omega)) _) | (with_reducible refine Below.drew ?_)); exact hl), by simpa [World.setCell] using hz⟩
        case measure => simp [intOf] <;> omega
      · have e48 : decide ((48 : Int) ≤ k) = false := by simp; omega
        have e97 : decide ((97 : Int) ≤ k) = false := by simp; omega
        have e65 : decide ((65 : Int) ≤ k) = false := by simp; omega
        have e57 : (k : Int) ≤ 57 := by omega
        have e122 : (k : Int) ≤ 122 := by omega
        have e90 : (k : Int) ≤ 90 := by omega
        have e95 : ((k : Int) == 95) = false := by simp; omega
        have e9 : ((k : Int) == 9) = false := by simp; omega
        have e10 : ((k : Int) == 10) = false := by simp; omega
        have e13 : ((k : Int) == 13) = false := by simp; omega
        have e32 : ((k : Int) == 32) = false := by simp; omega
        have HV : Hid (S k = false) := by show _ = _; rw [HS.out]; simp [inSpan, sSet] <;> omega
        go_wp2
        go_roundw
        case rel => exact ⟨k + 1, by omega, by go_num, (hb.bit k hlt false).congr (upTo_step S k false HV.out), hb1.of_heap (Below.heap_setCell _ _ _ _ (by simp)), (by (repeat first | (with_reducible refine Below.setCell ?_ (by first | exact Nat.le_refl _ | (simp; done) | (simp; omega)) _) | (with_reducible refine Below.alloc ?_ (by first | omega | (simp; done) | (simp; omega)) _) | (with_reducible refine Below.drew ?_)); exact hl), by simpa [World.setCell] using hz⟩
        case measure => simp [intOf] <;> omega
      · have e48 : (48 : Int) ≤ k := by omega
        have e97 : decide ((97 : Int) ≤ k) = false := by simp; omega
        have e65 : decide ((65 : Int) ≤ k) = false := by simp; omega
        have e57 : (k : Int) ≤ 57 := by omega
        have e122 : (k : Int) ≤ 122 := by omega
        have e90 : (k : Int) ≤ 90 := by omega
        have e95 : ((k : Int) == 95) = false := by simp; omega
        have e9 : ((k : Int) == 9) = false := by simp; omega
        have e10 : ((k : Int) == 10) = false := by simp; omega
        have e13 : ((k : Int) == 13) = false := by simp; omega
        have e32 : ((k : Int) == 32) = false := by simp; omega
        have HV : Hid (S k = false) := by show _ = _; rw [HS.out]; simp [inSpan, sSet] <;> omega
        go_wp2
        go_roundw
        case rel => exact ⟨k + 1, by omega, by go_num, (hb.bit k hlt false).congr (upTo_step S k false HV.out), hb1.of_heap (Below.heap_setCell _ _ _ _ (by simp)), (by (repeat first | (with_reducible refine Below.setCell ?_ (by first | exact Nat.le_refl _ | (simp; done) | (simp; omega)) _) | (with_reducible refine Below.alloc ?_ (by first | omega | (simp; done) | (simp; omega)) _) | (with_reducible refine Below.drew ?_)); exact hl), by simpa [World.setCell] using hz⟩
        case measure => simp [intOf] <;> omega
      · have e48 : (48 : Int) ≤ k := by omega
        have e97 : decide ((97 : Int) ≤ k) = false := by simp; omega
        have e65 : decide ((65 : Int) ≤ k) = false := by simp; omega
        have e57 : decide ((k : Int) ≤ 57) = false := by simp; omega
        have e122 : (k : Int) ≤ 122 := by omega
        have e90 : (k : Int) ≤ 90 := by omega
        have e95 : ((k : Int) == 95) = false := by simp; omega
        have e9 : ((k : Int) == 9) = false := by simp; omega
        have e10 : ((k : Int) == 10) = false := by simp; omega
        have e13 : ((k : Int) == 13) = false := by simp; omega
        have e32 : ((k : Int) == 32) = false := by simp; omega
        have HV : Hid (S k = false) := by show _ = _; rw [HS.out]; simp [inSpan, sSet] <;> omega
        go_wp2
        go_roundw
        case rel => exact ⟨k + 1, by omega, by go_num, (hb.bit k hlt false).congr (upTo_step S k false HV.out), hb1.of_heap (Below.heap_setCell _ _ _ _ (by simp)), (by (repeat first | (with_reducible refine Below.setCell ?_ (by first | exact Nat.le_refl _ | (simp; done) | (simp; omega)) _) | (with_reducible refine Below.alloc ?_ (by first | omega | (simp; done) | (simp; omega)) _) | (with_reducible refine Below.drew ?_)); exact hl), by simpa [World.setCell] using hz⟩
        case measure => simp [intOf] <;> omega
      · have e48 : (48 : Int) ≤ k := by omega
        have e97 : decide ((97 : Int) ≤ k) = false := by simp; omega
        have e65 : (65 : Int) ≤ k := by omega
        have e57 : decide ((k : Int) ≤ 57) = false := by simp; omega
        have e122 : (k : Int) ≤ 122 := by omega
        have e90 : (k : Int) ≤ 90 := by omega
        have e95 : ((k : Int) == 95) = false := by simp; omega
        have e9 : ((k : Int) == 9) = false := by simp; omega
        have e10 : ((k : Int) == 10) = false := by simp; omega
        have e13 : ((k : Int) == 13) = false := by simp; omega
        have e32 : ((k : Int) == 32) = false := by simp; omega
        have HV : Hid (S k = false) := by show _ = _; rw [HS.out]; simp [inSpan, sSet] <;> omega
        go_wp2
        go_roundw
        case rel => exact ⟨k + 1, by omega, by go_num, (hb.bit k hlt false).congr (upTo_step S k false HV.out), hb1.of_heap (Below.heap_setCell _ _ _ _ (by simp)), (by (repeat first | (with_reducible refine Below.setCell ?_ (by first | exact Nat.le_refl _ | (simp; done) | (simp; omega)) _) | (with_reducible refine Below.alloc ?_ (by first | omega | (simp; done) | (simp; omega)) _) | (with_reducible refine Below.drew ?_)); exact hl), by simpa [World.setCell] using hz⟩
        case measure => simp [intOf] <;> omega
      · have e48 : (48 : Int) ≤ k := by omega
        have e97 : decide ((97 : Int) ≤ k) = false := by simp; omega
        have e65 : (65 : Int) ≤ k := by omega
        have e57 : decide ((k : Int) ≤ 57) = false := by simp; omega
        have e122 : (k : Int) ≤ 122 := by omega
        have e90 : decide ((k : Int) ≤ 90) = false := by simp; omega
        have e95 : ((k : Int) == 95) = false := by simp; omega
        have e9 : ((k : Int) == 9) = false := by simp; omega
        have e10 : ((k : Int) == 10) = false := by simp; omega
        have e13 : ((k : Int) == 13) = false := by simp; omega
        have e32 : ((k : Int) == 32) = false := by simp; omega
        have HV : Hid (S k = false) := by show _ = _; rw [HS.out]; simp [inSpan, sSet] <;> omega
        go_wp2
        go_roundw
        case rel => exact ⟨k + 1, by omega, by go_num, (hb.bit k hlt false).congr (upTo_step S k false HV.out), hb1.of_heap (Below.heap_setCell _ _ _ _ (by simp)), (by (repeat first | (with_reducible refine Below.setCell ?_ (by first | exact Nat.le_refl _ | (simp; done) | (simp; omega)) _) | (with_reducible refine Below.alloc ?_ (by first | omega | (simp; done) | (simp; omega)) _) | (with_reducible refine Below.drew ?_)); exact hl), by simpa [World.setCell] using hz⟩
        case measure => simp [intOf] <;> omega
      · have HV : Hid (S 95 = false) := by show _ = _; rw [HS.out]; simp [inSpan, sSet] <;> omega
        go_wp2
        go_roundw
        case rel => exact ⟨95 + 1, by omega, by go_num, (hb.bit 95 hlt false).congr (upTo_step S 95 false HV.out), hb1.of_heap (Below.heap_setCell _ _ _ _ (by simp)), (by (repeat first | (with_reducible refine Below.setCell ?_ (by first | exact Nat.le_refl _ | (simp; done) | (simp; omega)) _) | (with_reducible refine Below.alloc ?_ (by first | omega | (simp; done) | (simp; omega)) _) | (with_reducible refine Below.drew ?_)); exact hl), by simpa [World.setCell] using hz⟩
        case measure => simp [intOf] <;> omega
      · have HV : Hid (S 96 = false) := by show _ = _; rw [HS.out]; simp [inSpan, sSet] <;> omega
        go_wp2
        go_roundw
        case rel => exact ⟨96 + 1, by omega, by go_num, (hb.bit 96 hlt false).congr (upTo_step S 96 false HV.out), hb1.of_heap (Below.heap_setCell _ _ _ _ (by simp)), (by (repeat first | (with_reducible refine Below.setCell ?_ (by first | exact Nat.le_refl _ | (simp; done) | (simp; omega)) _) | (with_reducible refine Below.alloc ?_ (by first | omega | (simp; done) | (simp; omega)) _) | (with_reducible refine Below.drew ?_)); exact hl), by simpa [World.setCell] using hz⟩
        case measure => simp [intOf] <;> omega
      · have e48 : (48 : Int) ≤ k := by omega
        have e97 : (97 : Int) ≤ k := by omega
        have e65 : (65 : Int) ≤ k := by omega
        have e57 : decide ((k : Int) ≤ 57) = false := by simp; omega
        have e122 : (k : Int) ≤ 122 := by omega
        have e90 : decide ((k : Int) ≤ 90) = false := by simp; omega
        have e95 : ((k : Int) == 95) = false := by simp; omega
        have e9 : ((k : Int) == 9) = false := by simp; omega
        have e10 : ((k : Int) == 10) = false := by simp; omega
        have e13 : ((k : Int) == 13) = false := by simp; omega
        have e32 : ((k : Int) == 32) = false := by simp; omega
        have HV : Hid (S k = false) := by show _ = _; rw [HS.out]; simp [inSpan, sSet] <;> omega
        go_wp2
        go_roundw
        case rel => exact ⟨k + 1, by omega, by go_num, (hb.bit k hlt false).congr (upTo_step S k false HV.out), hb1.of_heap (Below.heap_setCell _ _ _ _ (by simp)), (by (repeat first | (with_reducible refine Below.setCell ?_ (by first | exact Nat.le_refl _ | (simp; done) | (simp; omega)) _) | (with_reducible refine Below.alloc ?_ (by first | omega | (simp; done) | (simp; omega)) _) | (with_reducible refine Below.drew ?_)); exact hl), by simpa [World.setCell] using hz⟩
        case measure => simp [intOf] <;> omega
      · have e48 : (48 : Int) ≤ k := by omega
        have e97 : (97 : Int) ≤ k := by omega
        have e65 : (65 : Int) ≤ k := by omega
        have e57 : decide ((k : Int) ≤ 57) = false := by simp; omega
        have e122 : decide ((k : Int) ≤ 122) = false := by simp; omega
        have e90 : decide ((k : Int) ≤ 90) = false := by simp; omega
        have e95 : ((k : Int) == 95) = false := by simp; omega
        have e9 : ((k : Int) == 9) = false := by simp; omega
        have e10 : ((k : Int) == 10) = false := by simp; omega
        have e13 : ((k : Int) == 13) = false := by simp; omega
        have e32 : ((k : Int) == 32) = false := by simp; omega
        have HV : Hid (S k = false) := by show _ = _; rw [HS.out]; simp [inSpan, sSet] <;> omega
        go_wp2
        go_roundw
        case rel => exact ⟨k + 1, by omega, by go_num, (hb.bit k hlt false).congr (upTo_step S k false HV.out), hb1.of_heap (Below.heap_setCell _ _ _ _ (by simp)), (by (repeat first | (with_reducible refine Below.setCell ?_ (by first | exact Nat.le_refl _ | (simp; done) | (simp; omega)) _) | (with_reducible refine Below.alloc ?_ (by first | omega | (simp; done) | (simp; omega)) _) | (with_reducible refine Below.drew ?_)); exact hl), by simpa [World.setCell] using hz⟩
        case measure => simp [intOf] <;> omega
    · have e : k = 256 := by omega
      subst e
      have hfull : Bs wr (w.heap.size + 1) S := ⟨fun i hi => by rw [hb.cB i hi]; simp [hi], hb.fz⟩
      go_wp2_with (first | (refine wpList_load_mid rfl 52 (.tmp 3) rfl (w.heap.size + 1) 0 rfl (bL S) _ hfull.range Tryd.underlying52 rfl (by rw [bL_len]; exact sizeA) ?_) | (refine wpList_store_mid rfl 52 (.tmp 2) (.tmp 71) rfl w.heap.size 0 (bA S) rfl rfl (by rw [bA_size]; exact hb1.there) (by rw [bA_size]; exact sizeA) (bL_one S) ?_))
      generalize hw4 : World.setCells wr _ _ _ = w4
      have b4 : Bs w4 w.heap.size S := by rw [← hw4]; exact hb1.all S
      have l4 : Below w.heap.size w w4 := by rw [← hw4]; exact below_setCells hl _ (Nat.le_refl _) _ _
      clear hw4
      exact bodyPost_ret (v := .agg (bA S)) (results_cell_mid Tryd.results64 _ _ w.heap.size (bL S) _ rfl b4.range Tryd.underlying52 rfl (by rw [bL_len]; exact sizeA)) rfl ⟨rfl, l4⟩
end Go.Proofs.YtbjabpodkaokjaaDoor
