import Derived.Test.YtbjabpodkaokjaaDoorJ35
set_option linter.unusedVariables false
set_option linter.unusedSimpArgs false
namespace Go.Proofs.YtbjabpodkaokjaaDoor
open Go.RowKit

set_option maxRecDepth 20000 in
set_option maxHeartbeats 4000000 in
theorem class_y (w : World) (b : Nat) (s : ByteArray) (t r' : List UInt8) (n : Nat) (S : Nat → Bool) (h : Mk w b s (94 :: t)) (hP : pItems n (fun _ => false) t = .ok S r') :
    Calls Tryd.prog 52 #[.pointer (some ⟨b, 0, none⟩)] w fun e w' => e = .returned (.pointer (some ⟨w.heap.size, 0, none⟩)) ∧ MkTo w w' b s r' ∧ Tr w' w.heap.size 0 (fun n => !S n) (.slice none 0 0) 0 0 0 := by
  have hlt := h.lt
  have hh : MkHereAt b s (94 :: t) 94 := fun w h => here_any w b s _ h
  go_enter Tryd.func52, Tryd.ntmps52
  go_wp2_with (first | (go_at_call 14; refine (hh _ g1).mono ?_; rintro e w2 ⟨rfl, g2, l2⟩; have t2 := t1.of_heap (l2.block _ t1.lt); have r2 := r1.trans (Rd.of_below l2); have z2 := l2.size; clear l2 t1 r1 g1; obtain ⟨k0, hk0', a1, a0, a2, hk0, sz0, lt0, fz0⟩ := g2.byte) | (refine wpList_buildTo rfl 55 #[] rfl _ rfl (tA 0 (fun _ => false) (.slice none 0 0) 0 0 0) (tA_zero' _) ?_) | (refine Great.wpList_boxTo rfl 55 (.tmp 11) rfl _ rfl w.heap.size rfl (tA 0 (fun _ => false) (.slice none 0 0) 0 0 0) rfl ?_; generalize hw1 : World.alloc w _ = w1; have t1 : Tr w1 w.heap.size 0 (fun _ => false) (.slice none 0 0) 0 0 0 := (by rw [← hw1]; exact tA_new _ _ _ _ _ _ _); have r1 : Rd b w w1 := (by rw [← hw1]; exact (Rd.refl _ _).alloc _); have g1 : Mk w1 b s (94 :: t) := (by rw [← hw1]; exact h.alloc _); have z1 : w1.heap.size = w.heap.size + 1 := (by rw [← hw1]; simp); clear hw1))
  go_loopw [] (fun wr => ∃ (A : Nat → Bool) (r : List UInt8), Mk wr b s r ∧ Rd b w wr ∧ Tr wr w.heap.size 0 A (.slice none 0 0) 0 0 0 ∧ ((∃ n, pItems n A r = .ok S r') ∨ (r = 93 :: r' ∧ A = S))) (fun wr => leftOf b s wr)
  case atStart => exact ⟨fun _ => false, t, g2.next hk0, r2.setCell _ _, t2.far (by omega) _, .inl ⟨n, hP⟩⟩
  case round =>
    obtain ⟨A, r, hm, hrd, hT, hcase⟩ := hrel
    by_cases h93 : ∃ tt, r = 93 :: tt
    · obtain ⟨tt, rfl⟩ := h93
      have e : tt = r' ∧ A = S := by
        rcases hcase with ⟨m, hm⟩ | ⟨e, e2⟩
        · cases m with
          | zero => simp [pItems] at hm
          | succ m =>
            simp only [pItems] at hm
            split at hm
            · simp at hm
            · rename_i h1
              obtain ⟨c', t', e, n1, _⟩ := pItem_head h1
              injection e with e _
              exact absurd e.symm n1
        · injection e with _ e; exact ⟨e, e2⟩
      obtain ⟨rfl, rfl⟩ := e
      clear hcase hP
      obtain ⟨k, hk', e1, c0, c1, hk, sz, lt, fz⟩ := hm.byte
      go_wp2
      go_quiet (fail)
      go_wp2
      have g3 := (hm.drewN nq).next hk
      have r3 : Rd b w ((wr.drewN nq).setCell ⟨b, 1, none⟩ (.int .i64 ((k : Int) + 1))) := (hrd.drewN _).setCell _ _
      have t3 : Tr ((wr.drewN nq).setCell ⟨b, 1, none⟩ (.int .i64 ((k : Int) + 1))) w.heap.size 0 A (.slice none 0 0) 0 0 0 := (hT.drewN nq).far (by omega) _
      obtain ⟨C, hC⟩ : ∃ C : Nat → Bool, C = fun n => !A n := ⟨_, rfl⟩
      have HCC : Hid (C = fun n => !A n) := hC
      clear hC
      go_loopw [10] (fun i wq => ∃ j : Nat, j ≤ 256 ∧ i = .int .i64 j ∧ Mk wq b s tt ∧ Rd b w wq ∧ Tr wq w.heap.size 0 (upS A C j) (.slice none 0 0) 0 0 0) (fun i _ => 256 - (intOf i).toNat)
      case atStart => exact ⟨0, by omega, rfl, g3, r3, t3.congr (fun i _ => (upS_zero A C i).symm)⟩
      case round =>
        obtain ⟨j, hj, rfl, g5, r5, t5⟩ := hrel
        by_cases hlt : j < 256
        · have cT := t5.cB j hlt
          rw [upS_at] at cT
          have fT := t5.fz (1 + j)
          cases q1 : A j with
          | true =>
            rw [q1] at cT
            have HV : Hid (C j = false) := by show _ = _; rw [HCC.out]; simp [q1]
            go_wp2
            go_region
            all_goals
              go_wp2
              go_roundw
              case rel => exact ⟨j + 1, by omega, by go_num, (g5.drew.set2 (by omega) _), (r5.drew.setNew (Nat.le_refl _) _), ((t5.of_heap (w' := wr.drew) rfl).bit j hlt false).congr (fun i _ => upS_step A C j false HV.out i)⟩
              case measure => simp [intOf] <;> omega
          | false =>
            rw [q1] at cT
            have HV : Hid (C j = true) := by show _ = _; rw [HCC.out]; simp [q1]
            go_wp2
            go_region
            all_goals
              go_wp2
              go_roundw
              case rel => exact ⟨j + 1, by omega, by go_num, (g5.drew.set2 (by omega) _), (r5.drew.setNew (Nat.le_refl _) _), ((t5.of_heap (w' := wr.drew) rfl).bit j hlt true).congr (fun i _ => upS_step A C j true HV.out i)⟩
              case measure => simp [intOf] <;> omega
        · have e : j = 256 := by omega
          subst e
          go_wp2
          go_ret
          exact ⟨rfl, ⟨g5, r5⟩, t5.congr (fun i hi => by rw [upS_all A C i hi, HCC.out])⟩
    · have hP2 : ∃ n, pItems n A r = .ok S r' := by
        rcases hcase with q | ⟨q, _⟩
        · exact q
        · exact absurd ⟨_, q⟩ h93
      obtain ⟨m, hP2⟩ := hP2
      clear hcase hP
      obtain ⟨T, r1, c1, t1, hI, hr1, hl1, hnx, hnd⟩ := items_next hP2
      have HN : Hid (((∃ n, pItems n (orS A T) r1 = .ok S r') ∨ (r1 = 93 :: r' ∧ orS A T = S)) ∧ r1.length < r.length) := ⟨hnx, hl1⟩
      obtain ⟨c', t', hr, n93, n45⟩ := pItem_head hI
      subst hr
      have HM : Hid (Mk wr b s (c' :: t')) := hm
      have p93 : ((c'.toNat : Int) != 93) = true := by have := nbeq n93; simp at this ⊢; exact this
      obtain ⟨k, hk', e1, c0, cc1, hk, sz, lt, fz⟩ := hm.byte
      clear hm hl1 hnx hP2 n93 n45 h93
      have path := item_path (b := b) (s := s) (A := A) hI hr1 hnd
      clear hI hnd
      subst hr1
      rcases path with ⟨v, S1, hI, v0, v1, n45, hadd⟩ | ⟨v, z, t2, hI, hI2, v0, v1, z0, z1, hadd⟩
      · have HA : Hid (∀ i, i < 256 → addS A S1 v v i = orS A T i) := hadd
        have p45 : ((c1.toNat : Int) == 45) = false := nbeq n45
        clear hadd n45
        go_wp2
        go_quiet (fail)
        go_wp2_with (first | (refine wpList_store_mid rfl 52 (.tmp 7) (.tmp 39) rfl w3.heap.size 0 (bA S1) rfl rfl (by rw [bA_size]; exact (bA_new _ _ _).there) (by rw [bA_size]; exact sizeA) (bL_one _) ?_; generalize hw4 : World.setCells _ _ _ _ = w4; obtain ⟨g4, r4, b4, h4, z4⟩ := lay_facts hw4 g3 (hrd.drewN _ |>.trans l3); have t4 := (hT.of_heap (l3.block _ hT.lt (by omega))).of_heap (h4 _ (hT.of_heap (l3.block _ hT.lt (by omega))).lt); clear hw4 h4) | (refine wpList_alloc52 rfl rfl _ rfl w3.heap.size rfl ?_) | (go_at_call 63; refine (hI _ (HM.out.drewN _)).mono ?_; rintro e w3 ⟨rfl, g3, l3⟩))
        obtain ⟨k2, hk2', f1, d0, d1, hk2, sz2, lt2, fz2⟩ := g4.byte
        go_quiet (fail)
        go_wp2
        have hz3 : w.heap.size < w3.heap.size := (hT.of_heap (l3.block _ hT.lt (by omega))).lt
        obtain ⟨C, hC⟩ : ∃ C, C = addS A S1 v v := ⟨_, rfl⟩
        have HCC : Hid (C = addS A S1 v v) := hC
        clear hC
        go_loopw [9] (fun i wq => ∃ j : Nat, j ≤ 256 ∧ i = .int .i64 j ∧ Mk wq b s (c1 :: t1) ∧ Rd b w wq ∧ Tr wq w.heap.size 0 (upS A C j) (.slice none 0 0) 0 0 0 ∧ Bs wq w3.heap.size S1) (fun i _ => 256 - (intOf i).toNat)
        case atStart => exact ⟨0, by omega, rfl, g4.drewN _, r4.drewN _, (t4.drewN _).congr (fun i _ => (upS_zero A C i).symm), b4.drewN _⟩
        case round =>
          obtain ⟨j, hj, rfl, g5, r5, t5, b5⟩ := hrel
          by_cases hlt : j < 256
          · have cT := t5.cB j hlt
            rw [upS_at] at cT
            have cS := b5.cB j hlt
            have fT := t5.fz (1 + j)
            by_cases q1 : A j = true
            · rw [q1] at cT
              have HV : Hid (C j = true) := by show _ = _; rw [HCC.out]; exact addS_true1 q1
              go_wp2
              go_region
              all_goals
                go_wp2
                go_roundw
                case rel => exact ⟨j + 1, by omega, by go_num, (g5.drew.set2 (by omega) _), (r5.drew.setNew (Nat.le_refl _) _), ((t5.of_heap (w' := wr.drew) rfl).bit j hlt true).congr (fun i _ => upS_step A C j true HV.out i), (b5.of_heap (w' := wr.drew) rfl).of_heap (Below.heap_setCell _ _ _ _ (by simp; omega))⟩
                case measure => simp [intOf] <;> omega
            have q1 : A j = false := by simpa using q1
            rw [q1] at cT
            by_cases q2 : S1 j = true
            · rw [q2] at cS
              have HV : Hid (C j = true) := by show _ = _; rw [HCC.out]; exact addS_true2 q2
              go_wp2
              go_region
              all_goals
                go_wp2
                go_roundw
                case rel => exact ⟨j + 1, by omega, by go_num, (g5.drew.set2 (by omega) _), (r5.drew.setNew (Nat.le_refl _) _), ((t5.of_heap (w' := wr.drew) rfl).bit j hlt true).congr (fun i _ => upS_step A C j true HV.out i), (b5.of_heap (w' := wr.drew) rfl).of_heap (Below.heap_setCell _ _ _ _ (by simp; omega))⟩
                case measure => simp [intOf] <;> omega
            have q2 : S1 j = false := by simpa using q2
            rw [q2] at cS
            by_cases q3 : 0 ≤ v
            rotate_left
            · have HV : Hid (C j = false) := by show _ = _; rw [HCC.out]; exact addS_false q1 q2 (by omega)
              have p3 : decide (0 ≤ v) = false := by simp; omega
              go_wp2
              go_region
              all_goals
                go_wp2
                go_roundw
                case rel => exact ⟨j + 1, by omega, by go_num, (g5.drew.set2 (by omega) _), (r5.drew.setNew (Nat.le_refl _) _), ((t5.of_heap (w' := wr.drew) rfl).bit j hlt false).congr (fun i _ => upS_step A C j false HV.out i), (b5.of_heap (w' := wr.drew) rfl).of_heap (Below.heap_setCell _ _ _ _ (by simp; omega))⟩
                case measure => simp [intOf] <;> omega
            by_cases q4 : v ≤ j
            rotate_left
            · have HV : Hid (C j = false) := by show _ = _; rw [HCC.out]; exact addS_false q1 q2 (by omega)
              have p4 : decide (v ≤ (j : Int)) = false := by simp; omega
              go_wp2
              go_region
              all_goals
                go_wp2
                go_roundw
                case rel => exact ⟨j + 1, by omega, by go_num, (g5.drew.set2 (by omega) _), (r5.drew.setNew (Nat.le_refl _) _), ((t5.of_heap (w' := wr.drew) rfl).bit j hlt false).congr (fun i _ => upS_step A C j false HV.out i), (b5.of_heap (w' := wr.drew) rfl).of_heap (Below.heap_setCell _ _ _ _ (by simp; omega))⟩
                case measure => simp [intOf] <;> omega
            by_cases q5 : (j : Int) ≤ v
            · have HV : Hid (C j = true) := by show _ = _; rw [HCC.out]; exact addS_true3 ⟨q3, q4, q5⟩
              go_wp2
              go_region
              all_goals
                go_wp2
                go_roundw
                case rel => exact ⟨j + 1, by omega, by go_num, (g5.drew.set2 (by omega) _), (r5.drew.setNew (Nat.le_refl _) _), ((t5.of_heap (w' := wr.drew) rfl).bit j hlt true).congr (fun i _ => upS_step A C j true HV.out i), (b5.of_heap (w' := wr.drew) rfl).of_heap (Below.heap_setCell _ _ _ _ (by simp; omega))⟩
                case measure => simp [intOf] <;> omega
            · have HV : Hid (C j = false) := by show _ = _; rw [HCC.out]; exact addS_false q1 q2 (by omega)
              have p5 : decide ((j : Int) ≤ v) = false := by simp; omega
              go_wp2
              go_region
              all_goals
                go_wp2
                go_roundw
                case rel => exact ⟨j + 1, by omega, by go_num, (g5.drew.set2 (by omega) _), (r5.drew.setNew (Nat.le_refl _) _), ((t5.of_heap (w' := wr.drew) rfl).bit j hlt false).congr (fun i _ => upS_step A C j false HV.out i), (b5.of_heap (w' := wr.drew) rfl).of_heap (Below.heap_setCell _ _ _ _ (by simp; omega))⟩
                case measure => simp [intOf] <;> omega
          · have e : j = 256 := by omega
            subst e
            go_wp2
            go_roundw
            case rel => exact ⟨orS A T, c1 :: t1, g5, r5, t5.congr (fun i hi => by rw [upS_all A C i hi, HCC.out]; exact HA.out i hi), HN.out.1⟩
            case measure => rw [g5.left, HM.out.left]; exact HN.out.2
      · have HA : Hid (∀ i, i < 256 → addS A none256 v z i = orS A T i) := hadd
        clear hadd
        go_wp2
        go_quiet (fail)
        go_wp2_with (first | (refine wpList_store_mid rfl 52 (.tmp 7) (.tmp 39) rfl w3.heap.size 0 (bA none256) rfl rfl (by rw [bA_size]; exact (bA_new _ _ _).there) (by rw [bA_size]; exact sizeA) (bL_one _) ?_; generalize hw4 : World.setCells _ _ _ _ = w4; obtain ⟨g4, r4, b4, h4, z4⟩ := lay_facts hw4 g3 (hrd.drewN _ |>.trans l3); have t4 := (hT.of_heap (l3.block _ hT.lt (by omega))).of_heap (h4 _ (hT.of_heap (l3.block _ hT.lt (by omega))).lt); clear hw4 h4) | (refine wpList_alloc52 rfl rfl _ rfl w3.heap.size rfl ?_) | (go_at_call 63; refine (hI _ (HM.out.drewN _)).mono ?_; rintro e w3 ⟨rfl, g3, l3⟩))
        obtain ⟨k2, hk2', f1, d0, d1, hk2, sz2, lt2, fz2⟩ := g4.byte
        go_quiet (fail)
        have g4' := (g4.drewN nq).next hk2
        have r4' : Rd b w ((w4.drewN nq).setCell ⟨b, 1, none⟩ (.int .i64 ((k2 : Int) + 1))) := (r4.drewN _).setCell _ _
        have t4' : Tr ((w4.drewN nq).setCell ⟨b, 1, none⟩ (.int .i64 ((k2 : Int) + 1))) w.heap.size 0 A (.slice none 0 0) 0 0 0 := (t4.drewN nq).far (by omega) _
        have b4' : Bs ((w4.drewN nq).setCell ⟨b, 1, none⟩ (.int .i64 ((k2 : Int) + 1))) w3.heap.size none256 := (b4.drewN nq).of_heap (Below.heap_setCell _ _ _ _ (by have := g3.lt; simp; omega))
        go_wp2_with (go_at_call 63; refine (hI2 _ g4').mono ?_; rintro e w6 ⟨rfl, g6, l6⟩; have r6 := r4'.trans l6; have t6 := t4'.of_heap (l6.block _ t4'.lt (by omega)); have b6 := b4'.of_heap (l6.block _ b4'.lt (by have := g3.lt; omega)))
        have hz3 : w.heap.size < w3.heap.size := (hT.of_heap (l3.block _ hT.lt (by omega))).lt
        obtain ⟨C, hC⟩ : ∃ C, C = addS A none256 v z := ⟨_, rfl⟩
        have HCC : Hid (C = addS A none256 v z) := hC
        clear hC
        go_loopw [9] (fun i wq => ∃ j : Nat, j ≤ 256 ∧ i = .int .i64 j ∧ Mk wq b s (c1 :: t1) ∧ Rd b w wq ∧ Tr wq w.heap.size 0 (upS A C j) (.slice none 0 0) 0 0 0 ∧ Bs wq w3.heap.size none256) (fun i _ => 256 - (intOf i).toNat)
        case atStart => exact ⟨0, by omega, rfl, g6, r6, t6.congr (fun i _ => (upS_zero A C i).symm), b6⟩
        case round =>
          obtain ⟨j, hj, rfl, g5, r5, t5, b5⟩ := hrel
          by_cases hlt : j < 256
          · have cT := t5.cB j hlt
            rw [upS_at] at cT
            have cS := b5.cB j hlt
            have fT := t5.fz (1 + j)
            by_cases q1 : A j = true
            · rw [q1] at cT
              have HV : Hid (C j = true) := by show _ = _; rw [HCC.out]; exact addS_true1 q1
              go_wp2
              go_region
              all_goals
                go_wp2
                go_roundw
                case rel => exact ⟨j + 1, by omega, by go_num, (g5.drew.set2 (by omega) _), (r5.drew.setNew (Nat.le_refl _) _), ((t5.of_heap (w' := wr.drew) rfl).bit j hlt true).congr (fun i _ => upS_step A C j true HV.out i), (b5.of_heap (w' := wr.drew) rfl).of_heap (Below.heap_setCell _ _ _ _ (by simp; omega))⟩
                case measure => simp [intOf] <;> omega
            have q1 : A j = false := by simpa using q1
            rw [q1] at cT
            have q2 : none256 j = false := rfl
            simp only [none256] at cS
            have q3 : 0 ≤ v := v0
            by_cases q4 : v ≤ j
            rotate_left
            · have HV : Hid (C j = false) := by show _ = _; rw [HCC.out]; exact addS_false q1 q2 (by omega)
              have p4 : decide (v ≤ (j : Int)) = false := by simp; omega
              go_wp2
              go_region
              all_goals
                go_wp2
                go_roundw
                case rel => exact ⟨j + 1, by omega, by go_num, (g5.drew.set2 (by omega) _), (r5.drew.setNew (Nat.le_refl _) _), ((t5.of_heap (w' := wr.drew) rfl).bit j hlt false).congr (fun i _ => upS_step A C j false HV.out i), (b5.of_heap (w' := wr.drew) rfl).of_heap (Below.heap_setCell _ _ _ _ (by simp; omega))⟩
                case measure => simp [intOf] <;> omega
            by_cases q5 : (j : Int) ≤ z
            · have HV : Hid (C j = true) := by show _ = _; rw [HCC.out]; exact addS_true3 ⟨q3, q4, q5⟩
              go_wp2
              go_region
              all_goals
                go_wp2
                go_roundw
                case rel => exact ⟨j + 1, by omega, by go_num, (g5.drew.set2 (by omega) _), (r5.drew.setNew (Nat.le_refl _) _), ((t5.of_heap (w' := wr.drew) rfl).bit j hlt true).congr (fun i _ => upS_step A C j true HV.out i), (b5.of_heap (w' := wr.drew) rfl).of_heap (Below.heap_setCell _ _ _ _ (by simp; omega))⟩
                case measure => simp [intOf] <;> omega
            · have HV : Hid (C j = false) := by show _ = _; rw [HCC.out]; exact addS_false q1 q2 (by omega)
              have p5 : decide ((j : Int) ≤ z) = false := by simp; omega
              go_wp2
              go_region
              all_goals
                go_wp2
                go_roundw
                case rel => exact ⟨j + 1, by omega, by go_num, (g5.drew.set2 (by omega) _), (r5.drew.setNew (Nat.le_refl _) _), ((t5.of_heap (w' := wr.drew) rfl).bit j hlt false).congr (fun i _ => upS_step A C j false HV.out i), (b5.of_heap (w' := wr.drew) rfl).of_heap (Below.heap_setCell _ _ _ _ (by simp; omega))⟩
                case measure => simp [intOf] <;> omega
          · have e : j = 256 := by omega
            subst e
            go_wp2
            go_roundw
            case rel => exact ⟨orS A T, c1 :: t1, g5, r5, t5.congr (fun i hi => by rw [upS_all A C i hi, HCC.out]; exact HA.out i hi), HN.out.1⟩
            case measure => rw [g5.left, HM.out.left]; exact HN.out.2
theorem class_ok (w : World) (b : Nat) (s : ByteArray) (r r' : List UInt8) (S : Nat → Bool) (h : Mk w b s r) (hP : pClass r = .ok S r') :
    Calls Tryd.prog 52 #[.pointer (some ⟨b, 0, none⟩)] w fun e w' => e = .returned (.pointer (some ⟨w.heap.size, 0, none⟩)) ∧ MkTo w w' b s r' ∧ Tr w' w.heap.size 0 S (.slice none 0 0) 0 0 0 := by
  unfold pClass at hP
  split at hP
  · split at hP
    · rename_i h1
      injection hP with e1 e2; subst e1; subst e2
      exact class_y w b s _ _ _ _ h h1
    · simp at hP
  · rename_i hn
    have hnx := items_next hP
    obtain ⟨T, r1, c1, t1, hI, _⟩ := hnx
    obtain ⟨c, t, rfl, _, _⟩ := pItem_head hI
    exact class_x w b s c t r' _ S h (fun e => hn t (by rw [e])) hP
end Go.Proofs.YtbjabpodkaokjaaDoor
