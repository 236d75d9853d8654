import Derived.Test.YtbjabpodkaokjaaDoorJ06
import Derived.Test.YtbjabpodkaokjaaDoorJ04
import Derived.Test.YtbjabpodkaokjaaDoorJ05
set_option linter.unusedVariables false
set_option linter.unusedSimpArgs false
namespace Go.Proofs.YtbjabpodkaokjaaDoor
open Go.RowKit

theorem count_raw (M D Mo : Int) (C : Bool) (L V Le N c : Int) (w : World) (g0 : 0 ≤ c) (g1 : c ≤ 255) (hM : M = 11 ∨ M = 12 ∨ M = 13 ∨ M = 14)
    (n0 : 0 ≤ N) (n1 : N ≤ 30) (l0 : 0 ≤ Le) (l1 : Le ≤ 30) :
    Calls Tryd.prog 28 #[mv8 M D Mo C L V Le N, .int .u8 c] w fun e w' => e = .returned (mv (Md.count ⟨M, D, Mo, C, L, V, Le, N⟩ c)) ∧ Below w.heap.size w w' := by
  by_cases h : 48 ≤ c ∧ c ≤ 57
  · exact count_digit M D Mo C L V Le N c w h.1 h.2 hM n0 n1 l0 l1
  · exact count_other M D Mo C L V Le N c w g0 g1 (by omega) hM n0 n1 l0 l1

theorem hexv_bd (c : Int) : -1 ≤ hexv c ∧ hexv c ≤ 15 := by unfold hexv; (repeat' split) <;> omega

set_option maxHeartbeats 8000000 in
theorem step_raw (M D Mo : Int) (C : Bool) (L V Le N c : Int) (w : World) (g0 : 0 ≤ c) (g1 : c ≤ 255) (m0 : 0 ≤ M) (m1 : M ≤ 16) (d0 : 0 ≤ D) (d1 : D ≤ 1000)
    (n0 : 0 ≤ N) (n1 : N ≤ 30) (l0 : 0 ≤ Le) (l1 : Le ≤ 30) (v0 : 0 ≤ V) (v1 : V ≤ 255) :
    Calls Tryd.prog 13 #[mv8 M D Mo C L V Le N, .int .u8 c] w fun e w' => e = .returned (mv (Md.step ⟨M, D, Mo, C, L, V, Le, N⟩ c)) ∧ Below w.heap.size w w' := by
  obtain ⟨R, hR⟩ : ∃ R, R = Md.step ⟨M, D, Mo, C, L, V, Le, N⟩ c := ⟨_, rfl⟩
  rw [← hR]
  have HR : Hid (R = Md.step ⟨M, D, Mo, C, L, V, Le, N⟩ c) := hR
  clear hR
  obtain ⟨h, hh⟩ : ∃ h, h = hexv c := ⟨_, rfl⟩
  have hx : ∀ w, Calls Tryd.prog 21 #[.int .u8 c] w fun e w' => e = .returned (.int .i64 h) ∧ w' = w := fun w => by rw [hh]; exact hex_any c w g0 g1
  have hbd := hexv_bd c
  rw [← hh] at hbd
  obtain ⟨x0, x1⟩ := hbd
  have HH : Hid (h = hexv c) := hh
  clear hh
  have hM : M = 0 ∨ M = 1 ∨ M = 2 ∨ M = 3 ∨ M = 4 ∨ M = 5 ∨ M = 6 ∨ M = 7 ∨ M = 8 ∨ M = 9 ∨ M = 10 ∨ M = 11 ∨ M = 12 ∨ M = 13 ∨ M = 14 ∨ M = 15 ∨ M = 16 := by omega
  clear m0 m1
  rcases hM with rfl | rfl | rfl | rfl | rfl | rfl | rfl | rfl | rfl | rfl | rfl | rfl | rfl | rfl | rfl | rfl | rfl
  all_goals
    go_enter Tryd.func13, Tryd.ntmps13
    go_wp2_with (first | (go_at_call 21; refine (hx _).mono ?_; rintro e w' ⟨rfl, rfl⟩) | (go_at_call 24; refine (to_raw _ _ _ _ _ _ _ _ _ _).mono ?_; rintro e w' ⟨rfl, hb⟩; obtain ⟨hc, hf⟩ := bcell hb; have hz := hb.size; simp at hz) | (go_at_call 22; refine (chain_raw _ _ _ _ _ _ _ _ _ _ (by omega) (by omega) (by omega) (by omega)).mono ?_; rintro e w' ⟨rfl, hb⟩; obtain ⟨hc, hf⟩ := bcell hb; have hz := hb.size; simp at hz) | (go_at_call 23; refine (escape_raw _ _ _ _ _ _ _ _ _ _ (by omega) (by omega)).mono ?_; rintro e w' ⟨rfl, hb⟩; obtain ⟨hc, hf⟩ := bcell hb; have hz := hb.size; simp at hz) | (go_at_call 25; refine (one_raw _ _ _ _ _ _ _ _ _ _).mono ?_; rintro e w' ⟨rfl, hb⟩; obtain ⟨hc, hf⟩ := bcell hb; have hz := hb.size; simp at hz) | (go_at_call 26; refine (cls_raw _ _ _ _ _ _ _ _ _ _ (by omega) (by omega)).mono ?_; rintro e w' ⟨rfl, hb⟩; obtain ⟨hc, hf⟩ := bcell hb; have hz := hb.size; simp at hz) | (go_at_call 27; refine (byteItem_raw _ _ _ _ _ _ _ _ _ _).mono ?_; rintro e w' ⟨rfl, hb⟩; obtain ⟨hc, hf⟩ := bcell hb; have hz := hb.size; simp at hz) | (go_at_call 28; refine (count_raw _ _ _ _ _ _ _ _ _ _ (by omega) (by omega) (by omega) (by omega) (by omega) (by omega) (by omega)).mono ?_; rintro e w' ⟨rfl, hb⟩; obtain ⟨hc, hf⟩ := bcell hb; have hz := hb.size; simp at hz))
    all_goals
      have hR := HR.out
      have hh := HH.out.symm
      clear HR HH hx
      go_light
      by_cases q1 : h < 0 <;> by_cases q2 : 16 * h + 15 < L <;> by_cases q3 : 16 * V + h < L <;> first | (exfalso; omega) | first | (have hb1 := hb; refine bodyPost_ret (v := mv R) ?_ rfl ⟨rfl, (by (repeat refine Below.setCell ?_ (by first | (simp; done) | (simp; omega)) _); refine Below.trans ?_ (Below.mono hb1 (by first | (simp; done) | (simp; omega))); (repeat refine Below.alloc ?_ (by first | (simp; done) | (simp; omega)) _); exact Below.refl _ _)⟩; subst hR; simp [results, Tryd.results13, go_sem, hc, hz, Md.step, Md.to, *] <;> (clear hb hc hf hz; first | omega | simp_all)) | (refine bodyPost_ret (v := mv R) ?_ rfl ⟨rfl, (by (repeat refine Below.setCell ?_ (by first | (simp; done) | (simp; omega)) _); (repeat refine Below.alloc ?_ (by first | (simp; done) | (simp; omega)) _); exact Below.refl _ _)⟩; subst hR; simp [results, Tryd.results13, go_sem, Md.step, Md.to, *] <;> first | omega | simp_all)
end Go.Proofs.YtbjabpodkaokjaaDoor
