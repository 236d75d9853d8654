import Derived.Test.YtbjabpodkaokjaaDoorJ03
set_option linter.unusedVariables false
set_option linter.unusedSimpArgs false
namespace Go.Proofs.YtbjabpodkaokjaaDoor
open Go.RowKit

theorem count_n (m : Md) (c : Int) (h : ¬ (48 ≤ c ∧ c ≤ 57)) : Md.count m c =
    if c == 44 && m.M == 12 then { m with Least := m.N, M := 13 }
  else if c == 125 && (m.M == 12 || m.M == 13 || (m.M == 14 && decide (m.Least ≤ m.N))) then m.to 2
  else m.to 16 := by
  have hd : (decide (48 ≤ c) && decide (c ≤ 57)) = false := by rw [Bool.eq_false_iff]; simpa using h
  simp only [Md.count, hd]
  simp

set_option maxHeartbeats 4000000 in
theorem count_other (M D Mo : Int) (C : Bool) (L V Le N c : Int) (w : World) (g0 : 0 ≤ c) (g1 : c ≤ 255) (hd : c < 48 ∨ 57 < c) (hM : M = 11 ∨ M = 12 ∨ M = 13 ∨ M = 14)
    (n0 : 0 ≤ N) (n1 : N ≤ 30) (l0 : 0 ≤ Le) (l1 : Le ≤ 30) :
    Calls Tryd.prog 28 #[mv8 M D Mo C L V Le N, .int .u8 c] w fun e w' => e = .returned (mv (Md.count ⟨M, D, Mo, C, L, V, Le, N⟩ c)) ∧ Below w.heap.size w w' := by
  obtain ⟨R, hR⟩ : ∃ R, R = Md.count ⟨M, D, Mo, C, L, V, Le, N⟩ c := ⟨_, rfl⟩
  rw [← hR]
  rw [count_n _ c (by omega)] at hR
  have HR : Hid _ := hR
  clear hR
  rcases hd with hd | hd
  all_goals
    rcases hM with rfl | rfl | rfl | rfl
    all_goals
      go_enter Tryd.func28, Tryd.ntmps28
      go_wp2_with (first | (go_at_call 36; refine (reaches_any _ _ _ (by omega) (by omega) (by omega) (by omega)).mono ?_; rintro e w' ⟨rfl, rfl⟩) | (go_at_call 24; refine (to_raw _ _ _ _ _ _ _ _ _ _).mono ?_; rintro e w' ⟨rfl, hb⟩; obtain ⟨hc, hf⟩ := bcell hb; have hz := hb.size; simp at hz))
      all_goals
        have hR := HR.out
        clear HR
        go_light
        by_cases hln : Le ≤ N <;> first | (exfalso; omega) | first | (have hb1 := hb; refine bodyPost_ret (v := mv R) ?_ rfl ⟨rfl, (by (repeat refine Below.setCell ?_ (by first | (simp; done) | (simp; omega)) _); refine Below.trans ?_ (Below.mono hb1 (by first | (simp; done) | (simp; omega))); (repeat refine Below.alloc ?_ (by first | (simp; done) | (simp; omega)) _); exact Below.refl _ _)⟩; subst hR; simp [results, Tryd.results28, go_sem, hc, hz, Md.to, *] <;> (clear hb hc hf hz; first | omega | simp_all)) | (refine bodyPost_ret (v := mv R) ?_ rfl ⟨rfl, (by (repeat refine Below.setCell ?_ (by first | (simp; done) | (simp; omega)) _); (repeat refine Below.alloc ?_ (by first | (simp; done) | (simp; omega)) _); exact Below.refl _ _)⟩; subst hR; simp [results, Tryd.results28, go_sem, Md.to, *] <;> first | omega | simp_all)
end Go.Proofs.YtbjabpodkaokjaaDoor
