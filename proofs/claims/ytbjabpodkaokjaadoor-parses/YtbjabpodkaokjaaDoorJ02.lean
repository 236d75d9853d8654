import Derived.Test.YtbjabpodkaokjaaDoorJ01
set_option linter.unusedVariables false
set_option linter.unusedSimpArgs false
namespace Go.Proofs.YtbjabpodkaokjaaDoor
open Go.RowKit

set_option maxHeartbeats 400000 in
theorem one_raw (M D Mo : Int) (C : Bool) (L V Le N v : Int) (w : World) :
    Calls Tryd.prog 25 #[mv8 M D Mo C L V Le N, .int .i64 v] w fun e w' => e = .returned (mv (Md.one ⟨M, D, Mo, C, L, V, Le, N⟩ v)) ∧ Below w.heap.size w w' := by
  cases C
  · have e : mv (Md.one ⟨M, D, Mo, false, L, V, Le, N⟩ v) = mv8 2 D Mo false L V Le N := by simp [mv, Md.one, Md.to]
    rw [e]; clear e
    go_enter Tryd.func25, Tryd.ntmps25
    go_wp2_with (go_at_call 24; refine (to_raw _ _ _ _ _ _ _ _ _ _).mono ?_; rintro e w' ⟨rfl, hb⟩; obtain ⟨hc, hf⟩ := bcell hb; have hz := hb.size; simp at hz)
    exact bodyPost_ret (v := mv8 2 D Mo false L V Le N) (by simp [results, Tryd.results25, go_sem, hc, hz]) rfl ⟨rfl, (by (repeat refine Below.setCell ?_ (by first | (simp; done) | (simp; omega)) _); refine Below.trans ?_ (Below.mono hb (by first | (simp; done) | (simp; omega))); (repeat refine Below.alloc ?_ (by first | (simp; done) | (simp; omega)) _); exact Below.refl _ _)⟩
  · have e : mv (Md.one ⟨M, D, Mo, true, L, V, Le, N⟩ v) = mv (Md.byteItem ⟨M, D, Mo, true, L, V, Le, N⟩ v) := by simp [mv, Md.one]
    rw [e]; clear e
    go_enter Tryd.func25, Tryd.ntmps25
    go_wp2_with (go_at_call 27; refine (byteItem_raw _ _ _ _ _ _ _ _ _ _).mono ?_; rintro e w' ⟨rfl, hb⟩; obtain ⟨hc, hf⟩ := bcell hb; have hz := hb.size; simp at hz)
    exact bodyPost_ret (v := mv (Md.byteItem ⟨M, D, Mo, true, L, V, Le, N⟩ v)) (by simp [results, Tryd.results25, go_sem, hc, hz]) rfl ⟨rfl, (by (repeat refine Below.setCell ?_ (by first | (simp; done) | (simp; omega)) _); refine Below.trans ?_ (Below.mono hb (by first | (simp; done) | (simp; omega))); (repeat refine Below.alloc ?_ (by first | (simp; done) | (simp; omega)) _); exact Below.refl _ _)⟩

theorem sg_letters : isSignB 100 = false ∧ isSignB 119 = false ∧ isSignB 115 = false ∧ isSignB 110 = false ∧ isSignB 116 = false ∧ isSignB 120 = false := by decide
theorem bool_of {b : Bool} (h : ¬ b = true) : b = false := by simpa using h

set_option maxHeartbeats 1000000 in
theorem escape_raw (M D Mo : Int) (C : Bool) (L V Le N c : Int) (w : World) (g0 : 0 ≤ c) (g1 : c ≤ 255) :
    Calls Tryd.prog 23 #[mv8 M D Mo C L V Le N, .int .u8 c] w fun e w' => e = .returned (mv (Md.escape ⟨M, D, Mo, C, L, V, Le, N⟩ c)) ∧ Below w.heap.size w w' := by
  have hs : ∀ w, Calls Tryd.prog 35 #[.int .u8 c] w fun e w' => e = .returned (.bool (isSignB c)) ∧ w' = w := fun w => sign_any c w g0 g1
  obtain ⟨R, hR⟩ : ∃ R, R = Md.escape ⟨M, D, Mo, C, L, V, Le, N⟩ c := ⟨_, rfl⟩
  rw [← hR]
  have HR : Hid (R = Md.escape ⟨M, D, Mo, C, L, V, Le, N⟩ c) := hR
  clear hR
  obtain ⟨b, hb0⟩ : ∃ b, b = isSignB c := ⟨_, rfl⟩
  rw [← hb0] at hs
  have HB : Hid (b = isSignB c) := hb0
  clear hb0
  go_enter Tryd.func23, Tryd.ntmps23
  go_wp2_with (first | (go_at_call 35; refine (hs _).mono ?_; rintro e w' ⟨rfl, rfl⟩) | (go_at_call 24; refine (to_raw _ _ _ _ _ _ _ _ _ _).mono ?_; rintro e w' ⟨rfl, hb⟩; obtain ⟨hc, hf⟩ := bcell hb; have hz := hb.size; simp at hz) | (go_at_call 25; refine (one_raw _ _ _ _ _ _ _ _ _ _).mono ?_; rintro e w' ⟨rfl, hb⟩; obtain ⟨hc, hf⟩ := bcell hb; have hz := hb.size; simp at hz))
  all_goals
    have hs' := HB.out.symm
    have hR := HR.out
    clear HR HB hs
    go_light
    refine bodyPost_ret (v := mv R) ?_ rfl ⟨rfl, (by (repeat refine Below.setCell ?_ (by first | (simp; done) | (simp; omega)) _); refine Below.trans ?_ (Below.mono hb (by first | (simp; done) | (simp; omega))); (repeat refine Below.alloc ?_ (by first | (simp; done) | (simp; omega)) _); exact Below.refl _ _)⟩
    subst hR
    by_cases hL : L < 0 <;> first | (exfalso; omega) | simp [results, Tryd.results23, go_sem, hc, hz, Md.escape, Md.to, sg_letters, *]
end Go.Proofs.YtbjabpodkaokjaaDoor
