import Derived.Test.YtbjabpodkaokjaaDoorJ02
set_option linter.unusedVariables false
set_option linter.unusedSimpArgs false
namespace Go.Proofs.YtbjabpodkaokjaaDoor
open Go.RowKit

set_option maxHeartbeats 1000000 in
theorem cls_raw (M D Mo : Int) (C : Bool) (L V Le N c : Int) (w : World) (g0 : 0 ≤ c) (g1 : c ≤ 255) :
    Calls Tryd.prog 26 #[mv8 M D Mo C L V Le N, .int .u8 c] w fun e w' => e = .returned (mv (Md.cls ⟨M, D, Mo, C, L, V, Le, N⟩ c)) ∧ Below w.heap.size w w' := by
  obtain ⟨R, hR⟩ : ∃ R, R = Md.cls ⟨M, D, Mo, C, L, V, Le, N⟩ c := ⟨_, rfl⟩
  rw [← hR]
  have HR : Hid (R = Md.cls ⟨M, D, Mo, C, L, V, Le, N⟩ c) := hR
  clear hR
  go_enter Tryd.func26, Tryd.ntmps26
  go_wp2_with (first | (go_at_call 24; refine (to_raw _ _ _ _ _ _ _ _ _ _).mono ?_; rintro e w' ⟨rfl, hb⟩; obtain ⟨hc, hf⟩ := bcell hb; have hz := hb.size; simp at hz) | (go_at_call 27; refine (byteItem_raw _ _ _ _ _ _ _ _ _ _).mono ?_; rintro e w' ⟨rfl, hb⟩; obtain ⟨hc, hf⟩ := bcell hb; have hz := hb.size; simp at hz))
  all_goals
    have hR := HR.out
    clear HR
    go_light
    refine bodyPost_ret (v := mv R) ?_ rfl ⟨rfl, (by (repeat refine Below.setCell ?_ (by first | (simp; done) | (simp; omega)) _); refine Below.trans ?_ (Below.mono hb (by first | (simp; done) | (simp; omega))); (repeat refine Below.alloc ?_ (by first | (simp; done) | (simp; omega)) _); exact Below.refl _ _)⟩
    subst hR
    simp [results, Tryd.results26, go_sem, hc, hz, Md.cls, Md.to, *] <;> (clear hb hc hf hz; simp_all)

set_option maxHeartbeats 1000000 in
theorem group_raw (M D Mo : Int) (C : Bool) (L V Le N c : Int) (w : World) (g0 : 0 ≤ c) (g1 : c ≤ 255) (d0 : 0 ≤ D) (d1 : D ≤ 1000) :
    Calls Tryd.prog 34 #[mv8 M D Mo C L V Le N, .int .u8 c] w fun e w' => e = .returned (mv (Md.group ⟨M, D, Mo, C, L, V, Le, N⟩ c)) ∧ Below w.heap.size w w' := by
  obtain ⟨R, hR⟩ : ∃ R, R = Md.group ⟨M, D, Mo, C, L, V, Le, N⟩ c := ⟨_, rfl⟩
  rw [← hR]
  have HR : Hid (R = Md.group ⟨M, D, Mo, C, L, V, Le, N⟩ c) := hR
  clear hR
  go_enter Tryd.func34, Tryd.ntmps34
  go_wp2_with (go_at_call 24; refine (to_raw _ _ _ _ _ _ _ _ _ _).mono ?_; rintro e w' ⟨rfl, hb⟩; obtain ⟨hc, hf⟩ := bcell hb; have hz := hb.size; simp at hz)
  all_goals
    have hR := HR.out
    clear HR
    go_light
    refine bodyPost_ret (v := mv R) ?_ rfl ⟨rfl, (by (repeat refine Below.setCell ?_ (by first | (simp; done) | (simp; omega)) _); refine Below.trans ?_ (Below.mono hb (by first | (simp; done) | (simp; omega))); (repeat refine Below.alloc ?_ (by first | (simp; done) | (simp; omega)) _); exact Below.refl _ _)⟩
    subst hR
    by_cases hL : Mo < D + 1 <;> first | (exfalso; omega) | simp [results, Tryd.results34, go_sem, hc, hz, Md.group, Md.to, *]
end Go.Proofs.YtbjabpodkaokjaaDoor

namespace Go.Proofs.YtbjabpodkaokjaaDoor
open Go.RowKit

theorem reaches_at (v lo : Int) (k : Nat) (h : k ≤ 30) (h1 : lo ≤ k) (h2 : (k : Int) = v ∨ (0 < v ∧ (k : Int) / 10 = v)) : reachesB v lo = true := by
  simp only [reachesB, List.any_eq_true, List.mem_range]
  refine ⟨k, by omega, ?_⟩
  rcases h2 with h2 | ⟨h2, h3⟩
  · simp [h1, h2]; omega
  · simp [h1, h2, h3]
theorem reaches_not (v lo : Int) (h : ∀ j : Nat, lo ≤ j → j < 31 → ¬ ((j : Int) = v ∨ (0 < v ∧ (j : Int) / 10 = v))) : reachesB v lo = false := by
  rw [Bool.eq_false_iff]
  intro hh
  simp only [reachesB, List.any_eq_true, List.mem_range, Bool.and_eq_true, decide_eq_true_eq, Bool.or_eq_true, beq_iff_eq] at hh
  obtain ⟨j, hj, hl, hr⟩ := hh
  exact h j hl hj hr

set_option maxHeartbeats 1000000 in
theorem reaches_any (v lo : Int) (w : World) (l0 : 0 ≤ lo) (l1 : lo ≤ 30) (v0 : 0 ≤ v) (v1 : v ≤ 1000) :
    Calls Tryd.prog 36 #[.int .i64 v, .int .i64 lo] w fun e w' => e = .returned (.bool (reachesB v lo)) ∧ w' = w := by
  go_enter Tryd.func36, Tryd.ntmps36
  go_wp2
  go_loop [5] (fun i => ∃ k : Nat, k ≤ 31 ∧ lo ≤ k ∧ i = .int .i64 k ∧ ∀ j : Nat, lo ≤ j → j < k → ¬ ((j : Int) = v ∨ (0 < v ∧ (j : Int) / 10 = v))) (fun i => 31 - (intOf i).toNat)
  case atStart => exact ⟨lo.toNat, by omega, by omega, by congr 1; omega, fun j hj hk => by omega⟩
  case round =>
    obtain ⟨k, hk, hl, rfl, hno⟩ := hrel
    have HNO : Hid (∀ j : Nat, lo ≤ j → j < k → ¬ ((j : Int) = v ∨ (0 < v ∧ (j : Int) / 10 = v))) := hno
    clear hno
    by_cases hlt : k ≤ 30
    · by_cases a : (k : Int) = v
      · have a' : ((k : Int) == v) = true := by simpa using a
        go_wp2
        go_ret
        exact ⟨ret_bool (reaches_at v lo k hlt hl (.inl a)).symm, rfl⟩
      · have a' : ((k : Int) == v) = false := by simpa using a
        by_cases b : 0 < v
        · by_cases d : (k : Int) / 10 = v
          · have d' : ((k : Int) / 10 == v) = true := by simpa using d
            have D' : Hid ((k : Int) / 10 = v) := d
            clear d a
            go_wp2
            go_ret
            exact ⟨ret_bool (reaches_at v lo k hlt hl (.inr ⟨b, D'.out⟩)).symm, rfl⟩
          · have d' : ((k : Int) / 10 == v) = false := by simpa using d
            go_wp2
            go_round
            case rel =>
              refine ⟨k + 1, by omega, by omega, by go_num, fun j hj hk' => ?_⟩
              by_cases e : j = k
              · subst e; omega
              · exact HNO.out j hj (by omega)
            case measure => simp [intOf]; omega
        · go_wp2
          go_round
          case rel =>
            refine ⟨k + 1, by omega, by omega, by go_num, fun j hj hk' => ?_⟩
            by_cases e : j = k
            · subst e; omega
            · exact HNO.out j hj (by omega)
          case measure => simp [intOf]; omega
    · go_wp2
      go_ret
      exact ⟨ret_bool (reaches_not v lo (fun j hj hk' => HNO.out j hj (by omega))).symm, rfl⟩
end Go.Proofs.YtbjabpodkaokjaaDoor
