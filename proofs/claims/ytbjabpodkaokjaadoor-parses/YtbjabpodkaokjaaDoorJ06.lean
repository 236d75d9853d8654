import Derived.Test.YtbjabpodkaokjaaDoorJ03
set_option linter.unusedVariables false
set_option linter.unusedSimpArgs false
namespace Go.Proofs.YtbjabpodkaokjaaDoor
open Go.RowKit

set_option maxHeartbeats 4000000 in
theorem chain_raw (M D Mo : Int) (C : Bool) (L V Le N c : Int) (w : World) (g0 : 0 ≤ c) (g1 : c ≤ 255) (d0 : 0 ≤ D) (d1 : D ≤ 1000) :
    Calls Tryd.prog 22 #[mv8 M D Mo C L V Le N, .int .u8 c] w fun e w' => e = .returned (mv (Md.chain ⟨M, D, Mo, C, L, V, Le, N⟩ c)) ∧ Below w.heap.size w w' := by
  obtain ⟨R, hR⟩ : ∃ R, R = Md.chain ⟨M, D, Mo, C, L, V, Le, N⟩ c := ⟨_, rfl⟩
  rw [← hR]
  have HR : Hid (R = Md.chain ⟨M, D, Mo, C, L, V, Le, N⟩ c) := hR
  clear hR
  go_enter Tryd.func22, Tryd.ntmps22
  go_wp2_with (first | (go_at_call 24; refine (to_raw _ _ _ _ _ _ _ _ _ _).mono ?_; rintro e w' ⟨rfl, hb⟩; obtain ⟨hc, hf⟩ := bcell hb; have hz := hb.size; simp at hz) | (go_at_call 34; refine (group_raw _ _ _ _ _ _ _ _ _ _ (by omega) (by omega) (by omega) (by omega)).mono ?_; rintro e w' ⟨rfl, hb⟩; obtain ⟨hc, hf⟩ := bcell hb; have hz := hb.size; simp at hz))
  all_goals
    have hR := HR.out
    clear HR
    go_light
    first | (have hb1 := hb; refine bodyPost_ret (v := mv R) ?_ rfl ⟨rfl, (by (repeat refine Below.setCell ?_ (by first | (simp; done) | (simp; omega)) _); refine Below.trans ?_ (Below.mono hb1 (by first | (simp; done) | (simp; omega))); (repeat refine Below.alloc ?_ (by first | (simp; done) | (simp; omega)) _); exact Below.refl _ _)⟩; subst hR; simp [results, Tryd.results22, go_sem, hc, hz, Md.chain, Md.to, *] <;> (clear hb hc hf hz; first | omega | simp_all)) | (refine bodyPost_ret (v := mv R) ?_ rfl ⟨rfl, (by (repeat refine Below.setCell ?_ (by first | (simp; done) | (simp; omega)) _); (repeat refine Below.alloc ?_ (by first | (simp; done) | (simp; omega)) _); exact Below.refl _ _)⟩; subst hR; simp [results, Tryd.results22, go_sem, Md.chain, Md.to, *] <;> first | omega | simp_all)
end Go.Proofs.YtbjabpodkaokjaaDoor
