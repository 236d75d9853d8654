import Derived.Test.YtbjabpodkaokjaaJ13
set_option linter.unusedVariables false
set_option linter.unusedSimpArgs false
namespace Go.Proofs.Ytbjabpodkaokjaa
open Go.RowKit

/-- The document's reader in block g. -/
structure Rdf (w : World) (g : Nat) (big : Bool) (l : List UInt8) : Prop where
  c0 : w.cell? ⟨g, 0, none⟩ = some (.string (ba l))
  c1 : w.cell? ⟨g, 1, none⟩ = some (.bool big)
  fz : ∀ o, w.frozen? ⟨g, o, none⟩ = false
  sz : l.length ≤ maxLen
theorem Rdf.lt {w : World} {g : Nat} {big : Bool} {l : List UInt8} (h : Rdf w g big l) : g < w.heap.size := cell_lt h.c0
def RfOut (g : Nat) (big : Bool) (w : World) (l : List UInt8) (w' : World) : Prop := Rdf w' g big l ∧ w.grownBy w' (some g)
theorem RfOut.trans {g : Nat} {big : Bool} {x y z : World} {l l' : List UInt8} (h : RfOut g big x l y) (k : RfOut g big y l' z) : RfOut g big x l' z := ⟨k.1, grown_trans h.2 k.2⟩
theorem Rdf.put {w : World} {g : Nat} {big : Bool} {l l' : List UInt8} (h : Rdf w g big l) (hl : l'.length ≤ maxLen) : RfOut g big w l' (w.setCell ⟨g, 0, none⟩ (.string (ba l'))) :=
  ⟨⟨World.cell?_setCell_same _ _ _ h.c0, by rw [World.cell?_setCell_other _ _ _ _ (by simp)]; exact h.c1, fun o => by rw [World.frozen?_setCell]; exact h.fz o, hl⟩, grown_set _ _ _ _⟩
theorem Rdf.of_block {w w' : World} {g : Nat} {big : Bool} {l : List UInt8} (h : Rdf w g big l) (e : w'.heap[g]? = w.heap[g]?) : Rdf w' g big l :=
  ⟨(cell_of_block e 0).trans h.c0, (cell_of_block e 1).trans h.c1, fun o => (frozen_of_block e o).trans (h.fz o), h.sz⟩
theorem Rdf.below {w w' : World} {g : Nat} {big : Bool} {l : List UInt8} (h : Rdf w g big l) (hb : Below w.heap.size w w') : Rdf w' g big l := h.of_block (hb.block g h.lt)
theorem Rdf.set {w : World} {g b : Nat} {big : Bool} {l : List UInt8} (h : Rdf w g big l) (hb : b ≠ g) (o : Nat) (v : Value) : Rdf (w.setCell ⟨b, o, none⟩ v) g big l := h.of_block (Below.heap_setCell _ _ _ _ (by simpa using fun e => hb e.symm))
def byA (l : List UInt8) (i : Nat) : Nat := (l[i]?.getD 0).toNat
theorem byA_lt (l : List UInt8) (i : Nat) : byA l i < 256 := (l[i]?.getD 0).toNat_lt
theorem byA_at (l : List UInt8) (i : Nat) (h : i < l.length) : byA l i = l[i].toNat := by simp [byA, h]
theorem byA_no (l : List UInt8) (i : Nat) (h : l.length ≤ i) : byA l i = 0 := by simp [byA, List.getElem?_eq_none h]
theorem rdS_by (l : List UInt8) : rdS l = (byA l 0, l.drop 1) := by cases l <;> simp [rdS, byA]
theorem rdP_by (big : Bool) (l : List UInt8) : rdP big l = (if big then 256 * byA l 0 + byA l 1 else byA l 0 + 256 * byA l 1, l.drop 2) := by
  rcases l with _ | ⟨x, _ | ⟨y, t⟩⟩ <;> cases big <;> simp [rdP, rdS, byA] <;> omega
def pvA (big : Bool) (l : List UInt8) : Nat → Nat
  | 0 => 0
  | 1 => byA l 0
  | _ => if big then 256 * byA l 0 + byA l 1 else byA l 0 + 256 * byA l 1
theorem pv0 (big : Bool) (l : List UInt8) : pvA big l 0 = 0 := rfl
theorem pv1 (big : Bool) (l : List UInt8) : pvA big l 1 = byA l 0 := rfl
theorem pv2f (l : List UInt8) : pvA false l 2 = byA l 0 + 256 * byA l 1 := rfl
theorem pv2t (l : List UInt8) : pvA true l 2 = 256 * byA l 0 + byA l 1 := rfl
set_option maxRecDepth 4000 in
set_option maxHeartbeats 4000000 in
theorem number_r1 (w : World) (g : Nat) (big : Bool) (l : List UInt8) (h : Rdf w g big l) :
    Calls Try.prog 19 #[.pointer (some ⟨g, 0, none⟩), .int .i64 1] w fun e w' => e = .returned (.int .i64 ((rdS l).1 : Nat)) ∧ RfOut g big w (rdS l).2 w' := by
  have c0 := h.c0
  have c1 := h.c1
  have f0 := h.fz 0
  have hsz := h.sz
  have hbs := ba_size l
  obtain ⟨N, hN⟩ : ∃ N, N = l.length := ⟨_, rfl⟩
  rw [← hN] at hbs hsz
  unfold maxLen at hsz
  have HN : Hid (N = l.length) := hN
  have H : Hid (Rdf w g big l) := h
  have y0 := byA_lt l 0
  have y1 := byA_lt l 1
  have HRE : Hid ((rdS l) = (pvA big l 1, l.drop 1)) := by show _ = _; rw [rdS_by]; rfl
  clear h hN
  go_enter Try.func19, Try.ntmps19
  go_wp2
  go_loop [5, 6, 7] (fun n i _ => ∃ k : Nat, i = .int .i64 k ∧ k ≤ 1 ∧ n = .int .i64 (pvA big l k : Nat)) (fun _ i _ => 1 - (intOf i).toNat)
  case atStart => exact ⟨0, rfl, by omega, rfl⟩
  case round =>
    obtain ⟨k, rfl, hk, rfl⟩ := hrel
    rcases (show k = 0 ∨ k = 1 by omega) with rfl | rfl
    · obtain ⟨x, hx⟩ : ∃ x, x = byA l 0 := ⟨_, rfl⟩
      have HX : Hid (x = byA l 0) := hx
      rw [← hx] at y0
      rw [pv0]
      by_cases hlt : (0 : Int) < N
      · have hbz : ∀ h : 0 < (ba l).size, ((ba l)[0]'h).toNat = x := fun h => by rw [hx, byA_at l 0 (by have := HN.out; omega)]; rfl
        clear hx
        cases big
        all_goals
          go_wp2
          go_round
          case rel => exact ⟨1, by go_num, by omega, by first | (rw [pv1, ← HX.out]; done) | (rw [pv1, ← HX.out]; go_num)⟩
          case measure => simp [intOf] <;> omega
      · have hx0 : x = 0 := by rw [hx]; exact byA_no l 0 (by have := HN.out; omega)
        subst hx0
        clear hx
        cases big
        all_goals
          go_wp2
          go_round
          case rel => exact ⟨1, by go_num, by omega, by first | (rw [pv1, ← HX.out]; done) | (rw [pv1, ← HX.out]; go_num)⟩
          case measure => simp [intOf] <;> omega
    · obtain ⟨pv, hpv⟩ : ∃ p, p = pvA big l 1 := ⟨_, rfl⟩
      rw [← hpv]
      have HPV : Hid (pv = pvA big l 1) := hpv
      clear hpv
      by_cases hlt : (N : Int) < 1
      · have HD : Hid (l.drop 1 = []) := by show _ = _; rw [List.drop_of_length_le (by have := HN.out; omega)]
        go_wp2
        go_ret
        rw [HRE.out]
        refine ⟨by rw [← HPV.out]; rfl, ?_⟩
        show RfOut _ _ _ (l.drop 1) _
        rw [HD.out]
        exact H.out.put (l' := []) (by simp)
      · go_wp2
        go_ret
        rw [HRE.out]
        refine ⟨by rw [← HPV.out]; rfl, ?_⟩
        show RfOut _ _ _ (l.drop 1) _
        have h := H.out.put (l' := l.drop 1) (by have := H.out.sz; simp; omega)
        rw [← ba_drop, ← HN.out] at h
        exact h
set_option maxRecDepth 4000 in
set_option maxHeartbeats 4000000 in
theorem number_r2 (w : World) (g : Nat) (big : Bool) (l : List UInt8) (h : Rdf w g big l) :
    Calls Try.prog 19 #[.pointer (some ⟨g, 0, none⟩), .int .i64 2] w fun e w' => e = .returned (.int .i64 ((rdP big l).1 : Nat)) ∧ RfOut g big w (rdP big l).2 w' := by
  have c0 := h.c0
  have c1 := h.c1
  have f0 := h.fz 0
  have hsz := h.sz
  have hbs := ba_size l
  obtain ⟨N, hN⟩ : ∃ N, N = l.length := ⟨_, rfl⟩
  rw [← hN] at hbs hsz
  unfold maxLen at hsz
  have HN : Hid (N = l.length) := hN
  have H : Hid (Rdf w g big l) := h
  have y0 := byA_lt l 0
  have y1 := byA_lt l 1
  have HRE : Hid ((rdP big l) = (pvA big l 2, l.drop 2)) := by show _ = _; rw [rdP_by]; rfl
  clear h hN
  go_enter Try.func19, Try.ntmps19
  go_wp2
  go_loop [5, 6, 7] (fun n i _ => ∃ k : Nat, i = .int .i64 k ∧ k ≤ 2 ∧ n = .int .i64 (pvA big l k : Nat)) (fun _ i _ => 2 - (intOf i).toNat)
  case atStart => exact ⟨0, rfl, by omega, rfl⟩
  case round =>
    obtain ⟨k, rfl, hk, rfl⟩ := hrel
    rcases (show k = 0 ∨ k = 1 ∨ k = 2 by omega) with rfl | rfl | rfl
    · obtain ⟨x, hx⟩ : ∃ x, x = byA l 0 := ⟨_, rfl⟩
      have HX : Hid (x = byA l 0) := hx
      rw [← hx] at y0
      rw [pv0]
      by_cases hlt : (0 : Int) < N
      · have hbz : ∀ h : 0 < (ba l).size, ((ba l)[0]'h).toNat = x := fun h => by rw [hx, byA_at l 0 (by have := HN.out; omega)]; rfl
        clear hx
        cases big
        all_goals
          go_wp2
          go_round
          case rel => exact ⟨1, by go_num, by omega, by first | (rw [pv1, ← HX.out]; done) | (rw [pv1, ← HX.out]; go_num)⟩
          case measure => simp [intOf] <;> omega
      · have hx0 : x = 0 := by rw [hx]; exact byA_no l 0 (by have := HN.out; omega)
        subst hx0
        clear hx
        cases big
        all_goals
          go_wp2
          go_round
          case rel => exact ⟨1, by go_num, by omega, by first | (rw [pv1, ← HX.out]; done) | (rw [pv1, ← HX.out]; go_num)⟩
          case measure => simp [intOf] <;> omega
    · obtain ⟨x, hx⟩ : ∃ x, x = byA l 1 := ⟨_, rfl⟩
      have HX : Hid (x = byA l 1) := hx
      rw [← hx] at y1
      obtain ⟨x0, hx0e⟩ : ∃ x, x = byA l 0 := ⟨_, rfl⟩
      have HX0 : Hid (x0 = byA l 0) := hx0e
      have e1 : pvA big l 1 = x0 := hx0e.symm
      rw [e1]
      rw [← hx0e] at y0
      clear hx0e e1
      by_cases hlt : (1 : Int) < N
      · have hbz : ∀ h : 1 < (ba l).size, ((ba l)[1]'h).toNat = x := fun h => by rw [hx, byA_at l 1 (by have := HN.out; omega)]; rfl
        clear hx
        cases big
        all_goals
          go_wp2
          go_round
          case rel => exact ⟨2, by go_num, by omega, by first | (rw [pv2f, ← HX.out, ← HX0.out]; go_num) | (rw [pv2t, ← HX.out, ← HX0.out]; go_num)⟩
          case measure => simp [intOf] <;> omega
      · have hx0 : x = 0 := by rw [hx]; exact byA_no l 1 (by have := HN.out; omega)
        subst hx0
        clear hx
        cases big
        all_goals
          go_wp2
          go_round
          case rel => exact ⟨2, by go_num, by omega, by first | (rw [pv2f, ← HX.out, ← HX0.out]; go_num) | (rw [pv2t, ← HX.out, ← HX0.out]; go_num)⟩
          case measure => simp [intOf] <;> omega
    · obtain ⟨pv, hpv⟩ : ∃ p, p = pvA big l 2 := ⟨_, rfl⟩
      rw [← hpv]
      have HPV : Hid (pv = pvA big l 2) := hpv
      clear hpv
      by_cases hlt : (N : Int) < 2
      · have HD : Hid (l.drop 2 = []) := by show _ = _; rw [List.drop_of_length_le (by have := HN.out; omega)]
        go_wp2
        go_ret
        rw [HRE.out]
        refine ⟨by rw [← HPV.out]; rfl, ?_⟩
        show RfOut _ _ _ (l.drop 2) _
        rw [HD.out]
        exact H.out.put (l' := []) (by simp)
      · go_wp2
        go_ret
        rw [HRE.out]
        refine ⟨by rw [← HPV.out]; rfl, ?_⟩
        show RfOut _ _ _ (l.drop 2) _
        have h := H.out.put (l' := l.drop 2) (by have := H.out.sz; simp; omega)
        rw [← ba_drop, ← HN.out] at h
        exact h
end Go.Proofs.Ytbjabpodkaokjaa
