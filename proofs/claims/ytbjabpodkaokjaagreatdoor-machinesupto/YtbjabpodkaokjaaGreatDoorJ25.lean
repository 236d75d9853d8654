import Derived.Test.YtbjabpodkaokjaaGreatDoorJ13
import Derived.Test.YtbjabpodkaokjaaGreatDoorJ24
set_option linter.unusedVariables false
set_option linter.unusedSimpArgs false
namespace Go.Proofs.YtbjabpodkaokjaaGreatDoor
open Go.RowKit

/-- The document's reader in block g. -/
structure Rdf (w : World) (g : Nat) (big : Bool) (l : List UInt8) : Prop where
  c0 : w.cell? ⟨g, 0, none⟩ = some (.string (ba l))
  c1 : w.cell? ⟨g, 1, none⟩ = some (.bool big)
  fz : ∀ o, w.frozen? ⟨g, o, none⟩ = false
  sz : l.length ≤ maxLen
theorem Rdf.lt {w : World} {g : Nat} {big : Bool} {l : List UInt8} (h : Rdf w g big l) : g < w.heap.size := cell_lt h.c0
def RfOut (g : Nat) (big : Bool) (w : World) (l : List UInt8) (w' : World) : Prop := Rdf w' g big l ∧ w.grownBy w' (some g)
theorem RfOut.trans {g : Nat} {big : Bool} {x y z : World} {l l' : List UInt8} (h : RfOut g big x l y) (k : RfOut g big y l' z) : RfOut g big x l' z := ⟨k.1, grown_trans h.2 k.2⟩
theorem Rdf.put {w : World} {g : Nat} {big : Bool} {l l' : List UInt8} (h : Rdf w g big l) (hl : l'.length ≤ maxLen) : RfOut g big w l' (w.setCell ⟨g, 0, none⟩ (.string (ba l'))) :=
  ⟨⟨World.cell?_setCell_same _ _ _ h.c0, by rw [World.cell?_setCell_other _ _ _ _ (by simp)]; exact h.c1, fun o => by rw [World.frozen?_setCell]; exact h.fz o, hl⟩, grown_set _ _ _ _⟩
theorem Rdf.of_block {w w' : World} {g : Nat} {big : Bool} {l : List UInt8} (h : Rdf w g big l) (e : w'.heap[g]? = w.heap[g]?) : Rdf w' g big l :=
  ⟨(cell_of_block e 0).trans h.c0, (cell_of_block e 1).trans h.c1, fun o => (frozen_of_block e o).trans (h.fz o), h.sz⟩
theorem Rdf.below {w w' : World} {g : Nat} {big : Bool} {l : List UInt8} (h : Rdf w g big l) (hb : Below w.heap.size w w') : Rdf w' g big l := h.of_block (hb.block g h.lt)
theorem Rdf.set {w : World} {g b : Nat} {big : Bool} {l : List UInt8} (h : Rdf w g big l) (hb : b ≠ g) (o : Nat) (v : Value) : Rdf (w.setCell ⟨b, o, none⟩ v) g big l := h.of_block (Below.heap_setCell _ _ _ _ (by simpa using fun e => hb e.symm))
def byA (l : List UInt8) (i : Nat) : Nat := (l[i]?.getD 0).toNat
theorem byA_lt (l : List UInt8) (i : Nat) : byA l i < 256 := (l[i]?.getD 0).toNat_lt
theorem byA_at (l : List UInt8) (i : Nat) (h : i < l.length) : byA l i = l[i].toNat := by simp [byA, h]
theorem byA_no (l : List UInt8) (i : Nat) (h : l.length ≤ i) : byA l i = 0 := by simp [byA, List.getElem?_eq_none h]
theorem rdS_by (l : List UInt8) : rdS l = (byA l 0, l.drop 1) := by cases l <;> simp [rdS, byA]
theorem rdP_by (big : Bool) (l : List UInt8) : rdP big l = (if big then 256 * byA l 0 + byA l 1 else byA l 0 + 256 * byA l 1, l.drop 2) := by
  rcases l with _ | ⟨x, _ | ⟨y, t⟩⟩ <;> cases big <;> simp [rdP, rdS, byA] <;> omega
def pvA (big : Bool) (l : List UInt8) : Nat → Nat
  | 0 => 0
  | 1 => byA l 0
  | _ => if big then 256 * byA l 0 + byA l 1 else byA l 0 + 256 * byA l 1
theorem pv0 (big : Bool) (l : List UInt8) : pvA big l 0 = 0 := rfl
theorem pv1 (big : Bool) (l : List UInt8) : pvA big l 1 = byA l 0 := rfl
theorem pv2f (l : List UInt8) : pvA false l 2 = byA l 0 + 256 * byA l 1 := rfl
theorem pv2t (l : List UInt8) : pvA true l 2 = 256 * byA l 0 + byA l 1 := rfl
set_option maxRecDepth 4000 in
set_option maxHeartbeats 4000000 in
theorem number_r1 (w : World) (g : Nat) (big : Bool) (l : List UInt8) (h : Rdf w g big l) :
    Calls Tryz.prog 165 #[.pointer (some ⟨g, 0, none⟩), .int .i64 1] w fun e w' => e = .returned (.int .i64 ((rdS l).1 : Nat)) ∧ RfOut g big w (rdS l).2 w' := by
  have c0 := h.c0
  have c1 := h.c1
  have f0 := h.fz 0
  have hsz := h.sz
  have hbs := ba_size l
  obtain ⟨N, hN⟩ : ∃ N, N = l.length := ⟨_, rfl⟩
  rw [← hN] at hbs hsz
  unfold maxLen at hsz
  have HN : Hid (N = l.length) := hN
  have H : Hid (Rdf w g big l) := h
  have y0 := byA_lt l 0
  have y1 := byA_lt l 1
  have HRE : Hid ((rdS l) = (pvA big l 1, l.drop 1)) := by show _ = _; rw [rdS_by]; rfl
  clear h hN
  go_enter Tryz.func165, Tryz.ntmps165
  go_wp2
  go_loop [5, 6, 7] (fun n i _ => ∃ k : Nat, i = .int .i64 k ∧ k ≤ 1 ∧ n = .int .i64 (pvA big l k : Nat)) (fun _ i _ => 1 - (intOf i).toNat)
  case atStart => exact ⟨0, rfl, by omega, rfl⟩
  case round =>
    obtain ⟨k, rfl, hk, rfl⟩ := hrel
    rcases (show k = 0 ∨ k = 1 by omega) with rfl | rfl
    · obtain ⟨x, hx⟩ : ∃ x, x = byA l 0 := ⟨_, rfl⟩
      have HX : Hid (x = byA l 0) := hx
      rw [← hx] at y0
      rw [pv0]
      by_cases hlt : (0 : Int) < N
      · have hbz : ∀ h : 0 < (ba l).size, ((ba l)[0]'h).toNat = x := fun h => by rw [hx, byA_at l 0 (by have := HN.out; omega)]; rfl
        clear hx
        cases big
        all_goals
          go_wp2
          go_round
          case rel => exact ⟨1, by go_num, by omega, by first | (rw [pv1, ← HX.out]; done) | (rw [pv1, ← HX.out]; go_num)⟩
          case measure => simp [intOf] <;> omega
      · have hx0 : x = 0 := by rw [hx]; exact byA_no l 0 (by have := HN.out; omega)
        subst hx0
        clear hx
        cases big
        all_goals
          go_wp2
          go_round
          case rel => exact ⟨1, by go_num, by omega, by first | (rw [pv1, ← HX.out]; done) | (rw [pv1, ← HX.out]; go_num)⟩
          case measure => simp [intOf] <;> omega
    · obtain ⟨pv, hpv⟩ : ∃ p, p = pvA big l 1 := ⟨_, rfl⟩
      rw [← hpv]
      have HPV : Hid (pv = pvA big l 1) := hpv
      clear hpv
      by_cases hlt : (N : Int) < 1
      · have HD : Hid (l.drop 1 = []) := by show _ = _; rw [List.drop_of_length_le (by have := HN.out; omega)]
        go_wp2
        go_ret
        rw [HRE.out]
        refine ⟨by rw [← HPV.out]; rfl, ?_⟩
        show RfOut _ _ _ (l.drop 1) _
        rw [HD.out]
        exact H.out.put (l' := []) (by simp)
      · go_wp2
        go_ret
        rw [HRE.out]
        refine ⟨by rw [← HPV.out]; rfl, ?_⟩
        show RfOut _ _ _ (l.drop 1) _
        have h := H.out.put (l' := l.drop 1) (by have := H.out.sz; simp; omega)
        rw [← ba_drop, ← HN.out] at h
        exact h
set_option maxRecDepth 4000 in
set_option maxHeartbeats 4000000 in
theorem number_r2 (w : World) (g : Nat) (big : Bool) (l : List UInt8) (h : Rdf w g big l) :
    Calls Tryz.prog 165 #[.pointer (some ⟨g, 0, none⟩), .int .i64 2] w fun e w' => e = .returned (.int .i64 ((rdP big l).1 : Nat)) ∧ RfOut g big w (rdP big l).2 w' := by
  have c0 := h.c0
  have c1 := h.c1
  have f0 := h.fz 0
  have hsz := h.sz
  have hbs := ba_size l
  obtain ⟨N, hN⟩ : ∃ N, N = l.length := ⟨_, rfl⟩
  rw [← hN] at hbs hsz
  unfold maxLen at hsz
  have HN : Hid (N = l.length) := hN
  have H : Hid (Rdf w g big l) := h
  have y0 := byA_lt l 0
  have y1 := byA_lt l 1
  have HRE : Hid ((rdP big l) = (pvA big l 2, l.drop 2)) := by show _ = _; rw [rdP_by]; rfl
  clear h hN
  go_enter Tryz.func165, Tryz.ntmps165
  go_wp2
  go_loop [5, 6, 7] (fun n i _ => ∃ k : Nat, i = .int .i64 k ∧ k ≤ 2 ∧ n = .int .i64 (pvA big l k : Nat)) (fun _ i _ => 2 - (intOf i).toNat)
  case atStart => exact ⟨0, rfl, by omega, rfl⟩
  case round =>
    obtain ⟨k, rfl, hk, rfl⟩ := hrel
    rcases (show k = 0 ∨ k = 1 ∨ k = 2 by omega) with rfl | rfl | rfl
    · obtain ⟨x, hx⟩ : ∃ x, x = byA l 0 := ⟨_, rfl⟩
      have HX : Hid (x = byA l 0) := hx
      rw [← hx] at y0
      rw [pv0]
      by_cases hlt : (0 : Int) < N
      · have hbz : ∀ h : 0 < (ba l).size, ((ba l)[0]'h).toNat = x := fun h => by rw [hx, byA_at l 0 (by have := HN.out; omega)]; rfl
        clear hx
        cases big
        all_goals
          go_wp2
          go_round
          case rel => exact ⟨1, by go_num, by omega, by first | (rw [pv1, ← HX.out]; done) | (rw [pv1, ← HX.out]; go_num)⟩
          case measure => simp [intOf] <;> omega
      · have hx0 : x = 0 := by rw [hx]; exact byA_no l 0 (by have := HN.out; omega)
        subst hx0
        clear hx
        cases big
        all_goals
          go_wp2
          go_round
          case rel => exact ⟨1, by go_num, by omega, by first | (rw [pv1, ← HX.out]; done) | (rw [pv1, ← HX.out]; go_num)⟩
          case measure => simp [intOf] <;> omega
    · obtain ⟨x, hx⟩ : ∃ x, x = byA l 1 := ⟨_, rfl⟩
      have HX : Hid (x = byA l 1) := hx
      rw [← hx] at y1
      obtain ⟨x0, hx0e⟩ : ∃ x, x = byA l 0 := ⟨_, rfl⟩
      have HX0 : Hid (x0 = byA l 0) := hx0e
      have e1 : pvA big l 1 = x0 := hx0e.symm
      rw [e1]
      rw [← hx0e] at y0
      clear hx0e e1
      by_cases hlt : (1 : Int) < N
      · have hbz : ∀ h : 1 < (ba l).size, ((ba l)[1]'h).toNat = x := fun h => by rw [hx, byA_at l 1 (by have := HN.out; omega)]; rfl
        clear hx
        cases big
        all_goals
          go_wp2
          go_round
          case rel => exact ⟨2, by go_num, by omega, by first | (rw [pv2f, ← HX.out, ← HX0.out]; go_num) | (rw [pv2t, ← HX.out, ← HX0.out]; go_num)⟩
          case measure => simp [intOf] <;> omega
      · have hx0 : x = 0 := by rw [hx]; exact byA_no l 1 (by have := HN.out; omega)
        subst hx0
        clear hx
        cases big
        all_goals
          go_wp2
          go_round
          case rel => exact ⟨2, by go_num, by omega, by first | (rw [pv2f, ← HX.out, ← HX0.out]; go_num) | (rw [pv2t, ← HX.out, ← HX0.out]; go_num)⟩
          case measure => simp [intOf] <;> omega
    · obtain ⟨pv, hpv⟩ : ∃ p, p = pvA big l 2 := ⟨_, rfl⟩
      rw [← hpv]
      have HPV : Hid (pv = pvA big l 2) := hpv
      clear hpv
      by_cases hlt : (N : Int) < 2
      · have HD : Hid (l.drop 2 = []) := by show _ = _; rw [List.drop_of_length_le (by have := HN.out; omega)]
        go_wp2
        go_ret
        rw [HRE.out]
        refine ⟨by rw [← HPV.out]; rfl, ?_⟩
        show RfOut _ _ _ (l.drop 2) _
        rw [HD.out]
        exact H.out.put (l' := []) (by simp)
      · go_wp2
        go_ret
        rw [HRE.out]
        refine ⟨by rw [← HPV.out]; rfl, ?_⟩
        show RfOut _ _ _ (l.drop 2) _
        have h := H.out.put (l' := l.drop 2) (by have := H.out.sz; simp; omega)
        rw [← ba_drop, ← HN.out] at h
        exact h
end Go.Proofs.YtbjabpodkaokjaaGreatDoor

namespace Go.Proofs.YtbjabpodkaokjaaGreatDoor
open Go.RowKit

theorem irow_own {w : World} {base : Nat} {v : Value} {zs : List Int} {n : Nat} (h : IRow w base v zs) (hn : zs.length = n) : w.ownsRow base 3 1 v n (zs.map eI) := by rw [← hn]; exact h
theorem irow_snoc {w : World} {base : Nat} {v : Value} {zs : List Int} {z : Int} {n : Nat} (h : w.ownsRow base 3 1 v (n + 1) (zs.map eI ++ [.int .i64 z])) (hn : zs.length = n) : IRow w base v (zs ++ [z]) := by
  show w.ownsRow base 3 1 v (zs ++ [z]).length ((zs ++ [z]).map eI)
  rw [show (zs ++ [z]).length = n + 1 by simp [hn], List.map_append]
  exact h
set_option maxRecDepth 4000 in
set_option maxHeartbeats 1000000 in
theorem dense_rf (w : World) (g : Nat) (big : Bool) (l : List UInt8) (c : Nat) (hc : c ≤ 256) (h : Rdf w g big l) :
    Calls Tryz.prog 166 #[.pointer (some ⟨g, 0, none⟩), .int .i64 0, .int .i64 c] w fun e w' => ∃ v, e = .returned v ∧ IRow w' w.heap.size v (rdD big c l).1 ∧ RfOut g big w (rdD big c l).2 w' := by
  obtain ⟨i0, hi0, hz0, hz1, hz2⟩ := info_parts Tryz.infoI
  have H : Hid (Rdf w g big l) := h
  have hgl := h.lt
  clear h
  go_enter Tryz.func166, Tryz.ntmps166
  go_wp2
  go_loopw [7, 8, 9] (fun v i _ wr => ∃ k : Nat, i = .int .i64 k ∧ k ≤ c ∧ IRow wr w.heap.size v (rdD big k l).1 ∧ RfOut g big w (rdD big k l).2 wr) (fun _ i _ _ => c - (intOf i).toNat)
  case atStart => exact ⟨0, rfl, Nat.zero_le _, World.ownsRow_nil _ _ _ _, ⟨H.out, grown_refl _ _⟩⟩
  case round =>
    obtain ⟨k, rfl, hk, hir, hro⟩ := hrel
    have HI : Hid (IRow wr w.heap.size u7 (rdD big k l).1) := hir
    have HR : Hid (RfOut g big w (rdD big k l).2 wr) := hro
    have hws := hro.2.size
    clear hir hro
    by_cases hlt : k < c
    · have hltI : (k : Int) < c := by omega
      have hkl := rdD_len big l k
      obtain ⟨S, hS⟩ : ∃ S, S = (rdD big k l).1 := ⟨_, rfl⟩
      obtain ⟨z, hz⟩ : ∃ z, z = (rdP big (rdD big k l).2).1 := ⟨_, rfl⟩
      obtain ⟨l2, hl2⟩ : ∃ z, z = (rdP big (rdD big k l).2).2 := ⟨_, rfl⟩
      have HP : Hid (Calls Tryz.prog 165 #[.pointer (some ⟨g, 0, none⟩), .int .i64 2] wr fun e w' => e = .returned (.int .i64 z) ∧ RfOut g big wr l2 w') := by
        show Calls _ _ _ _ _
        rw [hz, hl2]; exact number_r2 wr g big _ HR.out.1
      have HD : Hid (rdD big (k + 1) l = (S ++ [(z : Int)], l2)) := by show _ = _; rw [rdD, hz, hl2, hS]
      rw [← hS] at HI hkl
      have HSL : Hid (S.length = k) := hkl
      clear hz hl2 hS hkl
      go_wp2_with (first | (at_builtin; refine wpList_append_lies _ rfl (.tmp 24) (.tmp 26) 40 rfl w.heap.size 3 i0 (.int .i64 0) 1 8 Tryz.underlying40 hi0 hz0 hz1 hz2 rfl (by decide) u7 k (S.map eI) rfl (World.ownsRow.alloc HW2.out _) ⟨w2.heap.size, 0, none⟩ 1 1 [.int .i64 (z : Int)] rfl rfl (one_cell_new _ _ _) (by simp [Value.oneCell']) (by omega) (by unfold maxLen; omega) (by omega) (by simp; omega) _ rfl ?_) | (go_at_call 165; refine HP.out.mono ?_; rintro e w2 ⟨rfl, ho2⟩; have HO2 : Hid (RfOut g big wr l2 w2) := ho2; have hw2 := ho2.2.size; have HW2 : Hid (w2.ownsRow w.heap.size 3 1 u7 k (S.map eI)) := ownsRow_keep (irow_own HI.out HSL.out) ho2.2 (by omega); clear ho2))
      intro g1 cap1 w4 hown hgr hat hlt4
      have HI4 : Hid (IRow w4 w.heap.size (.slice (some ⟨g1, 0, none⟩) (k + 1) cap1) (S ++ [(z : Int)])) := irow_snoc hown HSL.out
      have HR4 : Hid (RfOut g big w l2 w4) := ⟨(HO2.out.1.below ((Below.refl _ _).alloc (Nat.le_refl _) _)).of_block (hgr.block g (by have := HO2.out.1.lt; simp; omega) (fun e => by have := (HW2.out.lt g e.symm).1; omega)), grown_own (grown_alloc (grown_trans HR.out.2 HO2.out.2) _) hgr (fun q e => (HW2.out.lt q e).1)⟩
      clear hown hgr hat
      go_wp2
      go_roundw
      case rel =>
        refine ⟨k + 1, by go_num, by omega, ?_, ?_⟩
        · rw [HD.out]; exact HI4.out
        · rw [HD.out]; exact HR4.out
      case measure => simp [intOf] <;> omega
    · have hkI : ¬ (k : Int) < c := by omega
      have hkc : k = c := by omega
      go_wp2
      go_ret
      have h1 := HI.out
      have h2 := HR.out
      rw [hkc] at h1 h2
      exact ⟨_, rfl, h1, h2⟩
set_option maxRecDepth 4000 in
set_option maxHeartbeats 2000000 in
theorem sparse_rf (w : World) (g : Nat) (big : Bool) (l : List UInt8) (c : Nat) (hc : c ≤ 256) (h : Rdf w g big l) :
    Calls Tryz.prog 166 #[.pointer (some ⟨g, 0, none⟩), .int .i64 1, .int .i64 c] w fun e w' => ∃ v, e = .returned v ∧ IRow w' w.heap.size v (rfRow 1 big c l).1 ∧ RfOut g big w (rfRow 1 big c l).2 w' := by
  obtain ⟨i0, hi0, hz0, hz1, hz2⟩ := info_parts Tryz.infoI
  have hgl := h.lt
  have HP : Hid (Calls Tryz.prog 165 #[.pointer (some ⟨g, 0, none⟩), .int .i64 2] w fun e w' => e = .returned (.int .i64 (rdP big l).1) ∧ RfOut g big w (rdP big l).2 w') := number_r2 w g big l h
  clear h
  have hn := rdP_lt big l
  obtain ⟨n, hne⟩ : ∃ n, n = (rdP big l).1 := ⟨_, rfl⟩
  obtain ⟨l1, hl1⟩ : ∃ n, n = (rdP big l).2 := ⟨_, rfl⟩
  rw [← hne] at hn
  rw [← hne, ← hl1] at HP
  have HE : Hid (rfRow 1 big c l = rfR big c n l1) := by show _ = _; rw [hne, hl1]; rfl
  clear hne hl1
  go_enter Tryz.func166, Tryz.ntmps166
  go_wp2_with (go_at_call 165; refine HP.out.mono ?_; rintro e w1 ⟨rfl, ho1⟩; have HO1 : Hid (RfOut g big w l1 w1) := ho1; clear ho1)
  go_loopw [7, 11, 12, 13, 14] (fun r i _ _ _ wr => ∃ j : Nat, i = .int .i64 j ∧ j ≤ n ∧ IRow wr w.heap.size r (rfR big c j l1).1 ∧ RfOut g big w (rfR big c j l1).2 wr) (fun _ i _ _ _ _ => n - (intOf i).toNat)
  case atStart => exact ⟨0, rfl, Nat.zero_le _, World.ownsRow_nil _ _ _ _, HO1.out⟩
  case round =>
    obtain ⟨j, rfl, hj, hir, hro⟩ := hrel
    clear HO1
    have hlen := rfR_len big c l1 j
    have HR : Hid (RfOut g big w (rfR big c j l1).2 wr) := hro
    obtain ⟨S, hS⟩ : ∃ S, S = (rfR big c j l1).1 := ⟨_, rfl⟩
    obtain ⟨R, hR⟩ : ∃ S, S = (rfR big c j l1).2 := ⟨_, rfl⟩
    have HSR : Hid (rfR big c j l1 = (S, R)) := by show _ = _; rw [hS, hR]
    rw [← hS] at hir hlen
    rw [← hR] at HR
    obtain ⟨a5, c5, hform⟩ := ownsRow_shape hir
    subst hform
    have HI : Hid (IRow wr w.heap.size (.slice a5 S.length c5) S) := hir
    clear hir hro hS hR
    by_cases hlt : j < n
    · have hltI : (j : Int) < n := by omega
      have hjd : decide ((j : Int) < n) = true := by simpa using hltI
      by_cases hSc : S.length ≤ c
      · have hScI : (S.length : Int) ≤ c := by omega
        have hq1 := rdP_lt big R
        have hq2 := rdP_lt big (rdP big R).2
        obtain ⟨m, hm⟩ : ∃ n, n = (rdP big R).1 := ⟨_, rfl⟩
        obtain ⟨R1, hR1⟩ : ∃ n, n = (rdP big R).2 := ⟨_, rfl⟩
        obtain ⟨z, hz⟩ : ∃ n, n = (rdP big R1).1 := ⟨_, rfl⟩
        obtain ⟨R2, hR2⟩ : ∃ n, n = (rdP big R1).2 := ⟨_, rfl⟩
        rw [← hm] at hq1
        rw [← hR1, ← hz] at hq2
        have HP1 : Hid (Calls Tryz.prog 165 #[.pointer (some ⟨g, 0, none⟩), .int .i64 2] wr fun e w' => e = .returned (.int .i64 m) ∧ RfOut g big wr R1 w') := by
          show Calls _ _ _ _ _
          rw [hm, hR1]; exact number_r2 wr g big R HR.out.1
        have HP2 : Hid (∀ w, Rdf w g big R1 → Calls Tryz.prog 165 #[.pointer (some ⟨g, 0, none⟩), .int .i64 2] w fun e w' => e = .returned (.int .i64 z) ∧ RfOut g big w R2 w') := fun w h => by rw [hz, hR2]; exact number_r2 w g big R1 h
        obtain ⟨q, hq⟩ : ∃ q, q = min m (c + 1 - S.length) := ⟨_, rfl⟩
        have HJ : Hid (rfR big c (j + 1) l1 = (S ++ List.replicate q (z : Int), R2)) := by
          show _ = _
          simp only [rfR]
          rw [HSR.out]
          simp only
          rw [if_pos hSc, ← hR1, ← hm, ← hz, ← hR2, ← hq]
        have HQ : Hid (q = min m (c + 1 - S.length)) := hq
        have hqb : S.length + q ≤ 257 := by omega
        clear hm hR1 hz hR2 hq
        go_wp2_with (first | (go_at_call 165; refine (HP2.out _ HO2.out.1).mono ?_; rintro e w3 ⟨rfl, ho3⟩; have HO3 : Hid (RfOut g big wr R2 w3) := HO2.out.trans ho3; clear ho3) | (go_at_call 165; refine HP1.out.mono ?_; rintro e w2 ⟨rfl, ho2⟩; have HO2 : Hid (RfOut g big wr R1 w2) := ho2; clear ho2))
        have HI3 : Hid (IRow w3 w.heap.size (.slice a5 S.length c5) S) := ownsRow_keep HI.out HO3.out.2 (by omega)
        have HR3 : Hid (RfOut g big w R2 w3) := HR.out.trans HO3.out
        clear HO3 HO2 HP1 HP2 HI HR HP
        go_loopw [7, 14] (fun r i wr => ∃ k : Nat, ∃ a4 c4, i = .int .i64 k ∧ k ≤ q ∧ r = .slice a4 (S.length + k) c4 ∧ IRow wr w.heap.size r (S ++ List.replicate k (z : Int)) ∧ RfOut g big w R2 wr) (fun _ i _ => q - (intOf i).toNat)
        case atStart => exact ⟨0, _, _, rfl, Nat.zero_le _, rfl, by simpa using HI3.out, HR3.out⟩
        case round =>
          obtain ⟨k, a4, c4, rfl, hk, rfl, hir, hro⟩ := hrel
          clear HI3 HR3
          have HI : Hid (IRow wr w.heap.size (.slice a4 (S.length + k) c4) (S ++ List.replicate k (z : Int))) := hir
          have HR : Hid (RfOut g big w R2 wr) := hro
          have hws := hro.2.size
          clear hir hro
          by_cases hltq : k < q
          · have h1I : (k : Int) < m := by have := HQ.out; omega
            have h1d : decide ((k : Int) < m) = true := by simpa using h1I
            have h2I : (S.length : Int) + k ≤ c := by have := HQ.out; omega
            have HOW : Hid (wr.ownsRow w.heap.size 3 1 (.slice a4 (S.length + k) c4) (S.length + k) ((S ++ List.replicate k (z : Int)).map eI)) := irow_own HI.out (by simp)
            go_wp2_with (at_builtin; refine wpList_append_lies _ rfl (.tmp 57) (.tmp 59) 40 rfl w.heap.size 3 i0 (.int .i64 0) 1 8 Tryz.underlying40 hi0 hz0 hz1 hz2 rfl (by decide) (.slice a4 (S.length + k) c4) (S.length + k) ((S ++ List.replicate k (z : Int)).map eI) rfl (World.ownsRow.alloc HOW.out _) ⟨wr.heap.size, 0, none⟩ 1 1 [.int .i64 (z : Int)] rfl rfl (one_cell_new _ _ _) (by simp [Value.oneCell']) (by omega) (by unfold maxLen; omega) (by omega) (by simp; omega) _ rfl ?_)
            intro g1 cap1 w4 hown hgr hat hlt4
            have HI4 : Hid (IRow w4 w.heap.size (.slice (some ⟨g1, 0, none⟩) (S.length + k + 1) cap1) (S ++ List.replicate (k + 1) (z : Int))) := by
              have h := irow_snoc (zs := S ++ List.replicate k (z : Int)) (z := (z : Int)) (n := S.length + k) (by simpa using hown) (by simp)
              rw [List.append_assoc, ← List.replicate_succ'] at h
              exact h
            have HR4 : Hid (RfOut g big w R2 w4) := ⟨(HR.out.1.below ((Below.refl _ _).alloc (Nat.le_refl _) _)).of_block (hgr.block g (by have := HR.out.1.lt; simp; omega) (fun e => by have := (HOW.out.lt g e.symm).1; omega)), grown_own (grown_alloc HR.out.2 _) hgr (fun q e => (HOW.out.lt q e).1)⟩
            clear hown hgr hat
            go_wp2
            go_roundw
            case rel => exact ⟨k + 1, _, _, by go_num, by omega, rfl, HI4.out, HR4.out⟩
            case measure => simp [intOf] <;> omega
          · have hkq : k = q := by omega
            have hend : ¬ ((k : Int) < m ∧ (S.length : Int) + k ≤ c) := by have := HQ.out; omega
            by_cases h1I : (k : Int) < m
            · have h1d : decide ((k : Int) < m) = true := by simpa using h1I
              have h2I : ¬ (S.length : Int) + k ≤ c := by omega
              have h2d : decide ((S.length : Int) + k ≤ c) = false := by simpa using h2I
              clear hend
              go_wp2
              go_roundw
              case rel =>
                refine ⟨j + 1, by go_num, by omega, ?_, ?_⟩
                · rw [HJ.out, ← hkq]; exact HI.out
                · rw [HJ.out]; exact HR.out
              case measure => simp [intOf] <;> omega
            · have h1d : decide ((k : Int) < m) = false := by simpa using h1I
              clear hend
              go_wp2
              go_roundw
              case rel =>
                refine ⟨j + 1, by go_num, by omega, ?_, ?_⟩
                · rw [HJ.out, ← hkq]; exact HI.out
                · rw [HJ.out]; exact HR.out
              case measure => simp [intOf] <;> omega
      · have hScI : ¬ (S.length : Int) ≤ c := by omega
        have hScd : decide ((S.length : Int) ≤ c) = false := by simpa using hScI
        have HF : Hid (rfR big c n l1 = (S, R)) := by
          show _ = _
          have := rfR_stay big c l1 j (by rw [HSR.out]; simp only; omega) (n - j)
          rw [show j + (n - j) = n by omega] at this
          rw [this, HSR.out]
        go_wp2
        go_ret
        rw [HE.out, HF.out]
        exact ⟨_, rfl, HI.out, HR.out⟩
    · have hjI : ¬ (j : Int) < n := by omega
      have hjd : decide ((j : Int) < n) = false := by simpa using hjI
      have HF : Hid (rfR big c n l1 = (S, R)) := by show _ = _; rw [← HSR.out, show j = n by omega]
      go_wp2
      go_ret
      rw [HE.out, HF.out]
      exact ⟨_, rfl, HI.out, HR.out⟩
theorem row_rf (w : World) (g : Nat) (big : Bool) (l : List UInt8) (kind c : Nat) (z : Int) (hz : z = (kind : Int)) (hk : kind ≤ 1) (hc : c ≤ 256) (h : Rdf w g big l) :
    Calls Tryz.prog 166 #[.pointer (some ⟨g, 0, none⟩), .int .i64 z, .int .i64 c] w fun e w' => ∃ v, e = .returned v ∧ IRow w' w.heap.size v (rfRow kind big c l).1 ∧ RfOut g big w (rfRow kind big c l).2 w' := by
  subst hz
  rcases (show kind = 0 ∨ kind = 1 by omega) with rfl | rfl
  · exact dense_rf w g big l c hc h
  · exact sparse_rf w g big l c hc h
end Go.Proofs.YtbjabpodkaokjaaGreatDoor

namespace Go.Proofs.YtbjabpodkaokjaaGreatDoor
open Go.RowKit

theorem rnum1z (w : World) (n : Nat) (z : Int) (hz : z = (n : Int)) (hn : n < 4294967296) (big : Bool) :
    Calls Tryz.prog 167 #[.int .i64 z, .int .i64 1, .bool big] w fun e w' => e = .returned (.string (ba [UInt8.ofNat n])) ∧ Below w.heap.size w w' := by
  subst hz
  rw [← numL1 big n]
  exact rnum1 w n hn big
theorem rnum4z (w : World) (n : Nat) (hn : n < 4294967296) (big : Bool) :
    Calls Tryz.prog 167 #[.int .i64 n, .int .i64 4, .bool big] w fun e w' => e = .returned (.string (ba (num4 big n))) ∧ Below w.heap.size w w' := by
  rw [← numL4 big n]
  exact rnum4 w n hn big
theorem row_ref (w : World) (big : Bool) (v : Value) (zs : List Int) (kind : Nat) (z : Int) (hz : z = (kind : Int)) (hk : kind ≤ 1) (hv : RowE eI w v zs) (hl : zs.length ≤ 256) (ho : ∀ z ∈ zs, okZ z) :
    Calls Tryz.prog 169 #[v, .int .i64 z, .bool big] w fun e w' => e = .returned (.string (ba (wrRow kind big zs))) ∧ Below w.heap.size w w' := by
  subst hz
  rcases (show kind = 0 ∨ kind = 1 by omega) with rfl | rfl
  · exact dense_ref w big v zs hv hl ho
  · exact sparse_ref w big v zs hv hl ho
def fl2 (f b : Bool) : Nat := bt f + 2 * bt b
end Go.Proofs.YtbjabpodkaokjaaGreatDoor
