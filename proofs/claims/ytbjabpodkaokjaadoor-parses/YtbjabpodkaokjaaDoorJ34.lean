import Derived.Test.YtbjabpodkaokjaaDoorJ33
import Derived.Deep.RegionWith
set_option linter.unusedVariables false
set_option linter.unusedSimpArgs false
namespace Go.Proofs.YtbjabpodkaokjaaDoor
open Go.RowKit

abbrev arr (S : Nat → Bool) : Value := .agg (bA S)
abbrev none256 : Nat → Bool := fun _ => false
theorem build52' (a : Act) : Tryd.prog.built 52 ((#[] : Array (Nat × Operand)).map fun (i, x) => (i, a.eval x)).toList = some (bA none256) := by
  have : ((#[] : Array (Nat × Operand)).map fun (i, x) => (i, a.eval x)).toList = [] := by simp
  rw [this]; exact bA_zero

/-- What a store of a whole list leaves. -/
theorem store_facts {w x y : World} {b N : Nat} {s : ByteArray} {r : List UInt8} {B S : Nat → Bool} (hy : x.setCells N 0 (bL S) = y) (h : Mk x b s r) (hr : Rd b w x) (hB : Bs x N B) (hN : w.heap.size ≤ N) (hb : b < w.heap.size) : Mk y b s r ∧ Rd b w y ∧ Bs y N S := by
  subst hy
  exact ⟨h.keep (heap_setCells _ _ _ _ _ (by omega)) (by rw [size_setCells]; exact Nat.le_refl _), rd_setCells hr N hN _ _, hB.all S⟩

set_option maxRecDepth 20000 in
set_option maxHeartbeats 2000000 in
theorem escaped_n (w : World) (b : Nat) (s : ByteArray) (t : List UInt8) (h : Mk w b s (110 :: t)) :
    Calls Tryd.prog 53 #[.pointer (some ⟨b, 0, none⟩)] w fun e w' => e = .returned (.tuple #[.int .i64 10, arr none256]) ∧ MkTo w w' b s t := by
  have hlt := h.lt
  go_enter Tryd.func53, Tryd.ntmps53
  go_wp2_with (refine wpList_alloc52 rfl rfl _ rfl w.heap.size rfl ?_; generalize hw1 : World.alloc w _ = w1; have b1 : Bs w1 w.heap.size none256 := (by rw [← hw1]; exact bA_new _ _ _); have r1 : Rd b w w1 := (by rw [← hw1]; exact (Rd.refl _ _).alloc _); have g1 : Mk w1 b s (110 :: t) := (by rw [← hw1]; exact h.alloc _); have z1 : w1.heap.size = w.heap.size + 1 := (by rw [← hw1]; simp); clear hw1; obtain ⟨k, hk', e1, c0, c1, hk, sz, lt, fz⟩ := g1.byte)
  go_quiet (fail)
  have b2 : Bs ((w1.drewN nq).setCell ⟨b, 1, none⟩ (.int .i64 ((k : Int) + 1))) w.heap.size none256 := b1.of_heap (Below.heap_setCell _ _ _ _ (by simp; omega))
  have g2 := (g1.drewN nq).next hk
  have r2 : Rd b w ((w1.drewN nq).setCell ⟨b, 1, none⟩ (.int .i64 ((k : Int) + 1))) := (r1.drewN _).setCell _ _
  go_wp2_with (first | (refine wpList_buildTo rfl 52 #[] rfl _ rfl (bA none256) (build52' _) ?_) | (refine wpList_store_mid rfl 52 (.tmp 3) (.tmp 25) rfl w.heap.size 0 (bA none256) rfl rfl (by rw [bA_size]; exact b2.there) (by rw [bA_size]; exact sizeA) (bL_one _) ?_; generalize hw3 : World.setCells _ _ _ _ = w3; obtain ⟨g3, r3, b3⟩ := store_facts hw3 g2 r2 b2 (Nat.le_refl _) hlt; clear hw3))
  exact bodyPost_ret (v := .tuple #[.int .i64 10, arr none256]) (results_tmp_cell_mid Tryd.results53 _ _ w.heap.size (bL none256) _ _ rfl rfl b3.range Tryd.underlying52 rfl (by rw [bL_len]; exact sizeA)) rfl ⟨rfl, g3, r3⟩
set_option maxRecDepth 20000 in
set_option maxHeartbeats 2000000 in
theorem escaped_t (w : World) (b : Nat) (s : ByteArray) (t : List UInt8) (h : Mk w b s (116 :: t)) :
    Calls Tryd.prog 53 #[.pointer (some ⟨b, 0, none⟩)] w fun e w' => e = .returned (.tuple #[.int .i64 9, arr none256]) ∧ MkTo w w' b s t := by
  have hlt := h.lt
  go_enter Tryd.func53, Tryd.ntmps53
  go_wp2_with (refine wpList_alloc52 rfl rfl _ rfl w.heap.size rfl ?_; generalize hw1 : World.alloc w _ = w1; have b1 : Bs w1 w.heap.size none256 := (by rw [← hw1]; exact bA_new _ _ _); have r1 : Rd b w w1 := (by rw [← hw1]; exact (Rd.refl _ _).alloc _); have g1 : Mk w1 b s (116 :: t) := (by rw [← hw1]; exact h.alloc _); have z1 : w1.heap.size = w.heap.size + 1 := (by rw [← hw1]; simp); clear hw1; obtain ⟨k, hk', e1, c0, c1, hk, sz, lt, fz⟩ := g1.byte)
  go_quiet (fail)
  have b2 : Bs ((w1.drewN nq).setCell ⟨b, 1, none⟩ (.int .i64 ((k : Int) + 1))) w.heap.size none256 := b1.of_heap (Below.heap_setCell _ _ _ _ (by simp; omega))
  have g2 := (g1.drewN nq).next hk
  have r2 : Rd b w ((w1.drewN nq).setCell ⟨b, 1, none⟩ (.int .i64 ((k : Int) + 1))) := (r1.drewN _).setCell _ _
  go_wp2_with (first | (refine wpList_buildTo rfl 52 #[] rfl _ rfl (bA none256) (build52' _) ?_) | (refine wpList_store_mid rfl 52 (.tmp 3) (.tmp 28) rfl w.heap.size 0 (bA none256) rfl rfl (by rw [bA_size]; exact b2.there) (by rw [bA_size]; exact sizeA) (bL_one _) ?_; generalize hw3 : World.setCells _ _ _ _ = w3; obtain ⟨g3, r3, b3⟩ := store_facts hw3 g2 r2 b2 (Nat.le_refl _) hlt; clear hw3))
  exact bodyPost_ret (v := .tuple #[.int .i64 9, arr none256]) (results_tmp_cell_mid Tryd.results53 _ _ w.heap.size (bL none256) _ _ rfl rfl b3.range Tryd.underlying52 rfl (by rw [bL_len]; exact sizeA)) rfl ⟨rfl, g3, r3⟩
set_option maxRecDepth 20000 in
set_option maxHeartbeats 2000000 in
theorem escaped_o (w : World) (b : Nat) (s : ByteArray) (t : List UInt8) (c : UInt8) (n1 : c ≠ 110) (n2 : c ≠ 116) (n3 : c ≠ 100) (n4 : c ≠ 119) (n5 : c ≠ 115) (n6 : c ≠ 120) (h : Mk w b s (c :: t)) :
    Calls Tryd.prog 53 #[.pointer (some ⟨b, 0, none⟩)] w fun e w' => e = .returned (.tuple #[.int .i64 c.toNat, arr none256]) ∧ MkTo w w' b s t := by
  have hlt := h.lt
  have q1 : ((c.toNat : Int) == 110) = false := nbeq n1
  have q2 : ((c.toNat : Int) == 116) = false := nbeq n2
  have q3 : ((c.toNat : Int) == 100) = false := nbeq n3
  have q4 : ((c.toNat : Int) == 119) = false := nbeq n4
  have q5 : ((c.toNat : Int) == 115) = false := nbeq n5
  have q6 : ((c.toNat : Int) == 120) = false := nbeq n6
  have hc8 := c.toNat_lt
  clear n1 n2 n3 n4 n5 n6
  go_enter Tryd.func53, Tryd.ntmps53
  go_wp2_with (refine wpList_alloc52 rfl rfl _ rfl w.heap.size rfl ?_; generalize hw1 : World.alloc w _ = w1; have b1 : Bs w1 w.heap.size none256 := (by rw [← hw1]; exact bA_new _ _ _); have r1 : Rd b w w1 := (by rw [← hw1]; exact (Rd.refl _ _).alloc _); have g1 : Mk w1 b s (c :: t) := (by rw [← hw1]; exact h.alloc _); have z1 : w1.heap.size = w.heap.size + 1 := (by rw [← hw1]; simp); clear hw1; obtain ⟨k, hk', e1, c0, c1, hk, sz, lt, fz⟩ := g1.byte)
  go_quiet (fail)
  have b2 : Bs ((w1.drewN nq).setCell ⟨b, 1, none⟩ (.int .i64 ((k : Int) + 1))) w.heap.size none256 := b1.of_heap (Below.heap_setCell _ _ _ _ (by simp; omega))
  have g2 := (g1.drewN nq).next hk
  have r2 : Rd b w ((w1.drewN nq).setCell ⟨b, 1, none⟩ (.int .i64 ((k : Int) + 1))) := (r1.drewN _).setCell _ _
  go_wp2_with (first | (refine wpList_buildTo rfl 52 #[] rfl _ rfl (bA none256) (build52' _) ?_) | (refine wpList_store_mid rfl 52 (.tmp 3) (.tmp 72) rfl w.heap.size 0 (bA none256) rfl rfl (by rw [bA_size]; exact b2.there) (by rw [bA_size]; exact sizeA) (bL_one _) ?_; generalize hw3 : World.setCells _ _ _ _ = w3; obtain ⟨g3, r3, b3⟩ := store_facts hw3 g2 r2 b2 (Nat.le_refl _) hlt; clear hw3))
  exact bodyPost_ret (v := .tuple #[.int .i64 c.toNat, arr none256]) (results_tmp_cell_mid Tryd.results53 _ _ w.heap.size (bL none256) _ _ rfl rfl b3.range Tryd.underlying52 rfl (by rw [bL_len]; exact sizeA)) rfl ⟨rfl, g3, r3⟩
set_option maxRecDepth 20000 in
set_option maxHeartbeats 2000000 in
theorem escaped_d (w : World) (b : Nat) (s : ByteArray) (t : List UInt8) (h : Mk w b s (100 :: t)) :
    Calls Tryd.prog 53 #[.pointer (some ⟨b, 0, none⟩)] w fun e w' => e = .returned (.tuple #[.int .i64 (-1), arr (inSpan 48 57)]) ∧ MkTo w w' b s t := by
  have hlt := h.lt
  go_enter Tryd.func53, Tryd.ntmps53
  go_wp2_with (refine wpList_alloc52 rfl rfl _ rfl w.heap.size rfl ?_; generalize hw1 : World.alloc w _ = w1; have b1 : Bs w1 w.heap.size none256 := (by rw [← hw1]; exact bA_new _ _ _); have r1 : Rd b w w1 := (by rw [← hw1]; exact (Rd.refl _ _).alloc _); have g1 : Mk w1 b s (100 :: t) := (by rw [← hw1]; exact h.alloc _); have z1 : w1.heap.size = w.heap.size + 1 := (by rw [← hw1]; simp); clear hw1; obtain ⟨k, hk', e1, c0, c1, hk, sz, lt, fz⟩ := g1.byte)
  go_quiet (fail)
  have b2 : Bs ((w1.drewN nq).setCell ⟨b, 1, none⟩ (.int .i64 ((k : Int) + 1))) w.heap.size none256 := b1.of_heap (Below.heap_setCell _ _ _ _ (by simp; omega))
  have g2 := (g1.drewN nq).next hk
  have r2 : Rd b w ((w1.drewN nq).setCell ⟨b, 1, none⟩ (.int .i64 ((k : Int) + 1))) := (r1.drewN _).setCell _ _
  have hsv := several_d
  go_wp2_with (first | (go_at_call 64; refine (hsv _).mono ?_; rintro e w4 ⟨rfl, l4⟩; have g4 := g2.below l4; have r4 := r2.trans (Rd.of_below l4); have b4 := b2.of_heap (l4.block _ b2.lt)) | (refine wpList_store_mid rfl 52 (.tmp 3) (.tmp 34) rfl w.heap.size 0 (bA (inSpan 48 57)) rfl rfl (by rw [bA_size]; exact b4.there) (by rw [bA_size]; exact sizeA) (bL_one _) ?_; generalize hw3 : World.setCells _ _ _ _ = w3; obtain ⟨g3, r3, b3⟩ := store_facts hw3 g4 r4 b4 (Nat.le_refl _) hlt; clear hw3))
  exact bodyPost_ret (v := .tuple #[.int .i64 (-1), arr (inSpan 48 57)]) (results_tmp_cell_mid Tryd.results53 _ _ w.heap.size (bL (inSpan 48 57)) _ _ rfl rfl b3.range Tryd.underlying52 rfl (by rw [bL_len]; exact sizeA)) rfl ⟨rfl, g3, r3⟩
set_option maxRecDepth 20000 in
set_option maxHeartbeats 2000000 in
theorem escaped_w (w : World) (b : Nat) (s : ByteArray) (t : List UInt8) (h : Mk w b s (119 :: t)) :
    Calls Tryd.prog 53 #[.pointer (some ⟨b, 0, none⟩)] w fun e w' => e = .returned (.tuple #[.int .i64 (-1), arr (wSet)]) ∧ MkTo w w' b s t := by
  have hlt := h.lt
  go_enter Tryd.func53, Tryd.ntmps53
  go_wp2_with (refine wpList_alloc52 rfl rfl _ rfl w.heap.size rfl ?_; generalize hw1 : World.alloc w _ = w1; have b1 : Bs w1 w.heap.size none256 := (by rw [← hw1]; exact bA_new _ _ _); have r1 : Rd b w w1 := (by rw [← hw1]; exact (Rd.refl _ _).alloc _); have g1 : Mk w1 b s (119 :: t) := (by rw [← hw1]; exact h.alloc _); have z1 : w1.heap.size = w.heap.size + 1 := (by rw [← hw1]; simp); clear hw1; obtain ⟨k, hk', e1, c0, c1, hk, sz, lt, fz⟩ := g1.byte)
  go_quiet (fail)
  have b2 : Bs ((w1.drewN nq).setCell ⟨b, 1, none⟩ (.int .i64 ((k : Int) + 1))) w.heap.size none256 := b1.of_heap (Below.heap_setCell _ _ _ _ (by simp; omega))
  have g2 := (g1.drewN nq).next hk
  have r2 : Rd b w ((w1.drewN nq).setCell ⟨b, 1, none⟩ (.int .i64 ((k : Int) + 1))) := (r1.drewN _).setCell _ _
  have hsv := several_w
  go_wp2_with (first | (go_at_call 64; refine (hsv _).mono ?_; rintro e w4 ⟨rfl, l4⟩; have g4 := g2.below l4; have r4 := r2.trans (Rd.of_below l4); have b4 := b2.of_heap (l4.block _ b2.lt)) | (refine wpList_store_mid rfl 52 (.tmp 3) (.tmp 34) rfl w.heap.size 0 (bA (wSet)) rfl rfl (by rw [bA_size]; exact b4.there) (by rw [bA_size]; exact sizeA) (bL_one _) ?_; generalize hw3 : World.setCells _ _ _ _ = w3; obtain ⟨g3, r3, b3⟩ := store_facts hw3 g4 r4 b4 (Nat.le_refl _) hlt; clear hw3))
  exact bodyPost_ret (v := .tuple #[.int .i64 (-1), arr (wSet)]) (results_tmp_cell_mid Tryd.results53 _ _ w.heap.size (bL (wSet)) _ _ rfl rfl b3.range Tryd.underlying52 rfl (by rw [bL_len]; exact sizeA)) rfl ⟨rfl, g3, r3⟩
set_option maxRecDepth 20000 in
set_option maxHeartbeats 2000000 in
theorem escaped_s (w : World) (b : Nat) (s : ByteArray) (t : List UInt8) (h : Mk w b s (115 :: t)) :
    Calls Tryd.prog 53 #[.pointer (some ⟨b, 0, none⟩)] w fun e w' => e = .returned (.tuple #[.int .i64 (-1), arr (sSet)]) ∧ MkTo w w' b s t := by
  have hlt := h.lt
  go_enter Tryd.func53, Tryd.ntmps53
  go_wp2_with (refine wpList_alloc52 rfl rfl _ rfl w.heap.size rfl ?_; generalize hw1 : World.alloc w _ = w1; have b1 : Bs w1 w.heap.size none256 := (by rw [← hw1]; exact bA_new _ _ _); have r1 : Rd b w w1 := (by rw [← hw1]; exact (Rd.refl _ _).alloc _); have g1 : Mk w1 b s (115 :: t) := (by rw [← hw1]; exact h.alloc _); have z1 : w1.heap.size = w.heap.size + 1 := (by rw [← hw1]; simp); clear hw1; obtain ⟨k, hk', e1, c0, c1, hk, sz, lt, fz⟩ := g1.byte)
  go_quiet (fail)
  have b2 : Bs ((w1.drewN nq).setCell ⟨b, 1, none⟩ (.int .i64 ((k : Int) + 1))) w.heap.size none256 := b1.of_heap (Below.heap_setCell _ _ _ _ (by simp; omega))
  have g2 := (g1.drewN nq).next hk
  have r2 : Rd b w ((w1.drewN nq).setCell ⟨b, 1, none⟩ (.int .i64 ((k : Int) + 1))) := (r1.drewN _).setCell _ _
  have hsv := several_s
  go_wp2_with (first | (go_at_call 64; refine (hsv _).mono ?_; rintro e w4 ⟨rfl, l4⟩; have g4 := g2.below l4; have r4 := r2.trans (Rd.of_below l4); have b4 := b2.of_heap (l4.block _ b2.lt)) | (refine wpList_store_mid rfl 52 (.tmp 3) (.tmp 34) rfl w.heap.size 0 (bA (sSet)) rfl rfl (by rw [bA_size]; exact b4.there) (by rw [bA_size]; exact sizeA) (bL_one _) ?_; generalize hw3 : World.setCells _ _ _ _ = w3; obtain ⟨g3, r3, b3⟩ := store_facts hw3 g4 r4 b4 (Nat.le_refl _) hlt; clear hw3))
  exact bodyPost_ret (v := .tuple #[.int .i64 (-1), arr (sSet)]) (results_tmp_cell_mid Tryd.results53 _ _ w.heap.size (bL (sSet)) _ _ rfl rfl b3.range Tryd.underlying52 rfl (by rw [bL_len]; exact sizeA)) rfl ⟨rfl, g3, r3⟩
end Go.Proofs.YtbjabpodkaokjaaDoor

namespace Go.Proofs.YtbjabpodkaokjaaDoor
open Go.RowKit

theorem hexN_hexv {c : UInt8} {v : Nat} (h : hexN c = some v) : hexv c.toNat = v ∧ v ≤ 15 := by
  unfold hexN at h
  unfold hexv
  split at h
  · injection h with h; subst h; rw [if_pos (by omega), if_pos (by omega)]; omega
  · split at h
    · injection h with h; subst h; rw [if_pos (by omega), if_neg (by omega), if_pos (by omega), if_pos (by omega)]; omega
    · simp at h

set_option maxRecDepth 20000 in
set_option maxHeartbeats 4000000 in
theorem escaped_x (w : World) (b : Nat) (s : ByteArray) (t : List UInt8) (x y : UInt8) (u v : Nat) (hx : hexN x = some u) (hy : hexN y = some v) (h : Mk w b s (120 :: x :: y :: t)) :
    Calls Tryd.prog 53 #[.pointer (some ⟨b, 0, none⟩)] w fun e w' => e = .returned (.tuple #[.int .i64 ((u * 16 + v : Nat) : Int), arr none256]) ∧ MkTo w w' b s t := by
  have hlt := h.lt
  obtain ⟨ex, ux⟩ := hexN_hexv hx
  obtain ⟨ey, uy⟩ := hexN_hexv hy
  have hx8 := x.toNat_lt
  have hy8 := y.toNat_lt
  have kx : ∀ w, Calls Tryd.prog 21 #[.int .u8 x.toNat] w fun e w' => e = .returned (.int .i64 u) ∧ w' = w := fun w => by
    have := hex_any x.toNat w (by omega) (by omega); rwa [ex] at this
  have ky : ∀ w, Calls Tryd.prog 21 #[.int .u8 y.toNat] w fun e w' => e = .returned (.int .i64 v) ∧ w' = w := fun w => by
    have := hex_any y.toNat w (by omega) (by omega); rwa [ey] at this
  clear hx hy ex ey
  go_enter Tryd.func53, Tryd.ntmps53
  go_wp2_with (refine wpList_alloc52 rfl rfl _ rfl w.heap.size rfl ?_; generalize hw1 : World.alloc w _ = w1; have b1 : Bs w1 w.heap.size none256 := (by rw [← hw1]; exact bA_new _ _ _); have r1 : Rd b w w1 := (by rw [← hw1]; exact (Rd.refl _ _).alloc _); have g1 : Mk w1 b s (120 :: x :: y :: t) := (by rw [← hw1]; exact h.alloc _); have z1 : w1.heap.size = w.heap.size + 1 := (by rw [← hw1]; simp); clear hw1; obtain ⟨k, hk', e1, c0, c1, hk, sz, lt, fz⟩ := g1.byte)
  go_quiet (fail)
  have b2 : Bs ((w1.drewN nq).setCell ⟨b, 1, none⟩ (.int .i64 ((k : Int) + 1))) w.heap.size none256 := b1.of_heap (Below.heap_setCell _ _ _ _ (by simp; omega))
  have g2 := (g1.drewN nq).next hk
  have r2 : Rd b w ((w1.drewN nq).setCell ⟨b, 1, none⟩ (.int .i64 ((k : Int) + 1))) := (r1.drewN _).setCell _ _
  go_wp2
  generalize hw2 : World.setCell (w1.drewN nq) _ _ = w2
  rw [hw2] at b2 g2 r2
  clear hw2 c0 c1 fz
  have kx' : k + 1 < s.size := by simp at hk; omega
  have ky' : k + 1 + 1 < s.size := by simp at hk; omega
  obtain ⟨j, c0, c1, hj, hs, sz', lt', fz⟩ := g2.cells
  obtain ⟨hj1, e2, hs2⟩ := suf_cons hs
  obtain ⟨hj2, e3, hs3⟩ := suf_cons hs2
  have hb1 : (j : Int) + 1 < s.size := by omega
  have hb2 : 0 ≤ (j : Int) + 1 := by omega
  have htn : ((j : Int) + 1).toNat = j + 1 := by omega
  go_quiet (first | (go_at_call_of 21 (Value.int IntKind.u8 (x.toNat : Int)); exact Calls.quiet_of_same (kx _)) | (go_at_call_of 21 (Value.int IntKind.u8 (y.toNat : Int)); exact Calls.quiet_of_same (ky _)))
  have g3 : Mk ((w2.drewN nq).setCell ⟨b, 1, none⟩ (.int .i64 ((j : Int) + 2))) b s t := by
    have := (g2.drewN nq).to (j + 2) (by omega)
    rw [show suf s (j + 2) = t from hs3] at this
    simpa using this
  have b3 : Bs ((w2.drewN nq).setCell ⟨b, 1, none⟩ (.int .i64 ((j : Int) + 2))) w.heap.size none256 := b2.of_heap (Below.heap_setCell _ _ _ _ (by simp; omega))
  have r3 : Rd b w ((w2.drewN nq).setCell ⟨b, 1, none⟩ (.int .i64 ((j : Int) + 2))) := (r2.drewN _).setCell _ _
  go_wp2_with (first | (refine wpList_buildTo rfl 52 #[] rfl _ rfl (bA none256) (build52' _) ?_) | (refine wpList_store_mid rfl 52 (.tmp 3) (.tmp 69) rfl w.heap.size 0 (bA none256) rfl rfl (by rw [bA_size]; exact b3.there) (by rw [bA_size]; exact sizeA) (bL_one _) ?_; generalize hw3 : World.setCells _ _ _ _ = w3; obtain ⟨g4, r4, b4⟩ := store_facts hw3 g3 r3 b3 (Nat.le_refl _) hlt; clear hw3))
  have ev : (16 * (u : Int) + v) = ((u * 16 + v : Nat) : Int) := by omega
  exact bodyPost_ret (v := .tuple #[.int .i64 ((u * 16 + v : Nat) : Int), arr none256]) (results_tmp_cell_mid Tryd.results53 _ _ w.heap.size (bL none256) _ _ (by rw [← ev]; rfl) rfl b4.range Tryd.underlying52 rfl (by rw [bL_len]; exact sizeA)) rfl ⟨rfl, g4, r4⟩
end Go.Proofs.YtbjabpodkaokjaaDoor

namespace Go.Proofs.YtbjabpodkaokjaaDoor
open Go.RowKit

abbrev MkEscC (b : Nat) (s : ByteArray) (r r' : List UInt8) (v : Int) (S : Nat → Bool) : Prop :=
  ∀ w, Mk w b s r → Calls Tryd.prog 53 #[.pointer (some ⟨b, 0, none⟩)] w fun e w' => e = .returned (.tuple #[.int .i64 v, arr S]) ∧ MkTo w w' b s r'

theorem escaped_set (b : Nat) (s : ByteArray) (c : UInt8) (t : List UInt8) (S : Nat → Bool) (h : escSet c = some S) : MkEscC b s (c :: t) t (-1) S := by
  unfold escSet at h
  intro w hw
  split at h
  · rename_i e; subst e; injection h with h; subst h; exact escaped_d w b s t hw
  · split at h
    · rename_i e; subst e; injection h with h; subst h; exact escaped_w w b s t hw
    · split at h
      · rename_i e; subst e; injection h with h; subst h; exact escaped_s w b s t hw
      · simp at h

theorem pHexSign_ok {l v : Nat} {r r' : List UInt8} (h : pHexSign l r = .ok v r') : ∃ c, r = c :: r' ∧ hexN c = some v := by
  match r, h with
  | c :: t, h =>
    simp only [pHexSign] at h
    split at h
    · split at h
      · simp at h
      · injection h with e1 e2; subst e1; subst e2; exact ⟨c, rfl, by assumption⟩
    · simp at h
theorem pHexByte_ok {l v : Nat} {r r' : List UInt8} (h : pHexByte l r = .ok v r') : ∃ x y a d, r = x :: y :: r' ∧ hexN x = some a ∧ hexN y = some d ∧ v = a * 16 + d := by
  simp only [pHexByte] at h
  split at h
  · simp at h
  · rename_i h1
    split at h
    · simp at h
    · rename_i h2
      injection h with e1 e2; subst e1; subst e2
      obtain ⟨x, rfl, hx⟩ := pHexSign_ok h1
      obtain ⟨y, rfl, hy⟩ := pHexSign_ok h2
      exact ⟨x, y, _, _, rfl, hx, hy, rfl⟩

theorem escaped_byte (b : Nat) (s : ByteArray) (l v : Nat) (r r' : List UInt8) (h : pByteEscape l r = .ok v r') : MkEscC b s r r' v none256 := by
  intro w hw
  match r, h, hw with
  | c :: t, h, hw =>
    simp only [pByteEscape] at h
    split at h
    · rename_i e; subst e
      obtain ⟨x, y, a, d, rfl, hx, hy, rfl⟩ := pHexByte_ok h
      exact escaped_x w b s r' x y a d hx hy hw
    · rename_i n120
      split at h
      · rename_i z hz
        split at h
        · simp at h
        · injection h with e1 e2; subst e1; subst e2
          unfold escByte at hz
          split at hz
          · rename_i hs
            injection hz with hz; subst hz
            have ne : ∀ k : UInt8, isSg k = false → k ≠ 45 → c ≠ k := by
              intro k h1 h2 e
              subst e
              rcases Bool.or_eq_true _ _ ▸ hs with q | q
              · rw [h1] at q; simp at q
              · exact h2 (by simpa using q)
            exact escaped_o w b s t c (ne _ (by decide) (by decide)) (ne _ (by decide) (by decide)) (ne _ (by decide) (by decide)) (ne _ (by decide) (by decide)) (ne _ (by decide) (by decide)) n120 hw
          · split at hz
            · rename_i e; have e : c = 110 := by simpa using e
              subst e; injection hz with hz; subst hz
              exact escaped_n w b s t hw
            · split at hz
              · rename_i e; have e : c = 116 := by simpa using e
                subst e; injection hz with hz; subst hz
                exact escaped_t w b s t hw
              · simp at hz
      · simp at h

set_option maxRecDepth 20000 in
set_option maxHeartbeats 2000000 in
theorem item_esc (w : World) (b : Nat) (s : ByteArray) (t r' : List UInt8) (v : Int) (S : Nat → Bool) (h : Mk w b s (92 :: t)) (he : MkEscC b s t r' v S) :
    Calls Tryd.prog 63 #[.pointer (some ⟨b, 0, none⟩)] w fun e w' => e = .returned (.tuple #[.int .i64 v, arr S]) ∧ MkTo w w' b s r' := by
  have hlt := h.lt
  go_enter Tryd.func63, Tryd.ntmps63
  go_wp2_with (refine wpList_alloc52 rfl rfl _ rfl w.heap.size rfl ?_; generalize hw1 : World.alloc w _ = w1; have b1 : Bs w1 w.heap.size none256 := (by rw [← hw1]; exact bA_new _ _ _); have r1 : Rd b w w1 := (by rw [← hw1]; exact (Rd.refl _ _).alloc _); have g1 : Mk w1 b s (92 :: t) := (by rw [← hw1]; exact h.alloc _); have z1 : w1.heap.size = w.heap.size + 1 := (by rw [← hw1]; simp); clear hw1; obtain ⟨k, hk', e1, c0, c1, hk, sz, lt, fz⟩ := g1.byte)
  go_quiet (fail)
  have b2 : Bs ((w1.drewN nq).setCell ⟨b, 1, none⟩ (.int .i64 ((k : Int) + 1))) w.heap.size none256 := b1.of_heap (Below.heap_setCell _ _ _ _ (by simp; omega))
  have g2 := (g1.drewN nq).next hk
  have r2 : Rd b w ((w1.drewN nq).setCell ⟨b, 1, none⟩ (.int .i64 ((k : Int) + 1))) := (r1.drewN _).setCell _ _
  go_wp2_with (first | (refine wpList_store_mid rfl 52 (.tmp 3) (.tmp 26) rfl w.heap.size 0 (bA S) rfl rfl (by rw [bA_size]; exact b4.there) (by rw [bA_size]; exact sizeA) (bL_one _) ?_; generalize hw3 : World.setCells _ _ _ _ = w3; obtain ⟨g3, r3, b3⟩ := store_facts hw3 g4 r4 b4 (Nat.le_refl _) hlt; clear hw3) | (go_at_call 53; refine (he _ g2).mono ?_; rintro e w4 ⟨rfl, g4, l4⟩; have r4 := r2.trans l4; have b4 := b2.of_heap (l4.block _ b2.lt (by omega))))
  exact bodyPost_ret (v := .tuple #[.int .i64 v, arr S]) (results_tmp_cell_mid Tryd.results63 _ _ w.heap.size (bL S) _ _ rfl rfl b3.range Tryd.underlying52 rfl (by rw [bL_len]; exact sizeA)) rfl ⟨rfl, g3, r3⟩

set_option maxRecDepth 20000 in
set_option maxHeartbeats 2000000 in
theorem item_plain (w : World) (b : Nat) (s : ByteArray) (t : List UInt8) (c : UInt8) (n1 : c ≠ 92) (h : Mk w b s (c :: t)) :
    Calls Tryd.prog 63 #[.pointer (some ⟨b, 0, none⟩)] w fun e w' => e = .returned (.tuple #[.int .i64 c.toNat, arr none256]) ∧ MkTo w w' b s t := by
  have hlt := h.lt
  have q1 : ((c.toNat : Int) == 92) = false := nbeq n1
  have hc8 := c.toNat_lt
  clear n1
  go_enter Tryd.func63, Tryd.ntmps63
  go_wp2_with (refine wpList_alloc52 rfl rfl _ rfl w.heap.size rfl ?_; generalize hw1 : World.alloc w _ = w1; have b1 : Bs w1 w.heap.size none256 := (by rw [← hw1]; exact bA_new _ _ _); have r1 : Rd b w w1 := (by rw [← hw1]; exact (Rd.refl _ _).alloc _); have g1 : Mk w1 b s (c :: t) := (by rw [← hw1]; exact h.alloc _); have z1 : w1.heap.size = w.heap.size + 1 := (by rw [← hw1]; simp); clear hw1; obtain ⟨k, hk', e1, c0, c1, hk, sz, lt, fz⟩ := g1.byte)
  go_quiet (fail)
  have b2 : Bs ((w1.drewN nq).setCell ⟨b, 1, none⟩ (.int .i64 ((k : Int) + 1))) w.heap.size none256 := b1.of_heap (Below.heap_setCell _ _ _ _ (by simp; omega))
  have g2 := (g1.drewN nq).next hk
  have r2 : Rd b w ((w1.drewN nq).setCell ⟨b, 1, none⟩ (.int .i64 ((k : Int) + 1))) := (r1.drewN _).setCell _ _
  go_wp2_with (first | (refine wpList_buildTo rfl 52 #[] rfl _ rfl (bA none256) (build52' _) ?_) | (refine wpList_store_mid rfl 52 (.tmp 3) (.tmp 29) rfl w.heap.size 0 (bA none256) rfl rfl (by rw [bA_size]; exact b2.there) (by rw [bA_size]; exact sizeA) (bL_one _) ?_; generalize hw3 : World.setCells _ _ _ _ = w3; obtain ⟨g3, r3, b3⟩ := store_facts hw3 g2 r2 b2 (Nat.le_refl _) hlt; clear hw3))
  exact bodyPost_ret (v := .tuple #[.int .i64 c.toNat, arr none256]) (results_tmp_cell_mid Tryd.results63 _ _ w.heap.size (bL none256) _ _ rfl rfl b3.range Tryd.underlying52 rfl (by rw [bL_len]; exact sizeA)) rfl ⟨rfl, g3, r3⟩

abbrev MkItemC (b : Nat) (s : ByteArray) (r r' : List UInt8) (v : Int) (S : Nat → Bool) : Prop :=
  ∀ w, Mk w b s r → Calls Tryd.prog 63 #[.pointer (some ⟨b, 0, none⟩)] w fun e w' => e = .returned (.tuple #[.int .i64 v, arr S]) ∧ MkTo w w' b s r'
theorem item_byte (b : Nat) (s : ByteArray) (l v : Nat) (r r' : List UInt8) (h : pItemByte l r = .ok v r') : MkItemC b s r r' v none256 := by
  intro w hw
  unfold pItemByte at h
  split at h
  · exact item_esc w b s _ r' v none256 hw (escaped_byte b s l v _ r' h)
  · rename_i hn
    match r, h, hw, hn with
    | c :: t, h, hw, hn =>
      simp only [pPlainItem] at h
      split at h
      · simp at h
      · split at h
        · simp at h
        · rename_i q
          injection h with e1 e2; subst e1; subst e2
          exact item_plain w b s t c (fun e => q (.inl e)) hw
theorem item_set (b : Nat) (s : ByteArray) (c : UInt8) (t : List UInt8) (S : Nat → Bool) (h : escSet c = some S) : MkItemC b s (92 :: c :: t) t (-1) S :=
  fun w hw => item_esc w b s _ t (-1) S hw (escaped_set b s c t S h)
end Go.Proofs.YtbjabpodkaokjaaDoor
