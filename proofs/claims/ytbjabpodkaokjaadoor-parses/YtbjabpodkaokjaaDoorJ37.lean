import Derived.Test.YtbjabpodkaokjaaDoorJ36
set_option linter.unusedVariables false
set_option linter.unusedSimpArgs false
namespace Go.Proofs.YtbjabpodkaokjaaDoor
open Go.RowKit

/-- What an atom, a part, a chain, choices leave: the tree, its block, the text that is left. -/
def TreeTo (w w' : World) (b : Nat) (s : ByteArray) (r : List UInt8) (T : RT) (e : Ending) : Prop :=
  ∃ g, e = .returned (.pointer (some ⟨g, 0, none⟩)) ∧ MkTo w w' b s r ∧ RepT w' (From w.heap.size w') T g
theorem TreeTo.bytes {w w' : World} {b : Nat} {s : ByteArray} {r : List UInt8} {S : Nat → Bool} {g : Nat} {kv : Value} {mn mx sg : Int} {e : Ending} (he : e = .returned (.pointer (some ⟨g, 0, none⟩))) (hm : MkTo w w' b s r) (ht : Tr w' g 0 S kv mn mx sg) (hg : w.heap.size ≤ g) : TreeTo w w' b s r (.bytes S) e :=
  ⟨g, he, hm, by simp only [RepT]; exact ⟨⟨hg, ht.lt⟩, kv, mn, mx, sg, ht⟩⟩

theorem box_tr {w0 w1 : World} {N : Nat} {kind : Int} {B : Nat → Bool} {kv : Value} {mn mx sg : Int} (h : w0.alloc (.cells (tA kind B kv mn mx sg) 55) = w1) (hN : w0.heap.size = N) : Tr w1 N kind B kv mn mx sg := by
  rw [← h, ← hN]; exact tA_new _ _ _ _ _ _ _
set_option maxRecDepth 20000 in
set_option maxHeartbeats 2000000 in
theorem matom_plain (w : World) (b : Nat) (s : ByteArray) (c : UInt8) (t : List UInt8) (h : Mk w b s (c :: t)) (h1 : c ≠ 40) (h2 : c ≠ 91) (h3 : c ≠ 46) (h4 : c ≠ 92) :
    Calls Tryd.prog 43 #[.pointer (some ⟨b, 0, none⟩)] w fun e w' => TreeTo w w' b s t (.bytes (inSpan c.toNat c.toNat)) e := by
  have hlt := h.lt
  obtain ⟨k, hk', e1, c0, c1, hk, sz, lt, fz⟩ := h.byte
  have q1 : ((c.toNat : Int) == 40) = false := nbeq h1
  have q2 : ((c.toNat : Int) == 91) = false := nbeq h2
  have q3 : ((c.toNat : Int) == 46) = false := nbeq h3
  have q4 : ((c.toNat : Int) == 92) = false := nbeq h4
  have hc8 := c.toNat_lt
  clear h1 h2 h3 h4
  go_enter Tryd.func43, Tryd.ntmps43
  go_wp2
  go_quiet (fail)
  have g0 := (h.drewN nq).next hk
  have r0 : Rd b w ((w.drewN nq).setCell ⟨b, 1, none⟩ (.int .i64 ((k : Int) + 1))) := ((Rd.refl b w).drewN _).setCell _ _
  have hb1 : c.toNat < 256 := by omega
  go_wp2_with (first | (refine wpList_buildTo rfl 55 #[] rfl _ rfl (tA 0 (fun _ => false) (.slice none 0 0) 0 0 0) (tA_zero' _) ?_) | ((refine Great.wpList_boxTo rfl 55 (.tmp 24) rfl _ rfl w.heap.size (by simp [World.setCell]) (tA 0 (fun _ => false) (.slice none 0 0) 0 0 0) rfl ?_; generalize hw1 : World.alloc _ _ = w1; have t1 : Tr w1 w.heap.size 0 (fun _ => false) (.slice none 0 0) 0 0 0 := box_tr hw1 (by simp [World.setCell]); have r1 : Rd b w w1 := (by rw [← hw1]; exact r0.alloc _); have g1 : Mk w1 b s t := (by rw [← hw1]; exact g0.alloc _); have z1 : w1.heap.size = w.heap.size + 1 := (by rw [← hw1]; simp [World.setCell]); clear hw1); have cT := t1.cB c.toNat hb1; have fT := t1.fz (1 + c.toNat)))
  go_ret
  exact TreeTo.bytes rfl ⟨g1.set2 (by omega) _, r1.setNew (Nat.le_refl _) _⟩ ((t1.bit c.toNat hb1 true).congr (C := inSpan c.toNat c.toNat) (fun i _ => by by_cases e : i = c.toNat <;> simp [e, inSpan]; omega)) (Nat.le_refl _)
set_option maxRecDepth 20000 in
set_option maxHeartbeats 2000000 in
theorem matom_class (w : World) (b : Nat) (s : ByteArray) (t r' : List UInt8) (S : Nat → Bool) (h : Mk w b s (91 :: t)) (hP : pClass t = .ok S r') :
    Calls Tryd.prog 43 #[.pointer (some ⟨b, 0, none⟩)] w fun e w' => TreeTo w w' b s r' (.bytes S) e := by
  have hlt := h.lt
  obtain ⟨k, hk', e1, c0, c1, hk, sz, lt, fz⟩ := h.byte
  have hcl := fun w h => class_ok w b s t r' S h hP
  go_enter Tryd.func43, Tryd.ntmps43
  go_wp2
  go_quiet (fail)
  have g0 := (h.drewN nq).next hk
  have r0 : Rd b w ((w.drewN nq).setCell ⟨b, 1, none⟩ (.int .i64 ((k : Int) + 1))) := ((Rd.refl b w).drewN _).setCell _ _
  go_wp2_with (first | (go_at_call 52; refine (hcl _ g1).mono ?_; rintro e w2 ⟨rfl, ⟨g2, l2⟩, t2⟩) | (refine wpList_buildTo rfl 55 #[] rfl _ rfl (tA 0 (fun _ => false) (.slice none 0 0) 0 0 0) (tA_zero' _) ?_) | ((refine Great.wpList_boxTo rfl 55 (.tmp 24) rfl _ rfl w.heap.size (by simp [World.setCell]) (tA 0 (fun _ => false) (.slice none 0 0) 0 0 0) rfl ?_; generalize hw1 : World.alloc _ _ = w1; have t1 : Tr w1 w.heap.size 0 (fun _ => false) (.slice none 0 0) 0 0 0 := box_tr hw1 (by simp [World.setCell]); have r1 : Rd b w w1 := (by rw [← hw1]; exact r0.alloc _); have g1 : Mk w1 b s t := (by rw [← hw1]; exact g0.alloc _); have z1 : w1.heap.size = w.heap.size + 1 := (by rw [← hw1]; simp [World.setCell]); clear hw1)))
  go_ret
  rw [z1] at t2
  exact TreeTo.bytes rfl ⟨g2, r1.trans l2⟩ t2 (by omega)

abbrev MkChsC (b : Nat) (s : ByteArray) (r r' : List UInt8) (T : RT) : Prop := ∀ w, Mk w b s r → Calls Tryd.prog 15 #[.pointer (some ⟨b, 0, none⟩)] w fun e w' => TreeTo w w' b s r' T e

theorem RepT.grow {b : Nat} {w x y z : World} {T : RT} {g : Nat} (h : RepT y (From x.heap.size y) T g) (h1 : Rd b w x) (h2 : Rd b y z) (hb : b < x.heap.size) : RepT z (From w.heap.size z) T g :=
  RepT.of_heap (fun k hk hlt => by
    have := h1.size
    have := h2.size
    have := hk.1
    exact ⟨⟨by omega, by omega⟩, h2.block k hlt (by omega)⟩) T g h

set_option maxRecDepth 20000 in
set_option maxHeartbeats 2000000 in
theorem matom_group (w : World) (b : Nat) (s : ByteArray) (t t' : List UInt8) (T : RT) (h : Mk w b s (40 :: t)) (hP : MkChsC b s t (41 :: t') T) :
    Calls Tryd.prog 43 #[.pointer (some ⟨b, 0, none⟩)] w fun e w' => TreeTo w w' b s t' T e := by
  have hlt := h.lt
  obtain ⟨k, hk', e1, c0, c1, hk, sz, lt, fz⟩ := h.byte
  go_enter Tryd.func43, Tryd.ntmps43
  go_wp2
  go_quiet (fail)
  have g0 := (h.drewN nq).next hk
  have r0 : Rd b w ((w.drewN nq).setCell ⟨b, 1, none⟩ (.int .i64 ((k : Int) + 1))) := ((Rd.refl b w).drewN _).setCell _ _
  go_wp2_with (first | (go_at_call 15; refine (hP _ g1).mono ?_; rintro e w2 ⟨g, rfl, ⟨g2, l2⟩, t2⟩; obtain ⟨j, hj', f1, d0, d1, hj, sz2, lt2, fz2⟩ := g2.byte) | (refine wpList_buildTo rfl 55 #[] rfl _ rfl (tA 0 (fun _ => false) (.slice none 0 0) 0 0 0) (tA_zero' _) ?_) | ((refine Great.wpList_boxTo rfl 55 (.tmp 24) rfl _ rfl w.heap.size (by simp [World.setCell]) (tA 0 (fun _ => false) (.slice none 0 0) 0 0 0) rfl ?_; generalize hw1 : World.alloc _ _ = w1; have t1 : Tr w1 w.heap.size 0 (fun _ => false) (.slice none 0 0) 0 0 0 := box_tr hw1 (by simp [World.setCell]); have r1 : Rd b w w1 := (by rw [← hw1]; exact r0.alloc _); have g1 : Mk w1 b s t := (by rw [← hw1]; exact g0.alloc _); have z1 : w1.heap.size = w.heap.size + 1 := (by rw [← hw1]; simp [World.setCell]); clear hw1)))
  go_ret
  exact ⟨g, rfl, ⟨g2.next hj, (r1.trans l2).setCell _ _⟩, t2.grow r1 ((Rd.refl b w2).setCell _ _) g1.lt⟩

set_option maxRecDepth 20000 in
set_option maxHeartbeats 4000000 in
theorem matom_dot (w : World) (b : Nat) (s : ByteArray) (t : List UInt8) (h : Mk w b s (46 :: t)) :
    Calls Tryd.prog 43 #[.pointer (some ⟨b, 0, none⟩)] w fun e w' => TreeTo w w' b s t (.bytes fun n => !inSpan 10 10 n) e := by
  have hlt := h.lt
  obtain ⟨k, hk', e1, c0, c1, hk, sz, lt, fz⟩ := h.byte
  go_enter Tryd.func43, Tryd.ntmps43
  go_wp2
  go_quiet (fail)
  have g0 := (h.drewN nq).next hk
  have r0 : Rd b w ((w.drewN nq).setCell ⟨b, 1, none⟩ (.int .i64 ((k : Int) + 1))) := ((Rd.refl b w).drewN _).setCell _ _
  go_wp2_with (first | (refine wpList_buildTo rfl 55 #[] rfl _ rfl (tA 0 (fun _ => false) (.slice none 0 0) 0 0 0) (tA_zero' _) ?_) | ((refine Great.wpList_boxTo rfl 55 (.tmp 24) rfl _ rfl w.heap.size (by simp [World.setCell]) (tA 0 (fun _ => false) (.slice none 0 0) 0 0 0) rfl ?_; generalize hw1 : World.alloc _ _ = w1; have t1 : Tr w1 w.heap.size 0 (fun _ => false) (.slice none 0 0) 0 0 0 := box_tr hw1 (by simp [World.setCell]); have r1 : Rd b w w1 := (by rw [← hw1]; exact r0.alloc _); have g1 : Mk w1 b s t := (by rw [← hw1]; exact g0.alloc _); have z1 : w1.heap.size = w.heap.size + 1 := (by rw [← hw1]; simp [World.setCell]); clear hw1)))
  obtain ⟨C, hC⟩ : ∃ C : Nat → Bool, C = fun n => !inSpan 10 10 n := ⟨_, rfl⟩
  have HCC : Hid (C = fun n => !inSpan 10 10 n) := hC
  clear hC
  go_loopw [5] (fun i wq => ∃ j : Nat, j ≤ 256 ∧ i = .int .i64 j ∧ Mk wq b s t ∧ Rd b w wq ∧ Tr wq w.heap.size 0 (upS (fun _ => false) C j) (.slice none 0 0) 0 0 0) (fun i _ => 256 - (intOf i).toNat)
  case atStart => exact ⟨0, by omega, rfl, g1, r1, t1.congr (fun i _ => (upS_zero (fun _ => false) C i).symm)⟩
  case round =>
    obtain ⟨j, hj, rfl, g5, r5, t5⟩ := hrel
    by_cases hlt : j < 256
    · have cT := t5.cB j hlt
      have fT := t5.fz (1 + j)
      by_cases q : j = 10
      · subst q
        have HV : Hid (C 10 = false) := by show _ = _; rw [HCC.out]; decide
        go_wp2
        go_roundw
        case rel => exact ⟨10 + 1, by omega, by go_num, g5.set2 (by omega) _, r5.setNew (Nat.le_refl _) _, (t5.bit 10 hlt false).congr (fun i _ => upS_step _ C 10 false HV.out i)⟩
        case measure => simp [intOf]
      · have p : ((j : Int) != 10) = true := by simp; omega
        have HV : Hid (C j = true) := by show _ = _; rw [HCC.out]; simp [inSpan]; omega
        go_wp2
        go_roundw
        case rel => exact ⟨j + 1, by omega, by go_num, g5.set2 (by omega) _, r5.setNew (Nat.le_refl _) _, (t5.bit j hlt true).congr (fun i _ => upS_step _ C j true HV.out i)⟩
        case measure => simp [intOf] <;> omega
    · have e : j = 256 := by omega
      subst e
      go_wp2
      go_ret
      exact TreeTo.bytes rfl ⟨g5, r5⟩ (t5.congr (fun i hi => by rw [upS_all _ C i hi, HCC.out])) (Nat.le_refl _)

theorem lay2_facts {w x y : World} {b : Nat} {s : ByteArray} {r : List UInt8} {S : Nat → Bool} {N : Nat} (hN : N = x.heap.size) (hy : (x.alloc (.cells (bA fun _ => false) 52)).setCells N 0 (bL S) = y) (h : Mk x b s r) (hr : Rd b w x) : Mk y b s r ∧ Rd b w y ∧ Bs y N S ∧ (∀ g, g < x.heap.size → y.heap[g]? = x.heap[g]?) := by
  subst hN
  obtain ⟨h1, h2, h3, h4, _⟩ := lay_facts hy h hr
  exact ⟨h1, h2, h3, h4⟩

set_option maxRecDepth 20000 in
set_option maxHeartbeats 4000000 in
theorem matom_esc1 (w : World) (b : Nat) (s : ByteArray) (t r' : List UInt8) (S : Nat → Bool) (h : Mk w b s (92 :: t)) (hE : MkEscC b s t r' (-1) S) :
    Calls Tryd.prog 43 #[.pointer (some ⟨b, 0, none⟩)] w fun e w' => TreeTo w w' b s r' (.bytes S) e := by
  have hlt := h.lt
  obtain ⟨k, hk', e1, c0, c1, hk, sz, lt, fz⟩ := h.byte
  go_enter Tryd.func43, Tryd.ntmps43
  go_wp2
  go_quiet (fail)
  have g0 := (h.drewN nq).next hk
  have r0 : Rd b w ((w.drewN nq).setCell ⟨b, 1, none⟩ (.int .i64 ((k : Int) + 1))) := ((Rd.refl b w).drewN _).setCell _ _
  go_wp2_with ((first | (refine wpList_store_mid rfl 52 (.tmp 70) (.tmp 68) rfl w.heap.size 1 (bA S) rfl rfl (by rw [bA_size]; exact t4.there) (by rw [bA_size]; exact sizeA) (bL_one _) ?_; generalize hw5 : World.setCells w4 _ _ _ = w5; have t5 : Tr w5 w.heap.size 0 S (.slice none 0 0) 0 0 0 := (by rw [← hw5]; exact t4.all S); have g5 : Mk w5 b s r' := (by rw [← hw5]; exact g4.keep (heap_setCells _ _ _ _ _ (by omega)) (by rw [size_setCells]; exact Nat.le_refl _)); have r5 : Rd b w w5 := (by rw [← hw5]; exact rd_setCells r4 _ (Nat.le_refl _) _ _); clear hw5; skip) | (refine wpList_load_mid rfl 52 (.tmp 7) rfl w3.heap.size 0 rfl (bL S) _ b4.range Tryd.underlying52 rfl (by rw [bL_len]; exact sizeA) ?_) | (refine wpList_store_mid rfl 52 (.tmp 7) (.tmp 66) rfl w3.heap.size 0 (bA S) rfl rfl (by rw [bA_size]; exact (bA_new _ _ _).there) (by rw [bA_size]; exact sizeA) (bL_one _) ?_; generalize hw4 : World.setCells _ _ _ _ = w4; obtain ⟨g4, r4, b4, h4⟩ := lay2_facts rfl hw4 g3 r3; have t4 := t3.of_heap (h4 _ t3.lt); clear hw4 h4) | (refine wpList_alloc52 rfl rfl _ rfl w3.heap.size rfl ?_) | (go_at_call 53; refine (hE _ g1).mono ?_; rintro e w3 ⟨rfl, g3, l3⟩; have t3 := t1.of_heap (l3.block _ t1.lt (by omega)); have r3 := r1.trans l3) | (refine wpList_buildTo rfl 55 #[] rfl _ rfl (tA 0 (fun _ => false) (.slice none 0 0) 0 0 0) (tA_zero' _) ?_) | ((refine Great.wpList_boxTo rfl 55 (.tmp 24) rfl _ rfl w.heap.size (by simp [World.setCell]) (tA 0 (fun _ => false) (.slice none 0 0) 0 0 0) rfl ?_; generalize hw1 : World.alloc _ _ = w1; have t1 : Tr w1 w.heap.size 0 (fun _ => false) (.slice none 0 0) 0 0 0 := box_tr hw1 (by simp [World.setCell]); have r1 : Rd b w w1 := (by rw [← hw1]; exact r0.alloc _); have g1 : Mk w1 b s t := (by rw [← hw1]; exact g0.alloc _); have z1 : w1.heap.size = w.heap.size + 1 := (by rw [← hw1]; simp [World.setCell]); clear hw1))))
  go_ret
  exact TreeTo.bytes rfl ⟨g5, r5⟩ t5 (Nat.le_refl _)

set_option maxRecDepth 20000 in
set_option maxHeartbeats 4000000 in
theorem matom_esc2 (w : World) (b : Nat) (s : ByteArray) (t r' : List UInt8) (S : Nat → Bool) (hS : S = none256) (v : Nat) (hv : v < 256) (h : Mk w b s (92 :: t)) (hE : MkEscC b s t r' v S) :
    Calls Tryd.prog 43 #[.pointer (some ⟨b, 0, none⟩)] w fun e w' => TreeTo w w' b s r' (.bytes (inSpan v v)) e := by
  have hlt := h.lt
  have HS : Hid (S = none256) := hS
  clear hS
  obtain ⟨k, hk', e1, c0, c1, hk, sz, lt, fz⟩ := h.byte
  go_enter Tryd.func43, Tryd.ntmps43
  go_wp2
  go_quiet (fail)
  have g0 := (h.drewN nq).next hk
  have r0 : Rd b w ((w.drewN nq).setCell ⟨b, 1, none⟩ (.int .i64 ((k : Int) + 1))) := ((Rd.refl b w).drewN _).setCell _ _
  go_wp2_with ((first | (refine wpList_store_mid rfl 52 (.tmp 70) (.tmp 68) rfl w.heap.size 1 (bA S) rfl rfl (by rw [bA_size]; exact t4.there) (by rw [bA_size]; exact sizeA) (bL_one _) ?_; generalize hw5 : World.setCells w4 _ _ _ = w5; have t5 : Tr w5 w.heap.size 0 S (.slice none 0 0) 0 0 0 := (by rw [← hw5]; exact t4.all S); have g5 : Mk w5 b s r' := (by rw [← hw5]; exact g4.keep (heap_setCells _ _ _ _ _ (by omega)) (by rw [size_setCells]; exact Nat.le_refl _)); have r5 : Rd b w w5 := (by rw [← hw5]; exact rd_setCells r4 _ (Nat.le_refl _) _ _); clear hw5; (have cT := t5.cB v hv; have fT := t5.fz (1 + v))) | (refine wpList_load_mid rfl 52 (.tmp 7) rfl w3.heap.size 0 rfl (bL S) _ b4.range Tryd.underlying52 rfl (by rw [bL_len]; exact sizeA) ?_) | (refine wpList_store_mid rfl 52 (.tmp 7) (.tmp 66) rfl w3.heap.size 0 (bA S) rfl rfl (by rw [bA_size]; exact (bA_new _ _ _).there) (by rw [bA_size]; exact sizeA) (bL_one _) ?_; generalize hw4 : World.setCells _ _ _ _ = w4; obtain ⟨g4, r4, b4, h4⟩ := lay2_facts rfl hw4 g3 r3; have t4 := t3.of_heap (h4 _ t3.lt); clear hw4 h4) | (refine wpList_alloc52 rfl rfl _ rfl w3.heap.size rfl ?_) | (go_at_call 53; refine (hE _ g1).mono ?_; rintro e w3 ⟨rfl, g3, l3⟩; have t3 := t1.of_heap (l3.block _ t1.lt (by omega)); have r3 := r1.trans l3) | (refine wpList_buildTo rfl 55 #[] rfl _ rfl (tA 0 (fun _ => false) (.slice none 0 0) 0 0 0) (tA_zero' _) ?_) | ((refine Great.wpList_boxTo rfl 55 (.tmp 24) rfl _ rfl w.heap.size (by simp [World.setCell]) (tA 0 (fun _ => false) (.slice none 0 0) 0 0 0) rfl ?_; generalize hw1 : World.alloc _ _ = w1; have t1 : Tr w1 w.heap.size 0 (fun _ => false) (.slice none 0 0) 0 0 0 := box_tr hw1 (by simp [World.setCell]); have r1 : Rd b w w1 := (by rw [← hw1]; exact r0.alloc _); have g1 : Mk w1 b s t := (by rw [← hw1]; exact g0.alloc _); have z1 : w1.heap.size = w.heap.size + 1 := (by rw [← hw1]; simp [World.setCell]); clear hw1))))
  go_ret
  exact TreeTo.bytes rfl ⟨g5.set2 (by omega) _, r5.setNew (Nat.le_refl _) _⟩ ((t5.bit v hv true).congr (C := inSpan v v) (fun i _ => by rw [HS.out]; by_cases e : i = v <;> simp [e, inSpan]; omega)) (Nat.le_refl _)
end Go.Proofs.YtbjabpodkaokjaaDoor
