import Derived.Test.YtbjabpodkaokjaaDoorJ18
set_option linter.unusedVariables false
set_option linter.unusedSimpArgs false
namespace Go.Proofs.YtbjabpodkaokjaaDoor
open Go.RowKit

theorem St.dep {w : World} {b : Nat} {s : ByteArray} {r : List UInt8} {d x : Int} (h : St w b s r d x) (d' : Int) : St (w.setCell ⟨b, 2, none⟩ (.int .i64 d')) b s r d' x := by
  obtain ⟨⟨k, ⟨c0, c1, c2, c3, fz, lt⟩, hk, hs⟩, tb, b3, sz⟩ := h
  refine ⟨⟨k, ⟨?_, ?_, ?_, ?_, ?_, ?_⟩, hk, hs⟩, tb.of_block (fun j hj => Below.heap_setCell _ _ _ _ (by simp; omega)), b3, sz⟩ <;> (try intro o) <;> simp [c0, c1, c2, c3, fz, lt, go_sem]
theorem St.deep {w : World} {b : Nat} {s : ByteArray} {r : List UInt8} {d x : Int} (h : St w b s r d x) (x' : Int) : St (w.setCell ⟨b, 3, none⟩ (.int .i64 x')) b s r d x' := by
  obtain ⟨⟨k, ⟨c0, c1, c2, c3, fz, lt⟩, hk, hs⟩, tb, b3, sz⟩ := h
  refine ⟨⟨k, ⟨?_, ?_, ?_, ?_, ?_, ?_⟩, hk, hs⟩, tb.of_block (fun j hj => Below.heap_setCell _ _ _ _ (by simp; omega)), b3, sz⟩ <;> (try intro o) <;> simp [c0, c1, c2, c3, fz, lt, go_sem]
theorem St.cells {w : World} {b : Nat} {s : ByteArray} {r : List UInt8} {d x : Int} (h : St w b s r d x) : w.cell? ⟨b, 2, none⟩ = some (.int .i64 d) ∧ w.cell? ⟨b, 3, none⟩ = some (.int .i64 x) ∧ (∀ o, w.frozen? ⟨b, o, none⟩ = false) := by
  obtain ⟨⟨k, ⟨c0, c1, c2, c3, fz, lt⟩, hk, hs⟩, tb, b3, sz⟩ := h
  exact ⟨c2, c3, fz⟩

abbrev ChsC (b : Nat) (s : ByteArray) (r r' : List UInt8) (d x : Int) (X : Int → Prop) (ok : Bool) (Q : World → World → Value → Prop) : Prop :=
  ∀ w, St w b s r d x → Calls Tryd.prog 19 #[.pointer (some ⟨b, 0, none⟩)] w fun e w' => ∃ x', X x' ∧ (∃ g0 n0 c0, Q w w' (.slice g0 n0 c0) ∧ e = .returned (.tuple #[.slice g0 n0 c0, .bool ok])) ∧ StTo w w' b s r' d x'

set_option maxHeartbeats 1000000 in
theorem group_1 (w : World) (b : Nat) (s : ByteArray) (r r' : List UInt8) (d x y : Int) (X : Int → Prop) (h : St w b s r d x) (d0 : 0 ≤ d) (d1 : d ≤ 200) (Q : World → World → Value → Prop) (hy : (x < d + 1 ∧ y = d + 1) ∨ (¬ x < d + 1 ∧ y = x))
    (hcl : ChsC b s r r' (d + 1) y X false Q) :
    Calls Tryd.prog 55 #[.pointer (some ⟨b, 0, none⟩)] w fun e w' => ∃ x', X x' ∧ e = .returned (.tuple #[.slice none 0 0, .bool false]) ∧ StTo w w' b s r' d x' := by
  obtain ⟨c2, c3, fz⟩ := h.cells
  have hr0 : Rd b w ((w.setCell ⟨b, 2, none⟩ (.int .i64 (d + 1))).setCell ⟨b, 3, none⟩ (.int .i64 y)).drew := (((Rd.refl b w).setCell 2 _).setCell 3 _).drew
  rcases hy with ⟨hx, hy⟩ | ⟨hx, hy⟩
  all_goals
    subst hy
    go_enter Tryd.func55, Tryd.ntmps55
    go_wp2
    go_region
    go_wp2_with (first | (go_at_call 19; refine (hcl _ ((h.dep (d + 1)).deep _).drew).mono ?_; rintro e w2 ⟨x', hX, ⟨g0, n0, c0, hq, rfl⟩, g2, hr2⟩; obtain ⟨e2, e3, ef⟩ := g2.cells))
    go_ret2
    exact ⟨x', hX, rfl, g2.dep d, ((hr0.trans hr2).setCell _ _)⟩

set_option maxHeartbeats 1000000 in
theorem group_2 (w : World) (b : Nat) (s : ByteArray) (r r' r'' : List UInt8) (d x y : Int) (X : Int → Prop) (h : St w b s r d x) (d0 : 0 ≤ d) (d1 : d ≤ 200) (Q : World → World → Value → Prop) (hy : (x < d + 1 ∧ y = d + 1) ∨ (¬ x < d + 1 ∧ y = x))
    (hcl : ChsC b s r r' (d + 1) y X true Q) (ht : ∀ x', TakC b s d x' 41 r' r'' false) :
    Calls Tryd.prog 55 #[.pointer (some ⟨b, 0, none⟩)] w fun e w' => ∃ x', X x' ∧ e = .returned (.tuple #[.slice none 0 0, .bool false]) ∧ StTo w w' b s r'' d x' := by
  obtain ⟨c2, c3, fz⟩ := h.cells
  have hr0 : Rd b w ((w.setCell ⟨b, 2, none⟩ (.int .i64 (d + 1))).setCell ⟨b, 3, none⟩ (.int .i64 y)).drew := (((Rd.refl b w).setCell 2 _).setCell 3 _).drew
  rcases hy with ⟨hx, hy⟩ | ⟨hx, hy⟩
  all_goals
    subst hy
    go_enter Tryd.func55, Tryd.ntmps55
    go_wp2
    go_region
    go_wp2_with (first | (go_at_call 18; refine (ht _ _ (g2.dep d)).mono ?_; rintro e w3 ⟨rfl, g3, hr3⟩) | (go_at_call 19; refine (hcl _ ((h.dep (d + 1)).deep _).drew).mono ?_; rintro e w2 ⟨x', hX, ⟨g0, n0, c0, hq, rfl⟩, g2, hr2⟩; obtain ⟨e2, e3, ef⟩ := g2.cells))
    go_ret2
    exact ⟨x', hX, rfl, g3, ((hr0.trans hr2).setCell 2 _).trans hr3⟩

set_option maxHeartbeats 1000000 in
theorem group_3 (w : World) (b : Nat) (s : ByteArray) (r r' r'' : List UInt8) (d x y : Int) (X : Int → Prop) (h : St w b s r d x) (d0 : 0 ≤ d) (d1 : d ≤ 200) (Q : World → World → Value → Prop) (hy : (x < d + 1 ∧ y = d + 1) ∨ (¬ x < d + 1 ∧ y = x))
    (hcl : ChsC b s r r' (d + 1) y X true Q) (ht : ∀ x', TakC b s d x' 41 r' r'' true) :
    Calls Tryd.prog 55 #[.pointer (some ⟨b, 0, none⟩)] w fun e w' => ∃ x', X x' ∧ (∃ g0 n0 c0 w1 w2, Q w1 w2 (.slice g0 n0 c0) ∧ Rd b w w1 ∧ Rd b w2 w' ∧ w1.heap.size = w.heap.size ∧ e = .returned (.tuple #[.slice g0 n0 c0, .bool true])) ∧ StTo w w' b s r'' d x' := by
  obtain ⟨c2, c3, fz⟩ := h.cells
  have hr0 : Rd b w ((w.setCell ⟨b, 2, none⟩ (.int .i64 (d + 1))).setCell ⟨b, 3, none⟩ (.int .i64 y)).drew := (((Rd.refl b w).setCell 2 _).setCell 3 _).drew
  rcases hy with ⟨hx, hy⟩ | ⟨hx, hy⟩
  all_goals
    subst hy
    go_enter Tryd.func55, Tryd.ntmps55
    go_wp2
    go_region
    go_wp2_with (first | (go_at_call 18; refine (ht _ _ (g2.dep d)).mono ?_; rintro e w3 ⟨rfl, g3, hr3⟩) | (go_at_call 19; refine (hcl _ ((h.dep (d + 1)).deep _).drew).mono ?_; rintro e w2 ⟨x', hX, ⟨g0, n0, c0, hq, rfl⟩, g2, hr2⟩; obtain ⟨e2, e3, ef⟩ := g2.cells))
    go_ret2
    exact ⟨x', hX, ⟨g0, n0, c0, _, w2, hq, hr0, ((Rd.refl b w2).setCell 2 _).trans hr3, by simp [World.setCell], rfl⟩, g3, ((hr0.trans hr2).setCell 2 _).trans hr3⟩

end Go.Proofs.YtbjabpodkaokjaaDoor

namespace Go.Proofs.YtbjabpodkaokjaaDoor
open Go.RowKit

abbrev zero6 : Obj := .cells #[.slice none 0 0, .int .u64 0, .int .u64 0, .int .u64 0, .int .u64 0, .slice none 0 0] 80
/-- Six cells of block b hold nothing yet. -/
structure Z6 (w : World) (b : Nat) : Prop where
  c0 : w.cell? ⟨b, 0, none⟩ = some (.slice none 0 0)
  c1 : w.cell? ⟨b, 1, none⟩ = some (.int .u64 0)
  c2 : w.cell? ⟨b, 2, none⟩ = some (.int .u64 0)
  c3 : w.cell? ⟨b, 3, none⟩ = some (.int .u64 0)
  c4 : w.cell? ⟨b, 4, none⟩ = some (.int .u64 0)
  c5 : w.cell? ⟨b, 5, none⟩ = some (.slice none 0 0)
  fz : ∀ o, w.frozen? ⟨b, o, none⟩ = false
theorem Z6.of_heap {w w' : World} {b : Nat} (h : Z6 w b) (hb : w'.heap[b]? = w.heap[b]?) : Z6 w' b := by
  have hc : ∀ o, w'.cell? ⟨b, o, none⟩ = w.cell? ⟨b, o, none⟩ := fun o => by simp [World.cell?, hb]
  have hf : ∀ o, w'.frozen? ⟨b, o, none⟩ = w.frozen? ⟨b, o, none⟩ := fun o => by simp [World.frozen?, hb]
  exact ⟨(hc _).trans h.c0, (hc _).trans h.c1, (hc _).trans h.c2, (hc _).trans h.c3, (hc _).trans h.c4, (hc _).trans h.c5, fun o => (hf o).trans (h.fz o)⟩
theorem new6 (w : World) : Z6 (w.alloc zero6) w.heap.size := by
  refine ⟨?_, ?_, ?_, ?_, ?_, ?_, fun o => ?_⟩ <;> simp [go_sem]

abbrev atomV (g0 : Option Addr) (n0 c0 x0 x1 x2 x3 : Nat) : Value := .agg #[.slice g0 n0 c0, .int .u64 x0, .int .u64 x1, .int .u64 x2, .int .u64 x3]
abbrev partV (g0 : Option Addr) (n0 c0 x0 x1 x2 x3 : Nat) (g1 : Option Addr) (n1 c1 : Nat) : Value := .agg #[.slice g0 n0 c0, .int .u64 x0, .int .u64 x1, .int .u64 x2, .int .u64 x3, .slice g1 n1 c1]
abbrev AtmC (b : Nat) (s : ByteArray) (r r' : List UInt8) (d x : Int) (X : Int → Prop) (ok : Bool) (Q : World → World → Value → Nat → Nat → Nat → Nat → Prop) : Prop :=
  ∀ w, St w b s r d x → Calls Tryd.prog 46 #[.pointer (some ⟨b, 0, none⟩)] w fun e w' => ∃ x', X x' ∧ (∃ g0 n0 c0 x0 x1 x2 x3, Q w w' (.slice g0 n0 c0) x0 x1 x2 x3 ∧ e = .returned (.tuple #[atomV g0 n0 c0 x0 x1 x2 x3, .bool ok])) ∧ StTo w w' b s r' d x'
abbrev CtsC (b : Nat) (s : ByteArray) (r r' : List UInt8) (d x : Int) (ok : Bool) (Q : World → World → Value → Prop) : Prop :=
  ∀ w, St w b s r d x → Calls Tryd.prog 47 #[.pointer (some ⟨b, 0, none⟩)] w fun e w' => (∃ g0 n0 c0, Q w w' (.slice g0 n0 c0) ∧ e = .returned (.tuple #[.slice g0 n0 c0, .bool ok])) ∧ StTo w w' b s r' d x

set_option maxHeartbeats 1000000 in
theorem part_1 (w : World) (b : Nat) (s : ByteArray) (r r' : List UInt8) (d x : Int) (X : Int → Prop) (h : St w b s r d x) (Q : World → World → Value → Nat → Nat → Nat → Nat → Prop) (ha : AtmC b s r r' d x X false Q) :
    Calls Tryd.prog 40 #[.pointer (some ⟨b, 0, none⟩)] w fun e w' => ∃ x', X x' ∧ e = .returned (.tuple #[partV none 0 0 0 0 0 0 none 0 0, .bool false]) ∧ StTo w w' b s r' d x' := by
  have hne := h.ne
  have hlt := h.lt
  go_enter Tryd.func40, Tryd.ntmps40
  go_wp2_with (go_at_call 46; refine (ha _ (h.alloc _)).mono ?_; rintro e w1 ⟨x', hX, ⟨g0, n0, c0, x0, x1, x2, x3, hq, rfl⟩, g1, hr1⟩; have hz1 : w.heap.size < w1.heap.size := (by have := hr1.size; simp at this; omega); obtain ⟨d0, d1, d2, d3, d4, d5, dz⟩ := (new6 w).of_heap (hr1.block w.heap.size (by simp) hne))
  refine bodyPost_ret (v := .tuple #[partV none 0 0 0 0 0 0 none 0 0, .bool false]) ?_ rfl ?_
  · simp [results, Tryd.results40, go_sem, d0, d1, d2, d3, d4, d5, hz1]
  · exact ⟨x', hX, rfl, (by (repeat first | (with_reducible refine St.setCell ?_ (by first | exact hlt | (simp; done) | (simp; omega)) _) | (with_reducible refine St.alloc ?_ _) | (with_reducible refine St.drew ?_) | (with_reducible refine St.drewN ?_ _)); exact g1), (by (repeat first | (with_reducible refine Rd.setNew ?_ (by first | exact Nat.le_refl _ | (simp; done) | (simp; omega)) _) | (with_reducible refine Rd.alloc ?_ _) | (with_reducible refine Rd.drew ?_) | (with_reducible refine Rd.drewN ?_ _)); exact hr1.under)⟩

set_option maxHeartbeats 1000000 in
theorem part_2 (w : World) (b : Nat) (s : ByteArray) (r r' r'' : List UInt8) (d x : Int) (X : Int → Prop) (ok : Bool) (h : St w b s r d x) (Q : World → World → Value → Nat → Nat → Nat → Nat → Prop) (Q2 : World → World → Value → Prop) (ha : AtmC b s r r' d x X true Q) (hc : ∀ x', CtsC b s r' r'' d x' ok Q2) :
    Calls Tryd.prog 40 #[.pointer (some ⟨b, 0, none⟩)] w fun e w' => ∃ x', X x' ∧ (∃ g0 n0 c0 x0 x1 x2 x3 g1 n1 c1 w1 w2, Q (w.alloc zero6) w1 (.slice g0 n0 c0) x0 x1 x2 x3 ∧ Q2 (w1.alloc (.cells #[.slice g0 n0 c0, .int .u64 (x0 : Nat), .int .u64 (x1 : Nat), .int .u64 (x2 : Nat), .int .u64 (x3 : Nat)] 77)) w2 (.slice g1 n1 c1) ∧ Rd b (w.alloc zero6) w1 ∧ Rd b w1 w2 ∧ w1.heap.size < w2.heap.size ∧ (∀ g, w.heap.size < g → w'.heap[g]? = w2.heap[g]?) ∧ w'.heap.size = w2.heap.size ∧ e = .returned (.tuple #[partV g0 n0 c0 x0 x1 x2 x3 g1 n1 c1, .bool ok])) ∧ StTo w w' b s r'' d x' := by
  have hne := h.ne
  have hlt := h.lt
  go_enter Tryd.func40, Tryd.ntmps40
  go_wp2_with (first | (go_at_call 47; refine (hc _ _ (g1.alloc _)).mono ?_; rintro e w2 ⟨⟨q0, m0, e0, hq2, rfl⟩, g2, hr2⟩; have hz2 : w1.heap.size < w2.heap.size := (by have := hr2.size; simp at this; omega); have hz2' : w.heap.size < w2.heap.size := (by omega); obtain ⟨d0, d1, d2, d3, d4, d5, dz⟩ := hZ1.of_heap (w' := w2) ((hr2.block w.heap.size (by simp; omega) hne).trans (Below.heap_alloc _ _ _ hz1)); have hcell := hr2.block w1.heap.size (by simp) (by omega); have k0 := cell_kept hcell 0; have k1 := cell_kept hcell 1; have k2 := cell_kept hcell 2; have k3 := cell_kept hcell 3; have k4 := cell_kept hcell 4; simp at k0 k1 k2 k3 k4) | (go_at_call 46; refine (ha _ (h.alloc _)).mono ?_; rintro e w1 ⟨x', hX, ⟨g0, n0, c0, x0, x1, x2, x3, hq, rfl⟩, g1, hr1⟩; have hz1 : w.heap.size < w1.heap.size := (by have := hr1.size; simp at this; omega); have hZ1 := (new6 w).of_heap (hr1.block w.heap.size (by simp) hne)))
  have hr := ((hr1.under).alloc (.cells #[.slice g0 n0 c0, .int .u64 x0, .int .u64 x1, .int .u64 x2, .int .u64 x3] 77)).trans hr2
  refine bodyPost_ret (v := .tuple #[partV g0 n0 c0 x0 x1 x2 x3 q0 m0 e0, .bool ok]) ?_ rfl ?_
  · simp [results, Tryd.results40, go_sem, d0, d1, d2, d3, d4, d5, hz2']
  refine ⟨x', hX, ⟨g0, n0, c0, x0, x1, x2, x3, q0, m0, e0, w1, w2, hq, hq2, hr1, hr2.under, hz2, ?_, ?_, rfl⟩, (by (repeat first | (with_reducible refine St.setCell ?_ (by first | exact hlt | (simp; done) | (simp; omega)) _) | (with_reducible refine St.alloc ?_ _) | (with_reducible refine St.drew ?_) | (with_reducible refine St.drewN ?_ _)); exact g2), (by (repeat first | (with_reducible refine Rd.setNew ?_ (by first | exact Nat.le_refl _ | (simp; done) | (simp; omega)) _) | (with_reducible refine Rd.alloc ?_ _) | (with_reducible refine Rd.drew ?_) | (with_reducible refine Rd.drewN ?_ _)); exact hr)⟩
  · intro g hg
    (repeat rw [Below.heap_setCell _ _ _ _ (by simp; omega)])
  · simp [World.setCell]
end Go.Proofs.YtbjabpodkaokjaaDoor
