import Derived.Test.YtbjabpodkaokjaaGreatDoorJ18
set_option linter.unusedVariables false
set_option linter.unusedSimpArgs false
namespace Go.Proofs.YtbjabpodkaokjaaGreatDoor.Sx
open Go.RowKit

theorem St.dep {w : World} {b : Nat} {s : ByteArray} {r : List UInt8} {d x : Int} (h : St w b s r d x) (d' : Int) : St (w.setCell ⟨b, 2, none⟩ (.int .i64 d')) b s r d' x := by
  obtain ⟨⟨k, ⟨c0, c1, c2, c3, fz, lt⟩, hk, hs⟩, tb, b3, sz⟩ := h
  refine ⟨⟨k, ⟨?_, ?_, ?_, ?_, ?_, ?_⟩, hk, hs⟩, tb.of_block (fun j hj => Below.heap_setCell _ _ _ _ (by simp; omega)), b3, sz⟩ <;> (try intro o) <;> simp [c0, c1, c2, c3, fz, lt, go_sem]
theorem St.deep {w : World} {b : Nat} {s : ByteArray} {r : List UInt8} {d x : Int} (h : St w b s r d x) (x' : Int) : St (w.setCell ⟨b, 3, none⟩ (.int .i64 x')) b s r d x' := by
  obtain ⟨⟨k, ⟨c0, c1, c2, c3, fz, lt⟩, hk, hs⟩, tb, b3, sz⟩ := h
  refine ⟨⟨k, ⟨?_, ?_, ?_, ?_, ?_, ?_⟩, hk, hs⟩, tb.of_block (fun j hj => Below.heap_setCell _ _ _ _ (by simp; omega)), b3, sz⟩ <;> (try intro o) <;> simp [c0, c1, c2, c3, fz, lt, go_sem]
theorem St.cells {w : World} {b : Nat} {s : ByteArray} {r : List UInt8} {d x : Int} (h : St w b s r d x) : w.cell? ⟨b, 2, none⟩ = some (.int .i64 d) ∧ w.cell? ⟨b, 3, none⟩ = some (.int .i64 x) ∧ (∀ o, w.frozen? ⟨b, o, none⟩ = false) := by
  obtain ⟨⟨k, ⟨c0, c1, c2, c3, fz, lt⟩, hk, hs⟩, tb, b3, sz⟩ := h
  exact ⟨c2, c3, fz⟩

abbrev ChsC (b : Nat) (s : ByteArray) (r r' : List UInt8) (d x : Int) (X : Int → Prop) (ok : Bool) (Q : World → World → Value → Prop) : Prop :=
  ∀ w, St w b s r d x → Calls Tryz.prog 122 #[.pointer (some ⟨b, 0, none⟩)] w fun e w' => ∃ x', X x' ∧ (∃ g0 n0 c0, Q w w' (.slice g0 n0 c0) ∧ e = .returned (.tuple #[.slice g0 n0 c0, .bool ok])) ∧ StTo w w' b s r' d x'

set_option maxHeartbeats 1000000 in
theorem group_1 (w : World) (b : Nat) (s : ByteArray) (r r' : List UInt8) (d x y : Int) (X : Int → Prop) (h : St w b s r d x) (d0 : 0 ≤ d) (d1 : d ≤ 200) (Q : World → World → Value → Prop) (hy : (x < d + 1 ∧ y = d + 1) ∨ (¬ x < d + 1 ∧ y = x))
    (hcl : ChsC b s r r' (d + 1) y X false Q) :
    Calls Tryz.prog 218 #[.pointer (some ⟨b, 0, none⟩)] w fun e w' => ∃ x', X x' ∧ e = .returned (.tuple #[.slice none 0 0, .bool false]) ∧ StTo w w' b s r' d x' := by
  obtain ⟨c2, c3, fz⟩ := h.cells
  have hr0 : Rd b w ((w.setCell ⟨b, 2, none⟩ (.int .i64 (d + 1))).setCell ⟨b, 3, none⟩ (.int .i64 y)).drew := (((Rd.refl b w).setCell 2 _).setCell 3 _).drew
  rcases hy with ⟨hx, hy⟩ | ⟨hx, hy⟩
  all_goals
    subst hy
    go_enter Tryz.func218, Tryz.ntmps218
    go_wp2
    go_region
    go_wp2_with (first | (go_at_call 122; refine (hcl _ ((h.dep (d + 1)).deep _).drew).mono ?_; rintro e w2 ⟨x', hX, ⟨g0, n0, c0, hq, rfl⟩, g2, hr2⟩; obtain ⟨e2, e3, ef⟩ := g2.cells))
    go_ret2
    exact ⟨x', hX, rfl, g2.dep d, ((hr0.trans hr2).setCell _ _)⟩

set_option maxHeartbeats 1000000 in
theorem group_2 (w : World) (b : Nat) (s : ByteArray) (r r' r'' : List UInt8) (d x y : Int) (X : Int → Prop) (h : St w b s r d x) (d0 : 0 ≤ d) (d1 : d ≤ 200) (Q : World → World → Value → Prop) (hy : (x < d + 1 ∧ y = d + 1) ∨ (¬ x < d + 1 ∧ y = x))
    (hcl : ChsC b s r r' (d + 1) y X true Q) (ht : ∀ x', TakC b s d x' 41 r' r'' false) :
    Calls Tryz.prog 218 #[.pointer (some ⟨b, 0, none⟩)] w fun e w' => ∃ x', X x' ∧ e = .returned (.tuple #[.slice none 0 0, .bool false]) ∧ StTo w w' b s r'' d x' := by
  obtain ⟨c2, c3, fz⟩ := h.cells
  have hr0 : Rd b w ((w.setCell ⟨b, 2, none⟩ (.int .i64 (d + 1))).setCell ⟨b, 3, none⟩ (.int .i64 y)).drew := (((Rd.refl b w).setCell 2 _).setCell 3 _).drew
  rcases hy with ⟨hx, hy⟩ | ⟨hx, hy⟩
  all_goals
    subst hy
    go_enter Tryz.func218, Tryz.ntmps218
    go_wp2
    go_region
    go_wp2_with (first | (go_at_call 121; refine (ht _ _ (g2.dep d)).mono ?_; rintro e w3 ⟨rfl, g3, hr3⟩) | (go_at_call 122; refine (hcl _ ((h.dep (d + 1)).deep _).drew).mono ?_; rintro e w2 ⟨x', hX, ⟨g0, n0, c0, hq, rfl⟩, g2, hr2⟩; obtain ⟨e2, e3, ef⟩ := g2.cells))
    go_ret2
    exact ⟨x', hX, rfl, g3, ((hr0.trans hr2).setCell 2 _).trans hr3⟩

set_option maxHeartbeats 1000000 in
theorem group_3 (w : World) (b : Nat) (s : ByteArray) (r r' r'' : List UInt8) (d x y : Int) (X : Int → Prop) (h : St w b s r d x) (d0 : 0 ≤ d) (d1 : d ≤ 200) (Q : World → World → Value → Prop) (hy : (x < d + 1 ∧ y = d + 1) ∨ (¬ x < d + 1 ∧ y = x))
    (hcl : ChsC b s r r' (d + 1) y X true Q) (ht : ∀ x', TakC b s d x' 41 r' r'' true) :
    Calls Tryz.prog 218 #[.pointer (some ⟨b, 0, none⟩)] w fun e w' => ∃ x', X x' ∧ (∃ g0 n0 c0 w1 w2, Q w1 w2 (.slice g0 n0 c0) ∧ Rd b w w1 ∧ Rd b w2 w' ∧ w1.heap.size = w.heap.size ∧ e = .returned (.tuple #[.slice g0 n0 c0, .bool true])) ∧ StTo w w' b s r'' d x' := by
  obtain ⟨c2, c3, fz⟩ := h.cells
  have hr0 : Rd b w ((w.setCell ⟨b, 2, none⟩ (.int .i64 (d + 1))).setCell ⟨b, 3, none⟩ (.int .i64 y)).drew := (((Rd.refl b w).setCell 2 _).setCell 3 _).drew
  rcases hy with ⟨hx, hy⟩ | ⟨hx, hy⟩
  all_goals
    subst hy
    go_enter Tryz.func218, Tryz.ntmps218
    go_wp2
    go_region
    go_wp2_with (first | (go_at_call 121; refine (ht _ _ (g2.dep d)).mono ?_; rintro e w3 ⟨rfl, g3, hr3⟩) | (go_at_call 122; refine (hcl _ ((h.dep (d + 1)).deep _).drew).mono ?_; rintro e w2 ⟨x', hX, ⟨g0, n0, c0, hq, rfl⟩, g2, hr2⟩; obtain ⟨e2, e3, ef⟩ := g2.cells))
    go_ret2
    exact ⟨x', hX, ⟨g0, n0, c0, _, w2, hq, hr0, ((Rd.refl b w2).setCell 2 _).trans hr3, by simp [World.setCell], rfl⟩, g3, ((hr0.trans hr2).setCell 2 _).trans hr3⟩

end Go.Proofs.YtbjabpodkaokjaaGreatDoor.Sx

namespace Go.Proofs.YtbjabpodkaokjaaGreatDoor.Sx
open Go.RowKit

abbrev zero6 : Obj := .cells #[.slice none 0 0, .int .u64 0, .int .u64 0, .int .u64 0, .int .u64 0, .slice none 0 0] 231
/-- Six cells of block b hold nothing yet. -/
structure Z6 (w : World) (b : Nat) : Prop where
  c0 : w.cell? ⟨b, 0, none⟩ = some (.slice none 0 0)
  c1 : w.cell? ⟨b, 1, none⟩ = some (.int .u64 0)
  c2 : w.cell? ⟨b, 2, none⟩ = some (.int .u64 0)
  c3 : w.cell? ⟨b, 3, none⟩ = some (.int .u64 0)
  c4 : w.cell? ⟨b, 4, none⟩ = some (.int .u64 0)
  c5 : w.cell? ⟨b, 5, none⟩ = some (.slice none 0 0)
  fz : ∀ o, w.frozen? ⟨b, o, none⟩ = false
theorem Z6.of_heap {w w' : World} {b : Nat} (h : Z6 w b) (hb : w'.heap[b]? = w.heap[b]?) : Z6 w' b := by
  have hc : ∀ o, w'.cell? ⟨b, o, none⟩ = w.cell? ⟨b, o, none⟩ := fun o => by simp [World.cell?, hb]
  have hf : ∀ o, w'.frozen? ⟨b, o, none⟩ = w.frozen? ⟨b, o, none⟩ := fun o => by simp [World.frozen?, hb]
  exact ⟨(hc _).trans h.c0, (hc _).trans h.c1, (hc _).trans h.c2, (hc _).trans h.c3, (hc _).trans h.c4, (hc _).trans h.c5, fun o => (hf o).trans (h.fz o)⟩
theorem new6 (w : World) : Z6 (w.alloc zero6) w.heap.size := by
  refine ⟨?_, ?_, ?_, ?_, ?_, ?_, fun o => ?_⟩ <;> simp [go_sem]

abbrev atomV (g0 : Option Addr) (n0 c0 x0 x1 x2 x3 : Nat) : Value := .agg #[.slice g0 n0 c0, .int .u64 x0, .int .u64 x1, .int .u64 x2, .int .u64 x3]
abbrev partV (g0 : Option Addr) (n0 c0 x0 x1 x2 x3 : Nat) (g1 : Option Addr) (n1 c1 : Nat) : Value := .agg #[.slice g0 n0 c0, .int .u64 x0, .int .u64 x1, .int .u64 x2, .int .u64 x3, .slice g1 n1 c1]
abbrev AtmC (b : Nat) (s : ByteArray) (r r' : List UInt8) (d x : Int) (X : Int → Prop) (ok : Bool) (Q : World → World → Value → Nat → Nat → Nat → Nat → Prop) : Prop :=
  ∀ w, St w b s r d x → Calls Tryz.prog 208 #[.pointer (some ⟨b, 0, none⟩)] w fun e w' => ∃ x', X x' ∧ (∃ g0 n0 c0 x0 x1 x2 x3, Q w w' (.slice g0 n0 c0) x0 x1 x2 x3 ∧ e = .returned (.tuple #[atomV g0 n0 c0 x0 x1 x2 x3, .bool ok])) ∧ StTo w w' b s r' d x'
abbrev CtsC (b : Nat) (s : ByteArray) (r r' : List UInt8) (d x : Int) (ok : Bool) (Q : World → World → Value → Prop) : Prop :=
  ∀ w, St w b s r d x → Calls Tryz.prog 209 #[.pointer (some ⟨b, 0, none⟩)] w fun e w' => (∃ g0 n0 c0, Q w w' (.slice g0 n0 c0) ∧ e = .returned (.tuple #[.slice g0 n0 c0, .bool ok])) ∧ StTo w w' b s r' d x

set_option maxHeartbeats 1000000 in
theorem part_1 (w : World) (b : Nat) (s : ByteArray) (r r' : List UInt8) (d x : Int) (X : Int → Prop) (h : St w b s r d x) (Q : World → World → Value → Nat → Nat → Nat → Nat → Prop) (ha : AtmC b s r r' d x X false Q) :
    Calls Tryz.prog 196 #[.pointer (some ⟨b, 0, none⟩)] w fun e w' => ∃ x', X x' ∧ e = .returned (.tuple #[partV none 0 0 0 0 0 0 none 0 0, .bool false]) ∧ StTo w w' b s r' d x' := by
  have hne := h.ne
  have hlt := h.lt
  go_enter Tryz.func196, Tryz.ntmps196
  go_wp2_with (go_at_call 208; refine (ha _ (h.alloc _)).mono ?_; rintro e w1 ⟨x', hX, ⟨g0, n0, c0, x0, x1, x2, x3, hq, rfl⟩, g1, hr1⟩; have hz1 : w.heap.size < w1.heap.size := (by have := hr1.size; simp at this; omega); obtain ⟨d0, d1, d2, d3, d4, d5, dz⟩ := (new6 w).of_heap (hr1.block w.heap.size (by simp) hne))
  refine bodyPost_ret (v := .tuple #[partV none 0 0 0 0 0 0 none 0 0, .bool false]) ?_ rfl ?_
  · simp [results, Tryz.results196, go_sem, d0, d1, d2, d3, d4, d5, hz1]
  · exact ⟨x', hX, rfl, (by (repeat first | (with_reducible refine St.setCell ?_ (by first | exact hlt | (simp; done) | (simp; omega)) _) | (with_reducible refine St.alloc ?_ _) | (with_reducible refine St.drew ?_) | (with_reducible refine St.drewN ?_ _)); exact g1), (by (repeat first | (with_reducible refine Rd.setNew ?_ (by first | exact Nat.le_refl _ | (simp; done) | (simp; omega)) _) | (with_reducible refine Rd.alloc ?_ _) | (with_reducible refine Rd.drew ?_) | (with_reducible refine Rd.drewN ?_ _)); exact hr1.under)⟩

set_option maxHeartbeats 1000000 in
theorem part_2 (w : World) (b : Nat) (s : ByteArray) (r r' r'' : List UInt8) (d x : Int) (X : Int → Prop) (ok : Bool) (h : St w b s r d x) (Q : World → World → Value → Nat → Nat → Nat → Nat → Prop) (Q2 : World → World → Value → Prop) (ha : AtmC b s r r' d x X true Q) (hc : ∀ x', CtsC b s r' r'' d x' ok Q2) :
    Calls Tryz.prog 196 #[.pointer (some ⟨b, 0, none⟩)] w fun e w' => ∃ x', X x' ∧ (∃ g0 n0 c0 x0 x1 x2 x3 g1 n1 c1 w1 w2, Q (w.alloc zero6) w1 (.slice g0 n0 c0) x0 x1 x2 x3 ∧ Q2 (w1.alloc (.cells #[.slice g0 n0 c0, .int .u64 (x0 : Nat), .int .u64 (x1 : Nat), .int .u64 (x2 : Nat), .int .u64 (x3 : Nat)] 228)) w2 (.slice g1 n1 c1) ∧ Rd b (w.alloc zero6) w1 ∧ Rd b w1 w2 ∧ w1.heap.size < w2.heap.size ∧ (∀ g, w.heap.size < g → w'.heap[g]? = w2.heap[g]?) ∧ w'.heap.size = w2.heap.size ∧ e = .returned (.tuple #[partV g0 n0 c0 x0 x1 x2 x3 g1 n1 c1, .bool ok])) ∧ StTo w w' b s r'' d x' := by
  have hne := h.ne
  have hlt := h.lt
  go_enter Tryz.func196, Tryz.ntmps196
  go_wp2_with (first | (go_at_call 209; refine (hc _ _ (g1.alloc _)).mono ?_; rintro e w2 ⟨⟨q0, m0, e0, hq2, rfl⟩, g2, hr2⟩; have hz2 : w1.heap.size < w2.heap.size := (by have := hr2.size; simp at this; omega); have hz2' : w.heap.size < w2.heap.size := (by omega); obtain ⟨d0, d1, d2, d3, d4, d5, dz⟩ := hZ1.of_heap (w' := w2) ((hr2.block w.heap.size (by simp; omega) hne).trans (Below.heap_alloc _ _ _ hz1)); have hcell := hr2.block w1.heap.size (by simp) (by omega); have k0 := cell_kept hcell 0; have k1 := cell_kept hcell 1; have k2 := cell_kept hcell 2; have k3 := cell_kept hcell 3; have k4 := cell_kept hcell 4; simp at k0 k1 k2 k3 k4) | (go_at_call 208; refine (ha _ (h.alloc _)).mono ?_; rintro e w1 ⟨x', hX, ⟨g0, n0, c0, x0, x1, x2, x3, hq, rfl⟩, g1, hr1⟩; have hz1 : w.heap.size < w1.heap.size := (by have := hr1.size; simp at this; omega); have hZ1 := (new6 w).of_heap (hr1.block w.heap.size (by simp) hne)))
  have hr := ((hr1.under).alloc (.cells #[.slice g0 n0 c0, .int .u64 x0, .int .u64 x1, .int .u64 x2, .int .u64 x3] 228)).trans hr2
  refine bodyPost_ret (v := .tuple #[partV g0 n0 c0 x0 x1 x2 x3 q0 m0 e0, .bool ok]) ?_ rfl ?_
  · simp [results, Tryz.results196, go_sem, d0, d1, d2, d3, d4, d5, hz2']
  refine ⟨x', hX, ⟨g0, n0, c0, x0, x1, x2, x3, q0, m0, e0, w1, w2, hq, hq2, hr1, hr2.under, hz2, ?_, ?_, rfl⟩, (by (repeat first | (with_reducible refine St.setCell ?_ (by first | exact hlt | (simp; done) | (simp; omega)) _) | (with_reducible refine St.alloc ?_ _) | (with_reducible refine St.drew ?_) | (with_reducible refine St.drewN ?_ _)); exact g2), (by (repeat first | (with_reducible refine Rd.setNew ?_ (by first | exact Nat.le_refl _ | (simp; done) | (simp; omega)) _) | (with_reducible refine Rd.alloc ?_ _) | (with_reducible refine Rd.drew ?_) | (with_reducible refine Rd.drewN ?_ _)); exact hr)⟩
  · intro g hg
    (repeat rw [Below.heap_setCell _ _ _ _ (by simp; omega)])
  · simp [World.setCell]
end Go.Proofs.YtbjabpodkaokjaaGreatDoor.Sx

namespace Go.Proofs.YtbjabpodkaokjaaGreatDoor.Sx
open Go.RowKit

/-- Groups, places and room: the numbers stay small. -/
structure Lim (d x : Int) (r : List UInt8) : Prop where
  d0 : 0 ≤ d
  dr : d + r.length ≤ 200
  dx : d ≤ x
  x1 : x ≤ 200

theorem up_zero {x d : Int} (h : d ≤ x) : up x d 0 = x := by unfold up; omega
theorem up_up (x d : Int) (a b : Nat) : up (up x d a) d b = up x d (max a b) := by unfold up; omega
theorem up_le {x d : Int} {k : Nat} (h : x ≤ 200) (hk : d + k ≤ 200) : up x d k ≤ 200 := by unfold up; omega
theorem up_ge (x d : Int) (k : Nat) : x ≤ up x d k := by unfold up; omega
theorem up_group (x d : Int) (k : Nat) : up (max x (d + 1)) (d + 1) k = up x d (1 + k) := by unfold up; omega

def AtmRes (w w' : World) (b : Nat) (s : ByteArray) (d x : Int) (e : Ending) : Res (List (List Prt) × (Nat → Bool)) → Prop
  | .ok p r => (∃ g0 n0 c0 x0 x1 x2 x3, RepCs w' (From w.heap.size w') p.1 (.slice g0 n0 c0) ∧ Wd x0 x1 x2 x3 p.2 ∧ e = .returned (.tuple #[atomV g0 n0 c0 x0 x1 x2 x3, .bool true])) ∧ StTo w w' b s r d (up x d (nestG p.1))
  | .bad r => ∃ x', (∃ g0 n0 c0 x0 x1 x2 x3, e = .returned (.tuple #[atomV g0 n0 c0 x0 x1 x2 x3, .bool false])) ∧ StTo w w' b s r d x'
def ChsRes (w w' : World) (b : Nat) (s : ByteArray) (d x : Int) (e : Ending) : Res (List (List Prt)) → Prop
  | .ok cs r => (∃ g0 n0 c0, RepCs w' (From w.heap.size w') cs (.slice g0 n0 c0) ∧ e = .returned (.tuple #[.slice g0 n0 c0, .bool true])) ∧ StTo w w' b s r d (up x d (nestCs cs))
  | .bad r => ∃ x', e = .returned (.tuple #[.slice none 0 0, .bool false]) ∧ StTo w w' b s r d x'
def ChnRes (w w' : World) (b : Nat) (s : ByteArray) (d x : Int) (e : Ending) : Res (List Prt) → Prop
  | .ok ps r => (∃ g0 n0 c0, RepC w' (From w.heap.size w') ps (.slice g0 n0 c0) ∧ e = .returned (.tuple #[.slice g0 n0 c0, .bool true])) ∧ StTo w w' b s r d (up x d (nestC ps))
  | .bad r => ∃ x', e = .returned (.tuple #[.slice none 0 0, .bool false]) ∧ StTo w w' b s r d x'
def PrtRes (w w' : World) (b : Nat) (s : ByteArray) (d x : Int) (e : Ending) : Res Prt → Prop
  | .ok p r => (∃ g0 n0 c0 x0 x1 x2 x3 g1 n1 c1, RepP w' (From w.heap.size w') p [.slice g0 n0 c0, .int .u64 (x0 : Nat), .int .u64 (x1 : Nat), .int .u64 (x2 : Nat), .int .u64 (x3 : Nat), .slice g1 n1 c1] ∧ e = .returned (.tuple #[partV g0 n0 c0 x0 x1 x2 x3 g1 n1 c1, .bool true])) ∧ StTo w w' b s r d (up x d (nestP p))
  | .bad r => ∃ x', (∃ g0 n0 c0 x0 x1 x2 x3 g1 n1 c1, e = .returned (.tuple #[partV g0 n0 c0 x0 x1 x2 x3 g1 n1 c1, .bool false])) ∧ StTo w w' b s r d x'

def ChoicesK (n : Nat) : Prop := ∀ w b s r d x, St w b s r d x → Lim d x r → 4 * r.length + 4 ≤ n → Calls Tryz.prog 122 #[.pointer (some ⟨b, 0, none⟩)] w fun e w' => ChsRes w w' b s d x e (pChoices n r)
def ChainK (n : Nat) : Prop := ∀ w b s r d x, St w b s r d x → Lim d x r → 4 * r.length + 3 ≤ n → Calls Tryz.prog 173 #[.pointer (some ⟨b, 0, none⟩)] w fun e w' => ChnRes w w' b s d x e (pChain n r)
def PartK (n : Nat) : Prop := ∀ w b s r d x, St w b s r d x → Lim d x r → 4 * r.length + 2 ≤ n → begins r = true → Calls Tryz.prog 196 #[.pointer (some ⟨b, 0, none⟩)] w fun e w' => PrtRes w w' b s d x e (pPart n r)
def AtomK (n : Nat) : Prop := ∀ w b s r d x, St w b s r d x → Lim d x r → 4 * r.length + 1 ≤ n → begins r = true → Calls Tryz.prog 208 #[.pointer (some ⟨b, 0, none⟩)] w fun e w' => AtmRes w w' b s d x e (pAtom n r)

theorem pChoices_ne {n : Nat} {r r' : List UInt8} {cs : List (List Prt)} (h : pChoices n r = .ok cs r') : cs ≠ [] := by
  cases n with
  | zero => simp [pChoices] at h
  | succ n =>
    simp only [pChoices] at h
    split at h
    · simp at h
    · split at h
      · split at h
        · injection h with e _; subst e; simp
        · simp at h
      · injection h with e _; subst e; simp
theorem nestG_ne {cs : List (List Prt)} (h : cs ≠ []) : nestG cs = 1 + nestCs cs := by
  cases cs with
  | nil => exact absurd rfl h
  | cons c cs => rfl
theorem tkB_false {c : UInt8} {r : List UInt8} (h : tkB c r = false) : tkR c r = r ∧ ∀ t, r ≠ c :: t := by
  match r, h with
  | [], _ => exact ⟨rfl, fun t => by simp⟩
  | a :: t, h =>
    have ne : a ≠ c := by simpa [tkB] using h
    exact ⟨by simp [tkR, ne], fun t' e => by injection e with e _; exact ne e⟩
theorem tkB_true {c : UInt8} {r : List UInt8} (h : tkB c r = true) : r = c :: tkR c r := by
  match r, h with
  | a :: t, h =>
    have e : a = c := by simpa [tkB] using h
    subst e; simp [tkR]

theorem repCs_nil (w : World) (S : Nat → Prop) : RepCs w S [] (.slice none 0 0) := ⟨[], ⟨by simp, .inl ⟨rfl, rfl⟩⟩, by simp [RepVs]⟩

/-- A group, by what its choices answer. -/
theorem group_any (n : Nat) (hK : ChoicesK n) (w : World) (b : Nat) (s : ByteArray) (t : List UInt8) (d x : Int) (h : St w b s t d x) (d0 : 0 ≤ d) (dr : d + 1 + t.length ≤ 200) (dx : d ≤ x) (x1 : x ≤ 200) (hn : 4 * t.length + 4 ≤ n) :
    Calls Tryz.prog 218 #[.pointer (some ⟨b, 0, none⟩)] w fun e w' => match pChoices n t with
      | .bad r' => ∃ x', e = .returned (.tuple #[.slice none 0 0, .bool false]) ∧ StTo w w' b s r' d x'
      | .ok cs r' => match tkB 41 r' with
        | true => (∃ g0 n0 c0, RepCs w' (From w.heap.size w') cs (.slice g0 n0 c0) ∧ e = .returned (.tuple #[.slice g0 n0 c0, .bool true])) ∧ StTo w w' b s (tkR 41 r') d (up x d (nestG cs))
        | false => ∃ x', e = .returned (.tuple #[.slice none 0 0, .bool false]) ∧ StTo w w' b s r' d x' := by
  have hk := fun w hw => hK w b s t (d + 1) (max x (d + 1)) hw ⟨by omega, by omega, by omega, by omega⟩ hn
  have hy : (x < d + 1 ∧ max x (d + 1) = d + 1) ∨ (¬ x < d + 1 ∧ max x (d + 1) = x) := by omega
  cases hR : pChoices n t with
  | bad r' =>
    refine (group_1 w b s t r' d x (max x (d + 1)) (fun _ => True) h d0 (by omega) (fun _ _ _ => True) hy (fun w hw => (hk w hw).mono fun e w' g => ?_)).mono fun e w' g => ?_
    · rw [hR] at g; obtain ⟨x', he, g⟩ := g; exact ⟨x', trivial, ⟨_, _, _, trivial, he⟩, g⟩
    · obtain ⟨x', -, he, g⟩ := g; exact ⟨x', he, g⟩
  | ok cs r' =>
    have hcl : ChsC b s t r' (d + 1) (max x (d + 1)) (fun y => y = up x d (nestG cs)) true (fun w w' v => RepCs w' (From w.heap.size w') cs v) := fun w hw => (hk w hw).mono fun e w' g => by
      rw [hR] at g
      obtain ⟨⟨g0, n0, c0, hq, he⟩, g⟩ := g
      refine ⟨_, rfl, ⟨g0, n0, c0, hq, he⟩, ?_⟩
      rw [nestG_ne (pChoices_ne hR), ← up_group]; exact g
    have ht := fun x' => take_any b s d x' 41 r'
    cases hm : tkB 41 r' with
    | true =>
      rw [hm] at ht
      refine (group_3 w b s t r' _ d x (max x (d + 1)) _ h d0 (by omega) _ hy hcl ht).mono fun e w' g => ?_
      obtain ⟨x', rfl, ⟨g0, n0, c0, w1, w2, hq, hr1, hr2, hsz, he⟩, g⟩ := g
      simp only [hm]
      refine ⟨⟨g0, n0, c0, hq.of_heap (fun j hj hlt => ?_), he⟩, g⟩
      have hbl := h.lt
      exact ⟨⟨by have := hj.1; omega, Nat.lt_of_lt_of_le hj.2 hr2.size⟩, hr2.block j hlt (by have := hj.1; omega)⟩
    | false =>
      obtain ⟨e1, -⟩ := tkB_false hm
      rw [hm, e1] at ht
      refine (group_2 w b s t r' r' d x (max x (d + 1)) _ h d0 (by omega) _ hy hcl ht).mono fun e w' g => ?_
      simp only [hm]
      obtain ⟨x', -, he, g⟩ := g; exact ⟨x', he, g⟩

theorem atom_step (n : Nat) (hK : ChoicesK n) : AtomK (n + 1) := by
  intro w b s r d x h hl hn hb
  match r, h, hl, hn, hb with
  | c :: t, h, hl, hn, hb =>
    obtain ⟨d0, dr, dx, x1⟩ := hl
    have hup : up x d 0 = x := up_zero dx
    simp only [List.length_cons] at dr hn
    by_cases c40 : c = 40
    · have hg := fun w (hw : St w b s t d x) => group_any n hK w b s t d x hw d0 (by omega) dx x1 (by omega)
      cases hR : pChoices n t with
      | bad r' =>
        have hP : pAtom (n + 1) (c :: t) = .bad r' := by simp only [pAtom, c40, if_true, hR]
        rw [hP]
        refine (atom_group w b s c t r' d x (fun _ => True) h c40 false (fun _ _ _ => True) (fun w hw => (hg w hw).mono fun e w' g => ?_)).mono fun e w' g => ?_
        · rw [hR] at g; obtain ⟨x', he, g⟩ := g; exact ⟨x', trivial, ⟨_, _, _, trivial, he⟩, g⟩
        · obtain ⟨x', -, ⟨g0, n0, c0, w1, w2, -, -, -, -, -, he⟩, g⟩ := g
          exact ⟨x', ⟨g0, n0, c0, 0, 0, 0, 0, he⟩, g⟩
      | ok cs r' =>
        cases hm : tkB 41 r' with
        | true =>
          have e1 := tkB_true hm
          have hP : pAtom (n + 1) (c :: t) = .ok (cs, fun _ => false) (tkR 41 r') := by
            rw [e1] at hR
            simp only [pAtom, c40, if_true, hR]
          rw [hP]
          refine (atom_group w b s c t (tkR 41 r') d x (fun y => y = up x d (nestG cs)) h c40 true (fun w w' v => RepCs w' (From w.heap.size w') cs v) (fun w hw => (hg w hw).mono fun e w' g => ?_)).mono fun e w' g => ?_
          · rw [hR] at g; simp only [hm] at g
            obtain ⟨⟨g0, n0, c0, hq, he⟩, g⟩ := g
            exact ⟨_, rfl, ⟨g0, n0, c0, hq, he⟩, g⟩
          · obtain ⟨x', rfl, ⟨g0, n0, c0, w1, w2, hq, hr1, hh, hsz, hsz2, he⟩, g⟩ := g
            refine ⟨⟨g0, n0, c0, 0, 0, 0, 0, hq.of_heap (fun j hj hlt => ?_), wd0, he⟩, g⟩
            have := hj.1
            exact ⟨⟨by omega, by omega⟩, hh j (by omega)⟩
        | false =>
          obtain ⟨-, e1⟩ := tkB_false hm
          have hP : pAtom (n + 1) (c :: t) = .bad r' := by
            simp only [pAtom, c40, if_true, hR]
          rw [hP]
          refine (atom_group w b s c t r' d x (fun _ => True) h c40 false (fun _ _ _ => True) (fun w hw => (hg w hw).mono fun e w' g => ?_)).mono fun e w' g => ?_
          · rw [hR] at g; simp only [hm] at g; obtain ⟨x', he, g⟩ := g; exact ⟨x', trivial, ⟨_, _, _, trivial, he⟩, g⟩
          · obtain ⟨x', -, ⟨g0, n0, c0, w1, w2, -, -, -, -, -, he⟩, g⟩ := g
            exact ⟨x', ⟨g0, n0, c0, 0, 0, 0, 0, he⟩, g⟩
    · by_cases c91 : c = 91
      · skip
        cases hR : pClass t with
        | bad r' =>
          have hP : pAtom (n + 1) (c :: t) = .bad r' := by simp only [pAtom, hR]; rw [if_neg c40, if_pos c91]
          rw [hP]
          refine (atom_class w b s c t r' d x h c91 false (fun _ _ _ _ => True) (fun w hw => (class_any w b s t d x hw).mono fun e w' g => ?_)).mono fun e w' g => ?_
          · rw [hR] at g; obtain ⟨⟨x0, x1, x2, x3, he⟩, g⟩ := g; exact ⟨⟨x0, x1, x2, x3, trivial, he⟩, g⟩
          · obtain ⟨⟨x0, x1, x2, x3, -, he⟩, g⟩ := g; exact ⟨x, ⟨none, 0, 0, x0, x1, x2, x3, he⟩, g⟩
        | ok S r' =>
          have hP : pAtom (n + 1) (c :: t) = .ok ([], S) r' := by simp only [pAtom, hR]; rw [if_neg c40, if_pos c91]
          rw [hP]
          refine (atom_class w b s c t r' d x h c91 true (fun x0 x1 x2 x3 => Wd x0 x1 x2 x3 S) (fun w hw => (class_any w b s t d x hw).mono fun e w' g => ?_)).mono fun e w' g => ?_
          · rw [hR] at g; exact g
          · obtain ⟨⟨x0, x1, x2, x3, hw, he⟩, g⟩ := g
            exact ⟨⟨none, 0, 0, x0, x1, x2, x3, repCs_nil _ _, hw, he⟩, by simpa [nestG, hup] using g⟩
      · by_cases c92 : c = 92
        · skip
          cases hR : pEscape t with
          | bad r' =>
            have hP : pAtom (n + 1) (c :: t) = .bad r' := by simp only [pAtom, hR]; rw [if_neg c40, if_neg c91, if_pos c92]
            rw [hP]
            refine (atom_escape w b s c t r' d x h c92 false (fun _ _ _ _ => True) (fun w hw => (escape_any w b s t d x hw).mono fun e w' g => ?_)).mono fun e w' g => ?_
            · rw [hR] at g; obtain ⟨⟨x0, x1, x2, x3, he⟩, g⟩ := g; exact ⟨⟨x0, x1, x2, x3, trivial, he⟩, g⟩
            · obtain ⟨⟨x0, x1, x2, x3, -, he⟩, g⟩ := g; exact ⟨x, ⟨none, 0, 0, x0, x1, x2, x3, he⟩, g⟩
          | ok S r' =>
            have hP : pAtom (n + 1) (c :: t) = .ok ([], S) r' := by simp only [pAtom, hR]; rw [if_neg c40, if_neg c91, if_pos c92]
            rw [hP]
            refine (atom_escape w b s c t r' d x h c92 true (fun x0 x1 x2 x3 => Wd x0 x1 x2 x3 S) (fun w hw => (escape_any w b s t d x hw).mono fun e w' g => ?_)).mono fun e w' g => ?_
            · rw [hR] at g; exact g
            · obtain ⟨⟨x0, x1, x2, x3, hw, he⟩, g⟩ := g
              exact ⟨⟨none, 0, 0, x0, x1, x2, x3, repCs_nil _ _, hw, he⟩, by simpa [nestG, hup] using g⟩
        · by_cases c46 : c = 46
          · have hP : pAtom (n + 1) (c :: t) = .ok ([], fun n => !inSpan 10 10 n) t := by simp only [pAtom]; rw [if_neg c40, if_neg c91, if_neg c92, if_pos c46]
            rw [hP]
            refine (atom_dot w b s c t d x h c46).mono fun e w' g => ?_
            obtain ⟨⟨x0, x1, x2, x3, hw, he⟩, g⟩ := g
            exact ⟨⟨none, 0, 0, x0, x1, x2, x3, repCs_nil _ _, hw, he⟩, by simpa [nestG, hup] using g⟩
          · have hP : pAtom (n + 1) (c :: t) = .ok ([], inSpan c.toNat c.toNat) t := by simp only [pAtom]; rw [if_neg c40, if_neg c91, if_neg c92, if_neg c46]
            rw [hP]
            have m1 : ((c.toNat : Int) == 40) = false := by simpa using u8_int (b := 40) c40
            have m2 : ((c.toNat : Int) == 91) = false := by simpa using u8_int (b := 91) c91
            have m3 : ((c.toNat : Int) == 92) = false := by simpa using u8_int (b := 92) c92
            have m4 : ((c.toNat : Int) == 46) = false := by simpa using u8_int (b := 46) c46
            refine (atom_plain w b s c t d x h m1 m2 m3 m4).mono fun e w' g => ?_
            obtain ⟨⟨x0, x1, x2, x3, hw, he⟩, g⟩ := g
            exact ⟨⟨none, 0, 0, x0, x1, x2, x3, repCs_nil _ _, hw, he⟩, by simpa [nestG, hup] using g⟩
end Go.Proofs.YtbjabpodkaokjaaGreatDoor.Sx

namespace Go.Proofs.YtbjabpodkaokjaaGreatDoor.Sx
open Go.RowKit

theorem slice_form_of_owns {w : World} {base : Nat} {e : TypeId} {size : Nat} {v : Value} {n : Nat} {xs : List Value} (h : w.ownsRow base e size v n xs) : ∃ g0 n0 c0, v = .slice g0 n0 c0 := by
  obtain ⟨_, h⟩ := h
  rcases h with ⟨rfl, _⟩ | ⟨g, cap, cur, rfl, _⟩
  · exact ⟨_, _, _, rfl⟩
  · exact ⟨_, _, _, rfl⟩

theorem cts_any (b : Nat) (s : ByteArray) (r : List UInt8) (d x : Int) : match pCounts (r.length + 1) r with
    | .ok cs r' => CtsC b s r r' d x true (fun w w' v => RowIn w' (From w.heap.size w') 282 3 v cs.length (cs.flatMap cntCells))
    | .bad r' => CtsC b s r r' d x false (fun _ _ _ => True) := by
  cases hR : pCounts (r.length + 1) r with
  | ok cs r' =>
    intro w hw
    refine (counts_any w b s r d x hw _ hR).mono fun e w' g => ?_
    obtain ⟨⟨v, hv, he⟩, g⟩ := g
    obtain ⟨g0, n0, c0, rfl⟩ := slice_form_of_owns hv
    exact ⟨⟨g0, n0, c0, RowIn.of_owns hv, he⟩, g⟩
  | bad r' =>
    intro w hw
    refine (counts_any w b s r d x hw _ hR).mono fun e w' g => ?_
    exact ⟨⟨none, 0, 0, trivial, g.1⟩, g.2⟩

theorem part_step (n : Nat) (hK : AtomK n) : PartK (n + 1) := by
  intro w b s r d x h hl hn hb
  have hlt := h.lt
  have ha := fun w (hw : St w b s r d x) => hK w b s r d x hw hl (by omega) hb
  cases hR : pAtom n r with
  | bad r' =>
    have hP : pPart (n + 1) r = .bad r' := by simp only [pPart, hR]
    rw [hP]
    refine (part_1 w b s r r' d x (fun _ => True) h (fun _ _ _ _ _ _ _ => True) (fun w hw => (ha w hw).mono fun e w' g => ?_)).mono fun e w' g => ?_
    · rw [hR] at g; obtain ⟨x', ⟨g0, n0, c0, x0, x1, x2, x3, he⟩, g⟩ := g; exact ⟨x', trivial, ⟨g0, n0, c0, x0, x1, x2, x3, trivial, he⟩, g⟩
    · obtain ⟨x', -, he, g⟩ := g; exact ⟨x', ⟨none, 0, 0, 0, 0, 0, 0, none, 0, 0, he⟩, g⟩
  | ok p r' =>
    obtain ⟨g, B⟩ := p
    have hA : AtmC b s r r' d x (fun y => y = up x d (nestG g)) true (fun w w' v x0 x1 x2 x3 => RepCs w' (From w.heap.size w') g v ∧ Wd x0 x1 x2 x3 B) := fun w hw => (ha w hw).mono fun e w' q => by
      rw [hR] at q
      obtain ⟨⟨g0, n0, c0, x0, x1, x2, x3, h1, h2, he⟩, q⟩ := q
      exact ⟨_, rfl, ⟨g0, n0, c0, x0, x1, x2, x3, ⟨h1, h2⟩, he⟩, q⟩
    cases hC : pCounts (r'.length + 1) r' with
    | bad r'' =>
      have hP : pPart (n + 1) r = .bad r'' := by simp only [pPart, hR, hC]
      rw [hP]
      have hc := fun x' => cts_any b s r' d x'
      simp only [hC] at hc
      refine (part_2 w b s r r' r'' d x _ false h _ _ hA hc).mono fun e w' q => ?_
      obtain ⟨x', -, ⟨g0, n0, c0, x0, x1, x2, x3, g1, n1, c1, w1, w2, -, -, -, -, -, -, -, he⟩, q⟩ := q
      exact ⟨x', ⟨g0, n0, c0, x0, x1, x2, x3, g1, n1, c1, he⟩, q⟩
    | ok cs r'' =>
      have hP : pPart (n + 1) r = .ok (.mk g B cs) r'' := by simp only [pPart, hR, hC]
      rw [hP]
      have hc := fun x' => cts_any b s r' d x'
      simp only [hC] at hc
      refine (part_2 w b s r r' r'' d x _ true h _ _ hA hc).mono fun e w' q => ?_
      obtain ⟨x', rfl, ⟨g0, n0, c0, x0, x1, x2, x3, g1, n1, c1, w1, w2, ⟨q1, q2⟩, q3, hr1, hr2, hz, hh, hsz, he⟩, q⟩ := q
      have hs1 := hr1.size
      simp only [World.size_alloc] at hs1
      refine ⟨⟨g0, n0, c0, x0, x1, x2, x3, g1, n1, c1, ?_, he⟩, by rw [nestP_eq]; exact q⟩
      simp only [RepP]
      refine ⟨_, x0, x1, x2, x3, _, rfl, ?_, q2, ?_⟩
      · obtain ⟨vs, hv⟩ := q1.of_heap (w' := w') (S' := From w.heap.size w') (fun j hj hlt' => by
          have h1 := hj.1
          simp only [World.size_alloc] at h1
          exact ⟨⟨by omega, by omega⟩, (hh j (by omega)).trans (hr2.block j hlt' (by omega))⟩)
        exact ⟨vs, hv⟩
      · exact q3.of_heap (fun j hj hlt' => by
          have h1 := hj.1
          simp only [World.size_alloc] at h1
          exact ⟨⟨by omega, by omega⟩, hh j (by omega)⟩)
end Go.Proofs.YtbjabpodkaokjaaGreatDoor.Sx

namespace Go.Proofs.YtbjabpodkaokjaaGreatDoor.Sx
open Go.RowKit

theorem Tryz.infoPart : (Tryz.prog.info? 231).map (fun i => (i.zero, i.size, i.bytes)) = some (some (.agg #[.slice none 0 0, .int .u64 0, .int .u64 0, .int .u64 0, .int .u64 0, .slice none 0 0]), 6, 80) := by kernel_rfl

def preL (acc : List Prt) : Res (List Prt) → Res (List Prt)
  | .ok cs r => .ok (acc ++ cs) r
  | .bad r => .bad r
theorem nestC_snoc (ps : List Prt) (p : Prt) : nestC (ps ++ [p]) = max (nestC ps) (nestP p) := by
  induction ps with
  | nil => simp [nestC]
  | cons q ps ih => simp only [List.cons_append, nestC, ih]; omega
theorem ownsRow_len {w : World} {base : Nat} {e : TypeId} {size : Nat} {v : Value} {n : Nat} {xs : List Value} (h : w.ownsRow base e size v n xs) : xs.length = n * size := h.1

structure ChnAt (w w' : World) (b : Nat) (s : ByteArray) (d x : Int) (R0 : Res (List Prt)) (n : Nat) (acc : List Prt) (css : List (List Value)) (v : Value) (r : List UInt8) : Prop where
  st : St w' b s r d (up x d (nestC acc))
  rd : Rd b w w'
  own : w'.ownsRow w.heap.size 231 6 v acc.length css.flatten
  rep : RepPs w' (fun g => From w.heap.size w' g ∧ v.ownBlock ≠ some g) acc css
  len : acc.length + r.length ≤ 200
  dep : d + nestC acc ≤ 200
  lim : 0 ≤ d ∧ d + r.length ≤ 200
  hn : 4 * r.length + 3 ≤ n
  heq : preL acc (pChain n r) = R0

theorem chain_rep {w w' w2 w3 w4 : World} {b : Nat} {acc : List Prt} {css : List (List Value)} {v v' : Value} {p : Prt} {cells : List Value} (hlt : b < w.heap.size)
    (hrd : Rd b w w') (hown : w'.ownsRow w.heap.size 231 6 v acc.length css.flatten) (hrep : RepPs w' (fun g => From w.heap.size w' g ∧ v.ownBlock ≠ some g) acc css)
    (hr2 : Rd b w' w2) (hp : RepP w2 (From w'.heap.size w2) p cells) (hr3 : Rd b w2 w3) (hgr : w3.grownBy w4 v.ownBlock) (hob : v'.ownBlock = v.ownBlock ∨ v'.ownBlock = some w3.heap.size) :
    RepPs w4 (fun g => From w.heap.size w4 g ∧ v'.ownBlock ≠ some g) (acc ++ [p]) (css ++ [cells]) := by
  have hv : ∀ k, v.ownBlock = some k → w.heap.size ≤ k ∧ k < w'.heap.size := fun k hk => hown.lt k hk
  have h1 := hrd.size
  have h2 := hr2.size
  have h3 := hr3.size
  have h4 := hgr.size
  refine RepPs.snoc (RepP.of_heap (fun g hg hlt' => ?_) p cells hp) (RepPs.of_heap (fun g hg hlt' => ?_) acc css hrep)
  · have hg1 := hg.1
    have ne : v.ownBlock ≠ some g := fun e => by have := (hv g e).2; omega
    refine ⟨⟨⟨by omega, by omega⟩, ?_⟩, (hgr.block g (by omega) (fun e => ne e.symm)).trans (hr3.block g hlt' (by omega))⟩
    rcases hob with e | e <;> rw [e]
    · exact ne
    · intro q; injection q with q; omega
  · obtain ⟨hg1, hg2⟩ := hg
    have hgb : g ≠ b := by have := hg1.1; omega
    refine ⟨⟨⟨hg1.1, by omega⟩, ?_⟩, (hgr.block g (by omega) (fun e => hg2 e.symm)).trans ((hr3.block g (by omega) hgb).trans (hr2.block g hlt' hgb))⟩
    rcases hob with e | e <;> rw [e]
    · exact hg2
    · intro q; injection q with q; have := hg1.2; omega

set_option maxHeartbeats 2000000 in
theorem chain_step (n0 : Nat) (hK : ∀ n, n < n0 → PartK n) (w : World) (b : Nat) (s : ByteArray) (r : List UInt8) (d x : Int) (h : St w b s r d x) (hl : Lim d x r) (hn0 : 4 * r.length + 3 ≤ n0) (R0 : Res (List Prt)) (hR0 : pChain n0 r = R0) :
    Calls Tryz.prog 173 #[.pointer (some ⟨b, 0, none⟩)] w fun e w' => ChnRes w w' b s d x e R0 := by
  have hne := h.ne
  have hlt := h.lt
  obtain ⟨d0, dr, dx, x1⟩ := hl
  obtain ⟨i0, hi, hz0, hz1, hz2⟩ := info_parts Tryz.infoPart
  have HK : Hid (∀ n, n < n0 → PartK n) := hK
  clear hK
  go_enter Tryz.func173, Tryz.ntmps173
  go_wp2
  refine wp_scope_once 0 (fun a' w' => ∃ n acc css v r', n ≤ n0 ∧ ChnAt w w' b s d x R0 n acc css v r' ∧ ∃ u5 u6 u7 u8 u9 u10 u11 u12 u13 u14 u15 u16 u17 u18 u19 u20 u21, a' = { tmps := #[.pointer (some ⟨b, 0, none⟩), undef, .slice none 0 0, .bool false, v, u5, u6, u7, u8, u9, u10, u11, u12, u13, u14, u15, u16, u17, u18, u19, u20, u21], defers := [] }) (fun _ w' => leftOf b s w') rfl ?_ ?_
  · intro hp
    have HP : Hid _ := hp
    clear hp
    go_wp2
    go_step3
    refine ‹∀ a w, Code.wp _ _ _ a w → _› _ _ (HP.out _ _ ⟨n0, [], [], .slice none 0 0, r, Nat.le_refl _, ⟨?_, Rd.refl _ _, World.ownsRow_nil _ _ _ _, ?_, ?_, ?_, ⟨d0, dr⟩, hn0, ?_⟩, _, _, _, _, _, _, _, _, _, _, _, _, _, _, _, _, _, rfl⟩)
    · rw [show nestC [] = 0 from by simp [nestC], up_zero dx]; exact h
    · simp [RepPs]
    · have := h.len; simpa using this
    · simp [nestC]; omega
    · rw [hR0]; cases R0 <;> rfl
  · rintro a' w' ⟨n, acc, css, v, r', hnn, ⟨hst, hrd, hown, hrep, hlen, hdep, ⟨d0', hlim⟩, hn, heq⟩, u5, u6, u7, u8, u9, u10, u11, u12, u13, u14, u15, u16, u17, u18, u19, u20, u21, rfl⟩
    obtain ⟨n', rfl⟩ : ∃ n', n = n' + 1 := ⟨n - 1, by omega⟩
    have HO : Hid (w'.ownsRow w.heap.size 231 6 v acc.length css.flatten) := hown
    have HR : Hid (RepPs w' (fun g => From w.heap.size w' g ∧ v.ownBlock ≠ some g) acc css) := hrep
    clear hown hrep
    cases hB : begins r' with
    | false =>
      have hba := fun w hw => beginsAtom_any w b s r' d (up x d (nestC acc)) hw
      rw [hB] at hba
      have HQ : Hid (R0 = .ok acc r') := by show _ = _; rw [← heq]; simp [pChain, hB, preL]
      clear heq hB
      obtain ⟨q0, q1, q2, hvq⟩ := slice_form_of_owns HO.out
      go_wp2_with (go_at_call 195; refine (hba _ hst).mono ?_; rintro e w2 ⟨rfl, g2, hr2⟩)
      simp only [Exit.jump]
      go_ret2
      rw [HQ.out]
      refine ⟨⟨q0, q1, q2, ⟨css, ?_, ?_⟩, rfl⟩, g2, hrd.trans hr2⟩
      · rw [← hvq]; exact RowIn.of_owns (ownsRow_rd HO.out hr2 hlt)
      · exact RepPs.of_heap (fun g hg hlt' => ⟨⟨hg.1.1, Nat.lt_of_lt_of_le hlt' hr2.size⟩, hr2.block g hlt' (by have := hg.1.1; omega)⟩) acc css HR.out
    | true =>
      have hba := fun w hw => beginsAtom_any w b s r' d (up x d (nestC acc)) hw
      rw [hB] at hba
      have hpt := fun w hw => HK.out n' (by omega) w b s r' d (up x d (nestC acc)) hw ⟨d0, hlim, by have := up_ge x d (nestC acc); omega, up_le x1 hdep⟩ (by omega) hB
      cases hP : pPart n' r' with
      | bad r2 =>
        rw [hP] at hpt
        have HQ : Hid (R0 = .bad r2) := by show _ = _; rw [← heq]; simp [pChain, hB, hP, preL]
        clear heq hB hP
        go_wp2_with (first | (go_at_call 196; refine (hpt _ g2).mono ?_; rintro e w3 ⟨x', ⟨g0, m0, c0, y0, y1, y2, y3, g1, m1, c1, rfl⟩, g3, hr3⟩) | (go_at_call 195; refine (hba _ hst).mono ?_; rintro e w2 ⟨rfl, g2, hr2⟩))
        simp only [Exit.jump]
        go_ret2
        rw [HQ.out]
        exact ⟨x', rfl, g3.alloc _, ((hrd.trans hr2).trans hr3).alloc _⟩
      | ok p r2 =>
        rw [hP] at hpt
        have hlp := (pLen n').2.2.1 _ _ _ hP
        have HQ : Hid (preL (acc ++ [p]) (pChain n' r2) = R0) := by
          show _ = _
          rw [← heq]
          simp only [pChain, hB, hP, if_true]
          cases pChain n' r2 <;> simp [preL]
        clear heq hB hP
        go_wp2_with (first | (at_builtin; refine wpList_append_own_at _ rfl (.tmp 18) (.tmp 20) 225 rfl w.heap.size 231 i0 (.agg #[.slice none 0 0, .int .u64 0, .int .u64 0, .int .u64 0, .int .u64 0, .slice none 0 0]) 6 80 Tryz.underlying225 hi hz0 hz1 hz2 rfl (by decide) v acc.length css.flatten rfl (((ownsRow_rd (ownsRow_rd HO.out hr2 hlt) hr3 hlt).alloc _).alloc _) ⟨w3.heap.size + 1, 0, none⟩ 1 1 [.slice g0 m0 c0, .int .u64 y0, .int .u64 y1, .int .u64 y2, .int .u64 y3, .slice g1 m1 c1] rfl rfl ?c1 ?c2 ?c3 ?c4 ?c5 ?_) | (go_at_call 196; refine (hpt _ g2).mono ?_; rintro e w3 ⟨⟨g0, m0, c0, y0, y1, y2, y3, g1, m1, c1, hrp, rfl⟩, g3, hr3⟩; have HRP : Hid _ := hrp; clear hrp) | (go_at_call 195; refine (hba _ hst).mono ?_; rintro e w2 ⟨rfl, g2, hr2⟩))
        case c1 =>
          intro j u hj
          match j, hj with
          | 0, hj => simp at hj; subst hj; simp [Addr.add, go_sem]
          | 1, hj => simp at hj; subst hj; simp [Addr.add, go_sem]
          | 2, hj => simp at hj; subst hj; simp [Addr.add, go_sem]
          | 3, hj => simp at hj; subst hj; simp [Addr.add, go_sem]
          | 4, hj => simp at hj; subst hj; simp [Addr.add, go_sem]
          | 5, hj => simp at hj; subst hj; simp [Addr.add, go_sem]
        case c2 => intro u hu; simp at hu; rcases hu with rfl | rfl | rfl | rfl | rfl | rfl <;> rfl
        case c3 => unfold maxLen; omega
        case c4 => omega
        case c5 => have := ((hrd.trans hr2).trans hr3).size; simp; omega
        intro v' w4 hown4 hgr _ hob
        have hrow : ∀ k, v.ownBlock = some k → w.heap.size ≤ k := fun k hk => (HO.out.lt k hk).1
        have HR4 : Hid _ := chain_rep (b := b) (v' := v') (w := w) (w' := w') (w2 := w3) (p := p) (cells := [.slice g0 m0 c0, .int .u64 y0, .int .u64 y1, .int .u64 y2, .int .u64 y3, .slice g1 m1 c1]) hlt hrd HO.out HR.out (hr2.trans hr3) (RepP.of_heap (fun g hg hlt' => ⟨⟨by have := hg.1; have := hr2.size; omega, hlt'⟩, rfl⟩) p _ HRP.out) (((Rd.refl b w3).alloc _).alloc _) hgr (by simpa using hob)
        have HO4 : Hid (w4.ownsRow w.heap.size 231 6 v' (acc ++ [p]).length (css ++ [([.slice g0 m0 c0, .int .u64 y0, .int .u64 y1, .int .u64 y2, .int .u64 y3, .slice g1 m1 c1] : List Value)]).flatten) := by
          show World.ownsRow _ _ _ _ _ _ _
          simpa using hown4
        have g4 : St w4 b s r2 d (up (up x d (nestC acc)) d (nestP p)) := ((g3.alloc _).alloc _).grown hgr (fun k hk => by have := hrow k hk; omega)
        have hr4 : Rd b w w4 := ((((hrd.trans hr2).trans hr3).alloc _).alloc _).grown hgr hrow
        clear hown4 hgr hob
        go_wp2
        go_step3
        refine ⟨rfl, ⟨n', acc ++ [p], _, v', r2, by omega, ⟨?_, hr4, HO4.out, HR4.out, by simp; omega, by rw [nestC_snoc]; omega, ⟨d0, by omega⟩, by omega, HQ.out⟩, _, _, _, _, _, _, _, _, _, _, _, _, _, _, _, _, _, rfl⟩, ?_⟩
        · rw [nestC_snoc, ← up_up]; exact g4
        · rw [g4.left, hst.left]; omega
end Go.Proofs.YtbjabpodkaokjaaGreatDoor.Sx

namespace Go.Proofs.YtbjabpodkaokjaaGreatDoor.Sx
open Go.RowKit

theorem Tryz.infoChain : (Tryz.prog.info? 225).map (fun i => (i.zero, i.size, i.bytes)) = some (some (.slice none 0 0), 1, 24) := by kernel_rfl

def preCs (acc : List (List Prt)) : Res (List (List Prt)) → Res (List (List Prt))
  | .ok cs r => .ok (acc ++ cs) r
  | .bad r => .bad r
theorem nestCs_snoc (cs : List (List Prt)) (c : List Prt) : nestCs (cs ++ [c]) = max (nestCs cs) (nestC c) := by
  induction cs with
  | nil => simp [nestCs]
  | cons q ps ih => simp only [List.cons_append, nestCs, ih]; omega

structure ChsAt (w w' : World) (b : Nat) (s : ByteArray) (d x : Int) (R0 : Res (List (List Prt))) (n : Nat) (acc : List (List Prt)) (vs : List Value) (v : Value) (r : List UInt8) : Prop where
  st : St w' b s r d (up x d (nestCs acc))
  rd : Rd b w w'
  own : w'.ownsRow w.heap.size 225 1 v acc.length vs
  rep : RepVs w' (fun g => From w.heap.size w' g ∧ v.ownBlock ≠ some g) acc vs
  len : acc.length + r.length ≤ 200
  dep : d + nestCs acc ≤ 200
  lim : 0 ≤ d ∧ d + r.length ≤ 200
  hn : 4 * r.length + 4 ≤ n
  heq : preCs acc (pChoices n r) = R0

theorem choices_rep {w w' w2 w3 w4 : World} {b : Nat} {acc : List (List Prt)} {vs : List Value} {v v' : Value} {p : List Prt} {cv : Value} (hlt : b < w.heap.size)
    (hrd : Rd b w w') (hown : w'.ownsRow w.heap.size 225 1 v acc.length vs) (hrep : RepVs w' (fun g => From w.heap.size w' g ∧ v.ownBlock ≠ some g) acc vs)
    (hr2 : Rd b w' w2) (hp : RepC w2 (From w'.heap.size w2) p cv) (hr3 : Rd b w2 w3) (hgr : w3.grownBy w4 v.ownBlock) (hob : v'.ownBlock = v.ownBlock ∨ v'.ownBlock = some w3.heap.size) :
    RepVs w4 (fun g => From w.heap.size w4 g ∧ v'.ownBlock ≠ some g) (acc ++ [p]) (vs ++ [cv]) := by
  have hv : ∀ k, v.ownBlock = some k → w.heap.size ≤ k ∧ k < w'.heap.size := fun k hk => hown.lt k hk
  have h1 := hrd.size
  have h2 := hr2.size
  have h3 := hr3.size
  have h4 := hgr.size
  refine RepVs.snoc (hp.of_heap (fun g hg hlt' => ?_)) (RepVs.of_heap (fun g hg hlt' => ?_) acc vs hrep)
  · have hg1 := hg.1
    have ne : v.ownBlock ≠ some g := fun e => by have := (hv g e).2; omega
    refine ⟨⟨⟨by omega, by omega⟩, ?_⟩, (hgr.block g (by omega) (fun e => ne e.symm)).trans (hr3.block g hlt' (by omega))⟩
    rcases hob with e | e <;> rw [e]
    · exact ne
    · intro q; injection q with q; omega
  · obtain ⟨hg1, hg2⟩ := hg
    have hgb : g ≠ b := by have := hg1.1; omega
    refine ⟨⟨⟨hg1.1, by omega⟩, ?_⟩, (hgr.block g (by omega) (fun e => hg2 e.symm)).trans ((hr3.block g (by omega) hgb).trans (hr2.block g hlt' hgb))⟩
    rcases hob with e | e <;> rw [e]
    · exact hg2
    · intro q; injection q with q; have := hg1.2; omega

set_option maxHeartbeats 2000000 in
theorem choices_step (n0 : Nat) (hK : ∀ n, n < n0 → ChainK n) (w : World) (b : Nat) (s : ByteArray) (r : List UInt8) (d x : Int) (h : St w b s r d x) (hl : Lim d x r) (hn0 : 4 * r.length + 4 ≤ n0) (R0 : Res (List (List Prt))) (hR0 : pChoices n0 r = R0) :
    Calls Tryz.prog 122 #[.pointer (some ⟨b, 0, none⟩)] w fun e w' => ChsRes w w' b s d x e R0 := by
  have hne := h.ne
  have hlt := h.lt
  obtain ⟨d0, dr, dx, x1⟩ := hl
  obtain ⟨i0, hi, hz0, hz1, hz2⟩ := info_parts Tryz.infoChain
  have HK : Hid (∀ n, n < n0 → ChainK n) := hK
  clear hK
  go_enter Tryz.func122, Tryz.ntmps122
  go_wp2
  refine wp_scope_once 0 (fun a' w' => ∃ n acc vs v r', n ≤ n0 ∧ ChsAt w w' b s d x R0 n acc vs v r' ∧ ∃ u5 u6 u7 u8 u9 u10 u11 u12 u13 u14 u15 u16 u17 u18 u19 u20, a' = { tmps := #[.pointer (some ⟨b, 0, none⟩), undef, .slice none 0 0, .bool false, v, u5, u6, u7, u8, u9, u10, u11, u12, u13, u14, u15, u16, u17, u18, u19, u20], defers := [] }) (fun _ w' => leftOf b s w') rfl ?_ ?_
  · intro hp
    have HP : Hid _ := hp
    clear hp
    go_wp2
    go_step3
    refine ‹∀ a w, Code.wp _ _ _ a w → _› _ _ (HP.out _ _ ⟨n0, [], [], .slice none 0 0, r, Nat.le_refl _, ⟨?_, Rd.refl _ _, World.ownsRow_nil _ _ _ _, ?_, ?_, ?_, ⟨d0, dr⟩, hn0, ?_⟩, _, _, _, _, _, _, _, _, _, _, _, _, _, _, _, _, rfl⟩)
    · rw [show nestCs [] = 0 from by simp [nestCs], up_zero dx]; exact h
    · simp [RepVs]
    · have := h.len; simpa using this
    · simp [nestCs]; omega
    · rw [hR0]; cases R0 <;> rfl
  · rintro a' w' ⟨n, acc, vs, v, r', hnn, ⟨hst, hrd, hown, hrep, hlen, hdep, ⟨d0', hlim⟩, hn, heq⟩, u5, u6, u7, u8, u9, u10, u11, u12, u13, u14, u15, u16, u17, u18, u19, u20, rfl⟩
    obtain ⟨n', rfl⟩ : ∃ n', n = n' + 1 := ⟨n - 1, by omega⟩
    have HO : Hid (w'.ownsRow w.heap.size 225 1 v acc.length vs) := hown
    have HR : Hid (RepVs w' (fun g => From w.heap.size w' g ∧ v.ownBlock ≠ some g) acc vs) := hrep
    clear hown hrep
    have hpt := fun w hw => HK.out n' (by omega) w b s r' d (up x d (nestCs acc)) hw ⟨d0, hlim, by have := up_ge x d (nestCs acc); omega, up_le x1 hdep⟩ (by omega)
    cases hP : pChain n' r' with
    | bad r2 =>
      rw [hP] at hpt
      have HQ : Hid (R0 = .bad r2) := by show _ = _; rw [← heq]; simp [pChoices, hP, preCs]
      clear heq hP
      go_wp2_with (go_at_call 173; refine (hpt _ hst).mono ?_; rintro e w3 ⟨x', rfl, g3, hr3⟩)
      simp only [Exit.jump]
      go_ret2
      rw [HQ.out]
      exact ⟨x', rfl, g3, hrd.trans hr3⟩
    | ok p r2 =>
      rw [hP] at hpt
      have hlp := (pLen n').2.1 _ _ _ hP
      have ht := take_any b s d (up (up x d (nestCs acc)) d (nestC p)) 124 r2
      cases hm : tkB 124 r2 with
      | false =>
        obtain ⟨e1, e2⟩ := tkB_false hm
        rw [hm, e1] at ht
        have HQ : Hid (R0 = .ok (acc ++ [p]) r2) := by
          show _ = _
          rw [← heq]
          simp only [pChoices, hP]
          rfl
        clear heq hP hm e1 e2
        go_wp2_with (first | (go_at_call 121; refine (ht _ g4).mono ?_; rintro e w5 ⟨rfl, g5, hr5⟩) | (at_builtin; refine wpList_append_own_at _ rfl (.tmp 14) (.tmp 16) 85 rfl w.heap.size 225 i0 (.slice none 0 0) 1 24 Tryz.underlying85 hi hz0 hz1 hz2 rfl (by decide) v acc.length vs rfl ((ownsRow_rd HO.out hr3 hlt).alloc _) ⟨w3.heap.size, 0, none⟩ 1 1 [.slice g0 m0 c0] rfl rfl ?c1 ?c2 ?c3 ?c4 ?c5 ?_) | (go_at_call 173; refine (hpt _ hst).mono ?_; rintro e w3 ⟨⟨g0, m0, c0, hrp, rfl⟩, g3, hr3⟩; have HRP : Hid _ := hrp; clear hrp))
        case c1 =>
          intro j u hj
          match j, hj with
          | 0, hj => simp at hj; subst hj; simp [Addr.add, go_sem]
        case c2 => intro u hu; simp at hu; subst hu; rfl
        case c3 => unfold maxLen; omega
        case c4 => omega
        case c5 => have := (hrd.trans hr3).size; simp; omega
        intro v' w4 hown4 hgr _ hob
        have hrow : ∀ k, v.ownBlock = some k → w.heap.size ≤ k := fun k hk => (HO.out.lt k hk).1
        have HR4 : Hid _ := choices_rep (b := b) (v' := v') (w := w) (w' := w') (w2 := w3) (p := p) (cv := .slice g0 m0 c0) hlt hrd HO.out HR.out hr3 HRP.out ((Rd.refl b w3).alloc _) hgr (by simpa using hob)
        obtain ⟨q0, q1, q2, hvq⟩ := slice_form_of_owns hown4
        subst hvq
        have HO4 : Hid (w4.ownsRow w.heap.size 225 1 (.slice q0 q1 q2) (acc ++ [p]).length (vs ++ [.slice g0 m0 c0])) := by
          show World.ownsRow _ _ _ _ _ _ _
          simpa using hown4
        have g4 : St w4 b s r2 d (up (up x d (nestCs acc)) d (nestC p)) := (g3.alloc _).grown hgr (fun k hk => by have := hrow k hk; omega)
        have hr4 : Rd b w w4 := ((hrd.trans hr3).alloc _).grown hgr hrow
        clear hown4 hgr hob
        go_wp2_with (go_at_call 121; refine (ht _ g4).mono ?_; rintro e w5 ⟨rfl, g5, hr5⟩)
        simp only [Exit.jump]
        go_ret2
        rw [HQ.out]
        refine ⟨⟨q0, q1, q2, ⟨vs ++ [.slice g0 m0 c0], ?_, ?_⟩, rfl⟩, ?_, hr4.trans hr5⟩
        · exact RowIn.of_owns (ownsRow_rd HO4.out hr5 hlt)
        · exact RepVs.of_heap (fun g hg hlt' => ⟨⟨hg.1.1, Nat.lt_of_lt_of_le hlt' hr5.size⟩, hr5.block g hlt' (by have := hg.1.1; omega)⟩) _ _ HR4.out
        · rw [nestCs_snoc, ← up_up]; exact g5
      | true =>
        have e1 := tkB_true hm
        rw [hm] at ht
        have hl2 : r2.length = (tkR 124 r2).length + 1 := by rw [e1]; simp [tkR]
        have HQ : Hid (preCs (acc ++ [p]) (pChoices n' (tkR 124 r2)) = R0) := by
          show _ = _
          rw [← heq]
          rw [e1] at hP
          simp only [pChoices, hP]
          cases pChoices n' (tkR 124 r2) <;> simp [preCs]
        clear heq hP hm e1
        go_wp2_with (first | (go_at_call 121; refine (ht _ g4).mono ?_; rintro e w5 ⟨rfl, g5, hr5⟩) | (at_builtin; refine wpList_append_own_at _ rfl (.tmp 14) (.tmp 16) 85 rfl w.heap.size 225 i0 (.slice none 0 0) 1 24 Tryz.underlying85 hi hz0 hz1 hz2 rfl (by decide) v acc.length vs rfl ((ownsRow_rd HO.out hr3 hlt).alloc _) ⟨w3.heap.size, 0, none⟩ 1 1 [.slice g0 m0 c0] rfl rfl ?c1 ?c2 ?c3 ?c4 ?c5 ?_) | (go_at_call 173; refine (hpt _ hst).mono ?_; rintro e w3 ⟨⟨g0, m0, c0, hrp, rfl⟩, g3, hr3⟩; have HRP : Hid _ := hrp; clear hrp))
        case c1 =>
          intro j u hj
          match j, hj with
          | 0, hj => simp at hj; subst hj; simp [Addr.add, go_sem]
        case c2 => intro u hu; simp at hu; subst hu; rfl
        case c3 => unfold maxLen; omega
        case c4 => omega
        case c5 => have := (hrd.trans hr3).size; simp; omega
        intro v' w4 hown4 hgr _ hob
        have hrow : ∀ k, v.ownBlock = some k → w.heap.size ≤ k := fun k hk => (HO.out.lt k hk).1
        have HR4 : Hid _ := choices_rep (b := b) (v' := v') (w := w) (w' := w') (w2 := w3) (p := p) (cv := .slice g0 m0 c0) hlt hrd HO.out HR.out hr3 HRP.out ((Rd.refl b w3).alloc _) hgr (by simpa using hob)
        obtain ⟨q0, q1, q2, hvq⟩ := slice_form_of_owns hown4
        subst hvq
        have HO4 : Hid (w4.ownsRow w.heap.size 225 1 (.slice q0 q1 q2) (acc ++ [p]).length (vs ++ [.slice g0 m0 c0])) := by
          show World.ownsRow _ _ _ _ _ _ _
          simpa using hown4
        have g4 : St w4 b s r2 d (up (up x d (nestCs acc)) d (nestC p)) := (g3.alloc _).grown hgr (fun k hk => by have := hrow k hk; omega)
        have hr4 : Rd b w w4 := ((hrd.trans hr3).alloc _).grown hgr hrow
        clear hown4 hgr hob
        go_wp2_with (go_at_call 121; refine (ht _ g4).mono ?_; rintro e w5 ⟨rfl, g5, hr5⟩)
        go_step3
        refine ⟨rfl, ⟨n', acc ++ [p], vs ++ [.slice g0 m0 c0], .slice q0 q1 q2, tkR 124 r2, by omega, ⟨?_, hr4.trans hr5, ownsRow_rd HO4.out hr5 hlt, ?_, by simp; omega, by rw [nestCs_snoc]; omega, ⟨d0, by omega⟩, by omega, HQ.out⟩, _, _, _, _, _, _, _, _, _, _, _, _, _, _, _, _, rfl⟩, ?_⟩
        · rw [nestCs_snoc, ← up_up]; exact g5
        · exact RepVs.of_heap (fun g hg hlt' => ⟨⟨⟨hg.1.1, Nat.lt_of_lt_of_le hlt' hr5.size⟩, hg.2⟩, hr5.block g hlt' (by have := hg.1.1; omega)⟩) _ _ HR4.out
        · rw [g5.left, hst.left]; omega

theorem all_K (n : Nat) : ChoicesK n ∧ ChainK n ∧ PartK n ∧ AtomK n := by
  induction n using Nat.strongRecOn with
  | _ n ih =>
    refine ⟨?_, ?_, ?_, ?_⟩
    · intro w b s r d x h hl hn
      exact choices_step n (fun m hm => (ih m hm).2.1) w b s r d x h hl hn _ rfl
    · intro w b s r d x h hl hn
      exact chain_step n (fun m hm => (ih m hm).2.2.1) w b s r d x h hl hn _ rfl
    · cases n with
      | zero => intro w b s r d x h hl hn; omega
      | succ n => exact part_step n (ih n (Nat.lt_succ_self _)).2.2.2
    · cases n with
      | zero => intro w b s r d x h hl hn; omega
      | succ n => exact atom_step n (ih n (Nat.lt_succ_self _)).1
end Go.Proofs.YtbjabpodkaokjaaGreatDoor.Sx

namespace Go.Proofs.YtbjabpodkaokjaaGreatDoor.Sx
open Go.RowKit

abbrev zero3 : Obj := .cells #[.bool false, .bool false, .slice none 0 0] 87
/-- Three cells of block b hold nothing yet. -/
structure Z3 (w : World) (b : Nat) : Prop where
  c0 : w.cell? ⟨b, 0, none⟩ = some (.bool false)
  c1 : w.cell? ⟨b, 1, none⟩ = some (.bool false)
  c2 : w.cell? ⟨b, 2, none⟩ = some (.slice none 0 0)
  fz : ∀ o, w.frozen? ⟨b, o, none⟩ = false
theorem Z3.of_heap {w w' : World} {b : Nat} (h : Z3 w b) (hb : w'.heap[b]? = w.heap[b]?) : Z3 w' b := by
  have hc : ∀ o, w'.cell? ⟨b, o, none⟩ = w.cell? ⟨b, o, none⟩ := fun o => by simp [World.cell?, hb]
  have hf : ∀ o, w'.frozen? ⟨b, o, none⟩ = w.frozen? ⟨b, o, none⟩ := fun o => by simp [World.frozen?, hb]
  exact ⟨(hc _).trans h.c0, (hc _).trans h.c1, (hc _).trans h.c2, fun o => (hf o).trans (h.fz o)⟩
theorem new3 (w : World) : Z3 (w.alloc zero3) w.heap.size := by
  refine ⟨?_, ?_, ?_, fun o => ?_⟩ <;> simp [go_sem]

theorem St.at_end {w : World} {b : Nat} {s : ByteArray} {r : List UInt8} {d x : Int} (h : St w b s r d x) :
    ∃ k : Nat, k + r.length = s.size ∧ s.size ≤ 200 ∧ w.cell? ⟨b, 0, none⟩ = some (.string s) ∧ w.cell? ⟨b, 1, none⟩ = some (.int .i64 k) ∧ ((k : Int) == s.size) = r.isEmpty := by
  obtain ⟨⟨k, hr, hk, hs⟩, _, _, sz⟩ := h
  have hl : r.length = s.size - k := by rw [← hs, suf_len]
  refine ⟨k, by omega, sz, hr.c0, hr.c1, ?_⟩
  cases r with
  | nil => simp at hl; simp; omega
  | cons c t => simp at hl; simp; omega

abbrev ptnV (f k : Bool) (g0 : Option Addr) (n0 c0 : Nat) : Value := .agg #[.bool f, .bool k, .slice g0 n0 c0]

set_option maxHeartbeats 1000000 in
theorem pattern_1 (w : World) (b : Nat) (s : ByteArray) (r r1 r2 : List UInt8) (d x : Int) (X : Int → Prop) (tk : Bool) (h : St w b s r d x) (Q : World → World → Value → Prop) (ht : TakC b s d x 94 r r1 tk) (hc : ChsC b s r1 r2 d x X false Q) :
    Calls Tryz.prog 71 #[.pointer (some ⟨b, 0, none⟩)] w fun e w' => ∃ x', X x' ∧ e = .returned (.tuple #[ptnV false false none 0 0, .bool false]) ∧ StTo w w' b s r2 d x' := by
  have hne := h.ne
  have hlt := h.lt
  go_enter Tryz.func71, Tryz.ntmps71
  go_wp2_with (first | (go_at_call 122; refine (hc _ g1).mono ?_; rintro e w2 ⟨x', hX, ⟨g0, n0, c0, hq, rfl⟩, g2, hr2⟩; obtain ⟨d0, d1, d2, dz⟩ := (new3 w).of_heap ((hr1.trans hr2).block w.heap.size (by simp) hne)) | (go_at_call 121; refine (ht _ (h.alloc _)).mono ?_; rintro e w1 ⟨rfl, g1, hr1⟩))
  refine bodyPost_ret (v := .tuple #[ptnV false false none 0 0, .bool false]) ?_ rfl ?_
  · simp [results, Tryz.results71, go_sem, d0, d1, d2]
  · exact ⟨x', hX, rfl, (by (repeat first | (with_reducible refine St.setCell ?_ (by first | exact hlt | (simp; done) | (simp; omega)) _) | (with_reducible refine St.alloc ?_ _) | (with_reducible refine St.drew ?_) | (with_reducible refine St.drewN ?_ _)); exact g2), (by (repeat first | (with_reducible refine Rd.setNew ?_ (by first | exact Nat.le_refl _ | (simp; done) | (simp; omega)) _) | (with_reducible refine Rd.alloc ?_ _) | (with_reducible refine Rd.drew ?_) | (with_reducible refine Rd.drewN ?_ _)); exact (hr1.trans hr2).under)⟩

set_option maxHeartbeats 1000000 in
theorem pattern_2 (w : World) (b : Nat) (s : ByteArray) (r r1 r2 r3 : List UInt8) (d x x' : Int) (tk tk2 : Bool) (h : St w b s r d x) (Q : World → World → Value → Prop) (ht : TakC b s d x 94 r r1 tk) (hc : ChsC b s r1 r2 d x (fun y => y = x') true Q) (ht2 : TakC b s d x' 36 r2 r3 tk2) :
    Calls Tryz.prog 71 #[.pointer (some ⟨b, 0, none⟩)] w fun e w' => (∃ g0 n0 c0 w1 w2, Q w1 w2 (.slice g0 n0 c0) ∧ w.heap.size < w1.heap.size ∧ w2.heap.size ≤ w'.heap.size ∧ (∀ g, w.heap.size < g → g < w2.heap.size → g ≠ b → w'.heap[g]? = w2.heap[g]?) ∧ e = .returned (.tuple #[ptnV tk tk2 g0 n0 c0, .bool r3.isEmpty])) ∧ StTo w w' b s r3 d x' := by
  have hne := h.ne
  have hlt := h.lt
  go_enter Tryz.func71, Tryz.ntmps71
  go_wp2_with (first | (go_at_call 121; refine (ht2 _ g2).mono ?_; rintro e w3 ⟨rfl, g3, hr3⟩; obtain ⟨d0, d1, d2, dz⟩ := (new3 w).of_heap (((hr1.trans hr2).trans hr3).block w.heap.size (by simp) hne); obtain ⟨k, hkl, hs2, k0, k1, ke⟩ := g3.at_end) | (go_at_call 122; refine (hc _ g1).mono ?_; rintro e w2 ⟨x'', rfl, ⟨g0, n0, c0, hq, rfl⟩, g2, hr2⟩) | (go_at_call 121; refine (ht _ (h.alloc _)).mono ?_; rintro e w1 ⟨rfl, g1, hr1⟩))
  go_region
  all_goals
    go_wp2
    have hr := (hr1.trans hr2).trans hr3
    have hs1 := hr1.size
    simp only [World.size_alloc] at hs1
    refine bodyPost_ret (v := .tuple #[ptnV tk tk2 g0 n0 c0, .bool r3.isEmpty]) ?_ rfl ?_
    · simp [results, Tryz.results71, go_sem, d0, d1, d2]
    · refine ⟨⟨g0, n0, c0, w1, w2, hq, by omega, ?_, ?_, rfl⟩, (by (repeat first | (with_reducible refine St.setCell ?_ (by first | exact hlt | (simp; done) | (simp; omega)) _) | (with_reducible refine St.alloc ?_ _) | (with_reducible refine St.drew ?_) | (with_reducible refine St.drewN ?_ _)); exact g3), (by (repeat first | (with_reducible refine Rd.setNew ?_ (by first | exact Nat.le_refl _ | (simp; done) | (simp; omega)) _) | (with_reducible refine Rd.alloc ?_ _) | (with_reducible refine Rd.drew ?_) | (with_reducible refine Rd.drewN ?_ _)); exact hr.under)⟩
      · have := hr3.size; simpa [World.setCell] using this
      · intro g hg hg2 hgb
        show (World.setCell _ _ _).heap[g]? = _
        (repeat rw [Below.heap_setCell _ _ _ _ (by simp; omega)])
        exact hr3.block g hg2 hgb

/-- What a reading of a whole pattern leaves. -/
def PtnRes (w w' : World) (b : Nat) (s : ByteArray) (d x : Int) (e : Ending) : Res Ptn → Prop
  | .ok p r => (∃ g0 n0 c0, RepCs w' (From w.heap.size w') p.choices (.slice g0 n0 c0) ∧ e = .returned (.tuple #[ptnV p.front p.back g0 n0 c0, .bool true])) ∧ StTo w w' b s r d (up x d (nestCs p.choices))
  | .bad r => ∃ x', (∃ f k g0 n0 c0, e = .returned (.tuple #[ptnV f k g0 n0 c0, .bool false])) ∧ StTo w w' b s r d x'

/-- A whole pattern, read. -/
def readP (l : List UInt8) : Res Ptn := match pChoices (4 * (tkR 94 l).length + 4) (tkR 94 l) with
  | .bad r' => .bad r'
  | .ok cs r' => if (tkR 36 r').isEmpty then .ok ⟨tkB 94 l, tkB 36 r', cs⟩ [] else .bad (tkR 36 r')

theorem pattern_any (w : World) (b : Nat) (s : ByteArray) (r : List UInt8) (d x : Int) (h : St w b s r d x) (hl : Lim d x r) :
    Calls Tryz.prog 71 #[.pointer (some ⟨b, 0, none⟩)] w fun e w' => PtnRes w w' b s d x e (readP r) := by
  have hlt := h.lt
  have ht := take_any b s d x 94 r
  have hlen : (tkR 94 r).length ≤ r.length := by
    match r with
    | [] => exact Nat.le_refl _
    | a :: t => simp only [tkR]; split <;> simp
  obtain ⟨d0, dr, dx, x1⟩ := hl
  have hk := fun w hw => (all_K (4 * (tkR 94 r).length + 4)).1 w b s (tkR 94 r) d x hw ⟨d0, by omega, dx, x1⟩ (Nat.le_refl _)
  cases hR : pChoices (4 * (tkR 94 r).length + 4) (tkR 94 r) with
  | bad r2 =>
    have hP : readP r = .bad r2 := by simp only [readP, hR]
    rw [hP]
    refine (pattern_1 w b s r _ r2 d x (fun _ => True) _ h (fun _ _ _ => True) ht (fun w hw => (hk w hw).mono fun e w' g => ?_)).mono fun e w' g => ?_
    · rw [hR] at g; obtain ⟨x', he, g⟩ := g; exact ⟨x', trivial, ⟨_, _, _, trivial, he⟩, g⟩
    · obtain ⟨x', -, he, g⟩ := g; exact ⟨x', ⟨_, _, _, _, _, he⟩, g⟩
  | ok cs r2 =>
    have ht2 := take_any b s d (up x d (nestCs cs)) 36 r2
    refine (pattern_2 w b s r _ r2 _ d x (up x d (nestCs cs)) _ _ h (fun w w' v => RepCs w' (From w.heap.size w') cs v) ht (fun w hw => (hk w hw).mono fun e w' g => ?_) ht2).mono fun e w' g => ?_
    · rw [hR] at g; obtain ⟨⟨g0, n0, c0, hq, he⟩, g⟩ := g; exact ⟨_, rfl, ⟨g0, n0, c0, hq, he⟩, g⟩
    · obtain ⟨⟨g0, n0, c0, w1, w2, hq, hz1, hz2, hh, he⟩, g⟩ := g
      cases hE : (tkR 36 r2).isEmpty with
      | false =>
        rw [hE] at he
        have hP : readP r = .bad (tkR 36 r2) := by simp only [readP, hR, hE, Bool.false_eq_true, if_false]
        rw [hP]
        exact ⟨_, ⟨_, _, _, _, _, he⟩, g⟩
      | true =>
        rw [hE] at he
        have e0 : tkR 36 r2 = [] := by simpa using hE
        have hP : readP r = .ok ⟨tkB 94 r, tkB 36 r2, cs⟩ [] := by simp only [readP, hR, hE, if_true]
        rw [hP]
        rw [e0] at g
        refine ⟨⟨g0, n0, c0, hq.of_heap (fun j hj hlt' => ?_), he⟩, g⟩
        have := hj.1
        exact ⟨⟨by omega, by omega⟩, hh j (by omega) hlt' (by omega)⟩
end Go.Proofs.YtbjabpodkaokjaaGreatDoor.Sx

namespace Go.Proofs.YtbjabpodkaokjaaGreatDoor.Sx
open Go.RowKit

abbrev rdObj (s : ByteArray) : Obj := .cells #[.string s, .int .i64 0, .int .i64 0, .int .i64 0] 138
theorem newReader (w : World) (s : ByteArray) (hT : Tabs w) (hs : s.size ≤ 200) : St ((w.alloc zero3).alloc (rdObj s)) (w.heap.size + 1) s s.data.toList 0 0 := by
  have hlt := hT.lt
  refine ⟨⟨0, ⟨?_, ?_, ?_, ?_, ?_, ?_⟩, Nat.zero_le _, by simp [suf]⟩, hT.of_block (fun k hk => ?_), by omega, hs⟩
  · simp [go_sem]
  · simp [go_sem]
  · simp [go_sem]
  · simp [go_sem]
  · intro o; simp [go_sem]
  · simp
  · rw [Below.heap_alloc _ _ _ (by simp; omega), Below.heap_alloc _ _ _ (by omega)]

set_option maxHeartbeats 1000000 in
theorem read_long (w : World) (s : ByteArray) (hs : s.size ≤ maxLen) (h : 200 < s.size) :
    Calls Tryz.prog 40 #[.string s] w fun e w' => e = .returned (.tuple #[ptnV false false none 0 0, .int .i64 4, .int .i64 0]) ∧ Below w.heap.size w w' := by
  unfold maxLen at hs
  go_enter Tryz.func40, Tryz.ntmps40
  go_wp2
  refine bodyPost_ret (v := .tuple #[ptnV false false none 0 0, .int .i64 4, .int .i64 0]) ?_ rfl ⟨rfl, (by (repeat refine Below.setCell ?_ (by first | (simp; done) | (simp; omega)) _); (repeat refine Below.alloc ?_ (by first | (simp; done) | (simp; omega)) _); exact Below.refl _ _)⟩
  simp [results, Tryz.results40, go_sem]

abbrev PtC (b : Nat) (s : ByteArray) (r r' : List UInt8) (d x : Int) (X : Int → Prop) (ok : Bool) (Q : World → World → Bool → Bool → Value → Prop) : Prop :=
  ∀ w, St w b s r d x → Calls Tryz.prog 71 #[.pointer (some ⟨b, 0, none⟩)] w fun e w' => ∃ x', X x' ∧ (∃ f k g0 n0 c0, Q w w' f k (.slice g0 n0 c0) ∧ e = .returned (.tuple #[ptnV f k g0 n0 c0, .bool ok])) ∧ StTo w w' b s r' d x'

theorem below_of_rd {w w1 : World} {o1 o2 : Obj} (h : Rd (w.heap.size + 1) ((w.alloc o1).alloc o2) w1) : Below w.heap.size w w1 :=
  ⟨h.os, h.tape, h.output, by have := h.size; simp at this; omega, fun k hk => (h.block k (by simp; omega) (by omega)).trans (by rw [Below.heap_alloc _ _ _ (by simp; omega), Below.heap_alloc _ _ _ hk])⟩

set_option maxHeartbeats 1000000 in
theorem read_bad (w : World) (s : ByteArray) (hT : Tabs w) (hs : s.size ≤ 200) (r' : List UInt8) (X : Int → Prop) (Q : World → World → Bool → Bool → Value → Prop)
    (hp : PtC (w.heap.size + 1) s s.data.toList r' 0 0 X false Q) :
    Calls Tryz.prog 40 #[.string s] w fun e w' => e = .returned (.tuple #[ptnV false false none 0 0, .int .i64 3, .int .i64 ((s.size - r'.length : Nat) : Int)]) ∧ Below w.heap.size w w' := by
  have h0 := newReader w s hT hs
  have H0 : Hid (St ((w.alloc zero3).alloc (rdObj s)) (w.heap.size + 1) s s.data.toList 0 0) := h0
  clear h0
  go_enter Tryz.func40, Tryz.ntmps40
  go_wp2_with (go_at_call 71; refine (hp _ H0.out).mono ?_; rintro e w1 ⟨x', hX, ⟨f, kb, g0, n0, c0, hq, rfl⟩, g1, hr1⟩; obtain ⟨d0, d1, d2, dz⟩ := (new3 w).of_heap (w' := w1) ((hr1.block w.heap.size (by simp; omega) (by omega)).trans (Below.heap_alloc _ _ _ (by simp))); obtain ⟨k, hkl, hs2, k0, k1, ke⟩ := g1.at_end; have hz1 : w.heap.size + 1 < w1.heap.size := (by have := hr1.size; simp at this; omega); have hz0 : w.heap.size < w1.heap.size := (by omega))
  go_region
  all_goals
    go_wp2
    have ek : s.size - r'.length = k := by omega
    refine bodyPost_ret (v := .tuple #[ptnV false false none 0 0, .int .i64 3, .int .i64 ((s.size - r'.length : Nat) : Int)]) ?_ rfl ⟨rfl, ?_⟩
    · rw [ek]; simp [results, Tryz.results40, go_sem, d0, d1, d2, hz0]
    · have hb := below_of_rd hr1
      exact (by (repeat first | (with_reducible refine Below.setCell ?_ (by first | exact Nat.le_refl _ | (simp; done) | (simp; omega)) _) | (with_reducible refine Below.alloc ?_ (by first | omega | (simp; done) | (simp; omega)) _) | (with_reducible refine Below.drew ?_)); exact hb)

set_option maxHeartbeats 1000000 in
theorem read_deep (w : World) (s : ByteArray) (hT : Tabs w) (hs : s.size ≤ 200) (r' : List UInt8) (x' : Int) (Q : World → World → Bool → Bool → Value → Prop) (hx : 20 < x')
    (hp : PtC (w.heap.size + 1) s s.data.toList r' 0 0 (fun y => y = x') true Q) :
    Calls Tryz.prog 40 #[.string s] w fun e w' => e = .returned (.tuple #[ptnV false false none 0 0, .int .i64 4, .int .i64 0]) ∧ Below w.heap.size w w' := by
  have h0 := newReader w s hT hs
  have H0 : Hid (St ((w.alloc zero3).alloc (rdObj s)) (w.heap.size + 1) s s.data.toList 0 0) := h0
  clear h0
  go_enter Tryz.func40, Tryz.ntmps40
  go_wp2_with (go_at_call 71; refine (hp _ H0.out).mono ?_; rintro e w1 ⟨y, rfl, ⟨f, kb, g0, n0, c0, hq, rfl⟩, g1, hr1⟩; obtain ⟨d0, d1, d2, dz⟩ := (new3 w).of_heap (w' := w1) ((hr1.block w.heap.size (by simp; omega) (by omega)).trans (Below.heap_alloc _ _ _ (by simp))); obtain ⟨k2, k3, kf⟩ := g1.cells; have hz1 : w.heap.size + 1 < w1.heap.size := (by have := hr1.size; simp at this; omega); have hz0 : w.heap.size < w1.heap.size := (by omega))
  refine bodyPost_ret (v := .tuple #[ptnV false false none 0 0, .int .i64 4, .int .i64 0]) ?_ rfl ⟨rfl, ?_⟩
  · simp [results, Tryz.results40, go_sem, d0, d1, d2, hz0]
  · have hb := below_of_rd hr1
    exact (by (repeat first | (with_reducible refine Below.setCell ?_ (by first | exact Nat.le_refl _ | (simp; done) | (simp; omega)) _) | (with_reducible refine Below.alloc ?_ (by first | omega | (simp; done) | (simp; omega)) _) | (with_reducible refine Below.drew ?_)); exact hb)

set_option maxHeartbeats 1000000 in
theorem read_ok (w : World) (s : ByteArray) (hT : Tabs w) (hs : s.size ≤ 200) (r' : List UInt8) (x' : Int) (Q : World → World → Bool → Bool → Value → Prop) (hx : ¬ 20 < x')
    (hp : PtC (w.heap.size + 1) s s.data.toList r' 0 0 (fun y => y = x') true Q) :
    Calls Tryz.prog 40 #[.string s] w fun e w' => (∃ f k g0 n0 c0 w1 w2, Q w1 w2 f k (.slice g0 n0 c0) ∧ w1.heap.size = w.heap.size + 2 ∧ w2.heap.size ≤ w'.heap.size ∧ (∀ g, w.heap.size + 2 ≤ g → g < w2.heap.size → w'.heap[g]? = w2.heap[g]?) ∧ e = .returned (.tuple #[ptnV f k g0 n0 c0, .int .i64 0, .int .i64 0])) ∧ Below w.heap.size w w' := by
  have h0 := newReader w s hT hs
  have H0 : Hid (St ((w.alloc zero3).alloc (rdObj s)) (w.heap.size + 1) s s.data.toList 0 0) := h0
  clear h0
  go_enter Tryz.func40, Tryz.ntmps40
  go_wp2_with (go_at_call 71; refine (hp _ H0.out).mono ?_; rintro e w1 ⟨y, rfl, ⟨f, kb, g0, n0, c0, hq, rfl⟩, g1, hr1⟩; obtain ⟨d0, d1, d2, dz⟩ := (new3 w).of_heap (w' := w1) ((hr1.block w.heap.size (by simp; omega) (by omega)).trans (Below.heap_alloc _ _ _ (by simp))); obtain ⟨k2, k3, kf⟩ := g1.cells; have hz1 : w.heap.size + 1 < w1.heap.size := (by have := hr1.size; simp at this; omega); have hz0 : w.heap.size < w1.heap.size := (by omega))
  refine bodyPost_ret (v := .tuple #[ptnV f kb g0 n0 c0, .int .i64 0, .int .i64 0]) ?_ rfl ⟨⟨f, kb, g0, n0, c0, _, w1, hq, by simp, ?_, ?_, rfl⟩, ?_⟩
  · simp [results, Tryz.results40, go_sem, d0, d1, d2, hz0]
  · simp [World.setCell]
  · intro g hg hg2
    repeat (first | rw [Below.heap_alloc _ _ _ (by simp; omega)] | rw [Below.heap_setCell _ _ _ _ (by simp; omega)])
  · have hb := below_of_rd hr1
    exact (by (repeat first | (with_reducible refine Below.setCell ?_ (by first | exact Nat.le_refl _ | (simp; done) | (simp; omega)) _) | (with_reducible refine Below.alloc ?_ (by first | omega | (simp; done) | (simp; omega)) _) | (with_reducible refine Below.drew ?_)); exact hb)

/-- What Read answers. -/
def ReadRes (w w' : World) (s : ByteArray) (e : Ending) : Prop :=
  (200 < s.size ∧ e = .returned (.tuple #[ptnV false false none 0 0, .int .i64 4, .int .i64 0])) ∨
  (s.size ≤ 200 ∧ (∃ r', readP s.data.toList = .bad r' ∧ e = .returned (.tuple #[ptnV false false none 0 0, .int .i64 3, .int .i64 ((s.size - r'.length : Nat) : Int)]))) ∨
  (s.size ≤ 200 ∧ ∃ p, readP s.data.toList = .ok p [] ∧ 20 < nestCs p.choices ∧ e = .returned (.tuple #[ptnV false false none 0 0, .int .i64 4, .int .i64 0])) ∨
  (s.size ≤ 200 ∧ ∃ p, readP s.data.toList = .ok p [] ∧ nestCs p.choices ≤ 20 ∧ ∃ g0 n0 c0, RepCs w' (From w.heap.size w') p.choices (.slice g0 n0 c0) ∧ e = .returned (.tuple #[ptnV p.front p.back g0 n0 c0, .int .i64 0, .int .i64 0]))

theorem readP_rest {l : List UInt8} {p : Ptn} {r : List UInt8} (h : readP l = .ok p r) : r = [] := by
  unfold readP at h
  split at h
  · simp at h
  · split at h
    · injection h with _ e; exact e.symm
    · simp at h

theorem read_any (w : World) (s : ByteArray) (hT : Tabs w) (hs : s.size ≤ maxLen) :
    Calls Tryz.prog 40 #[.string s] w fun e w' => ReadRes w w' s e ∧ Below w.heap.size w w' := by
  by_cases h2 : 200 < s.size
  · exact (read_long w s hs h2).mono fun e w' g => ⟨.inl ⟨h2, g.1⟩, g.2⟩
  · have h2' : s.size ≤ 200 := by omega
    have hl : Lim 0 0 s.data.toList := ⟨by omega, by simp; omega, by omega, by omega⟩
    have hp := fun w' hw => pattern_any w' (w.heap.size + 1) s s.data.toList 0 0 hw hl
    cases hR : readP s.data.toList with
    | bad r' =>
      refine (read_bad w s hT h2' r' (fun _ => True) (fun _ _ _ _ _ => True) (fun w' hw => (hp w' hw).mono fun e w'' g => ?_)).mono fun e w' g => ⟨.inr (.inl ⟨h2', r', hR, g.1⟩), g.2⟩
      rw [hR] at g; obtain ⟨x', ⟨f, k, g0, n0, c0, he⟩, g⟩ := g; exact ⟨x', trivial, ⟨f, k, g0, n0, c0, trivial, he⟩, g⟩
    | ok p r' =>
      obtain rfl := readP_rest hR
      have hu : up 0 0 (nestCs p.choices) = nestCs p.choices := by unfold up; omega
      have hpc : PtC (w.heap.size + 1) s s.data.toList [] 0 0 (fun y => y = ((nestCs p.choices : Nat) : Int)) true (fun w w' f k v => f = p.front ∧ k = p.back ∧ RepCs w' (From w.heap.size w') p.choices v) := fun w' hw => (hp w' hw).mono fun e w'' g => by
        rw [hR] at g
        obtain ⟨⟨g0, n0, c0, hq, he⟩, g⟩ := g
        exact ⟨_, hu, ⟨_, _, g0, n0, c0, ⟨rfl, rfl, hq⟩, he⟩, g⟩
      by_cases hx : 20 < nestCs p.choices
      · exact (read_deep w s hT h2' [] _ _ (by omega) hpc).mono fun e w' g => ⟨.inr (.inr (.inl ⟨h2', p, hR, hx, g.1⟩)), g.2⟩
      · refine (read_ok w s hT h2' [] _ _ (by omega) hpc).mono fun e w' g => ⟨.inr (.inr (.inr ⟨h2', p, hR, by omega, ?_⟩)), g.2⟩
        obtain ⟨⟨f, k, g0, n0, c0, w1, w2, ⟨rfl, rfl, hq⟩, hz1, hz2, hh, he⟩, -⟩ := g
        refine ⟨g0, n0, c0, hq.of_heap (fun j hj hlt' => ?_), he⟩
        have := hj.1
        exact ⟨⟨by omega, by omega⟩, hh j (by omega) hlt'⟩

end Go.Proofs.YtbjabpodkaokjaaGreatDoor.Sx
