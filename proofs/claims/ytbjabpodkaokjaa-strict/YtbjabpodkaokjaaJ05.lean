import Derived.Test.YtbjabpodkaokjaaJ04
set_option linter.unusedVariables false
set_option linter.unusedSimpArgs false
namespace Go.Proofs.Ytbjabpodkaokjaa
open Go.RowKit

/-- An automaton in block g. -/
structure Au (w : World) (g : Nat) (f b : Bool) (s : Int) (cf : Nat → Int) (S : Nat → Bool) (v : Value) : Prop where
  c0 : w.cell? ⟨g, 0, none⟩ = some (.bool f)
  c1 : w.cell? ⟨g, 1, none⟩ = some (.bool b)
  c2 : w.cell? ⟨g, 2, none⟩ = some (.int .u8 s)
  cl : ∀ j, j < 256 → w.cell? ⟨g, 3 + j, none⟩ = some (.int .u8 (cf j))
  st : ∃ x0 x1 x2 x3, SetAt w g 259 S x0 x1 x2 x3
  cn : w.cell? ⟨g, 263, none⟩ = some v
theorem Au.fz {w : World} {g : Nat} {f b : Bool} {s : Int} {cf : Nat → Int} {S : Nat → Bool} {v : Value} (h : Au w g f b s cf S v) (o : Nat) : w.frozen? ⟨g, o, none⟩ = false := by
  obtain ⟨x0, x1, x2, x3, h⟩ := h.st
  exact h.fz o
theorem Au.lt {w : World} {g : Nat} {f b : Bool} {s : Int} {cf : Nat → Int} {S : Nat → Bool} {v : Value} (h : Au w g f b s cf S v) : g < w.heap.size := cell_lt h.c0
theorem Au.of_block {w w' : World} {g : Nat} {f b : Bool} {s : Int} {cf : Nat → Int} {S : Nat → Bool} {v : Value} (h : Au w g f b s cf S v) (e : w'.heap[g]? = w.heap[g]?) : Au w' g f b s cf S v := by
  have hc : ∀ o, w'.cell? ⟨g, o, none⟩ = w.cell? ⟨g, o, none⟩ := fun o => by simp [World.cell?, e]
  have hf : ∀ o, w'.frozen? ⟨g, o, none⟩ = w.frozen? ⟨g, o, none⟩ := fun o => by simp [World.frozen?, e]
  obtain ⟨c0, c1, c2, cl, ⟨x0, x1, x2, x3, ⟨wd, d0, d1, d2, d3, fz⟩⟩, cn⟩ := h
  exact ⟨(hc _).trans c0, (hc _).trans c1, (hc _).trans c2, fun j hj => (hc _).trans (cl j hj), ⟨x0, x1, x2, x3, ⟨wd, (hc _).trans d0, (hc _).trans d1, (hc _).trans d2, (hc _).trans d3, fun o => (hf o).trans (fz o)⟩⟩, (hc _).trans cn⟩
theorem Au.four {w w' : World} {g : Nat} {f b : Bool} {s : Int} {cf : Nat → Int} {S S' : Nat → Bool} {v : Value} (h : Au w g f b s cf S v) (h4 : Four g 259 w w') (hs : ∃ x0 x1 x2 x3, SetAt w' g 259 S' x0 x1 x2 x3) : Au w' g f b s cf S' v := by
  obtain ⟨c0, c1, c2, cl, _, cn⟩ := h
  exact ⟨(h4.cell _ (by omega)).trans c0, (h4.cell _ (by omega)).trans c1, (h4.cell _ (by omega)).trans c2, fun j hj => (h4.cell _ (by omega)).trans (cl j hj), hs, (h4.cell _ (by omega)).trans cn⟩
theorem Au.set {w : World} {g : Nat} {f b : Bool} {s : Int} {cf : Nat → Int} {S S' : Nat → Bool} {v : Value} (h : Au w g f b s cf S v) (e : ∀ n, n < 256 → S n = S' n) : Au w g f b s cf S' v := by
  obtain ⟨c0, c1, c2, cl, ⟨x0, x1, x2, x3, h⟩, cn⟩ := h
  obtain ⟨⟨l0, l1, l2, l3, b0, b1, b2, b3⟩, d0, d1, d2, d3, fz⟩ := h
  exact ⟨c0, c1, c2, cl, ⟨x0, x1, x2, x3, ⟨⟨l0, l1, l2, l3, fun n hn => (b0 n hn).trans (e _ (by omega)), fun n hn => (b1 n hn).trans (e _ (by omega)), fun n hn => (b2 n hn).trans (e _ (by omega)), fun n hn => (b3 n hn).trans (e _ (by omega))⟩, d0, d1, d2, d3, fz⟩⟩, cn⟩
theorem auA_get3 (f b : Bool) (s : Int) (v : Value) (j : Nat) (hj : j < 256) : (auA f b s v)[3 + j]? = some (.int .u8 0) := by
  simp only [auA, List.getElem?_toArray]
  rw [List.append_assoc, List.append_assoc, List.getElem?_append_right (by simp), List.getElem?_append_left (by rw [rg_len]; simp; omega)]
  exact rg_get _ _ _ (by simp; omega)
theorem auA_get4 (f b : Bool) (s : Int) (v : Value) (j : Nat) (hj : j < 4) : (auA f b s v)[259 + j]? = some (.int .u64 0) := by
  simp only [auA, List.getElem?_toArray]
  rw [List.append_assoc, List.getElem?_append_right (by rw [List.length_append, rg_len]; first | (simp; done) | (simp; omega)), List.getElem?_append_left (by rw [List.length_append, rg_len, rg_len]; simp; omega)]
  exact rg_get _ _ _ (by rw [List.length_append, rg_len]; simp; omega)
theorem auA_get5 (f b : Bool) (s : Int) (v : Value) : (auA f b s v)[263]? = some v := by
  simp only [auA, List.getElem?_toArray]
  rw [List.getElem?_append_right (by rw [List.length_append, List.length_append, rg_len, rg_len]; simp)]
  rw [List.length_append, List.length_append, rg_len, rg_len]; simp
theorem auA_get0 (f b : Bool) (s : Int) (v : Value) : (auA f b s v)[0]? = some (.bool f) ∧ (auA f b s v)[1]? = some (.bool b) ∧ (auA f b s v)[2]? = some (.int .u8 s) := by
  simp only [auA, List.getElem?_toArray, List.cons_append, List.getElem?_cons_zero, List.getElem?_cons_succ, and_self]
theorem Au.new (w : World) (f b : Bool) (s : Int) (v : Value) : Au (w.alloc (.cells (auA f b s v) 78)) w.heap.size f b s (fun _ => 0) (fun _ => false) v := by
  have hc : ∀ o, (w.alloc (.cells (auA f b s v) 78)).cell? ⟨w.heap.size, o, none⟩ = (auA f b s v)[o]? := fun o => World.cell?_alloc_at _ _ _ _ rfl
  refine ⟨?_, ?_, ?_, fun j hj => ?_, ⟨0, 0, 0, 0, ⟨⟨by omega, by omega, by omega, by omega, by simp, by simp, by simp, by simp⟩, ?_, ?_, ?_, ?_, fun o => by simp [go_sem]⟩⟩, ?_⟩ <;> rw [hc]
  · exact (auA_get0 f b s v).1
  · exact (auA_get0 f b s v).2.1
  · exact (auA_get0 f b s v).2.2
  · exact auA_get3 f b s v j hj
  · exact auA_get4 f b s v 0 (by omega)
  · exact auA_get4 f b s v 1 (by omega)
  · exact auA_get4 f b s v 2 (by omega)
  · exact auA_get4 f b s v 3 (by omega)
  · exact auA_get5 f b s v
theorem cell_setCells (b : Nat) : ∀ (vs : List Value) (o : Nat) (w : World) (p : Nat), (∀ j, j < vs.length → (w.cell? ⟨b, o + j, none⟩).isSome = true) →
    (w.setCells b o vs).cell? ⟨b, p, none⟩ = if o ≤ p ∧ p < o + vs.length then vs[p - o]? else w.cell? ⟨b, p, none⟩
  | [], o, w, p, _ => by rw [if_neg (by simp)]; rfl
  | v :: r, o, w, p, h => by
    have h0 := h 0 (by simp)
    obtain ⟨u, hu⟩ := Option.isSome_iff_exists.1 h0
    have hu' : w.cell? ⟨b, o, none⟩ = some u := hu
    simp only [World.setCells]
    rw [cell_setCells b r (o + 1) _ p (fun j hj => by
      have := h (j + 1) (by simpa using hj)
      rw [World.cell?_setCell_other _ _ _ _ (by first | (simp; done) | (simp; omega))]
      rw [show o + 1 + j = o + (j + 1) by omega]; exact this)]
    by_cases e : p = o
    · subst e
      rw [if_neg (by omega), if_pos (by simp), World.cell?_setCell_same _ _ _ hu']
      simp
    · by_cases h2 : o + 1 ≤ p ∧ p < o + 1 + r.length
      · rw [if_pos h2, if_pos (by simp; omega), show p - o = (p - (o + 1)) + 1 by omega]; rfl
      · rw [if_neg h2, if_neg (by simp; omega), World.cell?_setCell_other _ _ _ _ (by first | (simp; done) | (simp; omega))]
theorem frozen_setCells (b : Nat) (q : Addr) : ∀ (vs : List Value) (o : Nat) (w : World), (w.setCells b o vs).frozen? q = w.frozen? q
  | [], _, _ => rfl
  | v :: r, o, w => by simp only [World.setCells]; rw [frozen_setCells b q r (o + 1)]; simp
theorem Au.cls {w : World} {g : Nat} {f b : Bool} {s : Int} {cf : Nat → Int} {S : Nat → Bool} {v : Value} (h : Au w g f b s cf S v) (l : List UInt8) (hl : l.length = 256) :
    Au (w.setCells g 3 (l.map fun x => Value.int .u8 (x.toNat : Int))) g f b s (fun j => ((l[j]?.getD 0).toNat : Int)) S v := by
  have hs : ∀ j, j < (l.map fun x => Value.int .u8 (x.toNat : Int)).length → (w.cell? ⟨g, 3 + j, none⟩).isSome = true := fun j hj => by rw [h.cl j (by simpa [hl] using hj)]; rfl
  have hc := fun p => cell_setCells g _ 3 w p hs
  have hne : ∀ p, (p < 3 ∨ 259 ≤ p) → (w.setCells g 3 (l.map fun x => Value.int .u8 (x.toNat : Int))).cell? ⟨g, p, none⟩ = w.cell? ⟨g, p, none⟩ := fun p hp => by rw [hc, if_neg (by simp [hl]; omega)]
  obtain ⟨c0, c1, c2, cl, ⟨x0, x1, x2, x3, ⟨wd, d0, d1, d2, d3, fz⟩⟩, cn⟩ := h
  refine ⟨(hne _ (by omega)).trans c0, (hne _ (by omega)).trans c1, (hne _ (by omega)).trans c2, fun j hj => ?_, ⟨x0, x1, x2, x3, ⟨wd, (hne _ (by omega)).trans d0, (hne _ (by omega)).trans d1, (hne _ (by omega)).trans d2, (hne _ (by omega)).trans d3, fun o => (frozen_setCells _ _ _ _ _).trans (fz o)⟩⟩, (hne _ (by omega)).trans cn⟩
  rw [hc, if_pos (by simp [hl]; omega)]
  have : j < l.length := by omega
  simp [this]
theorem heap_setCells {b k : Nat} (hk : k ≠ b) : ∀ (vs : List Value) (o : Nat) (w : World), (w.setCells b o vs).heap[k]? = w.heap[k]?
  | [], _, _ => rfl
  | v :: r, o, w => by simp only [World.setCells]; rw [heap_setCells hk r (o + 1)]; exact Below.heap_setCell _ _ _ _ hk
/-- A list of the call's own in a block from lo on. -/
def RowN {α : Type} (lo : Nat) (enc : α → Value) (w : World) (v : Value) (l : List α) : Prop :=
  ∃ g, v = .slice (some ⟨g, 0, none⟩) l.length l.length ∧ lo ≤ g ∧ g < w.heap.size ∧ (∀ j (hj : j < l.length), w.cell? ⟨g, j, none⟩ = some (enc l[j])) ∧ ∀ o, w.frozen? ⟨g, o, none⟩ = false
/-- What lies from lo on lies as it lay. -/
structure Hi (lo : Nat) (w w' : World) : Prop where
  size : w.heap.size ≤ w'.heap.size
  block : ∀ k, lo ≤ k → k < w.heap.size → w'.heap[k]? = w.heap[k]?
theorem Hi.refl (lo : Nat) (w : World) : Hi lo w w := ⟨Nat.le_refl _, fun _ _ _ => rfl⟩
theorem Hi.trans {lo : Nat} {x y z : World} (h : Hi lo x y) (k : Hi lo y z) : Hi lo x z := ⟨Nat.le_trans h.size k.size, fun j h1 h2 => (k.block j h1 (Nat.lt_of_lt_of_le h2 h.size)).trans (h.block j h1 h2)⟩
theorem Hi.of_below {lo : Nat} {w w' : World} (h : Below w.heap.size w w') : Hi lo w w' := ⟨h.size, fun k _ h2 => h.block k h2⟩
theorem Hi.setCell {lo : Nat} {w w' : World} (h : Hi lo w w') {b : Nat} (hb : b < lo) (o : Nat) (v : Value) : Hi lo w (w'.setCell ⟨b, o, none⟩ v) := h.trans ⟨by simp [World.setCell], fun k h1 _ => Below.heap_setCell _ _ _ _ (by simp only; omega)⟩
theorem Hi.four {lo : Nat} {w w' w2 : World} (h : Hi lo w w') {b off : Nat} (hb : b < lo) (h4 : Four b off w' w2) : Hi lo w w2 := h.trans ⟨h4.size, fun k h1 h2 => h4.block k h2 (by omega)⟩
theorem Hi.drew {lo : Nat} {w w' : World} (h : Hi lo w w') : Hi lo w w'.drew := ⟨h.size, h.block⟩
theorem Hi.drewN {lo : Nat} {w w' : World} (h : Hi lo w w') (n : Nat) : Hi lo w (w'.drewN n) := ⟨h.size, h.block⟩
theorem Hi.alloc {lo : Nat} {w w' : World} (h : Hi lo w w') (o : Obj) : Hi lo w (w'.alloc o) := h.trans ⟨by simp, fun k _ hk => Below.heap_alloc _ _ _ hk⟩
theorem RowN.keep {α : Type} {lo : Nat} {enc : α → Value} {w w' : World} {v : Value} {l : List α} (h : RowN lo enc w v l) (k : Hi lo w w') : RowN lo enc w' v l := by
  obtain ⟨g, h1, h2, h3, h4, h5⟩ := h
  have e := k.block g h2 h3
  exact ⟨g, h1, h2, Nat.lt_of_lt_of_le h3 k.size, fun j hj => by have := h4 j hj; simp only [World.cell?] at this ⊢; rw [e]; exact this, fun o => by have := h5 o; simp only [World.frozen?] at this ⊢; rw [e]; exact this⟩
theorem RowN.of_nw {α : Type} {lo : Nat} {enc : α → Value} {w : World} {g : Nat} {l : List α} {f : Nat → Value} (h : Nw w g l.length f) (hlo : lo ≤ g) (hg : g < w.heap.size) (e : ∀ j (hj : j < l.length), f j = enc l[j]) : RowN lo enc w (.slice (some ⟨g, 0, none⟩) l.length l.length) l :=
  ⟨g, rfl, hlo, hg, fun j hj => by rw [h.c j hj, e j hj], h.fz⟩
theorem RowN.row {α : Type} {lo : Nat} {enc : α → Value} {w : World} {v : Value} {l : List α} (h : RowN lo enc w v l) : RowE enc w v l := by
  obtain ⟨g, rfl, h2, h3, h4, h5⟩ := h
  exact .inr ⟨g, 0, _, rfl, fun j hj => by rw [Nat.zero_add]; exact h4 j hj⟩
/-- A table's automaton. -/
structure AuIn (w : World) (g : Nat) (t : Tb) : Prop where
  au : ∃ S v, Au w g t.front t.back t.start (fun j => ((t.cls[j]?.getD 0).toNat : Int)) S v ∧ (∀ j, j < 256 → S j = (t.acc[j]?.getD false)) ∧ RowsE e8 w v t.next
theorem AuIn.below {w w' : World} {g : Nat} {t : Tb} (h : AuIn w g t) (hb : Below w.heap.size w w') : AuIn w' g t := by
  obtain ⟨S, v, h1, h2, h3⟩ := h.au
  exact ⟨S, v, h1.of_block (hb.block g h1.lt), h2, h3.below hb⟩
end Go.Proofs.Ytbjabpodkaokjaa
