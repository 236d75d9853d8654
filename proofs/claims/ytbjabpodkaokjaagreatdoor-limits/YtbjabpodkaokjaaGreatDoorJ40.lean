import Derived.Test.YtbjabpodkaokjaaGreatDoorJ39
set_option linter.unusedVariables false
set_option linter.unusedSimpArgs false
namespace Go.Proofs.YtbjabpodkaokjaaGreatDoor
open Go.RowKit

/-- The whole piece is stored. -/
def P9 (w : World) (q : Nat) (p : Pc) : World := ((((((((w.setCell ⟨q, 2, none⟩ (.int .u64 (p.first.x0 : Int))).setCell ⟨q, 3, none⟩ (.int .u64 (p.first.x1 : Int))).setCell ⟨q, 4, none⟩ (.int .u64 (p.first.x2 : Int))).setCell ⟨q, 5, none⟩ (.int .u64 (p.first.x3 : Int))).setCell ⟨q, 6, none⟩ (.int .u64 (p.last.x0 : Int))).setCell ⟨q, 7, none⟩ (.int .u64 (p.last.x1 : Int))).setCell ⟨q, 8, none⟩ (.int .u64 (p.last.x2 : Int))).setCell ⟨q, 9, none⟩ (.int .u64 (p.last.x3 : Int))).setCell ⟨q, 10, none⟩ (.bool p.empty)
theorem set_two {w : World} {q o o' : Nat} {v : Value} (h : o ≠ o') : (w.setCell ⟨q, o, none⟩ v).cell? ⟨q, o', none⟩ = w.cell? ⟨q, o', none⟩ := by simp [go_sem, h, Ne.symm h]
theorem set_one {w : World} {q o : Nat} {v : Value} (h : ∃ y, w.cell? ⟨q, o, none⟩ = some y) : (w.setCell ⟨q, o, none⟩ v).cell? ⟨q, o, none⟩ = some v := by
  obtain ⟨y, hy⟩ := h
  exact World.cell?_setCell_same' _ _ _ (by rw [hy]; rfl)
theorem P9_blk (w : World) (q : Nat) (p : Pc) {b : Nat} (h : b ≠ q) : (P9 w q p).heap[b]? = w.heap[b]? := by
  unfold P9
  iterate 9 rw [set_blk _ _ _ _ h]
theorem P9_size (w : World) (q : Nat) (p : Pc) : (P9 w q p).heap.size = w.heap.size := by
  unfold P9
  iterate 9 rw [size_set']
theorem P9_off (w : World) (q : Nat) (p : Pc) {o : Nat} (h : o < 2 ∨ 10 < o) : (P9 w q p).cell? ⟨q, o, none⟩ = w.cell? ⟨q, o, none⟩ := by
  unfold P9
  iterate 9 rw [set_two (by omega)]
theorem set_fz (w : World) (p a : Addr) (v : Value) : (w.setCell p v).frozen? a = w.frozen? a := by simp [go_sem]
theorem P9_fz (w : World) (q : Nat) (p : Pc) (a : Addr) : (P9 w q p).frozen? a = w.frozen? a := by
  unfold P9
  iterate 9 rw [set_fz]
theorem exc_more {S : Nat → Prop} {a w : World} (h : Exc S a w) {q o : Nat} (hs : S q) (v : Value) : Exc S a (w.setCell ⟨q, o, none⟩ v) :=
  ⟨h.os, h.tape, h.output, by rw [size_set']; exact h.size, fun b hb hn => (set_blk _ _ _ _ (by rintro rfl; exact hn hs)).trans (h.block b hb hn)⟩
theorem P9_exc (w : World) (q : Nat) (p : Pc) : Exc (fun b => b = q) w (P9 w q p) := by
  unfold P9
  iterate 9 refine exc_more (S := fun b => b = q) ?_ (q := q) rfl _
  exact Exc.refl _ _
/-- Its cells. -/
theorem P9_at {w : World} {q : Nat} (p : Pc) (h : ∀ o, 2 ≤ o → o ≤ 10 → ∃ y, w.cell? ⟨q, o, none⟩ = some y) :
    (P9 w q p).cell? ⟨q, 2, none⟩ = some (.int .u64 (p.first.x0 : Int)) ∧ (P9 w q p).cell? ⟨q, 3, none⟩ = some (.int .u64 (p.first.x1 : Int)) ∧ (P9 w q p).cell? ⟨q, 4, none⟩ = some (.int .u64 (p.first.x2 : Int)) ∧ (P9 w q p).cell? ⟨q, 5, none⟩ = some (.int .u64 (p.first.x3 : Int)) ∧ (P9 w q p).cell? ⟨q, 6, none⟩ = some (.int .u64 (p.last.x0 : Int)) ∧ (P9 w q p).cell? ⟨q, 7, none⟩ = some (.int .u64 (p.last.x1 : Int)) ∧ (P9 w q p).cell? ⟨q, 8, none⟩ = some (.int .u64 (p.last.x2 : Int)) ∧ (P9 w q p).cell? ⟨q, 9, none⟩ = some (.int .u64 (p.last.x3 : Int)) ∧ (P9 w q p).cell? ⟨q, 10, none⟩ = some (.bool p.empty) := by
  unfold P9
  have k : ∀ {W : World} {o o' : Nat} {v : Value}, (∃ y, W.cell? ⟨q, o', none⟩ = some y) → ∃ y, (W.setCell ⟨q, o, none⟩ v).cell? ⟨q, o', none⟩ = some y := fun {W o o' v} hy => by
    by_cases e : o = o'
    · subst e; exact ⟨v, set_one hy⟩
    · rw [set_two e]; exact hy
  refine ⟨?_, ?_, ?_, ?_, ?_, ?_, ?_, ?_, ?_⟩
  · iterate 8 rw [set_two (by omega)]
    exact set_one (h _ (by omega) (by omega))
  · iterate 7 rw [set_two (by omega)]
    exact set_one (k (h _ (by omega) (by omega)))
  · iterate 6 rw [set_two (by omega)]
    exact set_one (k (k (h _ (by omega) (by omega))))
  · iterate 5 rw [set_two (by omega)]
    exact set_one (k (k (k (h _ (by omega) (by omega)))))
  · iterate 4 rw [set_two (by omega)]
    exact set_one (k (k (k (k (h _ (by omega) (by omega))))))
  · iterate 3 rw [set_two (by omega)]
    exact set_one (k (k (k (k (k (h _ (by omega) (by omega)))))))
  · iterate 2 rw [set_two (by omega)]
    exact set_one (k (k (k (k (k (k (h _ (by omega) (by omega))))))))
  · rw [set_two (by omega)]
    exact set_one (k (k (k (k (k (k (k (h _ (by omega) (by omega)))))))))
  · exact set_one (k (k (k (k (k (k (k (k (h _ (by omega) (by omega))))))))))
/-- What is told of the states is a table. -/
theorem StsAt.tab {w : World} {tb K : Nat} {W : World} {va vn : Value} {acc : List Bool} {rows : List (List Nat)} {gs : List Nat} (h : StsAt w tb K W va vn acc rows gs) {W' : World} (hk : ∀ b, w.heap.size ≤ b → W'.heap[b]? = W.heap[b]?) : RowE eB W' va acc ∧ RowsE eI W' vn (nxI rows) := by
  refine ⟨own_rowE (own_blk h.ar (fun b hb => hk b (by have := own_ge h.ar hb; omega))), gs.map (rowV K), by rw [List.length_map, nxI_len, h.gl], own_rowE (base := w.heap.size + 2) (e := 40) ?_, fun j h1 h2 => ?_⟩
  · have := own_blk (w' := W') h.nr (fun b hb => hk b (by have := own_ge h.nr hb; omega))
    simpa using this
  · have h1' : j < gs.length := by simpa using h1
    have h2' : j < rows.length := by simpa [nxI] using h2
    obtain ⟨q1, q2, q3⟩ := h.rw j h1' h2'
    rw [nxI_at rows j h2', List.getElem_map]
    refine rowE_map (.inr ⟨gs[j], 0, K, by rw [q3]; rfl, fun i hi => ?_⟩)
    have e := (hk gs[j] (by omega)).trans q1
    simp [World.cell?, e, hi]
end Go.Proofs.YtbjabpodkaokjaaGreatDoor

namespace Go.Proofs.YtbjabpodkaokjaaGreatDoor
open Go.RowKit

/-- Behind the expansion. -/
structure SX (w6 : World) (sb : Nat) (vb vf : Value) (e : Ex) (s : Sr) : Prop where
  c0 : w6.cell? ⟨sb, 0, none⟩ = some vb
  bs : BsAt w6 (sb + 1) vb e.bs
  c12 : w6.cell? ⟨sb, 12, none⟩ = some (.slice none 0 0)
  fz : ∀ o, w6.frozen? ⟨sb, o, none⟩ = false
  sr : SrAt w6 sb vf s
theorem sx_of {w4 w5 : World} {sb : Nat} {va0 vf0 vb vf : Value} {e : Ex} {pc : Pc} {front : Bool} (hsb : sb < w4.heap.size) (hx : ExAt w5 sb vb vf e) (hg : Grw sb w4 va0 vf0 w5 vb vf) (h11 : w4.cell? ⟨sb, 11, none⟩ = some (.bool front)) (h12 : w4.cell? ⟨sb, 12, none⟩ = some (.slice none 0 0)) (hc : ∀ o, 2 ≤ o → o ≤ 10 → ∃ y, w4.cell? ⟨sb, o, none⟩ = some y) :
    SX (P9 w5 sb pc) sb vb vf e ⟨e.fs, pc, front⟩ := by
  have hc5 : ∀ o, 2 ≤ o → o ≤ 10 → ∃ y, w5.cell? ⟨sb, o, none⟩ = some y := fun o h1 h2 => by rw [hg.cl hsb o h1]; exact hc o h1 h2
  obtain ⟨a2, a3, a4, a5, a6, a7, a8, a9, a10⟩ := P9_at pc hc5
  obtain ⟨ws, b1, b2⟩ := hx.bs
  refine ⟨(P9_off _ _ _ (.inl (by omega))).trans hx.c0, ⟨ws, b1.blk (fun b hb => P9_blk _ _ _ ?_), b2⟩, ?_, fun o => (P9_fz _ _ _ _).trans (hx.fz o), ⟨(P9_off _ _ _ (.inl (by omega))).trans hx.c1, hx.fs.blk (fun b hb => P9_blk _ _ _ ?_), a2, a3, a4, a5, a6, a7, a8, a9, a10, ?_⟩⟩
  · have := b1.lt hb; omega
  · rw [P9_off _ _ _ (.inr (by omega)), hg.cl hsb 12 (by omega)]; exact h12
  · have := hx.fs.lt hb; omega
  · rw [P9_off _ _ _ (.inr (by omega)), hg.cl hsb 11 (by omega)]; exact h11
/-- Behind the classes. -/
theorem SX.classes {w6 w7 : World} {sb : Nat} {vb vf vr : Value} {e : Ex} {s : Sr} (h : SX w6 sb vb vf e s) (hk : ∀ o, o ≠ 12 → w7.cell? ⟨sb, o, none⟩ = w6.cell? ⟨sb, o, none⟩) (hx : Exc (fun b => b = sb) w6 w7) : SrAt w7 sb vf s := by
  obtain ⟨k1, kf, k2, k3, k4, k5, k6, k7, k8, k9, k10, k11⟩ := h.sr
  refine ⟨(hk 1 (by omega)).trans k1, kf.blk (fun b hb => hx.block b (kf.lt hb).2 (by have := (kf.lt hb).1; omega)), (hk 2 (by omega)).trans k2, (hk 3 (by omega)).trans k3, (hk 4 (by omega)).trans k4, (hk 5 (by omega)).trans k5, (hk 6 (by omega)).trans k6, (hk 7 (by omega)).trans k7, (hk 8 (by omega)).trans k8, (hk 9 (by omega)).trans k9, (hk 10 (by omega)).trans k10, (hk 11 (by omega)).trans k11⟩
end Go.Proofs.YtbjabpodkaokjaaGreatDoor

namespace Go.Proofs.YtbjabpodkaokjaaGreatDoor
open Go.RowKit

theorem own_less {w : World} {base base' : Nat} {e : TypeId} {size : Nat} {v : Value} {n : Nat} {xs : List Value} (h : w.ownsRow base e size v n xs) (hb : base' ≤ base) : w.ownsRow base' e size v n xs := by
  refine ⟨h.1, ?_⟩
  rcases h.2 with q | ⟨g, cap, cur, h1, h2, h3⟩
  · exact .inl q
  · exact .inr ⟨g, cap, cur, h1, Nat.le_trans hb h2, h3⟩
theorem spre_of {w7 : World} {sb base n : Nat} {vf vr : Value} {s : Sr} {rs : List W4} {f b : Bool} {cls : List UInt8} (hT : TabZ w7) (h1 : 1 < sb) (hsr : SrAt w7 sb vf s) (ok : SrOk n s) (c12 : w7.cell? ⟨sb, 12, none⟩ = some vr) (hr : FsAt 150 w7 base vr rs) (hb : sb + 1 ≤ base) (rk : ∀ r ∈ rs, Sp n r) (rl : rs.length ≤ 256) :
    SPre (w7.alloc (.cells (tC f b cls (.slice none 0 0) (.slice none 0 0)) 33)) sb w7.heap.size vf vr s n rs := by
  have hal : Below w7.heap.size w7 (w7.alloc (.cells (tC f b cls (.slice none 0 0) (.slice none 0 0)) 33)) := (Below.refl _ _).alloc (Nat.le_refl _) _
  have e0 := heap_alloc_new w7 (.cells (tC f b cls (.slice none 0 0) (.slice none 0 0)) 33)
  have hr' : FsAt 150 w7 (sb + 1) vr rs := own_less hr hb
  refine ⟨hT.keep (hal.block 1 hT.lt), h1, cell_lt c12, hsr.below hal, ok, cell_below hal c12, hr'.blk (fun b hb => hal.block b (hr'.lt hb).2), fun q => ?_, fun q => ?_, rk, rl, ?_, ?_, fun o => ?_⟩
  · have := (hr'.lt q).2; omega
  · have := (hsr.fs.lt q).2; omega
  · exact (box6 e0).2.2.2.2.1
  · exact (box6 e0).2.2.2.2.2
  · simp only [World.frozen?, e0]; simp
end Go.Proofs.YtbjabpodkaokjaaGreatDoor
