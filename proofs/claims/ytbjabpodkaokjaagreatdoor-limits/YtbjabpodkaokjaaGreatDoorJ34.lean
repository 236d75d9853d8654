import Derived.Test.YtbjabpodkaokjaaGreatDoorJ33
import Derived.Test.YtbjabpodkaokjaaGreatDoorJ17
set_option linter.unusedVariables false
set_option linter.unusedSimpArgs false
namespace Go.Proofs.YtbjabpodkaokjaaGreatDoor
open Go.RowKit

abbrev eN (n : Nat) : Value := .int .i64 (n : Int)
/-- A list's block holds cells of its kind. -/
theorem own_ty {w : World} {base : Nat} {e : TypeId} {size : Nat} {v : Value} {n g : Nat} {xs : List Value} (h : w.ownsRow base e size v n xs) (hg : v.ownBlock = some g) : ∃ cs, w.heap[g]? = some (.cells cs e (0, 0)) := by
  rcases h.2 with ⟨rfl, _⟩ | ⟨g', cap, cur, rfl, _, h2, _⟩
  · simp [Value.ownBlock] at hg
  · simp [Value.ownBlock] at hg
    subst hg
    exact ⟨cur, h2⟩
theorem ty_ne {w : World} {g g' : Nat} {e e' : TypeId} {cs cs' : Array Value} {f f' : Nat × Nat} (h : w.heap[g]? = some (.cells cs e f)) (h' : w.heap[g']? = some (.cells cs' e' f')) (hne : e ≠ e') : g ≠ g' := by
  rintro rfl
  rw [h] at h'
  simp at h'
  exact hne h'.2.1
/-- The rows of numbers, each in a block of its own. -/
def rowV (K : Nat) (g : Nat) : Value := .slice (some ⟨g, 0, none⟩) K K
structure SI (w : World) (tb K : Nat) (W : World) (v va vn : Value) (met : List Stt) (tk : Nat) (acc : List Bool) (rows : List (List Nat)) (gs : List Nat) : Prop where
  num : NumAt 244 5 W (w.heap.size + 1) w.heap.size v (met.map Stt.v) tk
  nv : ∀ g, v.ownBlock = some g → w.heap.size + 2 ≤ g
  c4 : W.cell? ⟨tb, 4, none⟩ = some va
  ar : W.ownsRow (w.heap.size + 2) 4 1 va acc.length (acc.map eB)
  c5 : W.cell? ⟨tb, 5, none⟩ = some vn
  nr : W.ownsRow (w.heap.size + 2) 40 1 vn gs.length (gs.map (rowV K))
  gl : gs.length = rows.length
  rw : ∀ j (h1 : j < gs.length) (h2 : j < rows.length), W.heap[gs[j]]? = some (.cells (rows[j].map eN).toArray 3 (0, 0)) ∧ w.heap.size + 2 ≤ gs[j] ∧ rows[j].length = K
  cs : ∀ o, o ≠ 4 → o ≠ 5 → W.cell? ⟨tb, o, none⟩ = w.cell? ⟨tb, o, none⟩
  fz : ∀ o, W.frozen? ⟨tb, o, none⟩ = false
  ex : Exc (fun b => b = tb) w W
  tl : tb < w.heap.size
theorem own_ge {w : World} {base : Nat} {e : TypeId} {size : Nat} {v : Value} {n g : Nat} {xs : List Value} (h : w.ownsRow base e size v n xs) (hg : v.ownBlock = some g) : base ≤ g := by
  rcases h.2 with ⟨rfl, _⟩ | ⟨g', cap, cur, rfl, hb, _⟩
  · simp [Value.ownBlock] at hg
  · simp [Value.ownBlock] at hg; omega
section
variable {w : World} {tb K : Nat} {W W' : World} {v va vn : Value} {met : List Stt} {tk : Nat} {acc : List Bool} {rows : List (List Nat)} {gs : List Nat}
/-- Its blocks. -/
def SFoot (w : World) (v va vn : Value) (gs : List Nat) (b : Nat) : Prop := b = w.heap.size + 1 ∨ b = w.heap.size ∨ v.ownBlock = some b ∨ va.ownBlock = some b ∨ vn.ownBlock = some b ∨ b ∈ gs
theorem SI.ge (h : SI w tb K W v va vn met tk acc rows gs) {b : Nat} (hb : SFoot w v va vn gs b) : w.heap.size ≤ b := by
  rcases hb with rfl | rfl | hb | hb | hb | hb
  · omega
  · omega
  · have := h.nv b hb; omega
  · have := own_ge h.ar hb; omega
  · have := own_ge h.nr hb; omega
  · obtain ⟨j, hj, rfl⟩ := List.getElem_of_mem hb
    have := (h.rw j hj (by rw [← h.gl]; exact hj)).2.1
    omega
theorem SI.keep (h : SI w tb K W v va vn met tk acc rows gs) {S : Nat → Prop} (hx : Exc S W W') (h1 : ¬ S tb) (h2 : ∀ b, b < w.heap.size → ¬ S b) (h3 : ∀ b, SFoot w v va vn gs b → ¬ S b) : SI w tb K W' v va vn met tk acc rows gs := by
  have hsz := h.ex.size
  have htl := h.tl
  have et := hx.block tb (by omega) h1
  refine ⟨h.num.exc hx (fun b hb => h3 b ?_), h.nv, ?_, own_blk h.ar (fun b hb => hx.block b (own_lt h.ar hb) (h3 b (.inr (.inr (.inr (.inl hb)))))), ?_, own_blk h.nr (fun b hb => hx.block b (own_lt h.nr hb) (h3 b (.inr (.inr (.inr (.inr (.inl hb))))))), h.gl, fun j j1 j2 => ?_, fun o o1 o2 => ?_, fun o => ?_, ?_, htl⟩
  · rcases hb with rfl | rfl | hb
    · exact .inl rfl
    · exact .inr (.inl rfl)
    · exact .inr (.inr (.inl hb.symm))
  · rw [← h.c4]; simp [World.cell?, et]
  · rw [← h.c5]; simp [World.cell?, et]
  · have := h.rw j j1 j2
    exact ⟨(hx.block _ (Array.getElem?_eq_some_iff.1 this.1).1 (h3 _ (.inr (.inr (.inr (.inr (.inr (List.getElem_mem _)))))))).trans this.1, this.2⟩
  · rw [← h.cs o o1 o2]; simp [World.cell?, et]
  · rw [← h.fz o]; simp [World.frozen?, et]
  · exact ⟨hx.os.trans h.ex.os, hx.tape.trans h.ex.tape, hx.output.trans h.ex.output, Nat.le_trans hsz hx.size, fun b hb hn => (hx.block b (by omega) (h2 b hb)).trans (h.ex.block b hb hn)⟩
theorem SI.below (h : SI w tb K W v va vn met tk acc rows gs) (hb : Below W.heap.size W W') : SI w tb K W' v va vn met tk acc rows gs :=
  h.keep (S := fun _ => False) (Exc.of_below _ hb) id (fun _ _ => id) (fun _ _ => id)
theorem SI.footn (h : SI w tb K W v va vn met tk acc rows gs) {b : Nat} (hb : Foot (w.heap.size + 1) w.heap.size v b) : va.ownBlock ≠ some b ∧ vn.ownBlock ≠ some b ∧ b ∉ gs := by
  have h0 : ∀ g, w.heap.size + 2 ≤ g → (b = w.heap.size + 1 ∨ b = w.heap.size) → g ≠ b := fun g h1 h2 => by omega
  rcases hb with hb | hb | hb
  · refine ⟨fun q => h0 b (own_ge h.ar q) (.inl hb) rfl, fun q => h0 b (own_ge h.nr q) (.inl hb) rfl, fun q => ?_⟩
    obtain ⟨j, hj, rfl⟩ := List.getElem_of_mem q
    exact h0 _ (h.rw j hj (by rw [← h.gl]; exact hj)).2.1 (.inl hb) rfl
  · refine ⟨fun q => h0 b (own_ge h.ar q) (.inr hb) rfl, fun q => h0 b (own_ge h.nr q) (.inr hb) rfl, fun q => ?_⟩
    obtain ⟨j, hj, rfl⟩ := List.getElem_of_mem q
    exact h0 _ (h.rw j hj (by rw [← h.gl]; exact hj)).2.1 (.inr hb) rfl
  · obtain ⟨cs, hcs⟩ := own_ty h.num.own hb.symm
    refine ⟨fun q => ?_, fun q => ?_, fun q => ?_⟩
    · obtain ⟨ds, hds⟩ := own_ty h.ar q
      exact ty_ne hcs hds (by decide) rfl
    · obtain ⟨ds, hds⟩ := own_ty h.nr q
      exact ty_ne hcs hds (by decide) rfl
    · obtain ⟨j, hj, rfl⟩ := List.getElem_of_mem q
      exact ty_ne hcs (h.rw j hj (by rw [← h.gl]; exact hj)).1 (by decide) rfl
/-- Something was numbered, or taken. -/
theorem SI.of (h : SI w tb K W v va vn met tk acc rows gs) {v' : Value} {met' : List Stt} {tk' : Nat} (hn : NumAt 244 5 W' (w.heap.size + 1) w.heap.size v' (met'.map Stt.v) tk') (hg : ∀ g, v'.ownBlock = some g → v.ownBlock = some g ∨ W.heap.size ≤ g) (hx : Exc (Foot (w.heap.size + 1) w.heap.size v) W W') : SI w tb K W' v' va vn met' tk' acc rows gs := by
  have hsz := h.ex.size
  have htl := h.tl
  have hlt := h.num.lt (.inl rfl)
  have hft : ∀ {b}, Foot (w.heap.size + 1) w.heap.size v b → w.heap.size ≤ b := fun {b} hb => by
    rcases hb with hb | hb | hb
    · omega
    · omega
    · have := h.nv b hb.symm; omega
  have et := hx.block tb (by omega) (fun q => by have := hft q; omega)
  refine ⟨hn, fun g hg' => ?_, ?_, own_blk h.ar (fun b hb => hx.block b (own_lt h.ar hb) (fun q => (h.footn q).1 hb)), ?_, own_blk h.nr (fun b hb => hx.block b (own_lt h.nr hb) (fun q => (h.footn q).2.1 hb)), h.gl, fun j j1 j2 => ?_, fun o o1 o2 => ?_, fun o => ?_, ?_, htl⟩
  · rcases hg g hg' with q | q
    · exact h.nv g q
    · omega
  · rw [← h.c4]; simp [World.cell?, et]
  · rw [← h.c5]; simp [World.cell?, et]
  · have := h.rw j j1 j2
    exact ⟨(hx.block _ (Array.getElem?_eq_some_iff.1 this.1).1 (fun q => (h.footn q).2.2 (List.getElem_mem _))).trans this.1, this.2⟩
  · rw [← h.cs o o1 o2]; simp [World.cell?, et]
  · rw [← h.fz o]; simp [World.frozen?, et]
  · exact ⟨hx.os.trans h.ex.os, hx.tape.trans h.ex.tape, hx.output.trans h.ex.output, Nat.le_trans hsz hx.size, fun b hb hn => (hx.block b (by omega) (fun q => by have := hft q; omega)).trans (h.ex.block b hb hn)⟩
/-- Whether it accepts. -/
theorem SI.acc1 (h : SI w tb K W v va vn met tk acc rows gs) {wa w4 : World} {x : Bool} {g k H : Nat} (hwa : Below W.heap.size W wa) (ho : w4.ownsRow (w.heap.size + 2) 4 1 (.slice (some ⟨g, 0, none⟩) (acc.length + 1) k) (acc.length + 1) (acc.map eB ++ [eB x])) (hH : wa.heap.size = H)
    (hc : (va.ownBlock = some g ∧ wa.grownBy w4 (some g)) ∨ (g = H ∧ wa.grownBy w4 none)) :
    SI w tb K (w4.setCell ⟨tb, 4, none⟩ (.slice (some ⟨g, 0, none⟩) (acc.length + 1) k)) v (.slice (some ⟨g, 0, none⟩) (acc.length + 1) k) vn met tk (acc ++ [x]) rows gs ∧ w4.cell? ⟨tb, 4, none⟩ = some va ∧ w4.frozen? ⟨tb, 4, none⟩ = false := by
  have hsz := h.ex.size
  have htl := h.tl
  have hsza := hwa.size
  have blk : ∀ b, b < W.heap.size → va.ownBlock ≠ some b → w4.heap[b]? = W.heap[b]? := fun b hb hne => (grown_blk hH hc (by omega) hne).trans (hwa.block b hb)
  obtain ⟨g1, g2, g3, g4⟩ := grown_env hc
  have hvt : va.ownBlock ≠ some tb := fun q => by have := own_ge h.ar q; omega
  have et : w4.heap[tb]? = W.heap[tb]? := blk tb (by omega) hvt
  have k4 : w4.cell? ⟨tb, 4, none⟩ = some va := by rw [← h.c4]; simp [World.cell?, et]
  have k5 : w4.cell? ⟨tb, 5, none⟩ = some vn := by rw [← h.c5]; simp [World.cell?, et]
  have kf : ∀ o, w4.frozen? ⟨tb, o, none⟩ = false := fun o => by rw [← h.fz o]; simp [World.frozen?, et]
  have hga := own_ge ho (g := g) rfl
  have nb : ∀ b, vn.ownBlock = some b → va.ownBlock ≠ some b := fun b hb q => by
    obtain ⟨cs, hcs⟩ := own_ty h.nr hb
    obtain ⟨ds, hds⟩ := own_ty h.ar q
    exact ty_ne hcs hds (by decide) rfl
  have gb : ∀ b, b ∈ gs → va.ownBlock ≠ some b := fun b hb q => by
    obtain ⟨ds, hds⟩ := own_ty h.ar q
    obtain ⟨j, hj, rfl⟩ := List.getElem_of_mem hb
    exact ty_ne hds (h.rw j hj (by rw [← h.gl]; exact hj)).1 (by decide) rfl
  refine ⟨⟨?_, h.nv, ?_, ?_, ?_, ?_, h.gl, fun j j1 j2 => ?_, fun o o1 o2 => ?_, fun o => ?_, ?_, htl⟩, k4, kf 4⟩
  · refine h.num.keep (fun b hb => ?_)
    have hge : w.heap.size ≤ b := by
      rcases hb with hb | hb | hb
      · omega
      · omega
      · have := h.nv b hb.symm; omega
    rw [set_blk _ _ _ _ (by omega)]
    exact blk b (h.num.lt hb) (fun q => (h.footn hb).1 q)
  · exact World.cell?_setCell_same' _ _ _ (by rw [k4]; rfl)
  · have : w4.ownsRow (w.heap.size + 2) 4 1 (.slice (some ⟨g, 0, none⟩) (acc.length + 1) k) (acc ++ [x]).length ((acc ++ [x]).map eB) := by simpa using ho
    exact own_blk this (fun b hb => set_blk _ _ _ _ (by simp [Value.ownBlock] at hb; omega))
  · simp [go_sem, k5]
  · exact own_blk h.nr (fun b hb => (set_blk _ _ _ _ (by have := own_ge h.nr hb; omega)).trans (blk b (own_lt h.nr hb) (nb b hb)))
  · have := h.rw j j1 j2
    refine ⟨?_, this.2⟩
    rw [set_blk _ _ _ _ (by omega)]
    exact (blk _ (Array.getElem?_eq_some_iff.1 this.1).1 (gb _ (List.getElem_mem _))).trans this.1
  · have : (w4.setCell ⟨tb, 4, none⟩ (.slice (some ⟨g, 0, none⟩) (acc.length + 1) k)).cell? ⟨tb, o, none⟩ = w4.cell? ⟨tb, o, none⟩ := by simp [go_sem, Ne.symm o1, o1]
    rw [this, ← h.cs o o1 o2]; simp [World.cell?, et]
  · simp [go_sem, kf]
  · refine ⟨g1.trans (hwa.os.trans h.ex.os), g2.trans (hwa.tape.trans h.ex.tape), g3.trans (hwa.output.trans h.ex.output), by rw [size_set']; omega, fun b hb hne => ?_⟩
    rw [set_blk _ _ _ _ hne]
    exact (blk b (by omega) (fun q => by have := own_ge h.ar q; omega)).trans (h.ex.block b hb hne)
/-- And its row. -/
theorem SI.row1 (h : SI w tb K W v va vn met tk acc rows gs) {wa w4 : World} {r : List Nat} {q g k H : Nat} (hr : W.heap[q]? = some (.cells (r.map eN).toArray 3 (0, 0))) (hq : w.heap.size + 2 ≤ q) (hrl : r.length = K) (hwa : Below W.heap.size W wa) (ho : w4.ownsRow (w.heap.size + 2) 40 1 (.slice (some ⟨g, 0, none⟩) (gs.length + 1) k) (gs.length + 1) (gs.map (rowV K) ++ [rowV K q])) (hH : wa.heap.size = H)
    (hc : (vn.ownBlock = some g ∧ wa.grownBy w4 (some g)) ∨ (g = H ∧ wa.grownBy w4 none)) :
    SI w tb K (w4.setCell ⟨tb, 5, none⟩ (.slice (some ⟨g, 0, none⟩) (gs.length + 1) k)) v va (.slice (some ⟨g, 0, none⟩) (gs.length + 1) k) met tk acc (rows ++ [r]) (gs ++ [q]) ∧ w4.cell? ⟨tb, 5, none⟩ = some vn ∧ w4.frozen? ⟨tb, 5, none⟩ = false := by
  have hsz := h.ex.size
  have htl := h.tl
  have hsza := hwa.size
  have blk : ∀ b, b < W.heap.size → vn.ownBlock ≠ some b → w4.heap[b]? = W.heap[b]? := fun b hb hne => (grown_blk hH hc (by omega) hne).trans (hwa.block b hb)
  obtain ⟨g1, g2, g3, g4⟩ := grown_env hc
  have hvt : vn.ownBlock ≠ some tb := fun q => by have := own_ge h.nr q; omega
  have et : w4.heap[tb]? = W.heap[tb]? := blk tb (by omega) hvt
  have k4 : w4.cell? ⟨tb, 4, none⟩ = some va := by rw [← h.c4]; simp [World.cell?, et]
  have k5 : w4.cell? ⟨tb, 5, none⟩ = some vn := by rw [← h.c5]; simp [World.cell?, et]
  have kf : ∀ o, w4.frozen? ⟨tb, o, none⟩ = false := fun o => by rw [← h.fz o]; simp [World.frozen?, et]
  have hga := own_ge ho (g := g) rfl
  have nb : ∀ b, va.ownBlock = some b → vn.ownBlock ≠ some b := fun b hb q => by
    obtain ⟨cs, hcs⟩ := own_ty h.ar hb
    obtain ⟨ds, hds⟩ := own_ty h.nr q
    exact ty_ne hcs hds (by decide) rfl
  have tb' : ∀ b cs, W.heap[b]? = some (.cells cs 3 (0, 0)) → vn.ownBlock ≠ some b := fun b cs hb q => by
    obtain ⟨ds, hds⟩ := own_ty h.nr q
    exact ty_ne hds hb (by decide) rfl
  refine ⟨⟨?_, h.nv, ?_, ?_, ?_, ?_, by simp [h.gl], fun j j1 j2 => ?_, fun o o1 o2 => ?_, fun o => ?_, ?_, htl⟩, k5, kf 5⟩
  · refine h.num.keep (fun b hb => ?_)
    have hge : w.heap.size ≤ b := by
      rcases hb with hb | hb | hb
      · omega
      · omega
      · have := h.nv b hb.symm; omega
    rw [set_blk _ _ _ _ (by omega)]
    exact blk b (h.num.lt hb) (fun q => (h.footn hb).2.1 q)
  · simp [go_sem, k4]
  · exact own_blk h.ar (fun b hb => (set_blk _ _ _ _ (by have := own_ge h.ar hb; omega)).trans (blk b (own_lt h.ar hb) (nb b hb)))
  · exact World.cell?_setCell_same' _ _ _ (by rw [k5]; rfl)
  · have : w4.ownsRow (w.heap.size + 2) 40 1 (.slice (some ⟨g, 0, none⟩) (gs.length + 1) k) (gs ++ [q]).length ((gs ++ [q]).map (rowV K)) := by simpa using ho
    exact own_blk this (fun b hb => set_blk _ _ _ _ (by simp [Value.ownBlock] at hb; omega))
  · have e : ∀ b cs, W.heap[b]? = some (.cells cs 3 (0, 0)) → w.heap.size + 2 ≤ b → (w4.setCell ⟨tb, 5, none⟩ (.slice (some ⟨g, 0, none⟩) (gs.length + 1) k)).heap[b]? = some (.cells cs 3 (0, 0)) := fun b cs hb hge => by
      rw [set_blk _ _ _ _ (by omega)]
      exact (blk b (Array.getElem?_eq_some_iff.1 hb).1 (tb' b cs hb)).trans hb
    rcases Nat.lt_or_ge j gs.length with hj | hj
    · have hj2 : j < rows.length := by rw [← h.gl]; exact hj
      have := h.rw j hj hj2
      rw [List.getElem_append_left hj, List.getElem_append_left hj2]
      exact ⟨e _ _ this.1 this.2.1, this.2⟩
    · have hje : j = gs.length := by simp at j1; omega
      subst hje
      simp only [List.getElem_append_right (Nat.le_refl _), Nat.sub_self, List.getElem_cons_zero]
      have hx : (rows ++ [r])[gs.length]'j2 = r := by
        rw [List.getElem_append_right (by rw [h.gl]; exact Nat.le_refl _)]
        simp [h.gl]
      rw [hx]
      exact ⟨e _ _ hr hq, hq, hrl⟩
  · have : (w4.setCell ⟨tb, 5, none⟩ (.slice (some ⟨g, 0, none⟩) (gs.length + 1) k)).cell? ⟨tb, o, none⟩ = w4.cell? ⟨tb, o, none⟩ := by simp [go_sem, Ne.symm o2, o2]
    rw [this, ← h.cs o o1 o2]; simp [World.cell?, et]
  · simp [go_sem, kf]
  · refine ⟨g1.trans (hwa.os.trans h.ex.os), g2.trans (hwa.tape.trans h.ex.tape), g3.trans (hwa.output.trans h.ex.output), by rw [size_set']; omega, fun b hb hne => ?_⟩
    rw [set_blk _ _ _ _ hne]
    exact (blk b (by omega) (fun q => by have := own_ge h.nr q; omega)).trans (h.ex.block b hb hne)
end
end Go.Proofs.YtbjabpodkaokjaaGreatDoor
