import Derived.Test.YtbjabpodkaokjaaJ06
import Derived.Test.YtbjabpodkaokjaaJ11
import Derived.Test.YtbjabpodkaokjaaJ16
set_option linter.unusedVariables false
set_option linter.unusedSimpArgs false
namespace Go.Proofs.Ytbjabpodkaokjaa
open Go.RowKit

theorem au_conv {w : World} {g : Nat} {f b : Bool} {s : Int} {l : List UInt8} {S : Nat → Bool} {v : Value} (h : Au w g f b s (fun j => ((l[j]?.getD 0).toNat : Int)) S v) (hl : l.length = 256) : (convert 46 9 (.slice (some ⟨g, 3, none⟩) 256 256)).run Try.prog w = .ok (.string (ba l)) w := by
  have := run_convert_bytes_back (P := Try.prog) w 46 9 5 ⟨g, 3, none⟩ 256 l Try.underlying46 und_byte und_str (by
    intro j hj
    have := h.cl j (by omega)
    have e : (⟨g, 3, none⟩ : Addr).add j = ⟨g, 3 + j, none⟩ := by unfold Addr.add; split <;> simp_all
    rw [e]
    simpa [hj] using this)
  rw [hl] at this
  exact this
def rowAt (gs : List Nat) (next : List (List Int)) (j : Nat) : Value :=
  match gs[j]? with
  | some q => .slice (some ⟨q, 0, none⟩) (next[j]?.getD []).length (next[j]?.getD []).length
  | none => .slice none 0 0
/-- Between Table's steps: the table in block tT, its lists in blocks of their own. -/
structure TI (w wr : World) (f b : Bool) (st : Int) (cls : List UInt8) (n tT tA tB lo : Nat) (acc : List Bool) (next : List (List Int)) (gs : List Nat) (ka k : Nat) : Prop where
  bl : Below w.heap.size w wr
  rb : wr.heap[w.heap.size]? = some (.cells tc0 30)
  b0 : wr.cell? ⟨tT, 0, none⟩ = some (.bool f)
  b1 : wr.cell? ⟨tT, 1, none⟩ = some (.bool b)
  b2 : wr.cell? ⟨tT, 2, none⟩ = some (.int .i64 st)
  b3 : wr.cell? ⟨tT, 3, none⟩ = some (.string (ba cls))
  b4 : wr.cell? ⟨tT, 4, none⟩ = some (.slice (some ⟨tA, 0, none⟩) n n)
  b5 : wr.cell? ⟨tT, 5, none⟩ = some (.slice (some ⟨tB, 0, none⟩) n n)
  na : Nw wr tA n (fun j => eB (decide (j < ka) && (acc[j]?.getD false)))
  nb : Nw wr tB n (rowAt gs next)
  gl : gs.length = k
  rows : ∀ j (h : j < gs.length), Nw wr gs[j] (next[j]?.getD []).length (fun i => eI ((next[j]?.getD [])[i]?.getD 0)) ∧ lo ≤ gs[j] ∧ gs[j] < wr.heap.size
  mono : gs.Pairwise (· < ·)
  o : w.heap.size < tT ∧ w.heap.size < tA ∧ w.heap.size < tB ∧ tT < lo ∧ tA < lo ∧ tB < lo ∧ tT ≠ tA ∧ tT ≠ tB ∧ tA ≠ tB ∧ lo ≤ wr.heap.size
section
variable {w wr w2 : World} {f b : Bool} {st : Int} {cls : List UInt8} {n tT tA tB lo : Nat} {acc : List Bool} {next : List (List Int)} {gs : List Nat} {ka k : Nat}
theorem TI.below (h : TI w wr f b st cls n tT tA tB lo acc next gs ka k) (hb : Below wr.heap.size wr w2) : TI w w2 f b st cls n tT tA tB lo acc next gs ka k := by
  obtain ⟨o1, o2, o3, o4, o5, o6, o7, o8, o9, o10⟩ := h.o
  have hs := hb.size
  have hT := hb.block tT (by omega)
  have hc := fun o => cell_of_block hT o
  exact ⟨h.bl.trans (hb.mono h.bl.size), (hb.block _ (by omega)).trans h.rb, (hc 0).trans h.b0, (hc 1).trans h.b1, (hc 2).trans h.b2, (hc 3).trans h.b3, (hc 4).trans h.b4, (hc 5).trans h.b5, h.na.of_block (hb.block tA (by omega)), h.nb.of_block (hb.block tB (by omega)), h.gl, fun j hj => ⟨(h.rows j hj).1.of_block (hb.block _ (h.rows j hj).2.2), (h.rows j hj).2.1, by have := (h.rows j hj).2.2; omega⟩, h.mono, ⟨o1, o2, o3, o4, o5, o6, o7, o8, o9, by omega⟩⟩
theorem TI.accs (h : TI w wr f b st cls n tT tA tB lo acc next gs ka k) (hk : ka < n) {s : Bool} (hs : s = (acc[ka]?.getD false)) :
    TI w (wr.setCell ⟨tA, ka, none⟩ (eB s)) f b st cls n tT tA tB lo acc next gs (ka + 1) k := by
  obtain ⟨o1, o2, o3, o4, o5, o6, o7, o8, o9, o10⟩ := h.o
  have e : ∀ q, q ≠ tA → (wr.setCell ⟨tA, ka, none⟩ (eB s)).heap[q]? = wr.heap[q]? := fun q hq => Below.heap_setCell _ _ _ _ (by simpa using hq)
  have hc := fun o => cell_of_block (e tT o7) o
  have hz : (wr.setCell ⟨tA, ka, none⟩ (eB s)).heap.size = wr.heap.size := by simp [World.setCell]
  refine ⟨h.bl.setCell (p := ⟨tA, ka, none⟩) (by simp only; omega) _, (e _ (by omega)).trans h.rb, (hc 0).trans h.b0, (hc 1).trans h.b1, (hc 2).trans h.b2, (hc 3).trans h.b3, (hc 4).trans h.b4, (hc 5).trans h.b5, (h.na.set ka hk _).congr (fun j hj => ?_), h.nb.of_block (e tB (by omega)), h.gl, fun j hj => ⟨(h.rows j hj).1.of_block (e _ (by have := (h.rows j hj).2.1; omega)), (h.rows j hj).2.1, by rw [hz]; exact (h.rows j hj).2.2⟩, h.mono, ⟨o1, o2, o3, o4, o5, o6, o7, o8, o9, by omega⟩⟩
  by_cases q : j = ka
  · subst q; simp [hs]
  · have e2 : (j < ka + 1) = (j < ka) := by rw [eq_iff_iff]; omega
    simp only [q, if_false, e2]
theorem TI.row (h : TI w wr f b st cls n tT tA tB lo acc next gs ka k) (hk : k < n) {q : Nat} {r : List Int} (hr : next[k]? = some r) (hb : Below wr.heap.size wr w2) (hq : wr.heap.size ≤ q) (hq2 : q < w2.heap.size) (hn : Nw w2 q r.length fun i => eI (r[i]?.getD 0)) :
    TI w (w2.setCell ⟨tB, k, none⟩ (.slice (some ⟨q, 0, none⟩) r.length r.length)) f b st cls n tT tA tB lo acc next (gs ++ [q]) ka (k + 1) := by
  have h2 := h.below hb
  have hold := h.rows
  obtain ⟨o1, o2, o3, o4, o5, o6, o7, o8, o9, o10⟩ := h2.o
  have o11 := h.o.2.2.2.2.2.2.2.2.2
  have e : ∀ p, p ≠ tB → (w2.setCell ⟨tB, k, none⟩ (.slice (some ⟨q, 0, none⟩) r.length r.length)).heap[p]? = w2.heap[p]? := fun p hp => Below.heap_setCell _ _ _ _ (by simpa using hp)
  have hc := fun o => cell_of_block (e tT o8) o
  have hz : (w2.setCell ⟨tB, k, none⟩ (.slice (some ⟨q, 0, none⟩) r.length r.length)).heap.size = w2.heap.size := by simp [World.setCell]
  have hgl := h.gl
  refine ⟨h2.bl.setCell (p := ⟨tB, k, none⟩) (by simp only; omega) _, (e _ (by omega)).trans h2.rb, (hc 0).trans h2.b0, (hc 1).trans h2.b1, (hc 2).trans h2.b2, (hc 3).trans h2.b3, (hc 4).trans h2.b4, (hc 5).trans h2.b5, h2.na.of_block (e tA o9), (h2.nb.set k hk _).congr (fun j hj => ?_), by simp [hgl], fun j hj => ?_, ?_, ⟨o1, o2, o3, o4, o5, o6, o7, o8, o9, by omega⟩⟩
  · unfold rowAt
    by_cases p : j = k
    · subst p
      rw [if_pos rfl, List.getElem?_append_right (by omega), hgl]
      simp [hr]
    · rw [if_neg p]
      by_cases hjk : j < k
      · rw [List.getElem?_append_left (by omega)]
      · rw [show gs[j]? = none from List.getElem?_eq_none (by omega), show (gs ++ [q])[j]? = none from List.getElem?_eq_none (by simp; omega)]
  · by_cases hj2 : j < gs.length
    · rw [List.getElem_append_left hj2]
      exact ⟨(h2.rows j hj2).1.of_block (e _ (by have := (h2.rows j hj2).2.1; omega)), (h2.rows j hj2).2.1, by rw [hz]; exact (h2.rows j hj2).2.2⟩
    · have hjk : j = k := by simp at hj; omega
      subst hjk
      have e1 : (gs ++ [q])[j] = q := by rw [List.getElem_append_right (by omega)]; simp
      rw [e1, hr]
      exact ⟨(hn.of_block (e _ (by omega))).congr (fun _ _ => rfl), by omega, by rw [hz]; exact hq2⟩
  · rw [List.pairwise_append]
    refine ⟨h.mono, by simp, fun x hx y hy => ?_⟩
    simp only [List.mem_singleton] at hy
    subst hy
    obtain ⟨i, hi, rfl⟩ := List.mem_iff_getElem.1 hx
    have := (hold i hi).2.2
    omega
end
end Go.Proofs.Ytbjabpodkaokjaa
