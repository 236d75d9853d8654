import Derived.Test.YtbjabpodkaokjaaJ28
import Derived.Test.YtbjabpodkaokjaaJ17
set_option linter.unusedVariables false
set_option linter.unusedSimpArgs false
namespace Go.Proofs.Ytbjabpodkaokjaa
open Go.RowKit

/-- Between the steps of the document's Load: the table in block tb, the reader in block g. -/
structure RJ (w1 wr : World) (g tb : Nat) (big : Bool) (l : List UInt8) (f bk : Bool) (st : Int) (cls : List UInt8) (va vn : Value) (acc : List Bool) (us : List Value) (rows : List (List Int)) : Prop where
  rd : Rdf wr g big l
  bl : Below tb w1 wr
  b0 : wr.cell? ⟨tb, 0, none⟩ = some (.bool f)
  b1 : wr.cell? ⟨tb, 1, none⟩ = some (.bool bk)
  b2 : wr.cell? ⟨tb, 2, none⟩ = some (.int .i64 st)
  b3 : wr.cell? ⟨tb, 3, none⟩ = some (.string (ba cls))
  b4 : wr.cell? ⟨tb, 4, none⟩ = some va
  b5 : wr.cell? ⟨tb, 5, none⟩ = some vn
  bf : ∀ o, wr.frozen? ⟨tb, o, none⟩ = false
  ac : wr.ownsRow (g + 1) 4 1 va acc.length (acc.map eB)
  nx : wr.ownsRow (g + 1) 39 1 vn us.length us
  ul : us.length = rows.length
  rw : ∀ j (h1 : j < us.length) (h2 : j < rows.length), IRow wr (g + 1) us[j] rows[j]
  gt : tb < g
section
variable {w1 wr w2 : World} {g tb : Nat} {big : Bool} {l l' : List UInt8} {f bk : Bool} {st : Int} {cls : List UInt8} {va vn : Value} {acc : List Bool} {us : List Value} {rows : List (List Int)}
theorem RJ.lt (h : RJ w1 wr g tb big l f bk st cls va vn acc us rows) : tb < wr.heap.size := cell_lt h.b0
/-- The reader has gone on. -/
theorem RJ.read (h : RJ w1 wr g tb big l f bk st cls va vn acc us rows) (ho : RfOut g big wr l' w2) : RJ w1 w2 g tb big l' f bk st cls va vn acc us rows := by
  have hg := h.gt
  have e : w2.heap[tb]? = wr.heap[tb]? := ho.2.block tb h.lt (fun e => by injection e with e; omega)
  have hc := fun o => cell_of_block e o
  have hgl := h.rd.lt
  exact ⟨ho.1, h.bl.grown ho.2 (Nat.le_of_lt h.lt) (fun k e => by injection e with e; omega), (hc 0).trans h.b0, (hc 1).trans h.b1, (hc 2).trans h.b2, (hc 3).trans h.b3, (hc 4).trans h.b4, (hc 5).trans h.b5, fun o => (frozen_of_block e o).trans (h.bf o), ownsRow_keep h.ac ho.2 (by omega), ownsRow_keep h.nx ho.2 (by omega), h.ul, fun j h1 h2 => ownsRow_keep (h.rw j h1 h2) ho.2 (by omega), hg⟩
/-- More memory was made. -/
theorem RJ.below (h : RJ w1 wr g tb big l f bk st cls va vn acc us rows) (hb : Below wr.heap.size wr w2) : RJ w1 w2 g tb big l f bk st cls va vn acc us rows := by
  have e : w2.heap[tb]? = wr.heap[tb]? := hb.block tb h.lt
  have hc := fun o => cell_of_block e o
  have hgr : wr.grownBy w2 none := ⟨hb.os, hb.tape, hb.output, hb.size, fun k hk _ => hb.block k hk⟩
  have hk : ∀ {b n s : Nat} {v : Value} {e : TypeId} {xs : List Value}, wr.ownsRow b e s v n xs → w2.ownsRow b e s v n xs := fun h => h.kept hgr (by
    rename_i v _ _
    cases e : v.ownBlock with
    | none => exact .inl rfl
    | some k => exact .inr (by simp))
  have hgl := h.rd.lt
  exact ⟨h.rd.below hb, h.bl.trans (hb.mono (Nat.le_of_lt h.lt)), (hc 0).trans h.b0, (hc 1).trans h.b1, (hc 2).trans h.b2, (hc 3).trans h.b3, (hc 4).trans h.b4, (hc 5).trans h.b5, fun o => (frozen_of_block e o).trans (h.bf o), hk h.ac, hk h.nx, h.ul, fun j h1 h2 => hk (h.rw j h1 h2), h.gt⟩
/-- The states' list has grown. -/
theorem RJ.accs (h : RJ w1 wr g tb big l f bk st cls va vn acc us rows) {va' : Value} {acc' : List Bool} (hg : wr.grownBy w2 va.ownBlock) (ho : w2.ownsRow (g + 1) 4 1 va' acc'.length (acc'.map eB)) :
    RJ w1 (w2.setCell ⟨tb, 4, none⟩ va') g tb big l f bk st cls va' vn acc' us rows ∧ w2.cell? ⟨tb, 4, none⟩ = some va ∧ w2.frozen? ⟨tb, 4, none⟩ = false := by
  have hgt := h.gt
  have hgl := h.rd.lt
  have htb : some tb ≠ va.ownBlock := fun e => by have := (h.ac.lt tb e.symm).1; omega
  have hgg : some g ≠ va.ownBlock := fun e => by have := (h.ac.lt g e.symm).1; omega
  have e : w2.heap[tb]? = wr.heap[tb]? := hg.block tb h.lt htb
  have e2 : w2.heap[g]? = wr.heap[g]? := hg.block g hgl hgg
  have hc := fun o => cell_of_block e o
  have h4 := (hc 4).trans h.b4
  refine ⟨⟨(h.rd.of_block e2).set (by omega) _ _, (h.bl.grown hg (Nat.le_of_lt h.lt) (fun k e => by have := (h.ac.lt k e).1; omega)).setCell (p := ⟨tb, 4, none⟩) (Nat.le_refl _) _, ?_, ?_, ?_, ?_, ?_, ?_, fun o => ?_, set_keep ho (by omega), set_keep (h.nx.kept hg (ownsRow_apart h.nx h.ac (by decide))) (by omega), h.ul, fun j h1 h2 => set_keep ((h.rw j h1 h2).kept hg (ownsRow_apart (h.rw j h1 h2) h.ac (by decide))) (by omega), hgt⟩, h4, (frozen_of_block e 4).trans (h.bf 4)⟩
  · rw [World.cell?_setCell_other _ _ _ _ (by simp)]; exact (hc 0).trans h.b0
  · rw [World.cell?_setCell_other _ _ _ _ (by simp)]; exact (hc 1).trans h.b1
  · rw [World.cell?_setCell_other _ _ _ _ (by simp)]; exact (hc 2).trans h.b2
  · rw [World.cell?_setCell_other _ _ _ _ (by simp)]; exact (hc 3).trans h.b3
  · exact World.cell?_setCell_same _ _ _ h4
  · rw [World.cell?_setCell_other _ _ _ _ (by simp)]; exact (hc 5).trans h.b5
  · rw [World.frozen?_setCell]; exact (frozen_of_block e o).trans (h.bf o)
/-- The list of rows has grown. -/
theorem RJ.nexts (h : RJ w1 wr g tb big l f bk st cls va vn acc us rows) {vn' u : Value} {r : List Int} (hu : IRow wr (g + 1) u r) (hg : wr.grownBy w2 vn.ownBlock) (ho : w2.ownsRow (g + 1) 39 1 vn' (us ++ [u]).length (us ++ [u])) :
    RJ w1 (w2.setCell ⟨tb, 5, none⟩ vn') g tb big l f bk st cls va vn' acc (us ++ [u]) (rows ++ [r]) ∧ w2.cell? ⟨tb, 5, none⟩ = some vn ∧ w2.frozen? ⟨tb, 5, none⟩ = false := by
  have hgt := h.gt
  have hgl := h.rd.lt
  have htb : some tb ≠ vn.ownBlock := fun e => by have := (h.nx.lt tb e.symm).1; omega
  have hgg : some g ≠ vn.ownBlock := fun e => by have := (h.nx.lt g e.symm).1; omega
  have e : w2.heap[tb]? = wr.heap[tb]? := hg.block tb h.lt htb
  have e2 : w2.heap[g]? = wr.heap[g]? := hg.block g hgl hgg
  have hc := fun o => cell_of_block e o
  have h5 := (hc 5).trans h.b5
  refine ⟨⟨(h.rd.of_block e2).set (by omega) _ _, (h.bl.grown hg (Nat.le_of_lt h.lt) (fun k e => by have := (h.nx.lt k e).1; omega)).setCell (p := ⟨tb, 5, none⟩) (Nat.le_refl _) _, ?_, ?_, ?_, ?_, ?_, ?_, fun o => ?_, set_keep (h.ac.kept hg (ownsRow_apart h.ac h.nx (by decide))) (by omega), set_keep ho (by omega), by simp [h.ul], fun j h1 h2 => ?_, hgt⟩, h5, (frozen_of_block e 5).trans (h.bf 5)⟩
  · rw [World.cell?_setCell_other _ _ _ _ (by simp)]; exact (hc 0).trans h.b0
  · rw [World.cell?_setCell_other _ _ _ _ (by simp)]; exact (hc 1).trans h.b1
  · rw [World.cell?_setCell_other _ _ _ _ (by simp)]; exact (hc 2).trans h.b2
  · rw [World.cell?_setCell_other _ _ _ _ (by simp)]; exact (hc 3).trans h.b3
  · rw [World.cell?_setCell_other _ _ _ _ (by simp)]; exact (hc 4).trans h.b4
  · exact World.cell?_setCell_same _ _ _ h5
  · rw [World.frozen?_setCell]; exact (frozen_of_block e o).trans (h.bf o)
  · have hul := h.ul
    by_cases hj : j < us.length
    · have := set_keep (b := tb) (o := 5) (u := vn') ((h.rw j hj (by omega)).kept hg (ownsRow_apart (h.rw j hj (by omega)) h.nx (by decide))) (by omega)
      rw [List.getElem_append_left hj, List.getElem_append_left (by omega)]
      exact this
    · have := set_keep (b := tb) (o := 5) (u := vn') (hu.kept hg (ownsRow_apart hu h.nx (by decide))) (by omega)
      have e1 : (us ++ [u])[j] = u := by rw [List.getElem_append_right (by omega)]; simp
      have e2 : (rows ++ [r])[j] = r := by rw [List.getElem_append_right (by omega)]; simp
      rw [e1, e2]
      exact this
/-- The table that stands there. -/
theorem RJ.tab (h : RJ w1 wr g tb big l f bk st cls va vn acc us rows) : TabIn wr ⟨f, bk, st, cls, acc, rows⟩ va vn := by
  have key : ∀ {α : Type} {enc : α → Value} {b : Nat} {e : TypeId} {v : Value} {xs : List α}, wr.ownsRow b e 1 v xs.length (xs.map enc) → RowE enc wr v xs := by
    intro α enc b e v xs h
    rcases h.2 with ⟨rfl, hn⟩ | ⟨k, cap, cur, rfl, _⟩
    · exact .inl ⟨List.length_eq_zero_iff.1 hn, _, _, rfl⟩
    · refine .inr ⟨k, 0, cap, rfl, fun j hj => ?_⟩
      rw [Nat.zero_add, h.cellAt j (by omega)]
      simp [hj]
  refine ⟨key h.ac, us, h.ul, key (enc := id) (by simpa using h.nx), fun j h1 h2 => key (h.rw j h1 h2)⟩
end
theorem RJ.tri {w1 wr : World} {g tb : Nat} {big : Bool} {l : List UInt8} {f bk : Bool} {st : Int} {cls : List UInt8} {va vn : Value} {acc : List Bool} {us : List Value} {rows : List (List Int)} (h : RJ w1 wr g tb big l f bk st cls va vn acc us rows) : Tri wr g va vn acc us rows := ⟨h.ac, h.nx, h.ul, h.rw⟩
theorem RJ.start {w1 w5 w8 : World} {g tb : Nat} {big : Bool} {l : List UInt8} (f bk : Bool) (st : Int) (cls : List UInt8) (hr : Rdf w8 g big l) (hb : Below tb w1 w8)
    (hT : w5.heap[tb]? = some (.cells #[.bool f, .bool bk, .int .i64 0, .string (ba cls), .slice none 0 0, .slice none 0 0] 30)) (hg : tb < g) (h58 : w8.heap[tb]? = (w5.setCell ⟨tb, 2, none⟩ (.int .i64 st)).heap[tb]?) :
    RJ w1 w8 g tb big l f bk st cls (.slice none 0 0) (.slice none 0 0) [] [] [] := by
  obtain ⟨p0, p1, p2, p3, p4, p5⟩ := box6 hT
  have pf := boxfz hT
  have hc := fun o => cell_of_block h58 o
  have hfz := fun o => frozen_of_block h58 o
  refine ⟨hr, hb, (hc 0).trans ?_, (hc 1).trans ?_, (hc 2).trans ?_, (hc 3).trans ?_, (hc 4).trans ?_, (hc 5).trans ?_, fun o => (hfz o).trans ?_, World.ownsRow_nil _ _ _ _, World.ownsRow_nil _ _ _ _, rfl, fun j h1 _ => by simp at h1, hg⟩
  · rw [World.cell?_setCell_other _ _ _ _ (by simp)]; exact p0
  · rw [World.cell?_setCell_other _ _ _ _ (by simp)]; exact p1
  · exact World.cell?_setCell_same _ _ _ p2
  · rw [World.cell?_setCell_other _ _ _ _ (by simp)]; exact p3
  · rw [World.cell?_setCell_other _ _ _ _ (by simp)]; exact p4
  · rw [World.cell?_setCell_other _ _ _ _ (by simp)]; exact p5
  · rw [World.frozen?_setCell]; exact pf o
end Go.Proofs.Ytbjabpodkaokjaa
