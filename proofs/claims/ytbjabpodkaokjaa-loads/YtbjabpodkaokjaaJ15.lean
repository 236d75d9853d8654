import Derived.Test.YtbjabpodkaokjaaJ14
import Derived.Test.YtbjabpodkaokjaaJ12
set_option linter.unusedVariables false
set_option linter.unusedSimpArgs false
namespace Go.Proofs.Ytbjabpodkaokjaa
open Go.RowKit

theorem ownsRow_apart {w : World} {b1 b2 s1 s2 n1 n2 : Nat} {e1 e2 : TypeId} {v1 v2 : Value} {x1 x2 : List Value} (h1 : w.ownsRow b1 e1 s1 v1 n1 x1) (h2 : w.ownsRow b2 e2 s2 v2 n2 x2) (he : e1 ≠ e2) : v1.ownBlock = none ∨ v1.ownBlock ≠ v2.ownBlock := by
  rcases h1.2 with ⟨rfl, _⟩ | ⟨k1, c1, cur1, rfl, _, hh1, _⟩
  · exact .inl rfl
  · rcases h2.2 with ⟨rfl, _⟩ | ⟨k2, c2, cur2, rfl, _, hh2, _⟩
    · exact .inr (by simp [Value.ownBlock])
    · refine .inr (fun e => ?_)
      simp only [Value.ownBlock, Option.some.injEq] at e
      subst e
      rw [hh1] at hh2
      injection hh2 with e
      injection e with _ e
      exact he e
/-- Between Read's steps: the reader in block g, the table in block tb. -/
structure RI (w1 wr : World) (g tb : Nat) (big : Bool) (l : List UInt8) (f bk : Bool) (st : Int) (cls : List UInt8) (va vn : Value) (acc : List Bool) (us : List Value) (rows : List (List Int)) : Prop where
  rd : Rdr wr g big l
  bl : Below g w1 wr
  b0 : wr.cell? ⟨tb, 0, none⟩ = some (.bool f)
  b1 : wr.cell? ⟨tb, 1, none⟩ = some (.bool bk)
  b2 : wr.cell? ⟨tb, 2, none⟩ = some (.int .i64 st)
  b3 : wr.cell? ⟨tb, 3, none⟩ = some (.string (ba cls))
  b4 : wr.cell? ⟨tb, 4, none⟩ = some va
  b5 : wr.cell? ⟨tb, 5, none⟩ = some vn
  bf : ∀ o, wr.frozen? ⟨tb, o, none⟩ = false
  ac : wr.ownsRow (tb + 1) 4 1 va acc.length (acc.map eB)
  nx : wr.ownsRow (tb + 1) 39 1 vn us.length us
  ul : us.length = rows.length
  rw : ∀ j (h1 : j < us.length) (h2 : j < rows.length), IRow wr (tb + 1) us[j] rows[j]
  gt : g < tb
section
variable {w1 wr w2 : World} {g tb : Nat} {big : Bool} {l l' : List UInt8} {f bk : Bool} {st : Int} {cls : List UInt8} {va vn : Value} {acc : List Bool} {us : List Value} {rows : List (List Int)}
theorem RI.lt (h : RI w1 wr g tb big l f bk st cls va vn acc us rows) : tb < wr.heap.size := cell_lt h.b0
/-- The reader has gone on. -/
theorem RI.read (h : RI w1 wr g tb big l f bk st cls va vn acc us rows) (ho : RdOut g big wr l' w2) : RI w1 w2 g tb big l' f bk st cls va vn acc us rows := by
  have hg := h.gt
  have e : w2.heap[tb]? = wr.heap[tb]? := ho.2.block tb h.lt (fun e => by injection e with e; omega)
  have hc := fun o => cell_of_block e o
  have hgl := h.rd.lt
  exact ⟨ho.1, h.bl.grown ho.2 (Nat.le_of_lt hgl) (fun k e => by injection e with e; omega), (hc 0).trans h.b0, (hc 1).trans h.b1, (hc 2).trans h.b2, (hc 3).trans h.b3, (hc 4).trans h.b4, (hc 5).trans h.b5, fun o => (frozen_of_block e o).trans (h.bf o), ownsRow_keep h.ac ho.2 (by omega), ownsRow_keep h.nx ho.2 (by omega), h.ul, fun j h1 h2 => ownsRow_keep (h.rw j h1 h2) ho.2 (by omega), hg⟩
/-- More memory was made. -/
theorem RI.below (h : RI w1 wr g tb big l f bk st cls va vn acc us rows) (hb : Below wr.heap.size wr w2) : RI w1 w2 g tb big l f bk st cls va vn acc us rows := by
  have e : w2.heap[tb]? = wr.heap[tb]? := hb.block tb h.lt
  have hc := fun o => cell_of_block e o
  have hgr : wr.grownBy w2 none := ⟨hb.os, hb.tape, hb.output, hb.size, fun k hk _ => hb.block k hk⟩
  have hk : ∀ {b n s : Nat} {v : Value} {e : TypeId} {xs : List Value}, wr.ownsRow b e s v n xs → w2.ownsRow b e s v n xs := fun h => h.kept hgr (by
    rename_i v _ _
    cases e : v.ownBlock with
    | none => exact .inl rfl
    | some k => exact .inr (by simp))
  have hgl := h.rd.lt
  exact ⟨h.rd.below hb, h.bl.trans (hb.mono (Nat.le_of_lt hgl)), (hc 0).trans h.b0, (hc 1).trans h.b1, (hc 2).trans h.b2, (hc 3).trans h.b3, (hc 4).trans h.b4, (hc 5).trans h.b5, fun o => (frozen_of_block e o).trans (h.bf o), hk h.ac, hk h.nx, h.ul, fun j h1 h2 => hk (h.rw j h1 h2), h.gt⟩
theorem set_keep {w : World} {base n size b o : Nat} {u v : Value} {e : TypeId} {xs : List Value} (h : w.ownsRow base e size v n xs) (hb : b < base) : (w.setCell ⟨b, o, none⟩ u).ownsRow base e size v n xs := ownsRow_keep h (grown_set w b o u) hb
/-- The states' list has grown. -/
theorem RI.accs (h : RI w1 wr g tb big l f bk st cls va vn acc us rows) {va' : Value} {acc' : List Bool} (hg : wr.grownBy w2 va.ownBlock) (ho : w2.ownsRow (tb + 1) 4 1 va' acc'.length (acc'.map eB)) :
    RI w1 (w2.setCell ⟨tb, 4, none⟩ va') g tb big l f bk st cls va' vn acc' us rows ∧ w2.cell? ⟨tb, 4, none⟩ = some va ∧ w2.frozen? ⟨tb, 4, none⟩ = false := by
  have hgt := h.gt
  have hgl := h.rd.lt
  have htb : some tb ≠ va.ownBlock := fun e => by have := (h.ac.lt tb e.symm).1; omega
  have hgg : some g ≠ va.ownBlock := fun e => by have := (h.ac.lt g e.symm).1; omega
  have e : w2.heap[tb]? = wr.heap[tb]? := hg.block tb h.lt htb
  have e2 : w2.heap[g]? = wr.heap[g]? := hg.block g hgl hgg
  have hc := fun o => cell_of_block e o
  have h4 := (hc 4).trans h.b4
  refine ⟨⟨(h.rd.of_block e2).set (by omega) _ _, (h.bl.grown hg (Nat.le_of_lt hgl) (fun k e => by have := (h.ac.lt k e).1; omega)).setCell (p := ⟨tb, 4, none⟩) (Nat.le_of_lt hgt) _, ?_, ?_, ?_, ?_, ?_, ?_, fun o => ?_, set_keep ho (by omega), set_keep (h.nx.kept hg (ownsRow_apart h.nx h.ac (by decide))) (by omega), h.ul, fun j h1 h2 => set_keep ((h.rw j h1 h2).kept hg (ownsRow_apart (h.rw j h1 h2) h.ac (by decide))) (by omega), hgt⟩, h4, (frozen_of_block e 4).trans (h.bf 4)⟩
  · rw [World.cell?_setCell_other _ _ _ _ (by simp)]; exact (hc 0).trans h.b0
  · rw [World.cell?_setCell_other _ _ _ _ (by simp)]; exact (hc 1).trans h.b1
  · rw [World.cell?_setCell_other _ _ _ _ (by simp)]; exact (hc 2).trans h.b2
  · rw [World.cell?_setCell_other _ _ _ _ (by simp)]; exact (hc 3).trans h.b3
  · exact World.cell?_setCell_same _ _ _ h4
  · rw [World.cell?_setCell_other _ _ _ _ (by simp)]; exact (hc 5).trans h.b5
  · rw [World.frozen?_setCell]; exact (frozen_of_block e o).trans (h.bf o)
/-- The list of rows has grown. -/
theorem RI.nexts (h : RI w1 wr g tb big l f bk st cls va vn acc us rows) {vn' u : Value} {r : List Int} (hu : IRow wr (tb + 1) u r) (hg : wr.grownBy w2 vn.ownBlock) (ho : w2.ownsRow (tb + 1) 39 1 vn' (us ++ [u]).length (us ++ [u])) :
    RI w1 (w2.setCell ⟨tb, 5, none⟩ vn') g tb big l f bk st cls va vn' acc (us ++ [u]) (rows ++ [r]) ∧ w2.cell? ⟨tb, 5, none⟩ = some vn ∧ w2.frozen? ⟨tb, 5, none⟩ = false := by
  have hgt := h.gt
  have hgl := h.rd.lt
  have htb : some tb ≠ vn.ownBlock := fun e => by have := (h.nx.lt tb e.symm).1; omega
  have hgg : some g ≠ vn.ownBlock := fun e => by have := (h.nx.lt g e.symm).1; omega
  have e : w2.heap[tb]? = wr.heap[tb]? := hg.block tb h.lt htb
  have e2 : w2.heap[g]? = wr.heap[g]? := hg.block g hgl hgg
  have hc := fun o => cell_of_block e o
  have h5 := (hc 5).trans h.b5
  refine ⟨⟨(h.rd.of_block e2).set (by omega) _ _, (h.bl.grown hg (Nat.le_of_lt hgl) (fun k e => by have := (h.nx.lt k e).1; omega)).setCell (p := ⟨tb, 5, none⟩) (Nat.le_of_lt hgt) _, ?_, ?_, ?_, ?_, ?_, ?_, fun o => ?_, set_keep (h.ac.kept hg (ownsRow_apart h.ac h.nx (by decide))) (by omega), set_keep ho (by omega), by simp [h.ul], fun j h1 h2 => ?_, hgt⟩, h5, (frozen_of_block e 5).trans (h.bf 5)⟩
  · rw [World.cell?_setCell_other _ _ _ _ (by simp)]; exact (hc 0).trans h.b0
  · rw [World.cell?_setCell_other _ _ _ _ (by simp)]; exact (hc 1).trans h.b1
  · rw [World.cell?_setCell_other _ _ _ _ (by simp)]; exact (hc 2).trans h.b2
  · rw [World.cell?_setCell_other _ _ _ _ (by simp)]; exact (hc 3).trans h.b3
  · rw [World.cell?_setCell_other _ _ _ _ (by simp)]; exact (hc 4).trans h.b4
  · exact World.cell?_setCell_same _ _ _ h5
  · rw [World.frozen?_setCell]; exact (frozen_of_block e o).trans (h.bf o)
  · have hul := h.ul
    by_cases hj : j < us.length
    · have := set_keep (b := tb) (o := 5) (u := vn') ((h.rw j hj (by omega)).kept hg (ownsRow_apart (h.rw j hj (by omega)) h.nx (by decide))) (by omega)
      rw [List.getElem_append_left hj, List.getElem_append_left (by omega)]
      exact this
    · have := set_keep (b := tb) (o := 5) (u := vn') (hu.kept hg (ownsRow_apart hu h.nx (by decide))) (by omega)
      have e1 : (us ++ [u])[j] = u := by rw [List.getElem_append_right (by omega)]; simp
      have e2 : (rows ++ [r])[j] = r := by rw [List.getElem_append_right (by omega)]; simp
      rw [e1, e2]
      exact this
/-- The table that stands there. -/
theorem RI.tab (h : RI w1 wr g tb big l f bk st cls va vn acc us rows) : TabIn wr ⟨f, bk, st, cls, acc, rows⟩ va vn := by
  have key : ∀ {α : Type} {enc : α → Value} {b : Nat} {e : TypeId} {v : Value} {xs : List α}, wr.ownsRow b e 1 v xs.length (xs.map enc) → RowE enc wr v xs := by
    intro α enc b e v xs h
    rcases h.2 with ⟨rfl, hn⟩ | ⟨k, cap, cur, rfl, _⟩
    · exact .inl ⟨List.length_eq_zero_iff.1 hn, _, _, rfl⟩
    · refine .inr ⟨k, 0, cap, rfl, fun j hj => ?_⟩
      rw [Nat.zero_add, h.cellAt j (by omega)]
      simp [hj]
  refine ⟨key h.ac, us, h.ul, key (enc := id) (by simpa using h.nx), fun j h1 h2 => key (h.rw j h1 h2)⟩
end
theorem Rdr.setBig {w : World} {g : Nat} {l : List UInt8} (h : Rdr w g false l) (b : Bool) : Rdr (w.setCell ⟨g, 0, none⟩ (.bool b)) g b l :=
  ⟨World.cell?_setCell_same _ _ _ h.c0, by rw [World.cell?_setCell_other _ _ _ _ (by simp)]; exact h.c1, fun o => by rw [World.frozen?_setCell]; exact h.fz o, h.sz⟩
theorem Rdr.new (w : World) (l : List UInt8) (hl : l.length ≤ maxLen) : Rdr (w.alloc (.cells #[.bool false, .string (ba l)] 66)) w.heap.size false l :=
  ⟨by simp [go_sem], by simp [go_sem], fun o => by simp [go_sem], hl⟩
theorem and_u8_1 (e : Nat) (h : e < 256) : (bits .and .u8 (e : Int) 1 != 0) = (e % 2 == 1) := by
  have := (bits_nat .u8 8 (by decide) (fun n h1 h2 => by rw [IntKind.wrap_u8]; omega) e 1 h (by omega)).1
  rw [show ((1 : Nat) : Int) = 1 from rfl] at this
  rw [this, Nat.and_one_is_mod]
  rcases Nat.mod_two_eq_zero_or_one e with q | q <;> rw [q] <;> rfl
set_option maxRecDepth 100000 in
theorem and_u8_2 (e : Nat) (h : e < 256) : (bits .and .u8 (e : Int) 2 != 0) = (e / 2 % 2 == 1) := by
  have := (bits_nat .u8 8 (by decide) (fun n h1 h2 => by rw [IntKind.wrap_u8]; omega) e 2 h (by omega)).1
  rw [show ((2 : Nat) : Int) = 2 from rfl] at this
  rw [this]
  have H : ∀ i : Fin 256, ((((i.val &&& 2 : Nat) : Int)) != 0) = (i.val / 2 % 2 == 1) := by decide
  exact H ⟨e, h⟩
end Go.Proofs.Ytbjabpodkaokjaa
