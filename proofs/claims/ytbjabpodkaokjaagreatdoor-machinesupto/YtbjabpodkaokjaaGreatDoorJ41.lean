import Derived.Test.YtbjabpodkaokjaaGreatDoorJ31
import Derived.Test.YtbjabpodkaokjaaGreatDoorJ35
import Derived.Deep.RegionLaw
set_option linter.unusedVariables false
set_option linter.unusedSimpArgs false
namespace Go.Proofs.YtbjabpodkaokjaaGreatDoor
open Go.RowKit

section
variable {P : Program} (w : World)
/-- A list appended to one that has nothing: it is copied. -/
theorem run_append_clone (t ty e : TypeId) (i : TypeInfo) (z : Value) (bytes : Nat) (ht : P.underlying t = some (.slice e)) (hi : P.info? e = some i) (hz : i.zero = some z)
    (hsize : i.size = 1) (hby : i.bytes = bytes) (hzs : z.cells.size = 1) (base e0 : Nat) (hE : w.heap[e0]? = some (.cells #[] e (0, 0))) (hb : base ≤ e0) {α : Type} (enc : α → Value) (xv : Value) (l : List α) (hx : RowE enc w xv l) (h1 : ∀ x, (enc x).oneCell' = true)
    (h63 : l.length ≤ maxLen) (hbytes : l.length * bytes ≤ 140737488355328) :
    ∃ g cap w', (Builtin.append_ #[t, t] ty #[.slice (some ⟨e0, 0, none⟩) 0 0, xv]).run P w = .ok (.slice (some ⟨g, 0, none⟩) l.length cap) w' ∧
      w'.ownsRow base e 1 (.slice (some ⟨g, 0, none⟩) l.length cap) l.length (l.map enc) ∧ w.grownBy w' none ∧ g < w'.heap.size := by
  have hlt : e0 < w.heap.size := (Array.getElem?_eq_some_iff.1 hE).1
  have hl0 : ∀ (x : Addr), (loadCells x 0).run P w = .ok #[] w := fun x => by simpa using run_loadCells_list (P := P) w x [] (by simp)
  have zero : ∀ (a : Option Addr) (c : Nat), (Builtin.append_ #[t, t] ty #[.slice (some ⟨e0, 0, none⟩) 0 0, .slice a 0 c]).run P w = .ok (.slice (some ⟨e0, 0, none⟩) 0 0) w := fun a c => by
    cases a <;> simp [Builtin.append_, run_underlying ht, sizeOf, typeInfo, hi, Builtin.lenOf, Builtin.firstCells, storeCells, hl0]
  have fin : ∀ (a : Option Addr) (c : Nat), l = [] → xv = .slice a 0 c → ∃ g cap w', (Builtin.append_ #[t, t] ty #[.slice (some ⟨e0, 0, none⟩) 0 0, xv]).run P w = .ok (.slice (some ⟨g, 0, none⟩) l.length cap) w' ∧
      w'.ownsRow base e 1 (.slice (some ⟨g, 0, none⟩) l.length cap) l.length (l.map enc) ∧ w.grownBy w' none ∧ g < w'.heap.size := fun a c hl hxv => by
    subst hl hxv
    exact ⟨e0, 0, w, zero a c, ⟨rfl, .inr ⟨e0, 0, #[], rfl, hb, hE, Nat.le_refl _, Nat.zero_le _, rfl, rfl⟩⟩, ⟨rfl, rfl, rfl, Nat.le_refl _, fun _ _ _ => rfl⟩, hlt⟩
  rcases hx with ⟨hl, a, c, hxv⟩ | ⟨b, o, c, hxv, hcell⟩
  · exact fin a c hl hxv
  · by_cases hl : l = []
    · exact fin (some ⟨b, o, none⟩) c hl (by rw [hxv, hl]; rfl)
    · subst hxv hby
      have hpos : 0 < l.length := List.length_pos_iff.2 hl
      have hr := run_append_grow (P := P) w t ty e i z ht hi hz ⟨e0, 0, none⟩ 0 0 [] (by simp) (fun j u hu => by simp at hu) ⟨b, o, none⟩ l.length c (l.map enc) (by rw [hsize]; simp) (fun j u hu => by
        obtain ⟨hj, e⟩ := List.getElem?_eq_some_iff.1 hu
        have hj' : j < l.length := by simpa using hj
        have hadd : (⟨b, o, none⟩ : Addr).add j = ⟨b, o + j, none⟩ := by unfold Addr.add; split <;> simp_all
        rw [hadd, hcell j hj', ← e]; simp) (by omega) (by unfold maxLen at h63; omega) (growslice_fits (by omega) (by simpa using hbytes))
      simp only [Nat.zero_add, List.nil_append, Array.empty_append] at hr
      refine ⟨_, _, _, hr, ⟨by simp, .inr ⟨w.heap.size, _, _, rfl, by omega, heap_alloc_new w.drew _, grownCap_ge w _ _ _, grownCap_le_maxLen w _ _ _ h63, ?_, ?_⟩⟩, ⟨rfl, rfl, rfl, by simp, fun k hk _ => Below.heap_alloc w.drew _ _ hk⟩, by simp⟩
      · have := grownCap_ge w l.length 0 e
        simp [size_zeroCells, hzs]
        omega
      · simp
theorem step_append_clone {ops : Array Oper} {o : Oper} {a : Act} {K : Act → World → Prop} {Q : Exit → Act → World → Prop} {E : Prop} (hgd : o.guard = none) (s x : Operand) (t : TypeId)
    (ho : o.op = .call { callee := .builtin .append, args := #[s, x], argTypes := #[t, t] })
    (e : TypeId) (i : TypeInfo) (z : Value) (bytes : Nat) (ht : P.underlying t = some (.slice e)) (hi : P.info? e = some i) (hz : i.zero = some z)
    (hsize : i.size = 1) (hby : i.bytes = bytes) (hzs : z.cells.size = 1) (base e0 : Nat) (hs : a.eval s = .slice (some ⟨e0, 0, none⟩) 0 0) (hE : w.heap[e0]? = some (.cells #[] e (0, 0))) (hb : base ≤ e0) {α : Type} (enc : α → Value) (xv : Value) (hxe : a.eval x = xv) (l : List α) (hx : RowE enc w xv l) (h1 : ∀ x, (enc x).oneCell' = true)
    (h63 : l.length ≤ maxLen) (hbytes : l.length * bytes ≤ 140737488355328)
    (h : ∀ g cap w', w'.ownsRow base e 1 (.slice (some ⟨g, 0, none⟩) l.length cap) l.length (l.map enc) → w.grownBy w' none → g < w'.heap.size → K (a.put o.dst (.slice (some ⟨g, 0, none⟩) l.length cap)) w') :
    if Region.wanted o (yielded ops a.tmps) = true then Oper.wp P o a w K Q else E := by
  have hw : Region.wanted o (yielded ops a.tmps) = true := by simp [Region.wanted, hgd]
  rw [if_pos hw]
  obtain ⟨g, cap, w', hr, h2, h3, h4⟩ := run_append_clone (P := P) w t o.type e i z bytes ht hi hz hsize hby hzs base e0 hE hb enc xv l hx h1 h63 hbytes
  unfold Oper.wp execOp
  simp only [ho, resolve, invoke, builtin, Sem.run_bind, Sem.run_pure, Result.andThen_ok, List.map_toArray, List.map_cons, List.map_nil, hs, hxe, hr]
  exact h g cap w' h2 h3 h4
theorem wpList_append_clone {ops : Array Oper} {rest : List Oper} {o : Oper} {a : Act} {Q : Exit → Act → World → Prop} (hgd : o.guard = none) (s x : Operand) (t : TypeId)
    (ho : o.op = .call { callee := .builtin .append, args := #[s, x], argTypes := #[t, t] })
    (e : TypeId) (i : TypeInfo) (z : Value) (bytes : Nat) (ht : P.underlying t = some (.slice e)) (hi : P.info? e = some i) (hz : i.zero = some z)
    (hsize : i.size = 1) (hby : i.bytes = bytes) (hzs : z.cells.size = 1) (base e0 : Nat) (hs : a.eval s = .slice (some ⟨e0, 0, none⟩) 0 0) (hE : w.heap[e0]? = some (.cells #[] e (0, 0))) (hb : base ≤ e0) {α : Type} (enc : α → Value) (xv : Value) (hxe : a.eval x = xv) (l : List α) (hx : RowE enc w xv l) (h1 : ∀ x, (enc x).oneCell' = true)
    (h63 : l.length ≤ maxLen) (hbytes : l.length * bytes ≤ 140737488355328)
    (h : ∀ g cap w', w'.ownsRow base e 1 (.slice (some ⟨g, 0, none⟩) l.length cap) l.length (l.map enc) → w.grownBy w' none → g < w'.heap.size → wpList P ops Q rest (a.put o.dst (.slice (some ⟨g, 0, none⟩) l.length cap)) w') : wpList P ops Q (o :: rest) a w := by
  refine wpList_plain hgd fun K hK => ?_
  obtain ⟨g, cap, w', hr, h2, h3, h4⟩ := run_append_clone (P := P) w t o.type e i z bytes ht hi hz hsize hby hzs base e0 hE hb enc xv l hx h1 h63 hbytes
  unfold Oper.wp execOp
  simp only [ho, resolve, invoke, builtin, Sem.run_bind, Sem.run_pure, Result.andThen_ok, List.map_toArray, List.map_cons, List.map_nil, hs, hxe, hr]
  exact hK _ _ (h g cap w' h2 h3 h4)
end
theorem grown_bel {w w' : World} (hb : Below w.heap.size w w') : w.grownBy w' none := ⟨hb.os, hb.tape, hb.output, hb.size, fun k hk _ => hb.block k hk⟩
theorem own_form {w : World} {base : Nat} {e : TypeId} {size : Nat} {v : Value} {n : Nat} {xs : List Value} (h : w.ownsRow base e size v n xs) : ∃ sp cp, v = .slice sp n cp := by
  rcases h.2 with ⟨rfl, rfl⟩ | ⟨g, cap, cur, rfl, _⟩
  · exact ⟨_, _, rfl⟩
  · exact ⟨_, _, rfl⟩
/-- Between Copied's steps: the copy in block tb. -/
structure CJ (w1 wr : World) (tb : Nat) (f bk : Bool) (st : Int) (cls : List UInt8) (va vn : Value) (acc : List Bool) (us : List Value) (rows : List (List Int)) : Prop where
  bl : Below tb w1 wr
  b0 : wr.cell? ⟨tb, 0, none⟩ = some (.bool f)
  b1 : wr.cell? ⟨tb, 1, none⟩ = some (.bool bk)
  b2 : wr.cell? ⟨tb, 2, none⟩ = some (.int .i64 st)
  b3 : wr.cell? ⟨tb, 3, none⟩ = some (.string (ba cls))
  b4 : wr.cell? ⟨tb, 4, none⟩ = some va
  b5 : wr.cell? ⟨tb, 5, none⟩ = some vn
  bf : ∀ o, wr.frozen? ⟨tb, o, none⟩ = false
  tri : Tri wr tb va vn acc us rows
section
variable {w1 wr w2 : World} {tb : Nat} {f bk : Bool} {st : Int} {cls : List UInt8} {va vn : Value} {acc : List Bool} {us : List Value} {rows : List (List Int)}
theorem CJ.lt (h : CJ w1 wr tb f bk st cls va vn acc us rows) : tb < wr.heap.size := cell_lt h.b0
theorem own_grown {w w' : World} {base n s : Nat} {e : TypeId} {v : Value} {xs : List Value} (h : w.ownsRow base e s v n xs) (hg : w.grownBy w' none) : w'.ownsRow base e s v n xs := h.kept hg (by
  cases v.ownBlock with
  | none => exact .inl rfl
  | some k => exact .inr (by simp))
theorem CJ.grown (h : CJ w1 wr tb f bk st cls va vn acc us rows) (hg : wr.grownBy w2 none) : CJ w1 w2 tb f bk st cls va vn acc us rows := by
  have e : w2.heap[tb]? = wr.heap[tb]? := hg.block tb h.lt (by simp)
  have hc := fun o => cell_of_block e o
  exact ⟨h.bl.grown hg (Nat.le_of_lt h.lt) (fun k e => by simp at e), (hc 0).trans h.b0, (hc 1).trans h.b1, (hc 2).trans h.b2, (hc 3).trans h.b3, (hc 4).trans h.b4, (hc 5).trans h.b5, fun o => (frozen_of_block e o).trans (h.bf o), ⟨own_grown h.tri.ac hg, own_grown h.tri.nx hg, h.tri.ul, fun j h1 h2 => own_grown (h.tri.rw j h1 h2) hg⟩⟩
theorem CJ.nexts (h : CJ w1 wr tb f bk st cls va vn acc us rows) {vn' u : Value} {r : List Int} (hu : IRow wr (tb + 1) u r) (hg : wr.grownBy w2 vn.ownBlock) (ho : w2.ownsRow (tb + 1) 40 1 vn' (us ++ [u]).length (us ++ [u])) :
    CJ w1 (w2.setCell ⟨tb, 5, none⟩ vn') tb f bk st cls va vn' acc (us ++ [u]) (rows ++ [r]) ∧ w2.cell? ⟨tb, 5, none⟩ = some vn ∧ w2.frozen? ⟨tb, 5, none⟩ = false := by
  have htb : some tb ≠ vn.ownBlock := fun e => by have := (h.tri.nx.lt tb e.symm).1; omega
  have e : w2.heap[tb]? = wr.heap[tb]? := hg.block tb h.lt htb
  have hc := fun o => cell_of_block e o
  have h5 := (hc 5).trans h.b5
  refine ⟨⟨(h.bl.grown hg (Nat.le_of_lt h.lt) (fun k e => by have := (h.tri.nx.lt k e).1; omega)).setCell (p := ⟨tb, 5, none⟩) (Nat.le_refl _) _, ?_, ?_, ?_, ?_, ?_, ?_, fun o => ?_, set_keep (h.tri.ac.kept hg (ownsRow_apart h.tri.ac h.tri.nx (by decide))) (by omega), set_keep ho (by omega), by simp [h.tri.ul], fun j h1 h2 => ?_⟩, h5, (frozen_of_block e 5).trans (h.bf 5)⟩
  · rw [World.cell?_setCell_other _ _ _ _ (by simp)]; exact (hc 0).trans h.b0
  · rw [World.cell?_setCell_other _ _ _ _ (by simp)]; exact (hc 1).trans h.b1
  · rw [World.cell?_setCell_other _ _ _ _ (by simp)]; exact (hc 2).trans h.b2
  · rw [World.cell?_setCell_other _ _ _ _ (by simp)]; exact (hc 3).trans h.b3
  · rw [World.cell?_setCell_other _ _ _ _ (by simp)]; exact (hc 4).trans h.b4
  · exact World.cell?_setCell_same _ _ _ h5
  · rw [World.frozen?_setCell]; exact (frozen_of_block e o).trans (h.bf o)
  · have hul := h.tri.ul
    by_cases hj : j < us.length
    · have := set_keep (b := tb) (o := 5) (u := vn') ((h.tri.rw j hj (by omega)).kept hg (ownsRow_apart (h.tri.rw j hj (by omega)) h.tri.nx (by decide))) (by omega)
      rw [List.getElem_append_left hj, List.getElem_append_left (by omega)]
      exact this
    · have := set_keep (b := tb) (o := 5) (u := vn') (hu.kept hg (ownsRow_apart hu h.tri.nx (by decide))) (by omega)
      have e1 : (us ++ [u])[j] = u := by rw [List.getElem_append_right (by omega)]; simp
      have e2 : (rows ++ [r])[j] = r := by rw [List.getElem_append_right (by omega)]; simp
      rw [e1, e2]
      exact this
end
end Go.Proofs.YtbjabpodkaokjaaGreatDoor

namespace Go.Proofs.YtbjabpodkaokjaaGreatDoor
open Go.RowKit

theorem CJ.start {w1 w4 : World} {tb : Nat} {f bk : Bool} {st : Int} {cls : List UInt8} {va vn : Value} {acc : List Bool} {g c : Nat} (hc : w1.heap[tb]? = some (.cells #[.bool f, .bool bk, .int .i64 st, .string (ba cls), va, vn] 33)) (hb : Below w1.heap.size w1 w4)
    (ho : w4.ownsRow (tb + 1) 4 1 (.slice (some ⟨g, 0, none⟩) acc.length c) acc.length (acc.map eB)) :
    CJ w1 ((w4.setCell ⟨tb, 4, none⟩ (.slice (some ⟨g, 0, none⟩) acc.length c)).setCell ⟨tb, 5, none⟩ (.slice none 0 0)) tb f bk st cls (.slice (some ⟨g, 0, none⟩) acc.length c) (.slice none 0 0) acc [] [] := by
  have hlt : tb < w1.heap.size := (Array.getElem?_eq_some_iff.1 hc).1
  have e : w4.heap[tb]? = some (.cells #[.bool f, .bool bk, .int .i64 st, .string (ba cls), va, vn] 33) := (hb.block tb hlt).trans hc
  obtain ⟨p0, p1, p2, p3, p4, p5⟩ := box6 e
  have pf := boxfz e
  refine ⟨((hb.mono (Nat.le_of_lt hlt)).setCell (p := ⟨tb, 4, none⟩) (Nat.le_refl _) _).setCell (p := ⟨tb, 5, none⟩) (Nat.le_refl _) _, ?_, ?_, ?_, ?_, ?_, ?_, fun o => ?_, set_keep (set_keep ho (by omega)) (by omega), World.ownsRow_nil _ _ _ _, rfl, fun j h1 _ => by simp at h1⟩
  · rw [World.cell?_setCell_other _ _ _ _ (by simp), World.cell?_setCell_other _ _ _ _ (by simp)]; exact p0
  · rw [World.cell?_setCell_other _ _ _ _ (by simp), World.cell?_setCell_other _ _ _ _ (by simp)]; exact p1
  · rw [World.cell?_setCell_other _ _ _ _ (by simp), World.cell?_setCell_other _ _ _ _ (by simp)]; exact p2
  · rw [World.cell?_setCell_other _ _ _ _ (by simp), World.cell?_setCell_other _ _ _ _ (by simp)]; exact p3
  · rw [World.cell?_setCell_other _ _ _ _ (by simp)]; exact World.cell?_setCell_same _ _ _ p4
  · exact World.cell?_setCell_same _ _ _ (by rw [World.cell?_setCell_other _ _ _ _ (by simp)]; exact p5)
  · rw [World.frozen?_setCell, World.frozen?_setCell]; exact pf o
set_option maxRecDepth 4000 in
set_option maxHeartbeats 4000000 in
theorem copied_any (w : World) (t : Tb) (va vn : Value) (h : TabIn w t va vn) (ha : t.acc.length ≤ 1048576) (hn : t.next.length ≤ 1048576) (hr : ∀ r ∈ t.next, r.length ≤ 1048576) :
    Calls Tryz.prog 116 #[tv t va vn] w fun e w' => ∃ aa ca an cn, e = .returned (tv t (.slice aa t.acc.length ca) (.slice an t.next.length cn)) ∧ (∀ w2, Hi w.heap.size w' w2 → TabIn w2 t (.slice aa t.acc.length ca) (.slice an t.next.length cn)) ∧ Below w.heap.size w w' := by
  obtain ⟨f, bk, st, cls, acc, next⟩ := t
  obtain ⟨hac, us0, hul, hu, hrw⟩ := h
  simp only at *
  obtain ⟨an0, cn0, hvn⟩ := hu.form
  obtain ⟨n, hnn⟩ : ∃ n, n = us0.length := ⟨_, rfl⟩
  rw [← hnn] at hvn
  obtain ⟨aa0, ca0, hva⟩ := hac.form
  obtain ⟨na, hna⟩ : ∃ n, n = acc.length := ⟨_, rfl⟩
  rw [← hna] at hva
  subst hva hvn
  have HNA : Hid (na = acc.length) := hna
  obtain ⟨w1, hw1⟩ : ∃ w1, w1 = ((w.alloc (.cells #[.bool f, .bool bk, .int .i64 st, .string (ba cls), .slice aa0 na ca0, .slice an0 n cn0] 33)).alloc (.cells tc0 33)).alloc (.cells #[.bool f, .bool bk, .int .i64 st, .string (ba cls), .slice aa0 na ca0, .slice an0 n cn0] 33) := ⟨_, rfl⟩
  have hb1 : Below w.heap.size w w1 := by rw [hw1]; exact (((Below.refl _ _).alloc (Nat.le_refl _) _).alloc (by simp) _).alloc (by simp; omega) _
  have hs1 : w1.heap.size = w.heap.size + 3 := by rw [hw1]; simp
  have hT : w1.heap[w.heap.size]? = some (.cells #[.bool f, .bool bk, .int .i64 st, .string (ba cls), .slice aa0 na ca0, .slice an0 n cn0] 33) := by
    rw [hw1, Below.heap_alloc _ _ _ (by simp; omega), Below.heap_alloc _ _ _ (by simp)]; exact heap_alloc_new w _
  have hX : w1.heap[w.heap.size + 2]? = some (.cells #[.bool f, .bool bk, .int .i64 st, .string (ba cls), .slice aa0 na ca0, .slice an0 n cn0] 33) := by
    rw [hw1]; have := heap_alloc_new ((w.alloc (.cells #[.bool f, .bool bk, .int .i64 st, .string (ba cls), .slice aa0 na ca0, .slice an0 n cn0] 33)).alloc (.cells tc0 33)) (.cells #[.bool f, .bool bk, .int .i64 st, .string (ba cls), .slice aa0 na ca0, .slice an0 n cn0] 33); simpa using this
  have hR : w1.heap[w.heap.size + 1]? = some (.cells tc0 33) := by
    rw [hw1, Below.heap_alloc _ _ _ (by simp)]; have := heap_alloc_new (w.alloc (.cells #[.bool f, .bool bk, .int .i64 st, .string (ba cls), .slice aa0 na ca0, .slice an0 n cn0] 33)) (.cells tc0 33); simpa using this
  have HW : Hid (w1 = ((w.alloc (.cells #[.bool f, .bool bk, .int .i64 st, .string (ba cls), .slice aa0 na ca0, .slice an0 n cn0] 33)).alloc (.cells tc0 33)).alloc (.cells #[.bool f, .bool bk, .int .i64 st, .string (ba cls), .slice aa0 na ca0, .slice an0 n cn0] 33)) := hw1
  obtain ⟨y0, y1, y2, y3, y4, y5⟩ := box6 hT
  obtain ⟨x0, x1, x2, x3, x4, x5⟩ := box6 hX
  have xf := boxfz hX
  have HB1 : Hid (Below w.heap.size w w1) := hb1
  have HS1 : Hid (w1.heap.size = w.heap.size + 3) := hs1
  have HHX : Hid (w1.heap[w.heap.size + 2]? = some (.cells #[.bool f, .bool bk, .int .i64 st, .string (ba cls), .slice aa0 na ca0, .slice an0 n cn0] 33)) := hX
  have HKT : Hid (∀ w', Below (w.heap.size + 2) w1 w' → w'.cell? ⟨w.heap.size, 5, none⟩ = some (.slice an0 n cn0)) := fun w' hb => by
    have := hb.block w.heap.size (by omega)
    rw [cell_of_block this, y5]
  have HKR : Hid (∀ w', Below (w.heap.size + 2) w1 w' → w'.heap[w.heap.size + 1]? = some (.cells tc0 33)) := fun w' hb => (hb.block _ (by omega)).trans hR
  have HKU : Hid (∀ w', Below (w.heap.size + 2) w1 w' → Below w.heap.size w w') := fun w' hb => hb1.trans (hb.mono (by omega))
  have HAC : Hid (RowE eB w1 (.slice aa0 na ca0) acc) := hac.below hb1
  have HU : Hid (RowE id w (.slice an0 n cn0) us0) := hu
  have HRW : Hid (∀ j (h1 : j < us0.length) (h2 : j < next.length), RowE eI w us0[j] next[j]) := hrw
  have HNN : Hid (n = us0.length ∧ n = next.length) := ⟨hnn, by omega⟩
  have HR : Hid (∀ r ∈ next, r.length ≤ 1048576) := hr
  have hn2 : n ≤ 1048576 := by omega
  obtain ⟨i1, hi1, h10, h11, h12⟩ := info_parts Tryz.infoLI
  obtain ⟨i2, hi2, h20, h21, h22⟩ := info_parts Tryz.infoI
  obtain ⟨i3, hi3, h30, h31, h32⟩ := info_parts Tryz.infoBo
  obtain ⟨tb, htb⟩ : ∃ tb, tb = w.heap.size + 2 := ⟨_, rfl⟩
  have HTB : Hid (tb = w.heap.size + 2) := htb
  have ha2 : na ≤ 1048576 := by omega
  clear hac hul hu hrw hb1 hs1 hT hX hR hw1 hnn hna
  go_enter Tryz.func116, Tryz.ntmps116
  go_wp2_with (at_builtin; rw [← HW.out]; refine wpList_append_clone _ rfl (.tmp 6) (.tmp 8) 30 rfl 4 i3 (.bool false) 1 Tryz.underlying30 hi3 h30 h31 h32 rfl (w.heap.size + 3) (w.heap.size + 3) rfl (by rw [← HS1.out]; exact heap_alloc_new w1 _) (Nat.le_refl _) eB (.slice aa0 na ca0) rfl acc (HAC.out.below ((Below.refl _ _).alloc (Nat.le_refl _) _)) (fun _ => rfl) (by unfold maxLen; omega) (by omega) ?_; intro g4 k4 w4 ho4 hg4 hl4; have HB4 : Hid (Below w1.heap.size w1 w4) := Below.grown ((Below.refl _ _).alloc (Nat.le_refl _) _) hg4 (by simp) (fun k e => by simp at e); obtain ⟨z0, z1, z2, z3, z4, z5⟩ := box6 ((HB4.out.block (w.heap.size + 2) (by rw [HS1.out]; omega)).trans HHX.out); have zf := boxfz ((HB4.out.block (w.heap.size + 2) (by rw [HS1.out]; omega)).trans HHX.out); have HC4 : Hid (CJ w1 ((w4.setCell ⟨w.heap.size + 2, 4, none⟩ (.slice (some ⟨g4, 0, none⟩) acc.length k4)).setCell ⟨w.heap.size + 2, 5, none⟩ (.slice none 0 0)) (w.heap.size + 2) f bk st cls (.slice (some ⟨g4, 0, none⟩) acc.length k4) (.slice none 0 0) acc [] []) := CJ.start HHX.out HB4.out ho4; clear ho4 hg4)
  generalize ((w4.setCell ⟨w.heap.size + 2, 4, none⟩ (.slice (some ⟨g4, 0, none⟩) acc.length k4)).setCell ⟨w.heap.size + 2, 5, none⟩ (.slice none 0 0)) = w5 at HC4 ⊢
  have t5 := HKT.out w5 HC4.out.bl
  clear x0 x1 x2 x3 x4 x5 xf y0 y1 y2 y3 y4 y5 z0 z1 z2 z3 z4 z5 zf hl4
  go_loopw [4] (fun i wr => ∃ (k : Nat) (vn' : Value) (us : List Value), i = .int .i64 k ∧ k ≤ n ∧ us.length = k ∧ CJ w1 wr (w.heap.size + 2) f bk st cls (.slice (some ⟨g4, 0, none⟩) acc.length k4) vn' acc us (next.take k)) (fun i _ => n - (intOf i).toNat)
  case atStart => exact ⟨0, _, [], rfl, Nat.zero_le _, rfl, HC4.out⟩
  case round =>
    clear t5 HC4
    obtain ⟨k, vn', us, rfl, hk, hul, hcj⟩ := hrel
    have HC : Hid (CJ w1 wr (w.heap.size + 2) f bk st cls (.slice (some ⟨g4, 0, none⟩) acc.length k4) vn' acc us (next.take k)) := hcj
    have t5 := HKT.out wr hcj.bl
    have a5 := hcj.b5
    have HUL : Hid (us.length = k) := hul
    clear hcj hul
    by_cases hlt : k < n
    · have hltI : (k : Int) < n := by omega
      have hk1 : k < us0.length := by rw [← HNN.out.1]; exact hlt
      have hk2 : k < next.length := by rw [← HNN.out.2]; exact hlt
      obtain ⟨bn, on, cn1, hvn, hcell⟩ := HU.out.nonnil (by omega)
      injection hvn with e1 e2 e3
      subst e1
      have uk := cell_below (HKU.out wr HC.out.bl) (hcell k hk1)
      simp only [id] at uk
      have HRK : Hid (RowE eI wr us0[k] next[k]) := (HRW.out k hk1 hk2).below (HKU.out wr HC.out.bl)
      have HRL : Hid (next[k].length ≤ 1048576) := HR.out _ (List.getElem_mem hk2)
      obtain ⟨u, hu⟩ : ∃ u, u = us0[k] := ⟨_, rfl⟩
      obtain ⟨r, hre⟩ : ∃ r, r = next[k] := ⟨_, rfl⟩
      rw [← hu] at uk HRK
      rw [← hre] at HRK HRL
      have HTK : Hid (next.take k ++ [r] = next.take (k + 1)) := by
        show _ = _
        rw [List.take_add_one, List.getElem?_eq_getElem hk2, ← hre]; rfl
      have hrl := HRL.out
      have a5n : (wr.alloc (.cells #[] 3)).cell? ⟨w.heap.size + 2, 5, none⟩ = some vn' := cell_below ((Below.refl _ _).alloc (Nat.le_refl _) _) a5
      have t5n : (wr.alloc (.cells #[] 3)).cell? ⟨w.heap.size, 5, none⟩ = some (.slice (some ⟨bn, on, none⟩) n cn0) := cell_below ((Below.refl _ _).alloc (Nat.le_refl _) _) t5
      have ukn : (wr.alloc (.cells #[] 3)).cell? ⟨bn, on + k, none⟩ = some u := cell_below ((Below.refl _ _).alloc (Nat.le_refl _) _) uk
      have a5e := World.new_ne wr _ a5
      have t5e := World.new_ne wr _ t5
      have uke := World.new_ne wr _ uk
      clear e2 e3 hcell hu hre hk1 hk2
      go_wp2
      go_region_law (first | ((refine step_append_lies _ (by rfl) (.tmp 20) (.tmp 28) 31 (by rfl) (w.heap.size + 3) 40 i1 (.slice none 0 0) 1 24 Tryz.underlying31 hi1 h10 h11 h12 (by rfl) (by decide) vn' k us (by rfl) (World.ownsRow.alloc HNX6.out _) ⟨w6.heap.size, 0, none⟩ 1 1 [(.slice (some ⟨g6, 0, none⟩) r.length k6)] (by rfl) (by rfl) (one_cell_new _ _ _) (by simp [Value.oneCell']) (by omega) (by unfold maxLen; omega) (by omega) (by have := HC6.out.lt; simp; omega) _ (by rfl) ?_; intro g8 k8 w8 ho8 hg8 hat8 hl8; obtain ⟨hc8, e5, f5⟩ := (HC6.out.grown (grown_bel ((Below.refl _ _).alloc (Nat.le_refl _) _))).nexts (r := r) (own_grown HIR6.out (grown_bel ((Below.refl _ _).alloc (Nat.le_refl _) _))) hg8 (ow_snoc' ho8 HUL.out); have HC8 : Hid (CJ w1 (w8.setCell ⟨w.heap.size + 2, 5, none⟩ (.slice (some ⟨g8, 0, none⟩) (k + 1) k8)) (w.heap.size + 2) f bk st cls (.slice (some ⟨g4, 0, none⟩) acc.length k4) (.slice (some ⟨g8, 0, none⟩) (k + 1) k8) acc (us ++ [(.slice (some ⟨g6, 0, none⟩) r.length k6)]) (next.take k ++ [r])) := hc8; clear ho8 hg8 hat8 hc8)) | ((refine step_append_clone _ (by rfl) (.tmp 21) (.tmp 26) 40 (by rfl) 3 i2 (.int .i64 0) 8 Tryz.underlying40 hi2 h20 h21 h22 (by rfl) (w.heap.size + 3) wr.heap.size (by rfl) (by exact heap_alloc_new wr _) (by have := HC.out.lt; omega) eI u (by rfl) r (HRK.out.below ((Below.refl _ _).alloc (Nat.le_refl _) _).drew) (fun _ => rfl) (by unfold maxLen; omega) (by omega) ?_; intro g6 k6 w6 ho6 hg6 hl6; have HC6 : Hid (CJ w1 w6 (w.heap.size + 2) f bk st cls (.slice (some ⟨g4, 0, none⟩) acc.length k4) vn' acc us (next.take k)) := (HC.out.grown (grown_bel ((Below.refl _ _).alloc (Nat.le_refl _) _).drew)).grown hg6; have HIR6 : Hid (IRow w6 (w.heap.size + 2 + 1) (.slice (some ⟨g6, 0, none⟩) r.length k6) r) := ho6; have HNX6 : Hid (w6.ownsRow (w.heap.size + 3) 40 1 vn' k us) := (by have := HC6.out.tri.nx; rw [HUL.out] at this; exact this); have a6 := HC6.out.b5; have a6n : (w6.alloc (.cells #[(.slice (some ⟨g6, 0, none⟩) r.length k6)] 40)).cell? ⟨w.heap.size + 2, 5, none⟩ = some vn' := cell_below ((Below.refl _ _).alloc (Nat.le_refl _) _) a6; have a6e := World.new_ne w6 _ a6; clear ho6 hg6)))
      all_goals
        go_wp2
        go_roundw
        case rel => exact ⟨k + 1, _, us ++ [(.slice (some ⟨g6, 0, none⟩) r.length k6)], by go_num, by omega, by simp [HUL.out], by rw [← HTK.out]; exact HC8.out⟩
        case measure => simp [intOf] <;> omega
    · have hkI : ¬ (k : Int) < n := by omega
      have hkn : k = n := by omega
      obtain ⟨sp, cp, hvf⟩ := own_form HC.out.tri.nx
      rw [HUL.out, hkn] at hvf
      subst hvf
      have hcj := HC.out
      rw [hkn, List.take_of_length_le (by rw [← HNN.out.2]; exact Nat.le_refl _)] at hcj
      have HCF : Hid (CJ w1 wr (w.heap.size + 2) f bk st cls (.slice (some ⟨g4, 0, none⟩) acc.length k4) (.slice sp n cp) acc us next) := hcj
      have b0 := hcj.b0
      have b1 := hcj.b1
      have b2 := hcj.b2
      have b3 := hcj.b3
      have b4 := hcj.b4
      obtain ⟨r0, r1, r2, r3, r4, r5⟩ := box6 (HKR.out wr hcj.bl)
      have rf := boxfz (HKR.out wr hcj.bl)
      have HBW : Hid (Below w.heap.size w wr) := HKU.out wr hcj.bl
      clear hcj HC hkn
      go_wp2
      refine bodyPost_ret (v := tv ⟨f, bk, st, cls, acc, next⟩ (.slice (some ⟨g4, 0, none⟩) acc.length k4) (.slice sp n cp)) (by simp [results, Tryz.results116, go_sem, r0, r1, r2, r3, r4, r5]) rfl ?_
      refine ⟨_, k4, sp, cp, by rw [← HNN.out.2], fun w2 k2 => ?_, ?_⟩
      · have hgt2 : w.heap.size + 1 < w.heap.size + 2 := by omega
        have := ((((((HCF.out.tri.set hgt2 _ _).set hgt2 _ _).set hgt2 _ _).set hgt2 _ _).set hgt2 _ _).set hgt2 _ _).tabN f bk st cls (by omega) w2 k2
        rw [← HNN.out.2]
        exact this
      · exact (by (repeat first | (with_reducible refine Below.setCell ?_ (by first | exact Nat.le_refl _ | (simp; done) | (simp; omega)) _) | (with_reducible refine Below.alloc ?_ (by first | omega | (simp; done) | (simp; omega)) _) | (with_reducible refine Below.drew ?_)); exact HBW.out)
end Go.Proofs.YtbjabpodkaokjaaGreatDoor
