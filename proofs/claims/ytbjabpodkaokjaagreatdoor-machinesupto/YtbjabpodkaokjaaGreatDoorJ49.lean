import Derived.Test.YtbjabpodkaokjaaGreatDoorJ48
import Derived.Test.YtbjabpodkaokjaaGreatDoorRows
import Derived.Deep.Matrix
import Derived.Deep.Slices
set_option linter.unusedVariables false
set_option linter.unusedSimpArgs false
namespace Go.Proofs.YtbjabpodkaokjaaGreatDoor
open Go.RowKit Go.Deep

theorem bulk_pos {H : Type} (d : DataW H) : 1 ≤ Rows.uptoBulk d := by
  cases d with
  | lit l => cases l <;> simp [Rows.uptoBulk]
  | nil => simp [Rows.uptoBulk]
  | ptr d => simp [Rows.uptoBulk]
  | slice elems spare => simp [Rows.uptoBulk]
  | agg parts => simp [Rows.uptoBulk]
  | iface t d => simp [Rows.uptoBulk]
  | map entries => simp [Rows.uptoBulk]
  | held h => simp [Rows.uptoBulk]
theorem bulk_mem {H : Type} {d : DataW H} : ∀ {l : List (DataW H)}, d ∈ l → Rows.uptoBulk d ≤ Rows.uptoBulkAll l
  | x :: r, h => by
    simp only [Rows.uptoBulkAll]
    rcases List.mem_cons.1 h with rfl | h
    · exact Nat.le_add_right _ _
    · exact Nat.le_trans (bulk_mem h) (Nat.le_add_left _ _)
theorem bulk_len {H : Type} : ∀ (l : List (DataW H)), l.length ≤ Rows.uptoBulkAll l
  | [] => Nat.zero_le _
  | x :: r => by
    have := bulk_pos x
    have := bulk_len r
    simp only [Rows.uptoBulkAll, List.length_cons]
    omega
theorem bulk_slice {H : Type} (l s : List (DataW H)) : Rows.uptoBulkAll l ≤ Rows.uptoBulk (.slice l s) := by simp only [Rows.uptoBulk]; omega
theorem addr_of {w : World} {a : Addr} {v : Value} (h : w.cell? (a.add 0) = some v) : ∀ j, a.add j = ⟨a.block, a.off + j, none⟩ := by
  obtain ⟨b, o, s⟩ := a
  have hs : s = none := by
    cases s with
    | none => rfl
    | some x =>
      simp only [Addr.add, if_true, World.cell?] at h
      split at h <;> simp at h
  subst hs
  intro j
  unfold Addr.add
  split <;> simp_all
section
variable {H : Type} {enc : TypeId × Value → H} {w : World} {fuel : Nat} {cs : List Value} {x : DataW H × List MemPlace}
theorem open_bools (h : DataW.trod enc Tryz.prog w 0 (fun _ => true) true fuel 30 cs = some x) : ∃ (a : Option Addr) (n c : Nat) (l : List Bool), cs = [.slice a n c] ∧ l.length = n ∧ RowE eB w (.slice a n c) l ∧ n ≤ Rows.uptoBulk x.1 := by
  rcases open_slice1 Tryz.underlying30 (by kernel_rfl) h with ⟨rfl, rfl⟩ | ⟨a, len, cap, m, n, V, D, Pl, rfl, hb, hl, hm, hmm, rfl, hx⟩
  · exact ⟨none, 0, 0, [], rfl, rfl, .inl ⟨rfl, _, _, rfl⟩, Nat.zero_le _⟩
  · simp only [if_true] at hmm
    have hV : ∀ i, i < len → ∃ b, V i = .bool b := fun i hi => by
      obtain ⟨b, e, _⟩ := DataW.trod_bool Tryz.underlying4 (hx i (by omega)).2
      exact ⟨b, by simpa using e⟩
    obtain ⟨F, hF⟩ := choose_lt (α := Bool) hV
    refine ⟨some a, len, cap, (List.range len).map F, rfl, by simp, ?_, ?_⟩
    · rcases Nat.eq_zero_or_pos len with h0 | hp
      · subst h0; exact .inl ⟨rfl, _, _, rfl⟩
      · have ha := addr_of (hx 0 (by omega)).1
        have h0 := ha 0
        simp only [Addr.add, if_true, Nat.add_zero] at h0
        refine .inr ⟨a.block, a.off, cap, by rw [h0]; simp, fun j hj => ?_⟩
        have hj' : j < len := by simpa using hj
        rw [← ha j, (hx j (by omega)).1, hF j hj']
        simp
    · have h1 := bulk_len ((List.range len).map D)
      have h2 := bulk_slice ((List.range len).map D) ((List.range (m - len)).map fun j => D (len + j))
      simp only [List.length_map, List.length_range] at h1
      exact Nat.le_trans h1 h2
theorem open_rows (h : DataW.trod enc Tryz.prog w 0 (fun _ => true) true fuel 31 cs = some x) : ∃ (a : Option Addr) (n c : Nat) (l : List (List Int)), cs = [.slice a n c] ∧ l.length = n ∧ RowsE eI w (.slice a n c) l ∧ n ≤ Rows.uptoBulk x.1 ∧ ∀ r ∈ l, r.length ≤ Rows.uptoBulk x.1 := by
  rcases open_int_rows Tryz.underlying31 Tryz.underlying40 Tryz.underlying3 (by kernel_rfl) (by kernel_rfl) h with ⟨rfl, rfl⟩ | ⟨a, len, cap, A, L, C, Z, rfl, hb, hl, hm, rfl, hx⟩
  · exact ⟨none, 0, 0, [], rfl, rfl, ⟨[], rfl, .inl ⟨rfl, _, _, rfl⟩, fun j h1 _ => by simp at h1⟩, Nat.zero_le _, fun r hr => by simp at hr⟩
  · refine ⟨some a, len, cap, (List.range len).map fun r => (Z r).take (L r), rfl, by simp, ⟨(List.range len).map fun r => .slice (A r) (L r) (C r), by simp, ?_, fun j h1 h2 => ?_⟩, ?_, fun r hr => ?_⟩
    · rcases Nat.eq_zero_or_pos len with h0 | hp
      · subst h0; exact .inl ⟨rfl, _, _, rfl⟩
      · have ha := addr_of (hx 0 (by omega)).1
        have h0 := ha 0
        simp only [Addr.add, if_true, Nat.add_zero] at h0
        refine .inr ⟨a.block, a.off, cap, by rw [h0]; simp, fun j hj => ?_⟩
        have hj' : j < len := by simpa using hj
        rw [← ha j, (hx j (by omega)).1]
        simp
    · have hj : j < len := by simpa using h1
      obtain ⟨_, g2, g3, g4, _, g6, g7⟩ := hx j (by omega)
      simp only [List.getElem_map, List.getElem_range]
      have hlen : ((Z j).take (L j)).length = L j := by rw [List.length_take]; omega
      rcases Nat.eq_zero_or_pos (L j) with h0 | hp
      · refine .inl ⟨List.eq_nil_of_length_eq_zero (by omega), A j, C j, by rw [h0]⟩
      · cases hA : A j with
        | none => have := g6 hA; omega
        | some a' =>
          have hc := (g7 a' hA).2
          have ha := addr_of (hc 0 (by omega))
          have h0 := ha 0
          simp only [Addr.add, if_true, Nat.add_zero] at h0
          refine .inr ⟨a'.block, a'.off, C j, by rw [hlen, h0], fun i hi => ?_⟩
          rw [← ha i, hc i (by omega)]
          rw [hlen] at hi
          simp [List.getD, List.getElem?_eq_getElem (show i < (Z j).length by omega)]
    · have h1 := bulk_len ((List.range len).map fun r => intRow (H := H) .i64 (A r) (L r) (Z r))
      simp only [List.length_map, List.length_range] at h1
      exact Nat.le_trans h1 (bulk_slice _ _)
    · obtain ⟨j, hj, rfl⟩ := List.mem_map.1 hr
      have hj' : j < len := List.mem_range.1 hj
      obtain ⟨_, g2, g3, g4, _, g6, g7⟩ := hx j (by omega)
      have hm2 : Rows.uptoBulk (intRow (H := H) .i64 (A j) (L j) (Z j)) ≤ _ := Nat.le_trans (bulk_mem (List.mem_map.2 ⟨j, hj, rfl⟩)) (bulk_slice ((List.range len).map fun r => intRow (H := H) .i64 (A r) (L r) (Z r)) ((List.range (cap - len)).map fun j => intRow .i64 (A (len + j)) (L (len + j)) (Z (len + j))))
      refine Nat.le_trans ?_ hm2
      cases hA : A j with
      | none => have := g6 hA; rw [List.length_take]; omega
      | some a' =>
        simp only [intRow]
        have h1 := bulk_len (Go.ChangeShapes.lits (H := H) .i64 ((Z j).take (L j)))
        rw [show (Go.ChangeShapes.lits (H := H) .i64 ((Z j).take (L j))).length = ((Z j).take (L j)).length by simp [Go.ChangeShapes.lits]] at h1
        exact Nat.le_trans h1 (bulk_slice _ _)
end
end Go.Proofs.YtbjabpodkaokjaaGreatDoor

namespace Go.Proofs.YtbjabpodkaokjaaGreatDoor
open Go.RowKit Go.Deep

theorem wf64 {n : Int} (h : (Lit.int .i64 n).wf = true) : -9223372036854775808 ≤ n ∧ n ≤ 9223372036854775807 := by
  have e1 : IntKind.i64.min = -9223372036854775808 := by decide
  have e2 : IntKind.i64.max = 9223372036854775807 := by decide
  simp only [Lit.wf, Bool.and_eq_true, decide_eq_true_eq, e1, e2] at h
  exact h
theorem bulk_agg {H : Type} {xs : List (DataW H × List MemPlace)} {i : Nat} {y : DataW H × List MemPlace} (h : xs[i]? = some y) : Rows.uptoBulk y.1 ≤ Rows.uptoBulk (.agg (xs.map (·.1)) : DataW H) := by
  have h1 : y.1 ∈ xs.map (·.1) := List.mem_map.2 ⟨y, List.mem_of_getElem? h, rfl⟩
  have h2 := bulk_mem h1
  simp only [Rows.uptoBulk]
  omega
theorem ba_of (s : ByteArray) : ba s.data.toList = s := by simp
section
variable {H : Type} {enc : TypeId × Value → H} {w : World} {fuel : Nat} {cs : List Value} {x : DataW H × List MemPlace}
theorem list6 {α : Type} {l : List α} (h : l.length = 6) : ∃ a b c d e f, l = [a, b, c, d, e, f] := by
  match l, h with
  | [a, b, c, d, e, f], _ => exact ⟨a, b, c, d, e, f, rfl⟩
theorem list11 {α : Type} {l : List α} (h : l.length = 11) : ∃ a b c d e f g i j k m, l = [a, b, c, d, e, f, g, i, j, k, m] := by
  match l, h with
  | [a, b, c, d, e, f, g, i, j, k, m], _ => exact ⟨a, b, c, d, e, f, g, i, j, k, m, rfl⟩
theorem open_table (h : DataW.trod enc Tryz.prog w 0 (fun _ => true) true fuel 33 cs = some x) : ∃ (t : Tb) (aa : Option Addr) (ca : Nat) (an : Option Addr) (cn : Nat), cs = [.bool t.front, .bool t.back, .int .i64 t.start, .string (ba t.cls), .slice aa t.acc.length ca, .slice an t.next.length cn] ∧
    TabIn w t (.slice aa t.acc.length ca) (.slice an t.next.length cn) ∧ t.acc.length ≤ Rows.uptoBulk x.1 ∧ t.next.length ≤ Rows.uptoBulk x.1 ∧ (∀ r ∈ t.next, r.length ≤ Rows.uptoBulk x.1) ∧ t.cls.length ≤ Rows.uptoBulk x.1 := by
  obtain ⟨xs, n, rfl, rfl, hlen, hxl, hf⟩ := DataW.trod_struct Tryz.underlying33 h
  rw [show Tryz.prog.cellsOf 33 = 6 by kernel_rfl] at hlen
  have k4 : Tryz.prog.cellsOf 4 = 1 := by kernel_rfl
  have k3 : Tryz.prog.cellsOf 3 = 1 := by kernel_rfl
  have k9 : Tryz.prog.cellsOf 9 = 1 := by kernel_rfl
  have k30 : Tryz.prog.cellsOf 30 = 1 := by kernel_rfl
  have k31 : Tryz.prog.cellsOf 31 = 1 := by kernel_rfl
  obtain ⟨c0, c1, c2, c3, c4, c5, rfl⟩ := list6 hlen
  · clear hlen
    have hg : ∀ i, i < 6 → ∃ y, xs[i]? = some y := fun i hi => ⟨_, List.getElem?_eq_getElem (by rw [hxl]; exact hi)⟩
    obtain ⟨y0, g0⟩ := hg 0 (by omega)
    obtain ⟨y1, g1⟩ := hg 1 (by omega)
    obtain ⟨y2, g2⟩ := hg 2 (by omega)
    obtain ⟨y3, g3⟩ := hg 3 (by omega)
    obtain ⟨y4, g4⟩ := hg 4 (by omega)
    obtain ⟨y5, g5⟩ := hg 5 (by omega)
    have f0 : DataW.trod enc Tryz.prog w 0 (fun _ => true) true n 4 ((List.drop 0 [c0, c1, c2, c3, c4, c5]).take (Tryz.prog.cellsOf 4)) = xs[0]? := hf 0 _ rfl
    have f1 : DataW.trod enc Tryz.prog w 0 (fun _ => true) true n 4 ((List.drop 1 [c0, c1, c2, c3, c4, c5]).take (Tryz.prog.cellsOf 4)) = xs[1]? := hf 1 _ rfl
    have f2 : DataW.trod enc Tryz.prog w 0 (fun _ => true) true n 3 ((List.drop 2 [c0, c1, c2, c3, c4, c5]).take (Tryz.prog.cellsOf 3)) = xs[2]? := hf 2 _ rfl
    have f3 : DataW.trod enc Tryz.prog w 0 (fun _ => true) true n 9 ((List.drop 3 [c0, c1, c2, c3, c4, c5]).take (Tryz.prog.cellsOf 9)) = xs[3]? := hf 3 _ rfl
    have f4 : DataW.trod enc Tryz.prog w 0 (fun _ => true) true n 30 ((List.drop 4 [c0, c1, c2, c3, c4, c5]).take (Tryz.prog.cellsOf 30)) = xs[4]? := hf 4 _ rfl
    have f5 : DataW.trod enc Tryz.prog w 0 (fun _ => true) true n 31 ((List.drop 5 [c0, c1, c2, c3, c4, c5]).take (Tryz.prog.cellsOf 31)) = xs[5]? := hf 5 _ rfl
    rw [k4] at f0 f1
    rw [k3] at f2
    rw [k9] at f3
    rw [k30] at f4
    rw [k31] at f5
    simp only [List.drop_zero, List.drop_succ_cons, List.take_succ_cons, List.take_zero] at f0 f1 f2 f3 f4 f5
    rw [g0] at f0
    rw [g1] at f1
    rw [g2] at f2
    rw [g3] at f3
    rw [g4] at f4
    rw [g5] at f5
    obtain ⟨b0, e0, _⟩ := DataW.trod_bool Tryz.underlying4 f0
    obtain ⟨b1, e1, _⟩ := DataW.trod_bool Tryz.underlying4 f1
    obtain ⟨z, e2, _, _⟩ := DataW.trod_int Tryz.underlying3 f2
    obtain ⟨s, e3, e3', _⟩ := DataW.trod_string Tryz.underlying9 f3
    obtain ⟨aa, na, ca, la, e4, l4, r4, m4⟩ := open_bools f4
    obtain ⟨an, nn, cn, ln, e5, l5, r5, m5, m6⟩ := open_rows f5
    simp only [List.cons.injEq, and_true] at e0 e1 e2 e3 e4 e5
    subst e0 e1 e2 e3 e4 e5 l4 l5
    refine ⟨⟨b0, b1, z, s.data.toList, la, ln⟩, aa, ca, an, cn, by simp, ⟨r4, r5⟩, Nat.le_trans m4 (bulk_agg g4), Nat.le_trans m5 (bulk_agg g5), fun r hr => Nat.le_trans (m6 r hr) (bulk_agg g5), ?_⟩
    have := bulk_agg g3
    rw [e3'] at this
    simp only [Rows.uptoBulk] at this ⊢
    omega
theorem open_op (h : DataW.trod enc Tryz.prog w 0 (fun _ => true) true fuel 80 cs = some x) (hb : Rows.uptoBulk x.1 ≤ 1048576) : ∃ p : SOp, cs = p.cells ∧ SOk w p := by
  obtain ⟨xs, n, rfl, rfl, hlen, hxl, hf⟩ := DataW.trod_struct Tryz.underlying80 h
  rw [show Tryz.prog.cellsOf 80 = 11 by kernel_rfl] at hlen
  have k4 : Tryz.prog.cellsOf 4 = 1 := by kernel_rfl
  have k3 : Tryz.prog.cellsOf 3 = 1 := by kernel_rfl
  have k9 : Tryz.prog.cellsOf 9 = 1 := by kernel_rfl
  have k33 : Tryz.prog.cellsOf 33 = 6 := by kernel_rfl
  obtain ⟨c0, c1, c2, c3, c4, c5, c6, c7, c8, c9, c10, rfl⟩ := list11 hlen
  · clear hlen
    have hg : ∀ i, i < 6 → ∃ y, xs[i]? = some y := fun i hi => ⟨_, List.getElem?_eq_getElem (by rw [hxl]; exact hi)⟩
    obtain ⟨y0, g0⟩ := hg 0 (by omega)
    obtain ⟨y1, g1⟩ := hg 1 (by omega)
    obtain ⟨y2, g2⟩ := hg 2 (by omega)
    obtain ⟨y3, g3⟩ := hg 3 (by omega)
    obtain ⟨y4, g4⟩ := hg 4 (by omega)
    obtain ⟨y5, g5⟩ := hg 5 (by omega)
    have f0 : DataW.trod enc Tryz.prog w 0 (fun _ => true) true n 3 ((List.drop 0 [c0, c1, c2, c3, c4, c5, c6, c7, c8, c9, c10]).take (Tryz.prog.cellsOf 3)) = xs[0]? := hf 0 _ rfl
    have f1 : DataW.trod enc Tryz.prog w 0 (fun _ => true) true n 3 ((List.drop 1 [c0, c1, c2, c3, c4, c5, c6, c7, c8, c9, c10]).take (Tryz.prog.cellsOf 3)) = xs[1]? := hf 1 _ rfl
    have f2 : DataW.trod enc Tryz.prog w 0 (fun _ => true) true n 3 ((List.drop 2 [c0, c1, c2, c3, c4, c5, c6, c7, c8, c9, c10]).take (Tryz.prog.cellsOf 3)) = xs[2]? := hf 2 _ rfl
    have f3 : DataW.trod enc Tryz.prog w 0 (fun _ => true) true n 4 ((List.drop 3 [c0, c1, c2, c3, c4, c5, c6, c7, c8, c9, c10]).take (Tryz.prog.cellsOf 4)) = xs[3]? := hf 3 _ rfl
    have f4 : DataW.trod enc Tryz.prog w 0 (fun _ => true) true n 9 ((List.drop 4 [c0, c1, c2, c3, c4, c5, c6, c7, c8, c9, c10]).take (Tryz.prog.cellsOf 9)) = xs[4]? := hf 4 _ rfl
    have f5 : DataW.trod enc Tryz.prog w 0 (fun _ => true) true n 33 ((List.drop 5 [c0, c1, c2, c3, c4, c5, c6, c7, c8, c9, c10]).take (Tryz.prog.cellsOf 33)) = xs[5]? := hf 5 _ rfl
    rw [k3] at f0 f1 f2
    rw [k4] at f3
    rw [k9] at f4
    rw [k33] at f5
    simp only [List.drop_zero, List.drop_succ_cons, List.take_succ_cons, List.take_zero] at f0 f1 f2 f3 f4 f5
    rw [g0] at f0
    rw [g1] at f1
    rw [g2] at f2
    rw [g3] at f3
    rw [g4] at f4
    rw [g5] at f5
    obtain ⟨z0, e0, _, w0⟩ := DataW.trod_int Tryz.underlying3 f0
    obtain ⟨z1, e1, _, w1⟩ := DataW.trod_int Tryz.underlying3 f1
    obtain ⟨z2, e2, _, w2⟩ := DataW.trod_int Tryz.underlying3 f2
    obtain ⟨b3, e3, _⟩ := DataW.trod_bool Tryz.underlying4 f3
    obtain ⟨s, e4, e4', _⟩ := DataW.trod_string Tryz.underlying9 f4
    obtain ⟨t, aa, ca, an, cn, e5, r5, m1, m2, m3, m4⟩ := open_table f5
    simp only [List.cons.injEq, and_true] at e0 e1 e2 e3 e4 e5
    obtain ⟨h5, h6, h7, h8, h9, h10⟩ := e5
    subst e0 e1 e2 e3 e4 h5 h6 h7 h8 h9 h10
    have hb5 := Nat.le_trans (bulk_agg g5) hb
    have v1 := wf64 w1
    have v2 := wf64 w2
    refine ⟨⟨z0, z1, z2, b3, s.data.toList, t, aa, ca, an, cn⟩, by simp [SOp.cells], ⟨r5, Nat.le_trans m1 hb5, Nat.le_trans m2 hb5, fun r hr => Nat.le_trans (m3 r hr) hb5, Nat.le_trans m4 hb5, ?_, v1.1, v1.2, v2.1, v2.2⟩⟩
    have := Nat.le_trans (bulk_agg g4) hb
    rw [e4'] at this
    simp only [Rows.uptoBulk] at this ⊢
    omega
instance : Inhabited SOp := ⟨⟨0, 0, 0, false, [], Tn, none, 0, none, 0⟩⟩
set_option maxRecDepth 20000 in
theorem cells_get {w : World} {base : Nat} {a : Addr} {n : Nat} {cs : List Value} (h : w.cells? base a n = some cs) : cs.length = n ∧ ∀ j, j < n → w.cell? (a.add j) = cs[j]? := by
  unfold World.cells? at h
  split at h
  · refine ⟨by simpa using mapM_some_length h, fun j hj => ?_⟩
    exact mapM_some_get h j j (by simp [hj])
  · simp at h
set_option maxRecDepth 20000 in
theorem open_script {v : Value} {d : DataW H} {ps : List MemPlace} {r : Reach} {base : Nat} (hv : Value.okWide Tryz.prog w r base 22 v) (h : DataW.Trod enc Tryz.prog w 0 (fun _ => true) true 22 v d ps) (hb : Rows.uptoBulk d ≤ 1048576) : ∃ ops, ScrIn w v ops := by
  obtain ⟨a0, l0, c0, rfl⟩ := Go.WideShapes.okWide_slice Tryz.underlying22 hv
  obtain ⟨n0, h⟩ := h
  rcases open_slice Tryz.underlying22 h with ⟨e, hx⟩ | ⟨a, len, cap, m, n, D, Pl, e, hba, hl, hm, hmm, hx, hel⟩
  · have e' : Value.slice a0 l0 c0 = .slice none 0 0 := by simpa [Value.cells] using e
    injection e' with q1 q2 q3
    subst q1 q2 q3
    exact ⟨[], ⟨.inl ⟨rfl, _, _, rfl⟩, fun p hp => by simp at hp, Nat.zero_le _⟩⟩
  · have e' : Value.slice a0 l0 c0 = .slice (some a) len cap := by simpa [Value.cells] using e
    injection e' with q1 q2 q3
    subst q1 q2 q3
    simp only [if_true] at hmm
    rw [show Tryz.prog.cellsOf 80 = 11 by kernel_rfl] at hel
    have hd : d = .slice ((List.range l0).map D) ((List.range (m - l0)).map fun j => D (l0 + j)) := congrArg Prod.fst hx
    have hbd : ∀ i, i < l0 → Rows.uptoBulk (D i) ≤ 1048576 := fun i hi => by
      have h1 := bulk_mem (List.mem_map.2 ⟨i, List.mem_range.2 hi, rfl⟩ : D i ∈ (List.range l0).map D)
      have h2 := bulk_slice ((List.range l0).map D) ((List.range (m - l0)).map fun j => D (l0 + j))
      rw [← hd] at h2
      omega
    obtain ⟨F, hF⟩ := choose_lt (α := SOp) (n := l0) (p := fun i p => w.cells? 0 (a.add (i * 11)) 11 = some p.cells ∧ SOk w p) (fun i hi => by
      obtain ⟨cs', g1, g2⟩ := hel i (by omega)
      obtain ⟨p, e1, e2⟩ := open_op g2 (hbd i hi)
      exact ⟨p, by rw [← e1]; exact g1, e2⟩)
    refine ⟨(List.range l0).map F, ⟨?_, fun p hp => ?_, ?_⟩⟩
    · rcases Nat.eq_zero_or_pos l0 with h0 | hp
      · subst h0; exact .inl ⟨rfl, _, _, rfl⟩
      · have h1 := (cells_get (hF 0 hp).1).2 0 (by omega)
        rw [Nat.zero_mul] at h1
        have h2 : (F 0).cells[0]? = some ((F 0).cells[0]'(by simp [SOp.cells])) := List.getElem?_eq_getElem _
        have ha := addr_of (w := w) (a := a.add 0) (h1.trans h2)
        have ha' : a.add 0 = a := by simp [Addr.add]
        rw [ha'] at ha
        have h0 := ha 0
        rw [ha', Nat.add_zero] at h0
        refine .inr ⟨a.block, a.off, c0, by rw [h0]; simp, fun i hi j hj => ?_⟩
        have hi' : i < l0 := by simpa using hi
        have h3 := (cells_get (hF i hi').1).2 j hj
        rw [add_add, ha] at h3
        simp only [List.getElem_map, List.getElem_range]
        rw [← h3, Nat.add_assoc]
    · obtain ⟨i, hi, rfl⟩ := List.mem_map.1 hp
      exact (hF i (List.mem_range.1 hi)).2
    · have h1 := bulk_len ((List.range l0).map D)
      have h2 := bulk_slice ((List.range l0).map D) ((List.range (m - l0)).map fun j => D (l0 + j))
      rw [← hd] at h2
      simp only [List.length_map, List.length_range] at h1 ⊢
      omega
end
end Go.Proofs.YtbjabpodkaokjaaGreatDoor
