import Derived.Test.YtbjabpodkaokjaaDoorJ43
import Derived.Test.YtbjabpodkaokjaaDoorRows
import Derived.ProofKit
import Derived.LaidMore
import Derived.OpenShut
import Derived.Stop.Joined
import Derived.Deep.Strs
import Derived.Lib.LaidTab
set_option linter.unusedVariables false
set_option linter.unusedSimpArgs false
namespace Go.Proofs.YtbjabpodkaokjaaDoor
open Go.ChangeShapes Go.WideShapes Go.ChangeAt Go.WideMaps Go.WideElems Go.RowKit

theorem gSigns : Tryd.prog.globalNamed "hasp/syntax.signs" = some 0 := by kernel_rfl
theorem gSets : Tryd.prog.globalNamed "hasp/syntax.setEscapes" = some 1 := by kernel_rfl
theorem gBytes : Tryd.prog.globalNamed "hasp/syntax.byteEscapes" = some 2 := by kernel_rfl
theorem tSigns : (Tryd.prog.globals[0]?).map (·.type) = some 100 := by kernel_rfl
theorem tSets : (Tryd.prog.globals[1]?).map (·.type) = some 124 := by kernel_rfl
theorem tByts : (Tryd.prog.globals[2]?).map (·.type) = some 127 := by kernel_rfl

theorem heap_of_var {P : Program} {W : World} {n : String} {g : Nat} {cs : Array Value} (hg : P.globalNamed n = some g) (h : W.var? P n = some cs) : ∃ t fr, W.heap[g]? = some (.cells cs t fr) := by
  simp only [World.var?, hg, Option.bind_some] at h
  split at h
  · rename_i c t fr hh
    injection h with h; subst h
    exact ⟨t, fr, hh⟩
  · simp at h
theorem c5 : Tryd.prog.cellsOf 5 = 1 := by kernel_rfl
theorem cBy : Tryd.prog.cellsOf 126 = 2 := by kernel_rfl
theorem cBys : Tryd.prog.cellsOf 127 = 4 := by kernel_rfl
theorem cSp : Tryd.prog.cellsOf 123 = 3 := by kernel_rfl
theorem cSps : Tryd.prog.cellsOf 124 = 24 := by kernel_rfl

theorem open2 {W : World} {fuel : Nat} {c0 c1 : Value} {a b : Int} {x : DataW Unit × List MemPlace} (h : DataW.trod (fun _ => ()) Tryd.prog W 0 (fun _ => true) false fuel 126 [c0, c1] = some x) (hx : x.1 = .agg [.lit (.int .u8 a), .lit (.int .u8 b)]) : c0 = .int .u8 a ∧ c1 = .int .u8 b := by
  obtain ⟨y0, y1, n, rfl, _, a0, a1⟩ := trod_struct2 Tryd.underlying126 h
  obtain ⟨n0, e0, rfl, _⟩ := DataW.trod_int Tryd.underlying5 a0
  obtain ⟨n1, e1, rfl, _⟩ := DataW.trod_int Tryd.underlying5 a1
  simp only [c5] at e0 e1
  simp at e0 e1 hx
  obtain ⟨rfl, rfl⟩ := hx
  exact ⟨e0, e1⟩
theorem open3 {W : World} {fuel : Nat} {c0 c1 c2 : Value} {a b d : Int} {x : DataW Unit × List MemPlace} (h : DataW.trod (fun _ => ()) Tryd.prog W 0 (fun _ => true) false fuel 123 [c0, c1, c2] = some x) (hx : x.1 = .agg [.lit (.int .u8 a), .lit (.int .u8 b), .lit (.int .u8 d)]) : c0 = .int .u8 a ∧ c1 = .int .u8 b ∧ c2 = .int .u8 d := by
  obtain ⟨y0, y1, y2, n, rfl, _, a0, a1, a2⟩ := Go.Deep.trod_struct3 Tryd.underlying123 h
  obtain ⟨n0, e0, rfl, _⟩ := DataW.trod_int Tryd.underlying5 a0
  obtain ⟨n1, e1, rfl, _⟩ := DataW.trod_int Tryd.underlying5 a1
  obtain ⟨n2, e2, rfl, _⟩ := DataW.trod_int Tryd.underlying5 a2
  simp only [c5] at e0 e1 e2
  simp at e0 e1 e2 hx
  obtain ⟨rfl, rfl, rfl⟩ := hx
  exact ⟨e0, e1, e2⟩

theorem byts_cells {W : World} {fuel : Nat} {cs : List Value} {p : List MemPlace} (h : DataW.trod (fun _ => ()) Tryd.prog W 0 (fun _ => true) false fuel 127 cs = some (Rows.laid_hasp_syntax_byteEscapes, p)) : cs = BE.toList := by
  obtain ⟨xs, m, rfl, hx, hlen, hn, hel⟩ := DataW.trod_array Tryd.underlying127 h
  rw [cBys] at hlen
  rw [cBy] at hel
  clear h
  match xs, hn, cs, hlen with
  | [x0, x1], _, [c0, c1, c2, c3], _ =>
    have hx1 := congrArg Prod.fst hx
    simp only [Rows.laid_hasp_syntax_byteEscapes, List.map_cons, List.map_nil, DataW.agg.injEq, List.cons.injEq, and_true] at hx1
    obtain ⟨k0, k1⟩ := hx1
    obtain ⟨rfl, rfl⟩ := open2 (by simpa using hel 0 (by decide)) k0.symm
    obtain ⟨rfl, rfl⟩ := open2 (by simpa using hel 1 (by decide)) k1.symm
    rfl
theorem sets_cells {W : World} {fuel : Nat} {cs : List Value} {p : List MemPlace} (h : DataW.trod (fun _ => ()) Tryd.prog W 0 (fun _ => true) false fuel 124 cs = some (Rows.laid_hasp_syntax_setEscapes, p)) : cs = SE.toList := by
  obtain ⟨xs, m, rfl, hx, hlen, hn, hel⟩ := DataW.trod_array Tryd.underlying124 h
  rw [cSps] at hlen
  rw [cSp] at hel
  clear h
  match xs, hn, cs, hlen with
  | [x0, x1, x2, x3, x4, x5, x6, x7], _, [c0, c1, c2, c3, c4, c5, c6, c7, c8, c9, c10, c11, c12, c13, c14, c15, c16, c17, c18, c19, c20, c21, c22, c23], _ =>
    have hx1 := congrArg Prod.fst hx
    simp only [Rows.laid_hasp_syntax_setEscapes, List.map_cons, List.map_nil, DataW.agg.injEq, List.cons.injEq, and_true] at hx1
    obtain ⟨k0, k1, k2, k3, k4, k5, k6, k7⟩ := hx1
    obtain ⟨rfl, rfl, rfl⟩ := open3 (by simpa using hel 0 (by decide)) k0.symm
    obtain ⟨rfl, rfl, rfl⟩ := open3 (by simpa using hel 1 (by decide)) k1.symm
    obtain ⟨rfl, rfl, rfl⟩ := open3 (by simpa using hel 2 (by decide)) k2.symm
    obtain ⟨rfl, rfl, rfl⟩ := open3 (by simpa using hel 3 (by decide)) k3.symm
    obtain ⟨rfl, rfl, rfl⟩ := open3 (by simpa using hel 4 (by decide)) k4.symm
    obtain ⟨rfl, rfl, rfl⟩ := open3 (by simpa using hel 5 (by decide)) k5.symm
    obtain ⟨rfl, rfl, rfl⟩ := open3 (by simpa using hel 6 (by decide)) k6.symm
    obtain ⟨rfl, rfl, rfl⟩ := open3 (by simpa using hel 7 (by decide)) k7.symm
    rfl
set_option maxRecDepth 100000 in
theorem tabs_of_laid {W : World} (h : laidMetH Tryd.prog Rows.parsesRow.laid W) : Tabs W := by
  rw [MakeChecks.laidMetH_plain _ _ _ (by kernel_rfl)] at h
  obtain ⟨ps, ⟨g0, t0, cs0, f0, p0, q0, hg0, ht0, hv0, hd0, ⟨g1, t1, cs1, f1, p1, q1, hg1, ht1, hv1, hd1, ⟨g2, t2, cs2, f2, p2, q2, hg2, ht2, hv2, hd2, ⟨g3, t3, cs3, f3, p3, q3, hg3, ht3, hv3, hd3, ⟨g4, t4, cs4, f4, p4, q4, hg4, ht4, hv4, hd4, ⟨g5, t5, cs5, f5, p5, q5, hg5, ht5, hv5, hd5, _, _⟩, _⟩, _⟩, _⟩, _⟩, _⟩, _, _⟩ := h
  clear hd0 hd1 hd2 hv0 hv1 hv2
  obtain rfl := Option.some.inj (gSigns.symm.trans hg3)
  obtain rfl := Option.some.inj (gBytes.symm.trans hg4)
  obtain rfl := Option.some.inj (gSets.symm.trans hg5)
  obtain rfl := Option.some.inj (tSigns.symm.trans ht3)
  obtain rfl := Option.some.inj (tByts.symm.trans ht4)
  obtain rfl := Option.some.inj (tSets.symm.trans ht5)
  have e3 : cs3.toList = SG.toList := Lib.cells_of_tab (k := .u8) (zs := [92, 46, 91, 93, 40, 41, 123, 125, 124, 42, 43, 63, 94, 36]) Tryd.underlying100 Tryd.underlying5 c5 (by kernel_rfl) hd3
  have e4 := byts_cells hd4
  have e5 := sets_cells hd5
  have a3 : cs3 = SG := Array.toList_inj.1 e3
  have a4 : cs4 = BE := Array.toList_inj.1 e4
  have a5 : cs5 = SE := Array.toList_inj.1 e5
  subst a3; subst a4; subst a5
  exact ⟨heap_of_var gSigns hv3, heap_of_var gSets hv5, heap_of_var gBytes hv4⟩
end Go.Proofs.YtbjabpodkaokjaaDoor
