import Derived.Test.YtbjabpodkaokjaaDoorJ31
import Derived.Great.Walk
set_option linter.unusedVariables false
set_option linter.unusedSimpArgs false
namespace Go.Proofs.YtbjabpodkaokjaaDoor
open Go.RowKit

/-- A new list of 256 bools. -/
theorem wpList_alloc52 {ops : Array Oper} {rest : List Oper} {o : Oper} {a : Act} {w : World} {Q : Exit → Act → World → Prop} (hg : o.guard = none) (ho : o.op = .alloc 52) (dst : Option Tmp) (hdst : o.dst = dst) (N : Nat) (hN : w.heap.size = N)
    (h : wpList Tryd.prog ops Q rest (a.put dst (.pointer (some ⟨N, 0, none⟩))) (w.alloc (.cells (bA fun _ => false) 52))) : wpList Tryd.prog ops Q (o :: rest) a w := by
  obtain ⟨i0, hi, hz0, hz1, hz2⟩ := info_parts Tryd.infoA
  refine Great.wpList_runTo hg dst hdst _ _ ?_ h
  subst hN
  unfold execOp
  simp only [ho, Instr.alloc, zeroValue, newVar, newRow, Sem.run_bind, run_newObj_alloc, Sem.run_pure, Result.andThen_ok]
  have hti : (typeInfo 52).run Tryd.prog w = .ok i0 w := by unfold typeInfo; simp [hi]
  rw [hti]
  simp [hz0, Value.cells]
theorem below_setCells {B : Nat} {w x : World} (h : Below B w x) (b : Nat) (hb : B ≤ b) : ∀ (vs : List Value) (o : Nat), Below B w (x.setCells b o vs) := by
  intro vs
  induction vs generalizing x with
  | nil => intro o; exact h
  | cons v r ih => intro o; simp only [World.setCells]; exact ih (h.setCell hb _) (o + 1)
theorem rd_setCells {c : Nat} {w x : World} (h : Rd c w x) (b : Nat) (hb : w.heap.size ≤ b) (vs : List Value) (o : Nat) : Rd c w (x.setCells b o vs) := by
  have hl := below_setCells (Below.refl w.heap.size x) b hb vs o
  exact ⟨hl.os.trans h.os, hl.tape.trans h.tape, hl.output.trans h.output, Nat.le_trans h.size hl.size, fun k hk hne => (hl.block k hk).trans (h.block k hk hne)⟩
theorem results_cell_mid {P : Program} {fn : Func} {p : Tmp} {ty : TypeId} (h : fn.results = #[.cell p ty]) (tmps : Array Value) (w : World) (g : Nat) (cs : List Value) (d : TypeDesc)
    (hp : tmps.getD p undef = .pointer (some ⟨g, 0, none⟩)) (hc : w.rangeAt g 0 cs)
    (hu : P.underlying ty = some d) (hd : d.isRow = true) (hi : (P.info? ty).map (·.size) = some cs.length) :
    (results fn tmps).run P w = .ok (.agg cs.toArray) w := by
  have hp' : tmps[p]?.getD undef = .pointer (some ⟨g, 0, none⟩) := by simpa using hp
  simp [results, h, hp', asAddr, run_loadVar_mid w g 0 ty cs d hc hu hd hi]
theorem results_tmp_cell_mid {P : Program} {fn : Func} {u p : Tmp} {ty : TypeId} (h : fn.results = #[.tmp u, .cell p ty]) (tmps : Array Value) (w : World) (g : Nat) (cs : List Value) (d : TypeDesc) (v : Value) (hv : tmps.getD u undef = v)
    (hp : tmps.getD p undef = .pointer (some ⟨g, 0, none⟩)) (hc : w.rangeAt g 0 cs)
    (hu : P.underlying ty = some d) (hd : d.isRow = true) (hi : (P.info? ty).map (·.size) = some cs.length) :
    (results fn tmps).run P w = .ok (.tuple #[v, .agg cs.toArray]) w := by
  have hp' : tmps[p]?.getD undef = .pointer (some ⟨g, 0, none⟩) := by simpa using hp
  have hv' : tmps[u]?.getD undef = v := by simpa using hv
  simp [results, h, hp', hv', asAddr, run_loadVar_mid w g 0 ty cs d hc hu hd hi]
end Go.Proofs.YtbjabpodkaokjaaDoor
