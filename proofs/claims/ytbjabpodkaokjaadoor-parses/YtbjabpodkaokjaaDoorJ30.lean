import Derived.Test.YtbjabpodkaokjaaDoorJ11
import Derived.Test.YtbjabpodkaokjaaDoorJ18
import Derived.Great.BuildSlice
import Derived.Great.Ranges
import Derived.Deep.MidRow
import Derived.Test.YtbjabpodkaokjaaDoorJ23
set_option linter.unusedVariables false
set_option linter.unusedSimpArgs false
namespace Go.Proofs.YtbjabpodkaokjaaDoor
open Go.RowKit

theorem belowN {B : Nat} {x w : World} (h : Below B x w) (n : Nat) : Below B x (w.drewN n) := ⟨h.os, h.tape, h.output, h.size, h.block⟩

/-- The maker lies in block b: its text, and what is left of it. -/
structure Mk (w : World) (b : Nat) (s : ByteArray) (r : List UInt8) : Prop where
  pl : ∃ k : Nat, w.cell? ⟨b, 0, none⟩ = some (.string s) ∧ w.cell? ⟨b, 1, none⟩ = some (.int .i64 k) ∧ k ≤ s.size ∧ suf s k = r
  fz : ∀ o, w.frozen? ⟨b, o, none⟩ = false
  lt : b < w.heap.size
  sz : s.size ≤ 200

theorem Mk.keep {w w' : World} {b : Nat} {s : ByteArray} {r : List UInt8} (h : Mk w b s r) (hb : w'.heap[b]? = w.heap[b]?) (hz : w.heap.size ≤ w'.heap.size) : Mk w' b s r := by
  have hc : ∀ o, w'.cell? ⟨b, o, none⟩ = w.cell? ⟨b, o, none⟩ := fun o => by simp [World.cell?, hb]
  have hf : ∀ o, w'.frozen? ⟨b, o, none⟩ = w.frozen? ⟨b, o, none⟩ := fun o => by simp [World.frozen?, hb]
  obtain ⟨⟨k, c0, c1, hk, hs⟩, fz, lt, sz⟩ := h
  exact ⟨⟨k, (hc _).trans c0, (hc _).trans c1, hk, hs⟩, fun o => (hf o).trans (fz o), Nat.lt_of_lt_of_le lt hz, sz⟩
theorem Mk.below {w w' : World} {b : Nat} {s : ByteArray} {r : List UInt8} (h : Mk w b s r) (hb : Below w.heap.size w w') : Mk w' b s r := h.keep (hb.block b h.lt) hb.size
theorem Mk.alloc {w : World} {b : Nat} {s : ByteArray} {r : List UInt8} (h : Mk w b s r) (o : Obj) : Mk (w.alloc o) b s r :=
  h.keep (Below.heap_alloc _ _ _ h.lt) (by simp)
theorem Mk.drewN {w : World} {b : Nat} {s : ByteArray} {r : List UInt8} (h : Mk w b s r) (n : Nat) : Mk (w.drewN n) b s r := h.keep rfl (Nat.le_refl _)
theorem Mk.drew {w : World} {b : Nat} {s : ByteArray} {r : List UInt8} (h : Mk w b s r) : Mk w.drew b s r := h.keep rfl (Nat.le_refl _)
theorem Mk.setCell {w : World} {b : Nat} {s : ByteArray} {r : List UInt8} (h : Mk w b s r) {p : Addr} (hp : b < p.block) (v : Value) : Mk (w.setCell p v) b s r :=
  h.keep (Below.heap_setCell _ _ _ _ (by omega)) (by simp [World.setCell])
theorem Mk.len {w : World} {b : Nat} {s : ByteArray} {r : List UInt8} (h : Mk w b s r) : r.length ≤ 200 := by
  obtain ⟨⟨k, _, _, hk, hs⟩, _, _, sz⟩ := h; rw [← hs, suf_len]; omega
theorem Mk.to {w : World} {b : Nat} {s : ByteArray} {r : List UInt8} (h : Mk w b s r) (j : Nat) (hj : j ≤ s.size) : Mk (w.setCell ⟨b, 1, none⟩ (.int .i64 j)) b s (suf s j) := by
  obtain ⟨⟨k, c0, c1, hk, hs⟩, fz, lt, sz⟩ := h
  refine ⟨⟨j, ?_, ?_, hj, rfl⟩, ?_, ?_, sz⟩ <;> (try intro o) <;> simp [c0, c1, fz, lt, go_sem]
abbrev MkTo (w w' : World) (b : Nat) (s : ByteArray) (r : List UInt8) : Prop := Mk w' b s r ∧ Rd b w w'
/-- What a look leaves. -/
abbrev MkAs (w w' : World) (b : Nat) (s : ByteArray) (r : List UInt8) : Prop := Mk w' b s r ∧ Below w.heap.size w w'

def hd0 : List UInt8 → UInt8
  | [] => 0
  | c :: _ => c

set_option maxHeartbeats 400000 in
theorem here_any (w : World) (b : Nat) (s : ByteArray) (r : List UInt8) (h : Mk w b s r) :
    Calls Tryd.prog 14 #[.pointer (some ⟨b, 0, none⟩)] w fun e w' => e = .returned (.int .u8 (hd0 r).toNat) ∧ MkAs w w' b s r := by
  have h' := h
  obtain ⟨⟨k, c0, c1, hk, hs⟩, fz, lt, sz⟩ := h
  match r, hs, h' with
  | [], hs, h' =>
    have hkk := suf_nil hk hs
    subst hkk
    go_enter Tryd.func14, Tryd.ntmps14
    go_wp2
    go_quiet (fail)
    go_wp2
    go_ret
    exact ⟨rfl, h'.drewN _, (by (repeat first | (with_reducible refine Below.setCell ?_ (by first | exact Nat.le_refl _ | (simp; done) | (simp; omega)) _) | (with_reducible refine Below.alloc ?_ (by first | omega | (simp; done) | (simp; omega)) _) | (with_reducible refine Below.drew ?_) | (with_reducible refine belowN ?_ _)); exact Below.refl _ _)⟩
  | c :: t, hs, h' =>
    obtain ⟨hk', e1, e2⟩ := suf_cons hs
    subst e1
    go_enter Tryd.func14, Tryd.ntmps14
    go_wp2
    go_quiet (fail)
    go_wp2
    go_quiet (fail)
    go_wp2
    go_ret
    exact ⟨rfl, (h'.drewN _).drewN _, (by (repeat first | (with_reducible refine Below.setCell ?_ (by first | exact Nat.le_refl _ | (simp; done) | (simp; omega)) _) | (with_reducible refine Below.alloc ?_ (by first | omega | (simp; done) | (simp; omega)) _) | (with_reducible refine Below.drew ?_) | (with_reducible refine belowN ?_ _)); exact Below.refl _ _)⟩
end Go.Proofs.YtbjabpodkaokjaaDoor

namespace Go.Proofs.YtbjabpodkaokjaaDoor
open Go.RowKit

theorem cell_other {w : World} {a b : Addr} {v : Value} (h : a ≠ b) : (w.setCell a v).cell? b = w.cell? b := World.cell?_setCell_other _ _ _ _ h
theorem cell_same {w : World} {a : Addr} {u v : Value} (h : w.cell? a = some u) : (w.setCell a v).cell? a = some v := World.cell?_setCell_same _ _ _ h
/-- 256 bools, as cells. -/
def bL (B : Nat → Bool) : List Value := (List.range 256).map fun i => .bool (B i)
def bA (B : Nat → Bool) : Array Value := (bL B).toArray
theorem bL_len (B : Nat → Bool) : (bL B).length = 256 := by simp [bL]
theorem bA_size (B : Nat → Bool) : (bA B).size = 256 := by simp [bA, bL_len]
theorem bL_get (B : Nat → Bool) (i : Nat) (h : i < 256) : (bL B)[i]? = some (.bool (B i)) := by simp [bL, h]
theorem bA_get (B : Nat → Bool) (i : Nat) (h : i < 256) : (bA B)[i]? = some (.bool (B i)) := by simp [bA, bL, h]
/-- A tree's cells. -/
def tA (kind : Int) (B : Nat → Bool) (kv : Value) (mn mx : Int) (sg : Int) : Array Value := ([Value.int .i64 kind] ++ bL B ++ [kv, .int .i64 mn, .int .i64 mx, .int .u8 sg]).toArray
theorem tA_zero : Tryd.prog.built 55 [] = some (tA 0 (fun _ => false) (.slice none 0 0) 0 0 0) := by kernel_rfl
theorem tA_kind1 : Tryd.prog.built 55 [(0, .int .i64 1)] = some (tA 1 (fun _ => false) (.slice none 0 0) 0 0 0) := by kernel_rfl
theorem tA_kind2 : Tryd.prog.built 55 [(0, .int .i64 2)] = some (tA 2 (fun _ => false) (.slice none 0 0) 0 0 0) := by kernel_rfl
theorem bA_zero : Tryd.prog.built 52 [] = some (bA fun _ => false) := by kernel_rfl
theorem sizeA : (Tryd.prog.info? 52).map (·.size) = some 256 := by kernel_rfl
theorem Tryd.infoA : (Tryd.prog.info? 52).map (fun i => (i.zero, i.size, i.bytes)) = some (some (.agg (bA fun _ => false)), 256, 256) := by kernel_rfl

/-- A tree lies in block g. -/
structure Tr (w : World) (g : Nat) (kind : Int) (B : Nat → Bool) (kv : Value) (mn mx : Int) (sg : Int) : Prop where
  c0 : w.cell? ⟨g, 0, none⟩ = some (.int .i64 kind)
  cB : ∀ i, i < 256 → w.cell? ⟨g, 1 + i, none⟩ = some (.bool (B i))
  ck : w.cell? ⟨g, 257, none⟩ = some kv
  cm : w.cell? ⟨g, 258, none⟩ = some (.int .i64 mn)
  cx : w.cell? ⟨g, 259, none⟩ = some (.int .i64 mx)
  cs : w.cell? ⟨g, 260, none⟩ = some (.int .u8 sg)
  fz : ∀ o, w.frozen? ⟨g, o, none⟩ = false
theorem Tr.lt {w : World} {g : Nat} {kind : Int} {B : Nat → Bool} {kv : Value} {mn mx sg : Int} (h : Tr w g kind B kv mn mx sg) : g < w.heap.size := by
  rcases Nat.lt_or_ge g w.heap.size with q | q
  · exact q
  · have := h.c0; simp [World.cell?, Array.getElem?_eq_none q] at this
theorem Tr.of_heap {w w' : World} {g : Nat} {kind : Int} {B : Nat → Bool} {kv : Value} {mn mx sg : Int} (h : Tr w g kind B kv mn mx sg) (hb : w'.heap[g]? = w.heap[g]?) : Tr w' g kind B kv mn mx sg := by
  have hc : ∀ o, w'.cell? ⟨g, o, none⟩ = w.cell? ⟨g, o, none⟩ := fun o => by simp [World.cell?, hb]
  have hf : ∀ o, w'.frozen? ⟨g, o, none⟩ = w.frozen? ⟨g, o, none⟩ := fun o => by simp [World.frozen?, hb]
  obtain ⟨c0, cB, ck, cm, cx, cs, fz⟩ := h
  exact ⟨(hc _).trans c0, fun i hi => (hc _).trans (cB i hi), (hc _).trans ck, (hc _).trans cm, (hc _).trans cx, (hc _).trans cs, fun o => (hf o).trans (fz o)⟩
theorem tA_new (w : World) (kind : Int) (B : Nat → Bool) (kv : Value) (mn mx sg : Int) : Tr (w.alloc (.cells (tA kind B kv mn mx sg) 55)) w.heap.size kind B kv mn mx sg := by
  have hc : ∀ o, (w.alloc (.cells (tA kind B kv mn mx sg) 55)).cell? ⟨w.heap.size, o, none⟩ = (tA kind B kv mn mx sg)[o]? := fun o => World.cell?_alloc_at _ _ _ _ rfl
  have hl := bL_len B
  refine ⟨?_, fun i hi => ?_, ?_, ?_, ?_, ?_, fun o => by simp [go_sem]⟩ <;> rw [hc]
  · simp [tA]
  · have e : (tA kind B kv mn mx sg)[1 + i]? = (bL B)[i]? := by
      simp only [tA, List.getElem?_toArray]
      rw [List.append_assoc, List.getElem?_append_right (by simp), List.getElem?_append_left (by simp [hl]; omega)]
      simp
    rw [e, bL_get B i hi]
  all_goals
    simp only [tA, List.getElem?_toArray]
    rw [List.getElem?_append_right (by simp [hl])]
    simp [hl]
theorem Tr.bit {w : World} {g : Nat} {kind : Int} {B : Nat → Bool} {kv : Value} {mn mx sg : Int} (h : Tr w g kind B kv mn mx sg) (j : Nat) (hj : j < 256) (v : Bool) : Tr (w.setCell ⟨g, 1 + j, none⟩ (.bool v)) g kind (fun i => if i = j then v else B i) kv mn mx sg := by
  obtain ⟨c0, cB, ck, cm, cx, cs, fz⟩ := h
  have ne : ∀ o, o ≠ 1 + j → (w.setCell ⟨g, 1 + j, none⟩ (.bool v)).cell? ⟨g, o, none⟩ = w.cell? ⟨g, o, none⟩ := fun o ho => cell_other (by simp <;> omega)
  refine ⟨(ne _ (by omega)).trans c0, fun i hi => ?_, (ne _ (by omega)).trans ck, (ne _ (by omega)).trans cm, (ne _ (by omega)).trans cx, (ne _ (by omega)).trans cs, fun o => by simpa using fz o⟩
  by_cases e : i = j
  · subst e; rw [cell_same (cB i hi)]; simp
  · rw [ne _ (by omega), cB i hi]; simp [e]
theorem Tr.kids {w : World} {g : Nat} {kind : Int} {B : Nat → Bool} {kv : Value} {mn mx sg : Int} (h : Tr w g kind B kv mn mx sg) (v : Value) : Tr (w.setCell ⟨g, 257, none⟩ v) g kind B v mn mx sg := by
  obtain ⟨c0, cB, ck, cm, cx, cs, fz⟩ := h
  have ne : ∀ o, o ≠ 257 → (w.setCell ⟨g, 257, none⟩ v).cell? ⟨g, o, none⟩ = w.cell? ⟨g, o, none⟩ := fun o ho => cell_other (by simp <;> omega)
  exact ⟨(ne _ (by omega)).trans c0, fun i hi => (ne _ (by omega)).trans (cB i hi), cell_same ck, (ne _ (by omega)).trans cm, (ne _ (by omega)).trans cx, (ne _ (by omega)).trans cs, fun o => by simpa using fz o⟩
theorem Tr.least {w : World} {g : Nat} {kind : Int} {B : Nat → Bool} {kv : Value} {mn mx sg : Int} (h : Tr w g kind B kv mn mx sg) (v : Int) : Tr (w.setCell ⟨g, 258, none⟩ (.int .i64 v)) g kind B kv v mx sg := by
  obtain ⟨c0, cB, ck, cm, cx, cs, fz⟩ := h
  have ne : ∀ o, o ≠ 258 → (w.setCell ⟨g, 258, none⟩ (.int .i64 v)).cell? ⟨g, o, none⟩ = w.cell? ⟨g, o, none⟩ := fun o ho => cell_other (by simp <;> omega)
  exact ⟨(ne _ (by omega)).trans c0, fun i hi => (ne _ (by omega)).trans (cB i hi), (ne _ (by omega)).trans ck, cell_same cm, (ne _ (by omega)).trans cx, (ne _ (by omega)).trans cs, fun o => by simpa using fz o⟩
theorem Tr.most {w : World} {g : Nat} {kind : Int} {B : Nat → Bool} {kv : Value} {mn mx sg : Int} (h : Tr w g kind B kv mn mx sg) (v : Int) : Tr (w.setCell ⟨g, 259, none⟩ (.int .i64 v)) g kind B kv mn v sg := by
  obtain ⟨c0, cB, ck, cm, cx, cs, fz⟩ := h
  have ne : ∀ o, o ≠ 259 → (w.setCell ⟨g, 259, none⟩ (.int .i64 v)).cell? ⟨g, o, none⟩ = w.cell? ⟨g, o, none⟩ := fun o ho => cell_other (by simp <;> omega)
  exact ⟨(ne _ (by omega)).trans c0, fun i hi => (ne _ (by omega)).trans (cB i hi), (ne _ (by omega)).trans ck, (ne _ (by omega)).trans cm, cell_same cx, (ne _ (by omega)).trans cs, fun o => by simpa using fz o⟩
/-- A list of bools in a block of its own. -/
structure Bs (w : World) (g : Nat) (B : Nat → Bool) : Prop where
  cB : ∀ i, i < 256 → w.cell? ⟨g, i, none⟩ = some (.bool (B i))
  fz : ∀ o, w.frozen? ⟨g, o, none⟩ = false
theorem Bs.of_heap {w w' : World} {g : Nat} {B : Nat → Bool} (h : Bs w g B) (hb : w'.heap[g]? = w.heap[g]?) : Bs w' g B := by
  have hc : ∀ o, w'.cell? ⟨g, o, none⟩ = w.cell? ⟨g, o, none⟩ := fun o => by simp [World.cell?, hb]
  have hf : ∀ o, w'.frozen? ⟨g, o, none⟩ = w.frozen? ⟨g, o, none⟩ := fun o => by simp [World.frozen?, hb]
  exact ⟨fun i hi => (hc _).trans (h.cB i hi), fun o => (hf o).trans (h.fz o)⟩
theorem Bs.lt {w : World} {g : Nat} {B : Nat → Bool} (h : Bs w g B) : g < w.heap.size := by
  rcases Nat.lt_or_ge g w.heap.size with q | q
  · exact q
  · have := h.cB 0 (by omega); simp [World.cell?, Array.getElem?_eq_none q] at this
theorem bA_new (w : World) (B : Nat → Bool) (t : TypeId) : Bs (w.alloc (.cells (bA B) t)) w.heap.size B := by
  refine ⟨fun i hi => ?_, fun o => by simp [go_sem]⟩
  rw [World.cell?_alloc_at _ _ _ _ rfl, bA_get B i hi]
theorem Bs.bit {w : World} {g : Nat} {B : Nat → Bool} (h : Bs w g B) (j : Nat) (hj : j < 256) (v : Bool) : Bs (w.setCell ⟨g, j, none⟩ (.bool v)) g (fun i => if i = j then v else B i) := by
  obtain ⟨cB, fz⟩ := h
  refine ⟨fun i hi => ?_, fun o => by simpa using fz o⟩
  by_cases e : i = j
  · subst e; rw [cell_same (cB i hi)]; simp
  · rw [cell_other (by simp <;> omega), cB i hi]; simp [e]
theorem Bs.range {w : World} {g : Nat} {B : Nat → Bool} (h : Bs w g B) : w.rangeAt g 0 (bL B) := fun j v hv => by
  have hj : j < 256 := by
    rcases Nat.lt_or_ge j 256 with q | q
    · exact q
    · rw [List.getElem?_eq_none (by rw [bL_len]; exact q)] at hv; simp at hv
  rw [bL_get B j hj] at hv
  injection hv with hv
  rw [← hv, Nat.zero_add]; exact h.cB j hj
theorem Bs.there {w : World} {g : Nat} {B : Nat → Bool} (h : Bs w g B) : w.there g 0 256 := fun j hj => by
  rw [Nat.zero_add]; exact ⟨by rw [h.cB j hj]; rfl, h.fz j⟩
theorem Tr.range {w : World} {g : Nat} {kind : Int} {B : Nat → Bool} {kv : Value} {mn mx sg : Int} (h : Tr w g kind B kv mn mx sg) : w.rangeAt g 1 (bL B) := fun j v hv => by
  have hj : j < 256 := by
    rcases Nat.lt_or_ge j 256 with q | q
    · exact q
    · rw [List.getElem?_eq_none (by rw [bL_len]; exact q)] at hv; simp at hv
  rw [bL_get B j hj] at hv
  injection hv with hv
  rw [← hv]; exact h.cB j hj
theorem Tr.there {w : World} {g : Nat} {kind : Int} {B : Nat → Bool} {kv : Value} {mn mx sg : Int} (h : Tr w g kind B kv mn mx sg) : w.there g 1 256 := fun j hj =>
  ⟨by rw [h.cB j hj]; rfl, h.fz _⟩
theorem bL_one (B : Nat → Bool) : (bA B).all (·.oneCell') = true := by
  rw [Array.all_eq_true_iff_forall_mem]
  intro v hv
  simp [bA, bL] at hv
  obtain ⟨i, _, rfl⟩ := hv
  rfl
theorem Bs.all {w : World} {g : Nat} {B : Nat → Bool} (h : Bs w g B) (C : Nat → Bool) : Bs (w.setCells g 0 (bL C)) g C := by
  have hr := World.rangeAt_setCells_same w g 0 (bL C) (by rw [bL_len]; exact h.there)
  refine ⟨fun i hi => ?_, fun o => by rw [World.frozen?_setCells]; exact h.fz o⟩
  have := hr i _ (bL_get C i hi)
  rwa [Nat.zero_add] at this
theorem Tr.all {w : World} {g : Nat} {kind : Int} {B : Nat → Bool} {kv : Value} {mn mx sg : Int} (h : Tr w g kind B kv mn mx sg) (C : Nat → Bool) : Tr (w.setCells g 1 (bL C)) g kind C kv mn mx sg := by
  have hr := World.rangeAt_setCells_same w g 1 (bL C) (by rw [bL_len]; exact h.there)
  have hl := bL_len C
  have ne : ∀ o, (o < 1 ∨ 257 ≤ o) → (w.setCells g 1 (bL C)).cell? ⟨g, o, none⟩ = w.cell? ⟨g, o, none⟩ := fun o ho => World.cell?_setCells_out g (bL C) 1 w ⟨g, o, none⟩ (fun _ _ => by simp; omega)
  obtain ⟨c0, cB, ck, cm, cx, cs, fz⟩ := h
  exact ⟨(ne _ (by omega)).trans c0, fun i hi => hr i _ (bL_get C i hi), (ne _ (by omega)).trans ck, (ne _ (by omega)).trans cm, (ne _ (by omega)).trans cx, (ne _ (by omega)).trans cs, fun o => by rw [World.frozen?_setCells]; exact fz o⟩
theorem heap_setCells (w : World) (b : Nat) : ∀ (vs : List Value) (o : Nat) (k : Nat), k ≠ b → (w.setCells b o vs).heap[k]? = w.heap[k]?
  | vs, o, k, hk => by
    induction vs generalizing w o with
    | nil => rfl
    | cons v r ih => simp only [World.setCells]; rw [ih]; exact Below.heap_setCell _ _ _ _ hk
theorem size_setCells (w : World) (b : Nat) (vs : List Value) (o : Nat) : (w.setCells b o vs).heap.size = w.heap.size := by
  induction vs generalizing w o with
  | nil => rfl
  | cons v r ih => simp only [World.setCells]; rw [ih]; simp [World.setCell]
end Go.Proofs.YtbjabpodkaokjaaDoor

namespace Go.Proofs.YtbjabpodkaokjaaDoor
open Go.RowKit

inductive RT where
  | bytes (S : Nat → Bool)
  | node (kind : Nat) (ks : List RT)
  | rep (t : RT) (sign : UInt8) (least most : Int)

def mnC (c : Cnt) : Int := if c.sign = 123 then c.least else if c.sign = 43 then 1 else 0
def mxC (c : Cnt) : Int := if c.sign = 123 then c.most else if c.sign = 63 then 1 else -1
def repC (t : RT) : List Cnt → RT
  | [] => t
  | c :: cs => repC (.rep t c.sign (mnC c) (mxC c)) cs
mutual
def rP : Prt → RT
  | .mk g S cs => repC (match g with | [] => .bytes S | c :: cs' => rCs (c :: cs')) cs
def rPs : List Prt → List RT
  | [] => []
  | p :: ps => rP p :: rPs ps
def rC : List Prt → RT
  | [p] => rP p
  | [] => .node 1 []
  | p :: q :: ps => .node 1 (rP p :: rP q :: rPs ps)
def rVs : List (List Prt) → List RT
  | [] => []
  | c :: cs => rC c :: rVs cs
def rCs : List (List Prt) → RT
  | [c] => rC c
  | [] => .node 2 []
  | c :: d :: cs => .node 2 (rC c :: rC d :: rVs cs)
end
def oneOr (k : Nat) : List RT → RT
  | [t] => t
  | ts => .node k ts
theorem rC_eq (ps : List Prt) : rC ps = oneOr 1 (rPs ps) := by
  match ps with
  | [] => simp [rC, rPs, oneOr]
  | [p] => simp [rC, rPs, oneOr]
  | p :: q :: ps => simp [rC, rPs, oneOr]
theorem rCs_eq (cs : List (List Prt)) : rCs cs = oneOr 2 (rVs cs) := by
  match cs with
  | [] => simp [rCs, rVs, oneOr]
  | [p] => simp [rCs, rVs, oneOr]
  | p :: q :: ps => simp [rCs, rVs, oneOr]
theorem rPs_len (ps : List Prt) : (rPs ps).length = ps.length := by
  induction ps with
  | nil => rfl
  | cons p ps ih => simp [rPs, ih]
theorem rVs_len (cs : List (List Prt)) : (rVs cs).length = cs.length := by
  induction cs with
  | nil => rfl
  | cons p ps ih => simp [rVs, ih]
theorem rPs_append (a b : List Prt) : rPs (a ++ b) = rPs a ++ rPs b := by
  induction a with
  | nil => simp [rPs]
  | cons p ps ih => simp [rPs, ih]
theorem rVs_append (a b : List (List Prt)) : rVs (a ++ b) = rVs a ++ rVs b := by
  induction a with
  | nil => simp [rVs]
  | cons p ps ih => simp [rVs, ih]

mutual
/-- The tree that lies in block g, within the blocks S. -/
def RepT (w : World) (S : Nat → Prop) : RT → Nat → Prop
  | .bytes B, g => S g ∧ ∃ kv mn mx sg, Tr w g 0 B kv mn mx sg
  | .node k ks, g => S g ∧ ∃ B kv mn mx sg, Tr w g k B kv mn mx sg ∧ ∃ vs, RowIn w S 35 1 kv ks.length vs ∧ RepTs w S ks vs
  | .rep t c lo hi, g => S g ∧ ∃ B kv, Tr w g 3 B kv lo hi c.toNat ∧ ∃ g', RowIn w S 35 1 kv 1 [.pointer (some ⟨g', 0, none⟩)] ∧ RepT w S t g'
def RepTs (w : World) (S : Nat → Prop) : List RT → List Value → Prop
  | [], vs => vs = []
  | t :: ts, vs => ∃ g vs', vs = .pointer (some ⟨g, 0, none⟩) :: vs' ∧ RepT w S t g ∧ RepTs w S ts vs'
end
section
variable {w w' : World} {S S' : Nat → Prop}
mutual
theorem RepT.of_heap (hS : ∀ g, S g → g < w.heap.size → S' g ∧ w'.heap[g]? = w.heap[g]?) : ∀ (t : RT) (g : Nat), RepT w S t g → RepT w' S' t g
  | .bytes B, g, h => by
    simp only [RepT] at h ⊢
    obtain ⟨h1, kv, mn, mx, sg, h2⟩ := h
    exact ⟨(hS g h1 h2.lt).1, kv, mn, mx, sg, h2.of_heap (hS g h1 h2.lt).2⟩
  | .node k ks, g, h => by
    simp only [RepT] at h ⊢
    obtain ⟨h1, B, kv, mn, mx, sg, h2, vs, h3, h4⟩ := h
    exact ⟨(hS g h1 h2.lt).1, B, kv, mn, mx, sg, h2.of_heap (hS g h1 h2.lt).2, vs, h3.of_heap hS, RepTs.of_heap hS ks vs h4⟩
  | .rep t c lo hi, g, h => by
    simp only [RepT] at h ⊢
    obtain ⟨h1, B, kv, h2, g', h3, h4⟩ := h
    exact ⟨(hS g h1 h2.lt).1, B, kv, h2.of_heap (hS g h1 h2.lt).2, g', h3.of_heap hS, RepT.of_heap hS t g' h4⟩
theorem RepTs.of_heap (hS : ∀ g, S g → g < w.heap.size → S' g ∧ w'.heap[g]? = w.heap[g]?) : ∀ (ts : List RT) (vs : List Value), RepTs w S ts vs → RepTs w' S' ts vs
  | [], vs, h => by simpa only [RepTs] using h
  | t :: ts, vs, h => by
    simp only [RepTs] at h ⊢
    obtain ⟨g, vs', he, h1, h2⟩ := h
    exact ⟨g, vs', he, RepT.of_heap hS t g h1, RepTs.of_heap hS ts vs' h2⟩
end
end
theorem RepTs.snoc {w : World} {S : Nat → Prop} {t : RT} {g : Nat} (hp : RepT w S t g) : ∀ {ts : List RT} {vs : List Value}, RepTs w S ts vs → RepTs w S (ts ++ [t]) (vs ++ [.pointer (some ⟨g, 0, none⟩)])
  | [], vs, h => by
    simp only [RepTs] at h; subst h
    simp only [List.nil_append, RepTs]
    exact ⟨g, [], rfl, hp, rfl⟩
  | q :: ts, vs, h => by
    simp only [RepTs] at h
    obtain ⟨g', vs', rfl, h1, h2⟩ := h
    simp only [List.cons_append, RepTs]
    exact ⟨g', vs' ++ [.pointer (some ⟨g, 0, none⟩)], rfl, h1, RepTs.snoc hp h2⟩
theorem RepT.in {w : World} {S : Nat → Prop} {t : RT} {g : Nat} (h : RepT w S t g) : S g := by
  cases t <;> (simp only [RepT] at h; exact h.1)

/-- A tree's text. -/
def tRep (c : UInt8) (lo hi : Int) : List UInt8 := if c = 123 then [123] ++ tDec lo.toNat ++ [44] ++ (if hi < 0 then [] else tDec hi.toNat) ++ [125] else [c]
mutual
def tRT : RT → List UInt8
  | .bytes S => tBytes S
  | .rep t c lo hi => tRT t ++ tRep c lo hi
  | .node k ks => if ks.length = 0 then [101] else [40] ++ tRTs k 0 ks ++ [41]
def tRTs (k : Nat) (i : Nat) : List RT → List UInt8
  | [] => []
  | t :: ts => (if 0 < i ∧ k = 2 then [124] else []) ++ tRT t ++ tRTs k (i + 1) ts
end
/-- Counts as they are read. -/
def QkC (c : Cnt) : Prop := c.sign = 123 → 0 ≤ c.least ∧ (c.most = -1 ∨ 0 ≤ c.most)
theorem tRep_eq (c : Cnt) (h : QkC c) : tRep c.sign (mnC c) (mxC c) = tCount c := by
  unfold tRep tCount
  by_cases e : c.sign = 123
  · have := h e
    simp only [e, if_true, mnC, mxC]
    rcases this.2 with q | q
    · rw [if_pos (by omega), if_pos q]
    · rw [if_neg (by omega), if_neg (by omega)]
  · simp [e]
theorem tRT_repC (t : RT) (cs : List Cnt) (h : ∀ c ∈ cs, QkC c) : tRT (repC t cs) = tRT t ++ cs.flatMap tCount := by
  induction cs generalizing t with
  | nil => simp [repC]
  | cons c cs ih =>
    rw [repC, ih _ (fun c' hc' => h c' (List.mem_cons_of_mem _ hc'))]
    simp only [tRT, tRep_eq c (h c List.mem_cons_self), List.flatMap_cons, List.append_assoc]
mutual
def QkP : Prt → Prop
  | .mk g _ cs => QkVs g ∧ ∀ c ∈ cs, QkC c
def QkPs : List Prt → Prop
  | [] => True
  | p :: ps => QkP p ∧ QkPs ps
def QkVs : List (List Prt) → Prop
  | [] => True
  | c :: cs => QkPs c ∧ QkVs cs
end
mutual
theorem tP_eq : ∀ (p : Prt), QkP p → tRT (rP p) = tP p
  | .mk g S cs, h => by
    simp only [QkP] at h
    match g, h with
    | [], h => simp only [rP, tP, tRT_repC _ _ h.2, tRT]
    | c :: cs', h => simp only [rP, tP, tRT_repC _ _ h.2, tCs_eq (c :: cs') (by simp) h.1]
theorem tC_eq : ∀ (ps : List Prt), QkPs ps → tRT (rC ps) = tC ps
  | [], _ => by simp [rC, tC, tRT]
  | [p], h => by simp only [QkPs] at h; simp only [rC, tC, tP_eq p h.1]
  | p :: q :: ps, h => by
    simp only [QkPs] at h
    simp only [rC, tC, tRT, tRTs, tP_eq p h.1, tP_eq q h.2.1, tPs_eq 2 ps h.2.2]
    simp
theorem tPs_eq : ∀ (i : Nat) (ps : List Prt), QkPs ps → tRTs 1 i (rPs ps) = tPs ps
  | i, [], _ => by simp [rPs, tRTs, tPs]
  | i, p :: ps, h => by
    simp only [QkPs] at h
    simp only [rPs, tRTs, tPs, tP_eq p h.1, tPs_eq (i + 1) ps h.2]
    simp
theorem tCs_eq : ∀ (cs : List (List Prt)), cs ≠ [] → QkVs cs → tRT (rCs cs) = tCs cs
  | [], hn, _ => absurd rfl hn
  | [c], _, h => by simp only [QkVs] at h; simp only [rCs, tCs, tC_eq c h.1]
  | c :: d :: cs, _, h => by
    simp only [QkVs] at h
    simp only [rCs, tCs, tRT, tRTs, tC_eq c h.1, tC_eq d h.2.1, tVs_eq 1 cs h.2.2]
    simp
theorem tVs_eq : ∀ (i : Nat) (cs : List (List Prt)), QkVs cs → tRTs 2 (i + 1) (rVs cs) = tBar cs
  | i, [], _ => by simp [rVs, tRTs, tBar]
  | i, c :: cs, h => by
    simp only [QkVs] at h
    simp only [rVs, tRTs, tBar, tC_eq c h.1, tVs_eq (i + 1) cs h.2]
    simp
end
end Go.Proofs.YtbjabpodkaokjaaDoor
