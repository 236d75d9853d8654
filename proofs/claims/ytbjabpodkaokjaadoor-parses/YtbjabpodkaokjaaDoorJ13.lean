import Derived.Test.YtbjabpodkaokjaaDoorJ12
set_option linter.unusedVariables false
set_option linter.unusedSimpArgs false
namespace Go.Proofs.YtbjabpodkaokjaaDoor
open Go.RowKit

abbrev setE : List (Nat × Nat × Nat) := [(100, 48, 57), (119, 48, 57), (119, 65, 90), (119, 95, 95), (119, 97, 122), (115, 9, 10), (115, 13, 13), (115, 32, 32)]
theorem se_index0 (w : World) : (Instr.index 124 (.agg SE) (.int .i64 0)).run Tryd.prog w = .ok (.agg #[.int .u8 100, .int .u8 48, .int .u8 57]) w := by kernel_rfl
theorem se_index1 (w : World) : (Instr.index 124 (.agg SE) (.int .i64 1)).run Tryd.prog w = .ok (.agg #[.int .u8 119, .int .u8 48, .int .u8 57]) w := by kernel_rfl
theorem se_index2 (w : World) : (Instr.index 124 (.agg SE) (.int .i64 2)).run Tryd.prog w = .ok (.agg #[.int .u8 119, .int .u8 65, .int .u8 90]) w := by kernel_rfl
theorem se_index3 (w : World) : (Instr.index 124 (.agg SE) (.int .i64 3)).run Tryd.prog w = .ok (.agg #[.int .u8 119, .int .u8 95, .int .u8 95]) w := by kernel_rfl
theorem se_index4 (w : World) : (Instr.index 124 (.agg SE) (.int .i64 4)).run Tryd.prog w = .ok (.agg #[.int .u8 119, .int .u8 97, .int .u8 122]) w := by kernel_rfl
theorem se_index5 (w : World) : (Instr.index 124 (.agg SE) (.int .i64 5)).run Tryd.prog w = .ok (.agg #[.int .u8 115, .int .u8 9, .int .u8 10]) w := by kernel_rfl
theorem se_index6 (w : World) : (Instr.index 124 (.agg SE) (.int .i64 6)).run Tryd.prog w = .ok (.agg #[.int .u8 115, .int .u8 13, .int .u8 13]) w := by kernel_rfl
theorem se_index7 (w : World) : (Instr.index 124 (.agg SE) (.int .i64 7)).run Tryd.prog w = .ok (.agg #[.int .u8 115, .int .u8 32, .int .u8 32]) w := by kernel_rfl
theorem se_index (k : Nat) (h : k < 8) (w : World) : (Instr.index 124 (.agg SE) (.int .i64 k)).run Tryd.prog w = .ok (.agg #[.int .u8 ((setE.getD k (0, 0, 0)).1 : Nat), .int .u8 ((setE.getD k (0, 0, 0)).2.1 : Nat), .int .u8 ((setE.getD k (0, 0, 0)).2.2 : Nat)]) w := by
  match k, h with
  | 0, _ => exact se_index0 w
  | 1, _ => exact se_index1 w
  | 2, _ => exact se_index2 w
  | 3, _ => exact se_index3 w
  | 4, _ => exact se_index4 w
  | 5, _ => exact se_index5 w
  | 6, _ => exact se_index6 w
  | 7, _ => exact se_index7 w
  | n + 8, h => exact absurd h (by omega)
theorem setE_lt (k : Nat) (h : k < 8) : (setE.getD k (0, 0, 0)).2.1 < 256 ∧ (setE.getD k (0, 0, 0)).2.2 < 256 := by
  have H : ∀ i : Fin 8, (setE.getD i.val (0, 0, 0)).2.1 < 256 ∧ (setE.getD i.val (0, 0, 0)).2.2 < 256 := by decide
  exact H ⟨k, h⟩
def accS (c : UInt8) (k : Nat) (n : Nat) : Bool := (setE.take k).any fun e => e.1 == c.toNat && inSpan e.2.1 e.2.2 n
def fndS (c : UInt8) (k : Nat) : Bool := (setE.take k).any fun e => e.1 == c.toNat
theorem take_succ_E (k : Nat) (h : k < 8) : setE.take (k + 1) = setE.take k ++ [setE.getD k (0, 0, 0)] := by
  have H : ∀ i : Fin 8, setE.take (i.val + 1) = setE.take i.val ++ [setE.getD i.val (0, 0, 0)] := by decide
  exact H ⟨k, h⟩
theorem acc_yes (c : UInt8) (k : Nat) (h : k < 8) (e : (setE.getD k (0, 0, 0)).1 = c.toNat) (n : Nat) : accS c (k + 1) n = orS (accS c k) (inSpan (setE.getD k (0, 0, 0)).2.1 (setE.getD k (0, 0, 0)).2.2) n := by
  unfold accS; rw [take_succ_E k h]; simp only [List.any_append, List.any_cons, List.any_nil, orS, e]; simp
theorem acc_no (c : UInt8) (k : Nat) (h : k < 8) (e : (setE.getD k (0, 0, 0)).1 ≠ c.toNat) (n : Nat) : accS c (k + 1) n = accS c k n := by
  unfold accS; rw [take_succ_E k h]; simp only [List.any_append, List.any_cons, List.any_nil]
  have : ((setE.getD k (0, 0, 0)).1 == c.toNat) = false := by simpa using e
  rw [this]; simp
theorem fnd_yes (c : UInt8) (k : Nat) (h : k < 8) (e : (setE.getD k (0, 0, 0)).1 = c.toNat) : fndS c (k + 1) = true := by
  unfold fndS; rw [take_succ_E k h]; simp only [List.any_append, List.any_cons, List.any_nil, e]; simp
theorem fnd_no (c : UInt8) (k : Nat) (h : k < 8) (e : (setE.getD k (0, 0, 0)).1 ≠ c.toNat) : fndS c (k + 1) = fndS c k := by
  unfold fndS; rw [take_succ_E k h]; simp only [List.any_append, List.any_cons, List.any_nil]
  have : ((setE.getD k (0, 0, 0)).1 == c.toNat) = false := by simpa using e
  rw [this]; simp
def setOf (c : UInt8) : Nat → Bool := (escSet c).getD fun _ => false
theorem fnd_all (c : UInt8) : fndS c 8 = (escSet c).isSome := by
  have H : ((List.range 256).all fun n => (fun c : UInt8 => fndS c 8 == (escSet c).isSome) (UInt8.ofNat n)) = true := by kernel_rfl
  exact eq_of_beq (all256 (fun c : UInt8 => fndS c 8 == (escSet c).isSome) H c)
theorem acc_all (c : UInt8) (n : Nat) : accS c 8 n = setOf c n := by
  by_cases h1 : c = 100
  · subst h1; simp [accS, setOf, escSet]
  · by_cases h2 : c = 119
    · subst h2; simp [accS, setOf, escSet, Bool.or_assoc]
    · by_cases h3 : c = 115
      · subst h3; simp [accS, setOf, escSet, Bool.or_assoc]
      · have n1 : ¬ (100 = c.toNat) := fun e => h1 (UInt8.toNat_inj.1 e.symm)
        have n2 : ¬ (119 = c.toNat) := fun e => h2 (UInt8.toNat_inj.1 e.symm)
        have n3 : ¬ (115 = c.toNat) := fun e => h3 (UInt8.toNat_inj.1 e.symm)
        simp [accS, setOf, escSet, h1, h2, h3, n1, n2, n3]

/-- The set S lies in block b from the cell off on, in some words. -/
abbrev ExSet (w : World) (b off : Nat) (S : Nat → Bool) : Prop := ∃ y0 y1 y2 y3, SetAt w b off S y0 y1 y2 y3
theorem SetAt.of_heap {w w' : World} {b off : Nat} {S : Nat → Bool} {x0 x1 x2 x3 : Nat} (h : SetAt w b off S x0 x1 x2 x3) (hb : w'.heap[b]? = w.heap[b]?) : SetAt w' b off S x0 x1 x2 x3 := by
  have hc : ∀ o, w'.cell? ⟨b, o, none⟩ = w.cell? ⟨b, o, none⟩ := fun o => by simp [World.cell?, hb]
  have hf : ∀ o, w'.frozen? ⟨b, o, none⟩ = w.frozen? ⟨b, o, none⟩ := fun o => by simp [World.frozen?, hb]
  exact ⟨h.wd, (hc _).trans h.c0, (hc _).trans h.c1, (hc _).trans h.c2, (hc _).trans h.c3, fun o => (hf o).trans (h.fz o)⟩
theorem ExSet.of_heap {w w' : World} {b off : Nat} {S : Nat → Bool} (h : ExSet w b off S) (hb : w'.heap[b]? = w.heap[b]?) : ExSet w' b off S := by
  obtain ⟨y0, y1, y2, y3, h⟩ := h; exact ⟨y0, y1, y2, y3, h.of_heap hb⟩
theorem ExSet.congr {w : World} {b off : Nat} {S S' : Nat → Bool} (h : ExSet w b off S) (e : ∀ n, S n = S' n) : ExSet w b off S' := by
  obtain ⟨y0, y1, y2, y3, h⟩ := h; exact ⟨y0, y1, y2, y3, h.congr fun n _ => e n⟩
theorem ExSet.alloc {w : World} {b off : Nat} {S : Nat → Bool} (h : ExSet w b off S) (hb : b < w.heap.size) (o : Obj) : ExSet (w.alloc o) b off S := h.of_heap (Below.heap_alloc _ _ _ hb)

theorem Wd.congr {x0 x1 x2 x3 : Nat} {S S' : Nat → Bool} (h : Wd x0 x1 x2 x3 S) (e : ∀ n, S n = S' n) : Wd x0 x1 x2 x3 S' := by
  have : S = S' := funext e
  rw [← this]; exact h
/-- A set by value. -/
abbrev wv (x0 x1 x2 x3 : Nat) : Value := .agg #[.int .u64 x0, .int .u64 x1, .int .u64 x2, .int .u64 x3]

set_option maxHeartbeats 1000000 in
theorem escapedSet_any (c : UInt8) (w : World) (hT : Tabs w) :
    Calls Tryd.prog 73 #[.int .u8 c.toNat] w fun e w' => (∃ x0 x1 x2 x3, Wd x0 x1 x2 x3 (setOf c) ∧ e = .returned (.tuple #[wv x0 x1 x2 x3, .bool (escSet c).isSome])) ∧ Below w.heap.size w w' := by
  obtain ⟨-, ⟨tt, fr, hg⟩, -⟩ := hT
  have hg' : ((w.alloc (.cells #[.int .u64 0, .int .u64 0, .int .u64 0, .int .u64 0] 75)).alloc (.cells #[.int .u64 0, .int .u64 0, .int .u64 0, .int .u64 0] 75)).heap[1]? = some (.cells SE tt fr) := by
    have h1 : 1 < w.heap.size := by
      rcases Nat.lt_or_ge 1 w.heap.size with h | h
      · exact h
      · simp [Array.getElem?_eq_none h] at hg
    rw [Below.heap_alloc _ _ _ (by simp; omega), Below.heap_alloc _ _ _ h1]; exact hg
  go_enter Tryd.func73, Tryd.ntmps73
  go_wp2_with (refine wpList_load_row rfl 124 _ rfl 1 rfl tt _ fr _ hg' Tryd.underlying124 rfl (by kernel_rfl) ?_)
  go_loopw [9, 5] (fun i f wr => ∃ k : Nat, k ≤ 8 ∧ i = .int .i64 k ∧ f = .bool (fndS c k) ∧ (∃ y0 y1 y2 y3, SetAt wr (w.heap.size + 1) 0 (accS c k) y0 y1 y2 y3) ∧ SetAt wr w.heap.size 0 (fun _ => false) 0 0 0 0 ∧ Below w.heap.size w wr ∧ w.heap.size + 1 < wr.heap.size) (fun i _ _ => 8 - (intOf i).toNat)
  case atStart =>
    refine ⟨0, by omega, rfl, rfl, ⟨0, 0, 0, 0, ?_⟩, ?_, (by (repeat refine Below.setCell ?_ (by first | (simp; done) | (simp; omega)) _); (repeat refine Below.alloc ?_ (by first | (simp; done) | (simp; omega)) _); exact Below.refl _ _), by simp⟩
    · refine ⟨⟨by omega, by omega, by omega, by omega, ?_, ?_, ?_, ?_⟩, ?_, ?_, ?_, ?_, ?_⟩ <;> simp [accS, go_sem]
    · refine ⟨⟨by omega, by omega, by omega, by omega, ?_, ?_, ?_, ?_⟩, ?_, ?_, ?_, ?_, ?_⟩ <;> simp [go_sem]
  case round =>
    clear hg hg'
    obtain ⟨k, hk, rfl, rfl, hS, hZ, hbl, hsz⟩ := hrel
    have HS : Hid (∃ y0 y1 y2 y3, SetAt wr (w.heap.size + 1) 0 (accS c k) y0 y1 y2 y3) := hS
    have HZ : Hid (SetAt wr w.heap.size 0 (fun _ => false) 0 0 0 0) := hZ
    clear hS hZ
    by_cases hlt : k < 8
    · have hix := se_index k hlt
      obtain ⟨hl1, hl2⟩ := setE_lt k hlt
      obtain ⟨z1, hz1⟩ : ∃ z, z = (setE.getD k (0, 0, 0)).1 := ⟨_, rfl⟩
      obtain ⟨z2, hz2⟩ : ∃ z, z = (setE.getD k (0, 0, 0)).2.1 := ⟨_, rfl⟩
      obtain ⟨z3, hz3⟩ : ∃ z, z = (setE.getD k (0, 0, 0)).2.2 := ⟨_, rfl⟩
      rw [← hz1, ← hz2, ← hz3] at hix
      rw [← hz2] at hl1
      rw [← hz3] at hl2
      by_cases he : z1 = c.toNat
      · have e1 : ∀ n, accS c (k + 1) n = orS (accS c k) (inSpan z2 z3) n := fun n => by rw [hz2, hz3]; exact acc_yes c k hlt (hz1.symm.trans he) n
        have e2 : fndS c (k + 1) = true := fnd_yes c k hlt (hz1.symm.trans he)
        have E1 : Hid (∀ n, accS c (k + 1) n = orS (accS c k) (inSpan z2 z3) n) := e1
        have E2 : Hid (fndS c (k + 1) = true) := e2
        clear e1 e2 hz1 hz2 hz3
        have he' : ((z1 : Int) == c.toNat) = true := by rw [he]; simp
        clear he
        go_wp2_with (go_at_call 72; refine (addSpan_any _ (w.heap.size + 1) 0 z2 z3 (accS c k) hl2 hl1 (ExSet.alloc HS.out hsz _)).mono ?_; rintro e w1 ⟨rfl, hs1, hf1⟩; have HS1 : Hid _ := hs1; clear hs1)
        go_roundw
        case rel =>
          refine ⟨k + 1, by omega, by go_num, by rw [E2.out], ExSet.congr HS1.out (fun n => (E1.out n).symm), ?_, ?_, ?_⟩
          · exact HZ.out.of_heap ((hf1.block _ (by simp; omega) (by omega)).trans (Below.heap_alloc _ _ _ (by omega)))
          · have hb1 : Below w.heap.size (wr.alloc (.cells #[.int .u8 z1, .int .u8 z2, .int .u8 z3] 123)) w1 := ⟨hf1.os, hf1.tape, hf1.output, hf1.size, fun j hj => hf1.block j (by simp; omega) (by omega)⟩
            exact (hbl.alloc (by omega) _).trans hb1
          · have := hf1.size; simp at this; omega
        case measure => simp [intOf]; omega
      · have e1 : ∀ n, accS c (k + 1) n = accS c k n := fun n => acc_no c k hlt (fun e => he (hz1.trans e)) n
        have e2 : fndS c (k + 1) = fndS c k := fnd_no c k hlt (fun e => he (hz1.trans e))
        have E1 : Hid (∀ n, accS c (k + 1) n = accS c k n) := e1
        have E2 : Hid (fndS c (k + 1) = fndS c k) := e2
        clear e1 e2 hz1 hz2 hz3
        have he' : ((z1 : Int) == c.toNat) = false := by simp; omega
        clear he
        go_wp2
        go_roundw
        case rel =>
          refine ⟨k + 1, by omega, by go_num, by rw [E2.out], ExSet.congr (ExSet.alloc HS.out hsz _) (fun n => (E1.out n).symm), ?_, hbl.alloc (by omega) _, by simp; omega⟩
          exact HZ.out.of_heap (Below.heap_alloc _ _ _ (by omega))
        case measure => simp [intOf]; omega
    · have hk8 : k = 8 := by omega
      subst hk8
      obtain ⟨y0, y1, y2, y3, hw, c0, c1, c2, c3, fz⟩ := HS.out
      obtain ⟨-, d0, d1, d2, d3, dz⟩ := HZ.out
      simp only [Nat.zero_add] at c1 c2 c3 d1 d2 d3
      clear HS HZ
      go_wp2
      refine bodyPost_ret (v := .tuple #[wv y0 y1 y2 y3, .bool (fndS c 8)]) (by simp [results, Tryd.results73, go_sem, d0, d1, d2, d3]) rfl ⟨⟨y0, y1, y2, y3, hw.congr (acc_all c), by rw [fnd_all]⟩, ?_⟩
      exact (((hbl.setCell (Nat.le_refl _) _).setCell (Nat.le_refl _) _).setCell (Nat.le_refl _) _).setCell (Nat.le_refl _) _
end Go.Proofs.YtbjabpodkaokjaaDoor
