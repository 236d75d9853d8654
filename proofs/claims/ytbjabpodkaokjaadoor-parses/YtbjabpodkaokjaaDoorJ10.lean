import Derived.Test.YtbjabpodkaokjaaDoorJ09
import Derived.BigRegion
set_option linter.unusedVariables false
set_option linter.unusedSimpArgs false
namespace Go.Proofs.YtbjabpodkaokjaaDoor
open Go.RowKit

/-- Four words hold the set S of bytes. -/
structure Wd (x0 x1 x2 x3 : Nat) (S : Nat → Bool) : Prop where
  l0 : x0 < 18446744073709551616
  l1 : x1 < 18446744073709551616
  l2 : x2 < 18446744073709551616
  l3 : x3 < 18446744073709551616
  b0 : ∀ n, n < 64 → x0.testBit n = S n
  b1 : ∀ n, n < 64 → x1.testBit n = S (64 + n)
  b2 : ∀ n, n < 64 → x2.testBit n = S (128 + n)
  b3 : ∀ n, n < 64 → x3.testBit n = S (192 + n)

/-- The set S lies in block b from the cell off on. -/
structure SetAt (w : World) (b off : Nat) (S : Nat → Bool) (x0 x1 x2 x3 : Nat) : Prop where
  wd : Wd x0 x1 x2 x3 S
  c0 : w.cell? ⟨b, off, none⟩ = some (.int .u64 x0)
  c1 : w.cell? ⟨b, off + 1, none⟩ = some (.int .u64 x1)
  c2 : w.cell? ⟨b, off + 2, none⟩ = some (.int .u64 x2)
  c3 : w.cell? ⟨b, off + 3, none⟩ = some (.int .u64 x3)
  fz : ∀ o, w.frozen? ⟨b, o, none⟩ = false

/-- w' is w but for four cells of block b, new blocks and draws. -/
structure Four (b off : Nat) (w w' : World) : Prop where
  os : w'.os = w.os
  tape : w'.tape = w.tape
  output : w'.output = w.output
  size : w.heap.size ≤ w'.heap.size
  block : ∀ k, k < w.heap.size → k ≠ b → w'.heap[k]? = w.heap[k]?
  cell : ∀ o, (o < off ∨ off + 4 ≤ o) → w'.cell? ⟨b, o, none⟩ = w.cell? ⟨b, o, none⟩

theorem Four.refl (b off : Nat) (w : World) : Four b off w w := ⟨rfl, rfl, rfl, Nat.le_refl _, fun _ _ _ => rfl, fun _ _ => rfl⟩
theorem Four.trans {b off : Nat} {x y z : World} (h : Four b off x y) (g : Four b off y z) : Four b off x z :=
  ⟨g.os.trans h.os, g.tape.trans h.tape, g.output.trans h.output, Nat.le_trans h.size g.size, fun k hk hb => (g.block k (Nat.lt_of_lt_of_le hk h.size) hb).trans (h.block k hk hb), fun o ho => (g.cell o ho).trans (h.cell o ho)⟩
theorem Four.drew {b off : Nat} {x w : World} (h : Four b off x w) : Four b off x w.drew := ⟨h.os, h.tape, h.output, h.size, h.block, h.cell⟩
theorem Four.drewN {b off : Nat} {x w : World} (h : Four b off x w) (n : Nat) : Four b off x (w.drewN n) := ⟨h.os, h.tape, h.output, h.size, h.block, h.cell⟩
theorem Four.setCell {b off : Nat} {x w : World} (h : Four b off x w) (o : Nat) (ho : off ≤ o ∧ o < off + 4) (v : Value) : Four b off x (w.setCell ⟨b, o, none⟩ v) :=
  h.trans ⟨rfl, rfl, rfl, by simp [World.setCell], fun k _ hb => Below.heap_setCell _ _ _ _ hb, fun o' ho' => by
    have : o ≠ o' := by omega
    exact World.cell?_setCell_other _ _ _ _ (fun e => this (by injection e))⟩
theorem Four.alloc {b off : Nat} {x w : World} (h : Four b off x w) (hb : b < w.heap.size) (o : Obj) : Four b off x (w.alloc o) :=
  h.trans ⟨rfl, rfl, rfl, by simp, fun k hk _ => Below.heap_alloc _ _ _ hk, fun o' _ => by simp [World.cell?, Below.heap_alloc _ _ _ hb]⟩

theorem wrap_small (p : Nat) (h : p < 18446744073709551616) : IntKind.u64.wrap (p : Int) = (p : Int) := by
  rw [IntKind.wrap_u64]; omega
theorem or_u64 (x m : Nat) (hx : x < 18446744073709551616) (hm : m < 64) : bits BinOp.or IntKind.u64 (x : Int) (IntKind.u64.wrap (2 ^ m)) = ((x ||| 2 ^ m : Nat) : Int) := by
  have h2 : 2 ^ m < 18446744073709551616 := Nat.pow_lt_pow_right (a := 2) (by omega) (show m < 64 from hm)
  have e : ((2 : Int) ^ m) = ((2 ^ m : Nat) : Int) := (Int.natCast_pow 2 m).symm
  rw [e, wrap_small _ h2, bits_or_u64_nat x (2 ^ m) hx h2]
theorem or_lt (x m : Nat) (hx : x < 18446744073709551616) (hm : m < 64) : x ||| 2 ^ m < 18446744073709551616 :=
  Nat.or_lt_two_pow (n := 64) hx (Nat.pow_lt_pow_right (by omega) hm)

theorem Wd.add0 {x0 x1 x2 x3 : Nat} {S : Nat → Bool} (h : Wd x0 x1 x2 x3 S) (m : Nat) (hm : m < 64) : Wd (x0 ||| 2 ^ m) x1 x2 x3 (orS S (inSpan m m)) := by
  obtain ⟨l0, l1, l2, l3, b0, b1, b2, b3⟩ := h
  refine ⟨or_lt _ _ l0 hm, l1, l2, l3, fun n hn => ?_, fun n hn => ?_, fun n hn => ?_, fun n hn => ?_⟩
  · rw [Nat.testBit_or, b0 n hn, Nat.testBit_two_pow]
    simp only [orS, inSpan]
    congr 1
    rw [Bool.eq_iff_iff]; simp; omega
  all_goals
    first | rw [b1 n hn] | rw [b2 n hn] | rw [b3 n hn]
    simp only [orS, inSpan]
    rw [Bool.eq_iff_iff]; simp; omega
theorem Wd.add1 {x0 x1 x2 x3 : Nat} {S : Nat → Bool} (h : Wd x0 x1 x2 x3 S) (m : Nat) (hm : m < 64) : Wd x0 (x1 ||| 2 ^ m) x2 x3 (orS S (inSpan (64 + m) (64 + m))) := by
  obtain ⟨l0, l1, l2, l3, b0, b1, b2, b3⟩ := h
  refine ⟨l0, or_lt _ _ l1 hm, l2, l3, fun n hn => ?_, fun n hn => ?_, fun n hn => ?_, fun n hn => ?_⟩
  rotate_left
  · rw [Nat.testBit_or, b1 n hn, Nat.testBit_two_pow]
    simp only [orS, inSpan]
    congr 1
    rw [Bool.eq_iff_iff]; simp; omega
  all_goals
    first | rw [b0 n hn] | rw [b2 n hn] | rw [b3 n hn]
    simp only [orS, inSpan]
    rw [Bool.eq_iff_iff]; simp; omega
theorem Wd.add2 {x0 x1 x2 x3 : Nat} {S : Nat → Bool} (h : Wd x0 x1 x2 x3 S) (m : Nat) (hm : m < 64) : Wd x0 x1 (x2 ||| 2 ^ m) x3 (orS S (inSpan (128 + m) (128 + m))) := by
  obtain ⟨l0, l1, l2, l3, b0, b1, b2, b3⟩ := h
  refine ⟨l0, l1, or_lt _ _ l2 hm, l3, fun n hn => ?_, fun n hn => ?_, fun n hn => ?_, fun n hn => ?_⟩
  rotate_left 2
  · rw [Nat.testBit_or, b2 n hn, Nat.testBit_two_pow]
    simp only [orS, inSpan]
    congr 1
    rw [Bool.eq_iff_iff]; simp; omega
  all_goals
    first | rw [b0 n hn] | rw [b1 n hn] | rw [b3 n hn]
    simp only [orS, inSpan]
    rw [Bool.eq_iff_iff]; simp; omega
theorem Wd.add3 {x0 x1 x2 x3 : Nat} {S : Nat → Bool} (h : Wd x0 x1 x2 x3 S) (m : Nat) (hm : m < 64) : Wd x0 x1 x2 (x3 ||| 2 ^ m) (orS S (inSpan (192 + m) (192 + m))) := by
  obtain ⟨l0, l1, l2, l3, b0, b1, b2, b3⟩ := h
  refine ⟨l0, l1, l2, or_lt _ _ l3 hm, fun n hn => ?_, fun n hn => ?_, fun n hn => ?_, fun n hn => ?_⟩
  rotate_left 3
  · rw [Nat.testBit_or, b3 n hn, Nat.testBit_two_pow]
    simp only [orS, inSpan]
    congr 1
    rw [Bool.eq_iff_iff]; simp; omega
  all_goals
    first | rw [b0 n hn] | rw [b1 n hn] | rw [b2 n hn]
    simp only [orS, inSpan]
    rw [Bool.eq_iff_iff]; simp; omega

theorem SetAt.put0 {w : World} {b off : Nat} {S S' : Nat → Bool} {x0 x1 x2 x3 y : Nat} (h : SetAt w b off S x0 x1 x2 x3) (hw : Wd y x1 x2 x3 S') : SetAt (w.setCell ⟨b, off, none⟩ (.int .u64 y)).drew b off S' y x1 x2 x3 := by
  obtain ⟨wd, c0, c1, c2, c3, fz⟩ := h
  refine ⟨hw, ?_, ?_, ?_, ?_, fun o => ?_⟩ <;> simp [c0, c1, c2, c3, fz, go_sem]
theorem SetAt.put1 {w : World} {b off : Nat} {S S' : Nat → Bool} {x0 x1 x2 x3 y : Nat} (h : SetAt w b off S x0 x1 x2 x3) (hw : Wd x0 y x2 x3 S') : SetAt (w.setCell ⟨b, off + 1, none⟩ (.int .u64 y)).drew b off S' x0 y x2 x3 := by
  obtain ⟨wd, c0, c1, c2, c3, fz⟩ := h
  refine ⟨hw, ?_, ?_, ?_, ?_, fun o => ?_⟩ <;> simp [c0, c1, c2, c3, fz, go_sem]
theorem SetAt.put2 {w : World} {b off : Nat} {S S' : Nat → Bool} {x0 x1 x2 x3 y : Nat} (h : SetAt w b off S x0 x1 x2 x3) (hw : Wd x0 x1 y x3 S') : SetAt (w.setCell ⟨b, off + 2, none⟩ (.int .u64 y)).drew b off S' x0 x1 y x3 := by
  obtain ⟨wd, c0, c1, c2, c3, fz⟩ := h
  refine ⟨hw, ?_, ?_, ?_, ?_, fun o => ?_⟩ <;> simp [c0, c1, c2, c3, fz, go_sem]
theorem SetAt.put3 {w : World} {b off : Nat} {S S' : Nat → Bool} {x0 x1 x2 x3 y : Nat} (h : SetAt w b off S x0 x1 x2 x3) (hw : Wd x0 x1 x2 y S') : SetAt (w.setCell ⟨b, off + 3, none⟩ (.int .u64 y)).drew b off S' x0 x1 x2 y := by
  obtain ⟨wd, c0, c1, c2, c3, fz⟩ := h
  refine ⟨hw, ?_, ?_, ?_, ?_, fun o => ?_⟩ <;> simp [c0, c1, c2, c3, fz, go_sem]

set_option maxHeartbeats 1000000 in
theorem add_any (w : World) (b off n : Nat) (S : Nat → Bool) (x0 x1 x2 x3 : Nat) (hn : n < 256) (h : SetAt w b off S x0 x1 x2 x3) :
    Calls Tryd.prog 58 #[.pointer (some ⟨b, off, none⟩), .int .u8 n] w fun e w' => e = .returned (.tuple #[]) ∧ (∃ y0 y1 y2 y3, SetAt w' b off (orS S (inSpan n n)) y0 y1 y2 y3) ∧ Four b off w w' := by
  have h' := h
  obtain ⟨wd, c0, c1, c2, c3, fz⟩ := h
  have hq : n < 64 ∨ (64 ≤ n ∧ n < 128) ∨ (128 ≤ n ∧ n < 192) ∨ 192 ≤ n := by omega
  rcases hq with hq | hq | hq | hq
  · obtain ⟨m, hm0⟩ : ∃ m, n = m := ⟨n - 0, by omega⟩
    have hd : (n : Int) / 64 = 0 := by omega
    have hm : (n : Int) % 64 = (m : Int) := by omega
    have hlt : m < 64 := by omega
    have HW : Hid (bits BinOp.or IntKind.u64 (x0 : Int) (IntKind.u64.wrap (2 ^ m)) = ((x0 ||| 2 ^ m : Nat) : Int)) := or_u64 x0 m wd.l0 hlt
    have f0 := fz (off)
    have HM : Hid (n = m) := hm0
    clear hm0
    go_enter Tryd.func58, Tryd.ntmps58
    go_region
    go_end0
    rw [HW.out]
    have e2 : orS S (inSpan n n) = orS S (inSpan (m) (m)) := by rw [HM.out]
    rw [e2]
    exact ⟨rfl, ⟨_, _, _, _, h'.put0 (wd.add0 m hlt)⟩, ((Four.refl _ _ _).setCell _ (by omega) _).drew⟩
  · obtain ⟨m, hm0⟩ : ∃ m, n = 64 + m := ⟨n - 64, by omega⟩
    have hd : (n : Int) / 64 = 1 := by omega
    have hm : (n : Int) % 64 = (m : Int) := by omega
    have hlt : m < 64 := by omega
    have HW : Hid (bits BinOp.or IntKind.u64 (x1 : Int) (IntKind.u64.wrap (2 ^ m)) = ((x1 ||| 2 ^ m : Nat) : Int)) := or_u64 x1 m wd.l1 hlt
    have f0 := fz (off + 1)
    have HM : Hid (n = 64 + m) := hm0
    clear hm0
    go_enter Tryd.func58, Tryd.ntmps58
    go_region
    go_end0
    rw [HW.out]
    have e2 : orS S (inSpan n n) = orS S (inSpan (64 + m) (64 + m)) := by rw [HM.out]
    rw [e2]
    exact ⟨rfl, ⟨_, _, _, _, h'.put1 (wd.add1 m hlt)⟩, ((Four.refl _ _ _).setCell _ (by omega) _).drew⟩
  · obtain ⟨m, hm0⟩ : ∃ m, n = 128 + m := ⟨n - 128, by omega⟩
    have hd : (n : Int) / 64 = 2 := by omega
    have hm : (n : Int) % 64 = (m : Int) := by omega
    have hlt : m < 64 := by omega
    have HW : Hid (bits BinOp.or IntKind.u64 (x2 : Int) (IntKind.u64.wrap (2 ^ m)) = ((x2 ||| 2 ^ m : Nat) : Int)) := or_u64 x2 m wd.l2 hlt
    have f0 := fz (off + 2)
    have HM : Hid (n = 128 + m) := hm0
    clear hm0
    go_enter Tryd.func58, Tryd.ntmps58
    go_region
    go_end0
    rw [HW.out]
    have e2 : orS S (inSpan n n) = orS S (inSpan (128 + m) (128 + m)) := by rw [HM.out]
    rw [e2]
    exact ⟨rfl, ⟨_, _, _, _, h'.put2 (wd.add2 m hlt)⟩, ((Four.refl _ _ _).setCell _ (by omega) _).drew⟩
  · obtain ⟨m, hm0⟩ : ∃ m, n = 192 + m := ⟨n - 192, by omega⟩
    have hd : (n : Int) / 64 = 3 := by omega
    have hm : (n : Int) % 64 = (m : Int) := by omega
    have hlt : m < 64 := by omega
    have HW : Hid (bits BinOp.or IntKind.u64 (x3 : Int) (IntKind.u64.wrap (2 ^ m)) = ((x3 ||| 2 ^ m : Nat) : Int)) := or_u64 x3 m wd.l3 hlt
    have f0 := fz (off + 3)
    have HM : Hid (n = 192 + m) := hm0
    clear hm0
    go_enter Tryd.func58, Tryd.ntmps58
    go_region
    go_end0
    rw [HW.out]
    have e2 : orS S (inSpan n n) = orS S (inSpan (192 + m) (192 + m)) := by rw [HM.out]
    rw [e2]
    exact ⟨rfl, ⟨_, _, _, _, h'.put3 (wd.add3 m hlt)⟩, ((Four.refl _ _ _).setCell _ (by omega) _).drew⟩
end Go.Proofs.YtbjabpodkaokjaaDoor

namespace Go.Proofs.YtbjabpodkaokjaaDoor
open Go.RowKit

theorem SetAt.congr {w : World} {b off : Nat} {S S' : Nat → Bool} {x0 x1 x2 x3 : Nat} (h : SetAt w b off S x0 x1 x2 x3) (e : ∀ n, n < 256 → S n = S' n) : SetAt w b off S' x0 x1 x2 x3 := by
  obtain ⟨⟨l0, l1, l2, l3, b0, b1, b2, b3⟩, c0, c1, c2, c3, fz⟩ := h
  exact ⟨⟨l0, l1, l2, l3, fun n hn => (b0 n hn).trans (e _ (by omega)), fun n hn => (b1 n hn).trans (e _ (by omega)), fun n hn => (b2 n hn).trans (e _ (by omega)), fun n hn => (b3 n hn).trans (e _ (by omega))⟩, c0, c1, c2, c3, fz⟩

set_option maxHeartbeats 1000000 in
theorem addSpan_any (w : World) (b off lo hi : Nat) (S : Nat → Bool) (hhi : hi < 256) (hlo : lo < 256) (h : ∃ x0 x1 x2 x3, SetAt w b off S x0 x1 x2 x3) :
    Calls Tryd.prog 72 #[.pointer (some ⟨b, off, none⟩), .int .u8 lo, .int .u8 hi] w fun e w' => e = .returned (.tuple #[]) ∧ (∃ y0 y1 y2 y3, SetAt w' b off (orS S (inSpan lo hi)) y0 y1 y2 y3) ∧ Four b off w w' := by
  go_enter Tryd.func72, Tryd.ntmps72
  go_wp2
  go_loopw [6] (fun i wr => ∃ k : Nat, lo ≤ k ∧ k ≤ 256 ∧ i = .int .i64 k ∧ (k ≤ hi + 1 ∨ k = lo) ∧ (∃ y0 y1 y2 y3, SetAt wr b off (fun n => S n || (decide (lo ≤ n) && decide (n < k))) y0 y1 y2 y3) ∧ Four b off w wr) (fun i _ => 256 - (intOf i).toNat)
  case atStart =>
    obtain ⟨x0, x1, x2, x3, h⟩ := h
    exact ⟨lo, Nat.le_refl _, by omega, rfl, .inr rfl, ⟨x0, x1, x2, x3, h.congr (fun n _ => by rw [Bool.eq_iff_iff]; simp; omega)⟩, Four.refl _ _ _⟩
  case round =>
    obtain ⟨k, hk0, hk1, rfl, hk2, ⟨y0, y1, y2, y3, hs⟩, hf⟩ := hrel
    by_cases hlt : k ≤ hi
    · have hc := fun w h => add_any w b off k (fun n => S n || (decide (lo ≤ n) && decide (n < k))) y0 y1 y2 y3 (by omega) h
      have HS : Hid (SetAt wr b off (fun n => S n || (decide (lo ≤ n) && decide (n < k))) y0 y1 y2 y3) := hs
      clear hs h
      go_wp2_with (go_at_call 58; refine (hc _ HS.out).mono ?_; rintro e w1 ⟨rfl, hs1, hf1⟩; have HS1 : Hid _ := hs1; clear hs1)
      go_roundw
      case rel =>
        obtain ⟨z0, z1, z2, z3, hz⟩ := HS1.out
        exact ⟨k + 1, by omega, by omega, by go_num, .inl (by omega), ⟨z0, z1, z2, z3, hz.congr (fun n _ => by simp only [orS, inSpan]; cases S n <;> (rw [Bool.eq_iff_iff]; simp <;> omega))⟩, hf.trans hf1⟩
      case measure => simp [intOf]; omega
    · have HS : Hid (SetAt wr b off (fun n => S n || (decide (lo ≤ n) && decide (n < k))) y0 y1 y2 y3) := hs
      clear hs h
      go_wp2
      go_end0
      exact ⟨rfl, ⟨y0, y1, y2, y3, HS.out.congr (fun n _ => by simp only [orS, inSpan]; cases S n <;> (rw [Bool.eq_iff_iff]; simp <;> omega))⟩, hf⟩

theorem or_u64' (x y : Nat) (hx : x < 18446744073709551616) (hy : y < 18446744073709551616) : bits BinOp.or IntKind.u64 (x : Int) (y : Int) = ((x ||| y : Nat) : Int) := bits_or_u64_nat x y hx hy
theorem idx4_0 (a b c d : Value) (w : World) : (Instr.index 73 (.agg #[a, b, c, d]) (.int .i64 0)).run Tryd.prog w = .ok a w := by kernel_rfl
theorem idx4_1 (a b c d : Value) (w : World) : (Instr.index 73 (.agg #[a, b, c, d]) (.int .i64 1)).run Tryd.prog w = .ok b w := by kernel_rfl
theorem idx4_2 (a b c d : Value) (w : World) : (Instr.index 73 (.agg #[a, b, c, d]) (.int .i64 2)).run Tryd.prog w = .ok c w := by kernel_rfl
theorem idx4_3 (a b c d : Value) (w : World) : (Instr.index 73 (.agg #[a, b, c, d]) (.int .i64 3)).run Tryd.prog w = .ok d w := by kernel_rfl

theorem Wd.all {x0 x1 x2 x3 u0 u1 u2 u3 : Nat} {S R : Nat → Bool} (h : Wd x0 x1 x2 x3 S) (g : Wd u0 u1 u2 u3 R) : Wd (x0 ||| u0) (x1 ||| u1) (x2 ||| u2) (x3 ||| u3) (orS S R) := by
  obtain ⟨l0, l1, l2, l3, b0, b1, b2, b3⟩ := h
  obtain ⟨k0, k1, k2, k3, a0, a1, a2, a3⟩ := g
  refine ⟨Nat.or_lt_two_pow (n := 64) l0 k0, Nat.or_lt_two_pow (n := 64) l1 k1, Nat.or_lt_two_pow (n := 64) l2 k2, Nat.or_lt_two_pow (n := 64) l3 k3, fun n hn => ?_, fun n hn => ?_, fun n hn => ?_, fun n hn => ?_⟩
  · rw [Nat.testBit_or, b0 n hn, a0 n hn]; rfl
  · rw [Nat.testBit_or, b1 n hn, a1 n hn]; rfl
  · rw [Nat.testBit_or, b2 n hn, a2 n hn]; rfl
  · rw [Nat.testBit_or, b3 n hn, a3 n hn]; rfl

/-- Cells of four words, of which the first k have been turned. -/
structure Mid (w : World) (b off k : Nat) (x0 x1 x2 x3 y0 y1 y2 y3 : Nat) : Prop where
  c0 : w.cell? ⟨b, off, none⟩ = some (.int .u64 ((if 0 < k then y0 else x0 : Nat) : Int))
  c1 : w.cell? ⟨b, off + 1, none⟩ = some (.int .u64 ((if 1 < k then y1 else x1 : Nat) : Int))
  c2 : w.cell? ⟨b, off + 2, none⟩ = some (.int .u64 ((if 2 < k then y2 else x2 : Nat) : Int))
  c3 : w.cell? ⟨b, off + 3, none⟩ = some (.int .u64 ((if 3 < k then y3 else x3 : Nat) : Int))
  fz : ∀ o, w.frozen? ⟨b, o, none⟩ = false

theorem Mid.put0 {w : World} {b off x0 x1 x2 x3 y0 y1 y2 y3 : Nat} (h : Mid w b off 0 x0 x1 x2 x3 y0 y1 y2 y3) : Mid (w.setCell ⟨b, off, none⟩ (.int .u64 y0)) b off 1 x0 x1 x2 x3 y0 y1 y2 y3 := by
  obtain ⟨c0, c1, c2, c3, fz⟩ := h
  simp at c0 c1 c2 c3
  refine ⟨?_, ?_, ?_, ?_, fun o => ?_⟩ <;> simp [c0, c1, c2, c3, fz, go_sem]
theorem Mid.put1 {w : World} {b off x0 x1 x2 x3 y0 y1 y2 y3 : Nat} (h : Mid w b off 1 x0 x1 x2 x3 y0 y1 y2 y3) : Mid (w.setCell ⟨b, off + 1, none⟩ (.int .u64 y1)) b off 2 x0 x1 x2 x3 y0 y1 y2 y3 := by
  obtain ⟨c0, c1, c2, c3, fz⟩ := h
  simp at c0 c1 c2 c3
  refine ⟨?_, ?_, ?_, ?_, fun o => ?_⟩ <;> simp [c0, c1, c2, c3, fz, go_sem]
theorem Mid.put2 {w : World} {b off x0 x1 x2 x3 y0 y1 y2 y3 : Nat} (h : Mid w b off 2 x0 x1 x2 x3 y0 y1 y2 y3) : Mid (w.setCell ⟨b, off + 2, none⟩ (.int .u64 y2)) b off 3 x0 x1 x2 x3 y0 y1 y2 y3 := by
  obtain ⟨c0, c1, c2, c3, fz⟩ := h
  simp at c0 c1 c2 c3
  refine ⟨?_, ?_, ?_, ?_, fun o => ?_⟩ <;> simp [c0, c1, c2, c3, fz, go_sem]
theorem Mid.put3 {w : World} {b off x0 x1 x2 x3 y0 y1 y2 y3 : Nat} (h : Mid w b off 3 x0 x1 x2 x3 y0 y1 y2 y3) : Mid (w.setCell ⟨b, off + 3, none⟩ (.int .u64 y3)) b off 4 x0 x1 x2 x3 y0 y1 y2 y3 := by
  obtain ⟨c0, c1, c2, c3, fz⟩ := h
  simp at c0 c1 c2 c3
  refine ⟨?_, ?_, ?_, ?_, fun o => ?_⟩ <;> simp [c0, c1, c2, c3, fz, go_sem]
theorem Mid.drew {w : World} {b off k x0 x1 x2 x3 y0 y1 y2 y3 : Nat} (h : Mid w b off k x0 x1 x2 x3 y0 y1 y2 y3) : Mid w.drew b off k x0 x1 x2 x3 y0 y1 y2 y3 := ⟨h.c0, h.c1, h.c2, h.c3, h.fz⟩
theorem bl_alloc {w : World} {b o : Nat} (hb : b < w.heap.size) (ob : Obj) : (w.alloc ob).cell? ⟨b, o, none⟩ = w.cell? ⟨b, o, none⟩ := by simp [World.cell?, Below.heap_alloc _ _ _ hb]
theorem bf_alloc {w : World} {b o : Nat} (hb : b < w.heap.size) (ob : Obj) : (w.alloc ob).frozen? ⟨b, o, none⟩ = w.frozen? ⟨b, o, none⟩ := by simp [World.frozen?, Below.heap_alloc _ _ _ hb]

set_option maxHeartbeats 2000000 in
theorem addAll_any (w : World) (b off : Nat) (S R : Nat → Bool) (u0 u1 u2 u3 : Nat) (hu : Wd u0 u1 u2 u3 R) (hb : b < w.heap.size) (h : ∃ x0 x1 x2 x3, SetAt w b off S x0 x1 x2 x3) :
    Calls Tryd.prog 66 #[.pointer (some ⟨b, off, none⟩), .agg #[.int .u64 u0, .int .u64 u1, .int .u64 u2, .int .u64 u3]] w fun e w' => e = .returned (.tuple #[]) ∧ (∃ y0 y1 y2 y3, SetAt w' b off (orS S R) y0 y1 y2 y3) ∧ Four b off w w' := by
  obtain ⟨x0, x1, x2, x3, h⟩ := h
  obtain ⟨wd, c0, c1, c2, c3, fz⟩ := h
  have HW : Hid (Wd (x0 ||| u0) (x1 ||| u1) (x2 ||| u2) (x3 ||| u3) (orS S R)) := wd.all hu
  have i0 := idx4_0
  have i1 := idx4_1
  have i2 := idx4_2
  have i3 := idx4_3
  obtain ⟨z0, hz0⟩ : ∃ z, z = x0 ||| u0 := ⟨_, rfl⟩
  obtain ⟨z1, hz1⟩ : ∃ z, z = x1 ||| u1 := ⟨_, rfl⟩
  obtain ⟨z2, hz2⟩ : ∃ z, z = x2 ||| u2 := ⟨_, rfl⟩
  obtain ⟨z3, hz3⟩ : ∃ z, z = x3 ||| u3 := ⟨_, rfl⟩
  rw [← hz0, ← hz1, ← hz2, ← hz3] at HW
  have e0 : bits BinOp.or IntKind.u64 (x0 : Int) (u0 : Int) = z0 := by rw [hz0]; exact or_u64' _ _ wd.l0 hu.l0
  have e1 : bits BinOp.or IntKind.u64 (x1 : Int) (u1 : Int) = z1 := by rw [hz1]; exact or_u64' _ _ wd.l1 hu.l1
  have e2 : bits BinOp.or IntKind.u64 (x2 : Int) (u2 : Int) = z2 := by rw [hz2]; exact or_u64' _ _ wd.l2 hu.l2
  have e3 : bits BinOp.or IntKind.u64 (x3 : Int) (u3 : Int) = z3 := by rw [hz3]; exact or_u64' _ _ wd.l3 hu.l3
  clear hz0 hz1 hz2 hz3 wd hu
  go_enter Tryd.func66, Tryd.ntmps66
  go_wp2
  go_loopw [8] (fun i wr => ∃ k : Nat, k ≤ 4 ∧ i = .int .i64 k ∧ Mid wr b off k x0 x1 x2 x3 z0 z1 z2 z3 ∧ Four b off w wr) (fun i _ => 4 - (intOf i).toNat)
  case atStart =>
    refine ⟨0, by omega, rfl, ⟨?_, ?_, ?_, ?_, fun o => ?_⟩, (Four.refl _ _ _).alloc hb _⟩
    · rw [bl_alloc hb]; simpa using c0
    · rw [bl_alloc hb]; simpa using c1
    · rw [bl_alloc hb]; simpa using c2
    · rw [bl_alloc hb]; simpa using c3
    · rw [bf_alloc hb]; exact fz o
  case round =>
    clear c0 c1 c2 c3 fz
    obtain ⟨k, hk, rfl, hm, hf⟩ := hrel
    have HM : Hid (Mid wr b off k x0 x1 x2 x3 z0 z1 z2 z3) := hm
    match k, hk with
    | 0, _ =>
      obtain ⟨c0, c1, c2, c3, fz⟩ := hm
      simp at c0 c1 c2 c3
      go_wp2
      go_region
      go_wp2
      go_roundw
      case rel => exact ⟨1, by omega, by go_num, HM.out.put0.drew, (hf.setCell _ (by omega) _).drew⟩
      case measure => simp [intOf]
    | 1, _ =>
      obtain ⟨c0, c1, c2, c3, fz⟩ := hm
      simp at c0 c1 c2 c3
      go_wp2
      go_region
      go_wp2
      go_roundw
      case rel => exact ⟨2, by omega, by go_num, HM.out.put1.drew, (hf.setCell _ (by omega) _).drew⟩
      case measure => simp [intOf]
    | 2, _ =>
      obtain ⟨c0, c1, c2, c3, fz⟩ := hm
      simp at c0 c1 c2 c3
      go_wp2
      go_region
      go_wp2
      go_roundw
      case rel => exact ⟨3, by omega, by go_num, HM.out.put2.drew, (hf.setCell _ (by omega) _).drew⟩
      case measure => simp [intOf]
    | 3, _ =>
      obtain ⟨c0, c1, c2, c3, fz⟩ := hm
      simp at c0 c1 c2 c3
      go_wp2
      go_region
      go_wp2
      go_roundw
      case rel => exact ⟨4, by omega, by go_num, HM.out.put3.drew, (hf.setCell _ (by omega) _).drew⟩
      case measure => simp [intOf]
    | 4, _ =>
      clear hm
      go_wp2
      go_end0
      obtain ⟨c0, c1, c2, c3, fz⟩ := HM.out
      simp at c0 c1 c2 c3
      exact ⟨rfl, ⟨_, _, _, _, ⟨HW.out, c0, c1, c2, c3, fz⟩⟩, hf⟩
end Go.Proofs.YtbjabpodkaokjaaDoor

namespace Go.Proofs.YtbjabpodkaokjaaDoor
open Go.RowKit

theorem inv_u64 (x : Nat) (hx : x < 18446744073709551616) : bits BinOp.xor IntKind.u64 (if IntKind.u64.signed = true then -1 else IntKind.u64.max) (x : Int) = ((18446744073709551615 ^^^ x : Nat) : Int) := by
  have e : (if IntKind.u64.signed = true then -1 else IntKind.u64.max) = ((18446744073709551615 : Nat) : Int) := by decide
  rw [e, bits_xor_u64_nat _ x (by omega) hx]
theorem Wd.inv {x0 x1 x2 x3 : Nat} {S : Nat → Bool} (h : Wd x0 x1 x2 x3 S) : Wd (18446744073709551615 ^^^ x0) (18446744073709551615 ^^^ x1) (18446744073709551615 ^^^ x2) (18446744073709551615 ^^^ x3) (fun n => !S n) := by
  obtain ⟨l0, l1, l2, l3, b0, b1, b2, b3⟩ := h
  have key : ∀ x n, n < 64 → (18446744073709551615 ^^^ x).testBit n = !x.testBit n := by
    intro x n hn
    have e : (18446744073709551615 : Nat) = 2 ^ 64 - 1 := by decide
    rw [Nat.testBit_xor, e, Nat.testBit_two_pow_sub_one]
    simp [hn]
  have lt : ∀ x, x < 18446744073709551616 → 18446744073709551615 ^^^ x < 18446744073709551616 := fun x hx => Nat.xor_lt_two_pow (n := 64) (by decide) hx
  refine ⟨lt _ l0, lt _ l1, lt _ l2, lt _ l3, fun n hn => ?_, fun n hn => ?_, fun n hn => ?_, fun n hn => ?_⟩
  · rw [key _ _ hn, b0 n hn]
  · rw [key _ _ hn, b1 n hn]
  · rw [key _ _ hn, b2 n hn]
  · rw [key _ _ hn, b3 n hn]

set_option maxHeartbeats 2000000 in
theorem invert_any (w : World) (b off : Nat) (S : Nat → Bool) (h : ∃ x0 x1 x2 x3, SetAt w b off S x0 x1 x2 x3) :
    Calls Tryd.prog 59 #[.pointer (some ⟨b, off, none⟩)] w fun e w' => e = .returned (.tuple #[]) ∧ (∃ y0 y1 y2 y3, SetAt w' b off (fun n => !S n) y0 y1 y2 y3) ∧ Four b off w w' := by
  obtain ⟨x0, x1, x2, x3, h⟩ := h
  obtain ⟨wd, c0, c1, c2, c3, fz⟩ := h
  have i0 := idx4_0
  have i1 := idx4_1
  have i2 := idx4_2
  have i3 := idx4_3
  have HI : Hid (Wd _ _ _ _ _) := wd.inv
  obtain ⟨z0, hz0⟩ : ∃ z, z = 18446744073709551615 ^^^ x0 := ⟨_, rfl⟩
  obtain ⟨z1, hz1⟩ : ∃ z, z = 18446744073709551615 ^^^ x1 := ⟨_, rfl⟩
  obtain ⟨z2, hz2⟩ : ∃ z, z = 18446744073709551615 ^^^ x2 := ⟨_, rfl⟩
  obtain ⟨z3, hz3⟩ : ∃ z, z = 18446744073709551615 ^^^ x3 := ⟨_, rfl⟩
  rw [← hz0, ← hz1, ← hz2, ← hz3] at HI
  have e0 : bits BinOp.xor IntKind.u64 (if IntKind.u64.signed = true then -1 else IntKind.u64.max) (x0 : Int) = z0 := by rw [hz0]; exact inv_u64 _ wd.l0
  have e1 : bits BinOp.xor IntKind.u64 (if IntKind.u64.signed = true then -1 else IntKind.u64.max) (x1 : Int) = z1 := by rw [hz1]; exact inv_u64 _ wd.l1
  have e2 : bits BinOp.xor IntKind.u64 (if IntKind.u64.signed = true then -1 else IntKind.u64.max) (x2 : Int) = z2 := by rw [hz2]; exact inv_u64 _ wd.l2
  have e3 : bits BinOp.xor IntKind.u64 (if IntKind.u64.signed = true then -1 else IntKind.u64.max) (x3 : Int) = z3 := by rw [hz3]; exact inv_u64 _ wd.l3
  clear hz0 hz1 hz2 hz3 wd
  go_enter Tryd.func59, Tryd.ntmps59
  go_wp2
  go_loopw [8] (fun i wr => ∃ k : Nat, k ≤ 4 ∧ i = .int .i64 k ∧ Mid wr b off k x0 x1 x2 x3 z0 z1 z2 z3 ∧ Four b off w wr) (fun i _ => 4 - (intOf i).toNat)
  case atStart => exact ⟨0, by omega, rfl, ⟨by simpa using c0, by simpa using c1, by simpa using c2, by simpa using c3, fz⟩, Four.refl _ _ _⟩
  case round =>
    clear c0 c1 c2 c3 fz
    obtain ⟨k, hk, rfl, hm, hf⟩ := hrel
    have HM : Hid (Mid wr b off k x0 x1 x2 x3 z0 z1 z2 z3) := hm
    match k, hk with
    | 0, _ =>
      obtain ⟨c0, c1, c2, c3, fz⟩ := hm
      simp at c0 c1 c2 c3
      go_wp2
      go_roundw
      case rel => exact ⟨1, by omega, by go_num, HM.out.put0, (hf.setCell _ (by omega) _)⟩
      case measure => simp [intOf]
    | 1, _ =>
      obtain ⟨c0, c1, c2, c3, fz⟩ := hm
      simp at c0 c1 c2 c3
      go_wp2
      go_roundw
      case rel => exact ⟨2, by omega, by go_num, HM.out.put1, (hf.setCell _ (by omega) _)⟩
      case measure => simp [intOf]
    | 2, _ =>
      obtain ⟨c0, c1, c2, c3, fz⟩ := hm
      simp at c0 c1 c2 c3
      go_wp2
      go_roundw
      case rel => exact ⟨3, by omega, by go_num, HM.out.put2, (hf.setCell _ (by omega) _)⟩
      case measure => simp [intOf]
    | 3, _ =>
      obtain ⟨c0, c1, c2, c3, fz⟩ := hm
      simp at c0 c1 c2 c3
      go_wp2
      go_roundw
      case rel => exact ⟨4, by omega, by go_num, HM.out.put3, (hf.setCell _ (by omega) _)⟩
      case measure => simp [intOf]
    | 4, _ =>
      clear hm
      go_wp2
      go_end0
      obtain ⟨c0, c1, c2, c3, fz⟩ := HM.out
      simp at c0 c1 c2 c3
      exact ⟨rfl, ⟨_, _, _, _, ⟨HI.out, c0, c1, c2, c3, fz⟩⟩, hf⟩

theorem and_u64 (x m : Nat) (hx : x < 18446744073709551616) : (bits BinOp.and IntKind.u64 ((x : Int) / 2 ^ m) 1 == 1) = x.testBit m := by
  have e : ((x : Int) / 2 ^ m) = ((x / 2 ^ m : Nat) : Int) := by rw [Int.natCast_ediv, Int.natCast_pow]; rfl
  have e1 : (1 : Int) = ((1 : Nat) : Int) := rfl
  have hd : x / 2 ^ m < 18446744073709551616 := Nat.lt_of_le_of_lt (Nat.div_le_self _ _) hx
  rw [e, e1, bits_and_u64_nat _ 1 hd (by omega), Nat.testBit_eq_decide_div_mod_eq, Nat.and_one_is_mod]
  rw [Bool.eq_iff_iff]; simp
  omega

set_option maxHeartbeats 1000000 in
theorem has_any (w : World) (x0 x1 x2 x3 n : Nat) (S : Nat → Bool) (hn : n < 256) (h : Wd x0 x1 x2 x3 S) :
    Calls Tryd.prog 48 #[.agg #[.int .u64 x0, .int .u64 x1, .int .u64 x2, .int .u64 x3], .int .u8 n] w fun e w' => e = .returned (.bool (S n)) ∧ Below w.heap.size w w' := by
  have hq : n < 64 ∨ (64 ≤ n ∧ n < 128) ∨ (128 ≤ n ∧ n < 192) ∨ 192 ≤ n := by omega
  rcases hq with hq | hq | hq | hq
  · obtain ⟨m, hm0⟩ : ∃ m, n = m := ⟨n - 0, by omega⟩
    have hd : (n : Int) / 64 = 0 := by omega
    have hm : (n : Int) % 64 = (m : Int) := by omega
    have hlt : m < 64 := by omega
    have HS : Hid ((bits BinOp.and IntKind.u64 ((x0 : Int) / 2 ^ m) 1 == 1) = S n) := by
      show _ = _
      rw [and_u64 x0 m h.l0, h.b0 m hlt, hm0]
    clear hm0 h
    go_enter Tryd.func48, Tryd.ntmps48
    go_wp2
    go_ret
    exact ⟨ret_bool HS.out, (Below.refl _ _).alloc (Nat.le_refl _) _⟩
  · obtain ⟨m, hm0⟩ : ∃ m, n = 64 + m := ⟨n - 64, by omega⟩
    have hd : (n : Int) / 64 = 1 := by omega
    have hm : (n : Int) % 64 = (m : Int) := by omega
    have hlt : m < 64 := by omega
    have HS : Hid ((bits BinOp.and IntKind.u64 ((x1 : Int) / 2 ^ m) 1 == 1) = S n) := by
      show _ = _
      rw [and_u64 x1 m h.l1, h.b1 m hlt, hm0]
    clear hm0 h
    go_enter Tryd.func48, Tryd.ntmps48
    go_wp2
    go_ret
    exact ⟨ret_bool HS.out, (Below.refl _ _).alloc (Nat.le_refl _) _⟩
  · obtain ⟨m, hm0⟩ : ∃ m, n = 128 + m := ⟨n - 128, by omega⟩
    have hd : (n : Int) / 64 = 2 := by omega
    have hm : (n : Int) % 64 = (m : Int) := by omega
    have hlt : m < 64 := by omega
    have HS : Hid ((bits BinOp.and IntKind.u64 ((x2 : Int) / 2 ^ m) 1 == 1) = S n) := by
      show _ = _
      rw [and_u64 x2 m h.l2, h.b2 m hlt, hm0]
    clear hm0 h
    go_enter Tryd.func48, Tryd.ntmps48
    go_wp2
    go_ret
    exact ⟨ret_bool HS.out, (Below.refl _ _).alloc (Nat.le_refl _) _⟩
  · obtain ⟨m, hm0⟩ : ∃ m, n = 192 + m := ⟨n - 192, by omega⟩
    have hd : (n : Int) / 64 = 3 := by omega
    have hm : (n : Int) % 64 = (m : Int) := by omega
    have hlt : m < 64 := by omega
    have HS : Hid ((bits BinOp.and IntKind.u64 ((x3 : Int) / 2 ^ m) 1 == 1) = S n) := by
      show _ = _
      rw [and_u64 x3 m h.l3, h.b3 m hlt, hm0]
    clear hm0 h
    go_enter Tryd.func48, Tryd.ntmps48
    go_wp2
    go_ret
    exact ⟨ret_bool HS.out, (Below.refl _ _).alloc (Nat.le_refl _) _⟩
end Go.Proofs.YtbjabpodkaokjaaDoor
