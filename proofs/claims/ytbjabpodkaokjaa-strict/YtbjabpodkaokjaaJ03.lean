import Derived.Test.YtbjabpodkaokjaaProg
import Derived.WalkKit
import Derived.Below
import Derived.RowKit
import Derived.KernelRfl
import Derived.BigRegion
import Derived.BigQuiet
set_option linter.unusedVariables false
set_option linter.unusedSimpArgs false
namespace Go.Proofs.Ytbjabpodkaokjaa
open Go.RowKit
theorem ret_bool {a b : Bool} (h : a = b) : Ending.returned (.bool a) = .returned (.bool b) := by rw [h]
def inSpan (lo hi : Nat) (n : Nat) : Bool := decide (lo ≤ n) && decide (n ≤ hi)
def orS (A B : Nat → Bool) (n : Nat) : Bool := A n || B n

/-- Four words hold the set S of bytes. -/
structure Wd (x0 x1 x2 x3 : Nat) (S : Nat → Bool) : Prop where
  l0 : x0 < 18446744073709551616
  l1 : x1 < 18446744073709551616
  l2 : x2 < 18446744073709551616
  l3 : x3 < 18446744073709551616
  b0 : ∀ n, n < 64 → x0.testBit n = S n
  b1 : ∀ n, n < 64 → x1.testBit n = S (64 + n)
  b2 : ∀ n, n < 64 → x2.testBit n = S (128 + n)
  b3 : ∀ n, n < 64 → x3.testBit n = S (192 + n)

/-- The set S lies in block b from the cell off on. -/
structure SetAt (w : World) (b off : Nat) (S : Nat → Bool) (x0 x1 x2 x3 : Nat) : Prop where
  wd : Wd x0 x1 x2 x3 S
  c0 : w.cell? ⟨b, off, none⟩ = some (.int .u64 x0)
  c1 : w.cell? ⟨b, off + 1, none⟩ = some (.int .u64 x1)
  c2 : w.cell? ⟨b, off + 2, none⟩ = some (.int .u64 x2)
  c3 : w.cell? ⟨b, off + 3, none⟩ = some (.int .u64 x3)
  fz : ∀ o, w.frozen? ⟨b, o, none⟩ = false

/-- w' is w but for four cells of block b, new blocks and draws. -/
structure Four (b off : Nat) (w w' : World) : Prop where
  os : w'.os = w.os
  tape : w'.tape = w.tape
  output : w'.output = w.output
  size : w.heap.size ≤ w'.heap.size
  block : ∀ k, k < w.heap.size → k ≠ b → w'.heap[k]? = w.heap[k]?
  cell : ∀ o, (o < off ∨ off + 4 ≤ o) → w'.cell? ⟨b, o, none⟩ = w.cell? ⟨b, o, none⟩

theorem Four.refl (b off : Nat) (w : World) : Four b off w w := ⟨rfl, rfl, rfl, Nat.le_refl _, fun _ _ _ => rfl, fun _ _ => rfl⟩
theorem Four.trans {b off : Nat} {x y z : World} (h : Four b off x y) (g : Four b off y z) : Four b off x z :=
  ⟨g.os.trans h.os, g.tape.trans h.tape, g.output.trans h.output, Nat.le_trans h.size g.size, fun k hk hb => (g.block k (Nat.lt_of_lt_of_le hk h.size) hb).trans (h.block k hk hb), fun o ho => (g.cell o ho).trans (h.cell o ho)⟩
theorem Four.drew {b off : Nat} {x w : World} (h : Four b off x w) : Four b off x w.drew := ⟨h.os, h.tape, h.output, h.size, h.block, h.cell⟩
theorem Four.drewN {b off : Nat} {x w : World} (h : Four b off x w) (n : Nat) : Four b off x (w.drewN n) := ⟨h.os, h.tape, h.output, h.size, h.block, h.cell⟩
theorem Four.setCell {b off : Nat} {x w : World} (h : Four b off x w) (o : Nat) (ho : off ≤ o ∧ o < off + 4) (v : Value) : Four b off x (w.setCell ⟨b, o, none⟩ v) :=
  h.trans ⟨rfl, rfl, rfl, by simp [World.setCell], fun k _ hb => Below.heap_setCell _ _ _ _ hb, fun o' ho' => by
    have : o ≠ o' := by omega
    exact World.cell?_setCell_other _ _ _ _ (fun e => this (by injection e))⟩
theorem Four.alloc {b off : Nat} {x w : World} (h : Four b off x w) (hb : b < w.heap.size) (o : Obj) : Four b off x (w.alloc o) :=
  h.trans ⟨rfl, rfl, rfl, by simp, fun k hk _ => Below.heap_alloc _ _ _ hk, fun o' _ => by simp [World.cell?, Below.heap_alloc _ _ _ hb]⟩

theorem wrap_small (p : Nat) (h : p < 18446744073709551616) : IntKind.u64.wrap (p : Int) = (p : Int) := by
  rw [IntKind.wrap_u64]; omega
theorem or_u64 (x m : Nat) (hx : x < 18446744073709551616) (hm : m < 64) : bits BinOp.or IntKind.u64 (x : Int) (IntKind.u64.wrap (2 ^ m)) = ((x ||| 2 ^ m : Nat) : Int) := by
  have h2 : 2 ^ m < 18446744073709551616 := Nat.pow_lt_pow_right (a := 2) (by omega) (show m < 64 from hm)
  have e : ((2 : Int) ^ m) = ((2 ^ m : Nat) : Int) := (Int.natCast_pow 2 m).symm
  rw [e, wrap_small _ h2, bits_or_u64_nat x (2 ^ m) hx h2]
theorem or_lt (x m : Nat) (hx : x < 18446744073709551616) (hm : m < 64) : x ||| 2 ^ m < 18446744073709551616 :=
  Nat.or_lt_two_pow (n := 64) hx (Nat.pow_lt_pow_right (by omega) hm)

theorem Wd.add0 {x0 x1 x2 x3 : Nat} {S : Nat → Bool} (h : Wd x0 x1 x2 x3 S) (m : Nat) (hm : m < 64) : Wd (x0 ||| 2 ^ m) x1 x2 x3 (orS S (inSpan m m)) := by
  obtain ⟨l0, l1, l2, l3, b0, b1, b2, b3⟩ := h
  refine ⟨or_lt _ _ l0 hm, l1, l2, l3, fun n hn => ?_, fun n hn => ?_, fun n hn => ?_, fun n hn => ?_⟩
  · rw [Nat.testBit_or, b0 n hn, Nat.testBit_two_pow]
    simp only [orS, inSpan]
    congr 1
    rw [Bool.eq_iff_iff]; simp; omega
  all_goals
    first | rw [b1 n hn] | rw [b2 n hn] | rw [b3 n hn]
    simp only [orS, inSpan]
    rw [Bool.eq_iff_iff]; simp; omega
theorem Wd.add1 {x0 x1 x2 x3 : Nat} {S : Nat → Bool} (h : Wd x0 x1 x2 x3 S) (m : Nat) (hm : m < 64) : Wd x0 (x1 ||| 2 ^ m) x2 x3 (orS S (inSpan (64 + m) (64 + m))) := by
  obtain ⟨l0, l1, l2, l3, b0, b1, b2, b3⟩ := h
  refine ⟨l0, or_lt _ _ l1 hm, l2, l3, fun n hn => ?_, fun n hn => ?_, fun n hn => ?_, fun n hn => ?_⟩
  rotate_left
  · rw [Nat.testBit_or, b1 n hn, Nat.testBit_two_pow]
    simp only [orS, inSpan]
    congr 1
    rw [Bool.eq_iff_iff]; simp; omega
  all_goals
    first | rw [b0 n hn] | rw [b2 n hn] | rw [b3 n hn]
    simp only [orS, inSpan]
    rw [Bool.eq_iff_iff]; simp; omega
theorem Wd.add2 {x0 x1 x2 x3 : Nat} {S : Nat → Bool} (h : Wd x0 x1 x2 x3 S) (m : Nat) (hm : m < 64) : Wd x0 x1 (x2 ||| 2 ^ m) x3 (orS S (inSpan (128 + m) (128 + m))) := by
  obtain ⟨l0, l1, l2, l3, b0, b1, b2, b3⟩ := h
  refine ⟨l0, l1, or_lt _ _ l2 hm, l3, fun n hn => ?_, fun n hn => ?_, fun n hn => ?_, fun n hn => ?_⟩
  rotate_left 2
  · rw [Nat.testBit_or, b2 n hn, Nat.testBit_two_pow]
    simp only [orS, inSpan]
    congr 1
    rw [Bool.eq_iff_iff]; simp; omega
  all_goals
    first | rw [b0 n hn] | rw [b1 n hn] | rw [b3 n hn]
    simp only [orS, inSpan]
    rw [Bool.eq_iff_iff]; simp; omega
theorem Wd.add3 {x0 x1 x2 x3 : Nat} {S : Nat → Bool} (h : Wd x0 x1 x2 x3 S) (m : Nat) (hm : m < 64) : Wd x0 x1 x2 (x3 ||| 2 ^ m) (orS S (inSpan (192 + m) (192 + m))) := by
  obtain ⟨l0, l1, l2, l3, b0, b1, b2, b3⟩ := h
  refine ⟨l0, l1, l2, or_lt _ _ l3 hm, fun n hn => ?_, fun n hn => ?_, fun n hn => ?_, fun n hn => ?_⟩
  rotate_left 3
  · rw [Nat.testBit_or, b3 n hn, Nat.testBit_two_pow]
    simp only [orS, inSpan]
    congr 1
    rw [Bool.eq_iff_iff]; simp; omega
  all_goals
    first | rw [b0 n hn] | rw [b1 n hn] | rw [b2 n hn]
    simp only [orS, inSpan]
    rw [Bool.eq_iff_iff]; simp; omega

theorem SetAt.put0 {w : World} {b off : Nat} {S S' : Nat → Bool} {x0 x1 x2 x3 y : Nat} (h : SetAt w b off S x0 x1 x2 x3) (hw : Wd y x1 x2 x3 S') : SetAt (w.setCell ⟨b, off, none⟩ (.int .u64 y)).drew b off S' y x1 x2 x3 := by
  obtain ⟨wd, c0, c1, c2, c3, fz⟩ := h
  refine ⟨hw, ?_, ?_, ?_, ?_, fun o => ?_⟩ <;> simp [c0, c1, c2, c3, fz, go_sem]
theorem SetAt.put1 {w : World} {b off : Nat} {S S' : Nat → Bool} {x0 x1 x2 x3 y : Nat} (h : SetAt w b off S x0 x1 x2 x3) (hw : Wd x0 y x2 x3 S') : SetAt (w.setCell ⟨b, off + 1, none⟩ (.int .u64 y)).drew b off S' x0 y x2 x3 := by
  obtain ⟨wd, c0, c1, c2, c3, fz⟩ := h
  refine ⟨hw, ?_, ?_, ?_, ?_, fun o => ?_⟩ <;> simp [c0, c1, c2, c3, fz, go_sem]
theorem SetAt.put2 {w : World} {b off : Nat} {S S' : Nat → Bool} {x0 x1 x2 x3 y : Nat} (h : SetAt w b off S x0 x1 x2 x3) (hw : Wd x0 x1 y x3 S') : SetAt (w.setCell ⟨b, off + 2, none⟩ (.int .u64 y)).drew b off S' x0 x1 y x3 := by
  obtain ⟨wd, c0, c1, c2, c3, fz⟩ := h
  refine ⟨hw, ?_, ?_, ?_, ?_, fun o => ?_⟩ <;> simp [c0, c1, c2, c3, fz, go_sem]
theorem SetAt.put3 {w : World} {b off : Nat} {S S' : Nat → Bool} {x0 x1 x2 x3 y : Nat} (h : SetAt w b off S x0 x1 x2 x3) (hw : Wd x0 x1 x2 y S') : SetAt (w.setCell ⟨b, off + 3, none⟩ (.int .u64 y)).drew b off S' x0 x1 x2 y := by
  obtain ⟨wd, c0, c1, c2, c3, fz⟩ := h
  refine ⟨hw, ?_, ?_, ?_, ?_, fun o => ?_⟩ <;> simp [c0, c1, c2, c3, fz, go_sem]

set_option maxHeartbeats 1000000 in
theorem add_any (w : World) (b off n : Nat) (S : Nat → Bool) (x0 x1 x2 x3 : Nat) (hn : n < 256) (h : SetAt w b off S x0 x1 x2 x3) :
    Calls Try.prog 35 #[.pointer (some ⟨b, off, none⟩), .int .u8 n] w fun e w' => e = .returned (.tuple #[]) ∧ (∃ y0 y1 y2 y3, SetAt w' b off (orS S (inSpan n n)) y0 y1 y2 y3) ∧ Four b off w w' := by
  have h' := h
  obtain ⟨wd, c0, c1, c2, c3, fz⟩ := h
  have hq : n < 64 ∨ (64 ≤ n ∧ n < 128) ∨ (128 ≤ n ∧ n < 192) ∨ 192 ≤ n := by omega
  rcases hq with hq | hq | hq | hq
  · obtain ⟨m, hm0⟩ : ∃ m, n = m := ⟨n - 0, by omega⟩
    have hd : (n : Int) / 64 = 0 := by omega
    have hm : (n : Int) % 64 = (m : Int) := by omega
    have hlt : m < 64 := by omega
    have HW : Hid (bits BinOp.or IntKind.u64 (x0 : Int) (IntKind.u64.wrap (2 ^ m)) = ((x0 ||| 2 ^ m : Nat) : Int)) := or_u64 x0 m wd.l0 hlt
    have f0 := fz (off)
    have HM : Hid (n = m) := hm0
    clear hm0
    go_enter Try.func35, Try.ntmps35
    go_region
    go_end0
    rw [HW.out]
    have e2 : orS S (inSpan n n) = orS S (inSpan (m) (m)) := by rw [HM.out]
    rw [e2]
    exact ⟨rfl, ⟨_, _, _, _, h'.put0 (wd.add0 m hlt)⟩, ((Four.refl _ _ _).setCell _ (by omega) _).drew⟩
  · obtain ⟨m, hm0⟩ : ∃ m, n = 64 + m := ⟨n - 64, by omega⟩
    have hd : (n : Int) / 64 = 1 := by omega
    have hm : (n : Int) % 64 = (m : Int) := by omega
    have hlt : m < 64 := by omega
    have HW : Hid (bits BinOp.or IntKind.u64 (x1 : Int) (IntKind.u64.wrap (2 ^ m)) = ((x1 ||| 2 ^ m : Nat) : Int)) := or_u64 x1 m wd.l1 hlt
    have f0 := fz (off + 1)
    have HM : Hid (n = 64 + m) := hm0
    clear hm0
    go_enter Try.func35, Try.ntmps35
    go_region
    go_end0
    rw [HW.out]
    have e2 : orS S (inSpan n n) = orS S (inSpan (64 + m) (64 + m)) := by rw [HM.out]
    rw [e2]
    exact ⟨rfl, ⟨_, _, _, _, h'.put1 (wd.add1 m hlt)⟩, ((Four.refl _ _ _).setCell _ (by omega) _).drew⟩
  · obtain ⟨m, hm0⟩ : ∃ m, n = 128 + m := ⟨n - 128, by omega⟩
    have hd : (n : Int) / 64 = 2 := by omega
    have hm : (n : Int) % 64 = (m : Int) := by omega
    have hlt : m < 64 := by omega
    have HW : Hid (bits BinOp.or IntKind.u64 (x2 : Int) (IntKind.u64.wrap (2 ^ m)) = ((x2 ||| 2 ^ m : Nat) : Int)) := or_u64 x2 m wd.l2 hlt
    have f0 := fz (off + 2)
    have HM : Hid (n = 128 + m) := hm0
    clear hm0
    go_enter Try.func35, Try.ntmps35
    go_region
    go_end0
    rw [HW.out]
    have e2 : orS S (inSpan n n) = orS S (inSpan (128 + m) (128 + m)) := by rw [HM.out]
    rw [e2]
    exact ⟨rfl, ⟨_, _, _, _, h'.put2 (wd.add2 m hlt)⟩, ((Four.refl _ _ _).setCell _ (by omega) _).drew⟩
  · obtain ⟨m, hm0⟩ : ∃ m, n = 192 + m := ⟨n - 192, by omega⟩
    have hd : (n : Int) / 64 = 3 := by omega
    have hm : (n : Int) % 64 = (m : Int) := by omega
    have hlt : m < 64 := by omega
    have HW : Hid (bits BinOp.or IntKind.u64 (x3 : Int) (IntKind.u64.wrap (2 ^ m)) = ((x3 ||| 2 ^ m : Nat) : Int)) := or_u64 x3 m wd.l3 hlt
    have f0 := fz (off + 3)
    have HM : Hid (n = 192 + m) := hm0
    clear hm0
    go_enter Try.func35, Try.ntmps35
    go_region
    go_end0
    rw [HW.out]
    have e2 : orS S (inSpan n n) = orS S (inSpan (192 + m) (192 + m)) := by rw [HM.out]
    rw [e2]
    exact ⟨rfl, ⟨_, _, _, _, h'.put3 (wd.add3 m hlt)⟩, ((Four.refl _ _ _).setCell _ (by omega) _).drew⟩
theorem and_u64 (x m : Nat) (hx : x < 18446744073709551616) : (bits BinOp.and IntKind.u64 ((x : Int) / 2 ^ m) 1 == 1) = x.testBit m := by
  have e : ((x : Int) / 2 ^ m) = ((x / 2 ^ m : Nat) : Int) := by rw [Int.natCast_ediv, Int.natCast_pow]; rfl
  have e1 : (1 : Int) = ((1 : Nat) : Int) := rfl
  have hd : x / 2 ^ m < 18446744073709551616 := Nat.lt_of_le_of_lt (Nat.div_le_self _ _) hx
  rw [e, e1, bits_and_u64_nat _ 1 hd (by omega), Nat.testBit_eq_decide_div_mod_eq, Nat.and_one_is_mod]
  rw [Bool.eq_iff_iff]; simp
  omega

set_option maxHeartbeats 1000000 in
theorem has_any (w : World) (x0 x1 x2 x3 n : Nat) (S : Nat → Bool) (hn : n < 256) (h : Wd x0 x1 x2 x3 S) :
    Calls Try.prog 40 #[.agg #[.int .u64 x0, .int .u64 x1, .int .u64 x2, .int .u64 x3], .int .u8 n] w fun e w' => e = .returned (.bool (S n)) ∧ Below w.heap.size w w' := by
  have hq : n < 64 ∨ (64 ≤ n ∧ n < 128) ∨ (128 ≤ n ∧ n < 192) ∨ 192 ≤ n := by omega
  rcases hq with hq | hq | hq | hq
  · obtain ⟨m, hm0⟩ : ∃ m, n = m := ⟨n - 0, by omega⟩
    have hd : (n : Int) / 64 = 0 := by omega
    have hm : (n : Int) % 64 = (m : Int) := by omega
    have hlt : m < 64 := by omega
    have HS : Hid ((bits BinOp.and IntKind.u64 ((x0 : Int) / 2 ^ m) 1 == 1) = S n) := by
      show _ = _
      rw [and_u64 x0 m h.l0, h.b0 m hlt, hm0]
    clear hm0 h
    go_enter Try.func40, Try.ntmps40
    go_wp2
    go_ret
    exact ⟨ret_bool HS.out, (Below.refl _ _).alloc (Nat.le_refl _) _⟩
  · obtain ⟨m, hm0⟩ : ∃ m, n = 64 + m := ⟨n - 64, by omega⟩
    have hd : (n : Int) / 64 = 1 := by omega
    have hm : (n : Int) % 64 = (m : Int) := by omega
    have hlt : m < 64 := by omega
    have HS : Hid ((bits BinOp.and IntKind.u64 ((x1 : Int) / 2 ^ m) 1 == 1) = S n) := by
      show _ = _
      rw [and_u64 x1 m h.l1, h.b1 m hlt, hm0]
    clear hm0 h
    go_enter Try.func40, Try.ntmps40
    go_wp2
    go_ret
    exact ⟨ret_bool HS.out, (Below.refl _ _).alloc (Nat.le_refl _) _⟩
  · obtain ⟨m, hm0⟩ : ∃ m, n = 128 + m := ⟨n - 128, by omega⟩
    have hd : (n : Int) / 64 = 2 := by omega
    have hm : (n : Int) % 64 = (m : Int) := by omega
    have hlt : m < 64 := by omega
    have HS : Hid ((bits BinOp.and IntKind.u64 ((x2 : Int) / 2 ^ m) 1 == 1) = S n) := by
      show _ = _
      rw [and_u64 x2 m h.l2, h.b2 m hlt, hm0]
    clear hm0 h
    go_enter Try.func40, Try.ntmps40
    go_wp2
    go_ret
    exact ⟨ret_bool HS.out, (Below.refl _ _).alloc (Nat.le_refl _) _⟩
  · obtain ⟨m, hm0⟩ : ∃ m, n = 192 + m := ⟨n - 192, by omega⟩
    have hd : (n : Int) / 64 = 3 := by omega
    have hm : (n : Int) % 64 = (m : Int) := by omega
    have hlt : m < 64 := by omega
    have HS : Hid ((bits BinOp.and IntKind.u64 ((x3 : Int) / 2 ^ m) 1 == 1) = S n) := by
      show _ = _
      rw [and_u64 x3 m h.l3, h.b3 m hlt, hm0]
    clear hm0 h
    go_enter Try.func40, Try.ntmps40
    go_wp2
    go_ret
    exact ⟨ret_bool HS.out, (Below.refl _ _).alloc (Nat.le_refl _) _⟩
end Go.Proofs.Ytbjabpodkaokjaa
