import Derived.Test.YtbjabpodkaokjaaGreatDoorProg
import Derived.WalkKit
import Derived.Below
import Derived.RowKit
import Derived.KernelRfl
import Derived.BigRegion
import Derived.BigQuiet
import Derived.Test.YtbjabpodkaokjaaGreatDoorJ01
import Derived.Test.YtbjabpodkaokjaaGreatDoorJ02
import Derived.Maps.Own
set_option linter.unusedVariables false
set_option linter.unusedSimpArgs false
namespace Go.Proofs.YtbjabpodkaokjaaGreatDoor
open Go.RowKit
theorem ret_bool {a b : Bool} (h : a = b) : Ending.returned (.bool a) = .returned (.bool b) := by rw [h]
def inSpan (lo hi : Nat) (n : Nat) : Bool := decide (lo ≤ n) && decide (n ≤ hi)
def orS (A B : Nat → Bool) (n : Nat) : Bool := A n || B n

/-- Four words hold the set S of bytes. -/
structure Wd (x0 x1 x2 x3 : Nat) (S : Nat → Bool) : Prop where
  l0 : x0 < 18446744073709551616
  l1 : x1 < 18446744073709551616
  l2 : x2 < 18446744073709551616
  l3 : x3 < 18446744073709551616
  b0 : ∀ n, n < 64 → x0.testBit n = S n
  b1 : ∀ n, n < 64 → x1.testBit n = S (64 + n)
  b2 : ∀ n, n < 64 → x2.testBit n = S (128 + n)
  b3 : ∀ n, n < 64 → x3.testBit n = S (192 + n)

/-- The set S lies in block b from the cell off on. -/
structure SetAt (w : World) (b off : Nat) (S : Nat → Bool) (x0 x1 x2 x3 : Nat) : Prop where
  wd : Wd x0 x1 x2 x3 S
  c0 : w.cell? ⟨b, off, none⟩ = some (.int .u64 x0)
  c1 : w.cell? ⟨b, off + 1, none⟩ = some (.int .u64 x1)
  c2 : w.cell? ⟨b, off + 2, none⟩ = some (.int .u64 x2)
  c3 : w.cell? ⟨b, off + 3, none⟩ = some (.int .u64 x3)
  fz : ∀ o, w.frozen? ⟨b, o, none⟩ = false

/-- w' is w but for four cells of block b, new blocks and draws. -/
structure Four (b off : Nat) (w w' : World) : Prop where
  os : w'.os = w.os
  tape : w'.tape = w.tape
  output : w'.output = w.output
  size : w.heap.size ≤ w'.heap.size
  block : ∀ k, k < w.heap.size → k ≠ b → w'.heap[k]? = w.heap[k]?
  cell : ∀ o, (o < off ∨ off + 4 ≤ o) → w'.cell? ⟨b, o, none⟩ = w.cell? ⟨b, o, none⟩

theorem Four.refl (b off : Nat) (w : World) : Four b off w w := ⟨rfl, rfl, rfl, Nat.le_refl _, fun _ _ _ => rfl, fun _ _ => rfl⟩
theorem Four.trans {b off : Nat} {x y z : World} (h : Four b off x y) (g : Four b off y z) : Four b off x z :=
  ⟨g.os.trans h.os, g.tape.trans h.tape, g.output.trans h.output, Nat.le_trans h.size g.size, fun k hk hb => (g.block k (Nat.lt_of_lt_of_le hk h.size) hb).trans (h.block k hk hb), fun o ho => (g.cell o ho).trans (h.cell o ho)⟩
theorem Four.drew {b off : Nat} {x w : World} (h : Four b off x w) : Four b off x w.drew := ⟨h.os, h.tape, h.output, h.size, h.block, h.cell⟩
theorem Four.drewN {b off : Nat} {x w : World} (h : Four b off x w) (n : Nat) : Four b off x (w.drewN n) := ⟨h.os, h.tape, h.output, h.size, h.block, h.cell⟩
theorem Four.setCell {b off : Nat} {x w : World} (h : Four b off x w) (o : Nat) (ho : off ≤ o ∧ o < off + 4) (v : Value) : Four b off x (w.setCell ⟨b, o, none⟩ v) :=
  h.trans ⟨rfl, rfl, rfl, by simp [World.setCell], fun k _ hb => Below.heap_setCell _ _ _ _ hb, fun o' ho' => by
    have : o ≠ o' := by omega
    exact World.cell?_setCell_other _ _ _ _ (fun e => this (by injection e))⟩
theorem Four.alloc {b off : Nat} {x w : World} (h : Four b off x w) (hb : b < w.heap.size) (o : Obj) : Four b off x (w.alloc o) :=
  h.trans ⟨rfl, rfl, rfl, by simp, fun k hk _ => Below.heap_alloc _ _ _ hk, fun o' _ => by simp [World.cell?, Below.heap_alloc _ _ _ hb]⟩

theorem wrap_small (p : Nat) (h : p < 18446744073709551616) : IntKind.u64.wrap (p : Int) = (p : Int) := by
  rw [IntKind.wrap_u64]; omega
theorem or_u64 (x m : Nat) (hx : x < 18446744073709551616) (hm : m < 64) : bits BinOp.or IntKind.u64 (x : Int) (IntKind.u64.wrap (2 ^ m)) = ((x ||| 2 ^ m : Nat) : Int) := by
  have h2 : 2 ^ m < 18446744073709551616 := Nat.pow_lt_pow_right (a := 2) (by omega) (show m < 64 from hm)
  have e : ((2 : Int) ^ m) = ((2 ^ m : Nat) : Int) := (Int.natCast_pow 2 m).symm
  rw [e, wrap_small _ h2, bits_or_u64_nat x (2 ^ m) hx h2]
theorem or_lt (x m : Nat) (hx : x < 18446744073709551616) (hm : m < 64) : x ||| 2 ^ m < 18446744073709551616 :=
  Nat.or_lt_two_pow (n := 64) hx (Nat.pow_lt_pow_right (by omega) hm)

theorem Wd.add0 {x0 x1 x2 x3 : Nat} {S : Nat → Bool} (h : Wd x0 x1 x2 x3 S) (m : Nat) (hm : m < 64) : Wd (x0 ||| 2 ^ m) x1 x2 x3 (orS S (inSpan m m)) := by
  obtain ⟨l0, l1, l2, l3, b0, b1, b2, b3⟩ := h
  refine ⟨or_lt _ _ l0 hm, l1, l2, l3, fun n hn => ?_, fun n hn => ?_, fun n hn => ?_, fun n hn => ?_⟩
  · rw [Nat.testBit_or, b0 n hn, Nat.testBit_two_pow]
    simp only [orS, inSpan]
    congr 1
    rw [Bool.eq_iff_iff]; simp; omega
  all_goals
    first | rw [b1 n hn] | rw [b2 n hn] | rw [b3 n hn]
    simp only [orS, inSpan]
    rw [Bool.eq_iff_iff]; simp; omega
theorem Wd.add1 {x0 x1 x2 x3 : Nat} {S : Nat → Bool} (h : Wd x0 x1 x2 x3 S) (m : Nat) (hm : m < 64) : Wd x0 (x1 ||| 2 ^ m) x2 x3 (orS S (inSpan (64 + m) (64 + m))) := by
  obtain ⟨l0, l1, l2, l3, b0, b1, b2, b3⟩ := h
  refine ⟨l0, or_lt _ _ l1 hm, l2, l3, fun n hn => ?_, fun n hn => ?_, fun n hn => ?_, fun n hn => ?_⟩
  rotate_left
  · rw [Nat.testBit_or, b1 n hn, Nat.testBit_two_pow]
    simp only [orS, inSpan]
    congr 1
    rw [Bool.eq_iff_iff]; simp; omega
  all_goals
    first | rw [b0 n hn] | rw [b2 n hn] | rw [b3 n hn]
    simp only [orS, inSpan]
    rw [Bool.eq_iff_iff]; simp; omega
theorem Wd.add2 {x0 x1 x2 x3 : Nat} {S : Nat → Bool} (h : Wd x0 x1 x2 x3 S) (m : Nat) (hm : m < 64) : Wd x0 x1 (x2 ||| 2 ^ m) x3 (orS S (inSpan (128 + m) (128 + m))) := by
  obtain ⟨l0, l1, l2, l3, b0, b1, b2, b3⟩ := h
  refine ⟨l0, l1, or_lt _ _ l2 hm, l3, fun n hn => ?_, fun n hn => ?_, fun n hn => ?_, fun n hn => ?_⟩
  rotate_left 2
  · rw [Nat.testBit_or, b2 n hn, Nat.testBit_two_pow]
    simp only [orS, inSpan]
    congr 1
    rw [Bool.eq_iff_iff]; simp; omega
  all_goals
    first | rw [b0 n hn] | rw [b1 n hn] | rw [b3 n hn]
    simp only [orS, inSpan]
    rw [Bool.eq_iff_iff]; simp; omega
theorem Wd.add3 {x0 x1 x2 x3 : Nat} {S : Nat → Bool} (h : Wd x0 x1 x2 x3 S) (m : Nat) (hm : m < 64) : Wd x0 x1 x2 (x3 ||| 2 ^ m) (orS S (inSpan (192 + m) (192 + m))) := by
  obtain ⟨l0, l1, l2, l3, b0, b1, b2, b3⟩ := h
  refine ⟨l0, l1, l2, or_lt _ _ l3 hm, fun n hn => ?_, fun n hn => ?_, fun n hn => ?_, fun n hn => ?_⟩
  rotate_left 3
  · rw [Nat.testBit_or, b3 n hn, Nat.testBit_two_pow]
    simp only [orS, inSpan]
    congr 1
    rw [Bool.eq_iff_iff]; simp; omega
  all_goals
    first | rw [b0 n hn] | rw [b1 n hn] | rw [b2 n hn]
    simp only [orS, inSpan]
    rw [Bool.eq_iff_iff]; simp; omega

theorem SetAt.put0 {w : World} {b off : Nat} {S S' : Nat → Bool} {x0 x1 x2 x3 y : Nat} (h : SetAt w b off S x0 x1 x2 x3) (hw : Wd y x1 x2 x3 S') : SetAt (w.setCell ⟨b, off, none⟩ (.int .u64 y)).drew b off S' y x1 x2 x3 := by
  obtain ⟨wd, c0, c1, c2, c3, fz⟩ := h
  refine ⟨hw, ?_, ?_, ?_, ?_, fun o => ?_⟩ <;> simp [c0, c1, c2, c3, fz, go_sem]
theorem SetAt.put1 {w : World} {b off : Nat} {S S' : Nat → Bool} {x0 x1 x2 x3 y : Nat} (h : SetAt w b off S x0 x1 x2 x3) (hw : Wd x0 y x2 x3 S') : SetAt (w.setCell ⟨b, off + 1, none⟩ (.int .u64 y)).drew b off S' x0 y x2 x3 := by
  obtain ⟨wd, c0, c1, c2, c3, fz⟩ := h
  refine ⟨hw, ?_, ?_, ?_, ?_, fun o => ?_⟩ <;> simp [c0, c1, c2, c3, fz, go_sem]
theorem SetAt.put2 {w : World} {b off : Nat} {S S' : Nat → Bool} {x0 x1 x2 x3 y : Nat} (h : SetAt w b off S x0 x1 x2 x3) (hw : Wd x0 x1 y x3 S') : SetAt (w.setCell ⟨b, off + 2, none⟩ (.int .u64 y)).drew b off S' x0 x1 y x3 := by
  obtain ⟨wd, c0, c1, c2, c3, fz⟩ := h
  refine ⟨hw, ?_, ?_, ?_, ?_, fun o => ?_⟩ <;> simp [c0, c1, c2, c3, fz, go_sem]
theorem SetAt.put3 {w : World} {b off : Nat} {S S' : Nat → Bool} {x0 x1 x2 x3 y : Nat} (h : SetAt w b off S x0 x1 x2 x3) (hw : Wd x0 x1 x2 y S') : SetAt (w.setCell ⟨b, off + 3, none⟩ (.int .u64 y)).drew b off S' x0 x1 x2 y := by
  obtain ⟨wd, c0, c1, c2, c3, fz⟩ := h
  refine ⟨hw, ?_, ?_, ?_, ?_, fun o => ?_⟩ <;> simp [c0, c1, c2, c3, fz, go_sem]

set_option maxHeartbeats 1000000 in
theorem add_any (w : World) (b off n : Nat) (S : Nat → Bool) (x0 x1 x2 x3 : Nat) (hn : n < 256) (h : SetAt w b off S x0 x1 x2 x3) :
    Calls Tryz.prog 78 #[.pointer (some ⟨b, off, none⟩), .int .u8 n] w fun e w' => e = .returned (.tuple #[]) ∧ (∃ y0 y1 y2 y3, SetAt w' b off (orS S (inSpan n n)) y0 y1 y2 y3) ∧ Four b off w w' := by
  have h' := h
  obtain ⟨wd, c0, c1, c2, c3, fz⟩ := h
  have hq : n < 64 ∨ (64 ≤ n ∧ n < 128) ∨ (128 ≤ n ∧ n < 192) ∨ 192 ≤ n := by omega
  rcases hq with hq | hq | hq | hq
  · obtain ⟨m, hm0⟩ : ∃ m, n = m := ⟨n - 0, by omega⟩
    have hd : (n : Int) / 64 = 0 := by omega
    have hm : (n : Int) % 64 = (m : Int) := by omega
    have hlt : m < 64 := by omega
    have HW : Hid (bits BinOp.or IntKind.u64 (x0 : Int) (IntKind.u64.wrap (2 ^ m)) = ((x0 ||| 2 ^ m : Nat) : Int)) := or_u64 x0 m wd.l0 hlt
    have f0 := fz (off)
    have HM : Hid (n = m) := hm0
    clear hm0
    go_enter Tryz.func78, Tryz.ntmps78
    go_region
    go_end0
    rw [HW.out]
    have e2 : orS S (inSpan n n) = orS S (inSpan (m) (m)) := by rw [HM.out]
    rw [e2]
    exact ⟨rfl, ⟨_, _, _, _, h'.put0 (wd.add0 m hlt)⟩, ((Four.refl _ _ _).setCell _ (by omega) _).drew⟩
  · obtain ⟨m, hm0⟩ : ∃ m, n = 64 + m := ⟨n - 64, by omega⟩
    have hd : (n : Int) / 64 = 1 := by omega
    have hm : (n : Int) % 64 = (m : Int) := by omega
    have hlt : m < 64 := by omega
    have HW : Hid (bits BinOp.or IntKind.u64 (x1 : Int) (IntKind.u64.wrap (2 ^ m)) = ((x1 ||| 2 ^ m : Nat) : Int)) := or_u64 x1 m wd.l1 hlt
    have f0 := fz (off + 1)
    have HM : Hid (n = 64 + m) := hm0
    clear hm0
    go_enter Tryz.func78, Tryz.ntmps78
    go_region
    go_end0
    rw [HW.out]
    have e2 : orS S (inSpan n n) = orS S (inSpan (64 + m) (64 + m)) := by rw [HM.out]
    rw [e2]
    exact ⟨rfl, ⟨_, _, _, _, h'.put1 (wd.add1 m hlt)⟩, ((Four.refl _ _ _).setCell _ (by omega) _).drew⟩
  · obtain ⟨m, hm0⟩ : ∃ m, n = 128 + m := ⟨n - 128, by omega⟩
    have hd : (n : Int) / 64 = 2 := by omega
    have hm : (n : Int) % 64 = (m : Int) := by omega
    have hlt : m < 64 := by omega
    have HW : Hid (bits BinOp.or IntKind.u64 (x2 : Int) (IntKind.u64.wrap (2 ^ m)) = ((x2 ||| 2 ^ m : Nat) : Int)) := or_u64 x2 m wd.l2 hlt
    have f0 := fz (off + 2)
    have HM : Hid (n = 128 + m) := hm0
    clear hm0
    go_enter Tryz.func78, Tryz.ntmps78
    go_region
    go_end0
    rw [HW.out]
    have e2 : orS S (inSpan n n) = orS S (inSpan (128 + m) (128 + m)) := by rw [HM.out]
    rw [e2]
    exact ⟨rfl, ⟨_, _, _, _, h'.put2 (wd.add2 m hlt)⟩, ((Four.refl _ _ _).setCell _ (by omega) _).drew⟩
  · obtain ⟨m, hm0⟩ : ∃ m, n = 192 + m := ⟨n - 192, by omega⟩
    have hd : (n : Int) / 64 = 3 := by omega
    have hm : (n : Int) % 64 = (m : Int) := by omega
    have hlt : m < 64 := by omega
    have HW : Hid (bits BinOp.or IntKind.u64 (x3 : Int) (IntKind.u64.wrap (2 ^ m)) = ((x3 ||| 2 ^ m : Nat) : Int)) := or_u64 x3 m wd.l3 hlt
    have f0 := fz (off + 3)
    have HM : Hid (n = 192 + m) := hm0
    clear hm0
    go_enter Tryz.func78, Tryz.ntmps78
    go_region
    go_end0
    rw [HW.out]
    have e2 : orS S (inSpan n n) = orS S (inSpan (192 + m) (192 + m)) := by rw [HM.out]
    rw [e2]
    exact ⟨rfl, ⟨_, _, _, _, h'.put3 (wd.add3 m hlt)⟩, ((Four.refl _ _ _).setCell _ (by omega) _).drew⟩
theorem and_u64 (x m : Nat) (hx : x < 18446744073709551616) : (bits BinOp.and IntKind.u64 ((x : Int) / 2 ^ m) 1 == 1) = x.testBit m := by
  have e : ((x : Int) / 2 ^ m) = ((x / 2 ^ m : Nat) : Int) := by rw [Int.natCast_ediv, Int.natCast_pow]; rfl
  have e1 : (1 : Int) = ((1 : Nat) : Int) := rfl
  have hd : x / 2 ^ m < 18446744073709551616 := Nat.lt_of_le_of_lt (Nat.div_le_self _ _) hx
  rw [e, e1, bits_and_u64_nat _ 1 hd (by omega), Nat.testBit_eq_decide_div_mod_eq, Nat.and_one_is_mod]
  rw [Bool.eq_iff_iff]; simp
  omega

set_option maxHeartbeats 1000000 in
theorem has_any (w : World) (x0 x1 x2 x3 n : Nat) (S : Nat → Bool) (hn : n < 256) (h : Wd x0 x1 x2 x3 S) :
    Calls Tryz.prog 95 #[.agg #[.int .u64 x0, .int .u64 x1, .int .u64 x2, .int .u64 x3], .int .u8 n] w fun e w' => e = .returned (.bool (S n)) ∧ Below w.heap.size w w' := by
  have hq : n < 64 ∨ (64 ≤ n ∧ n < 128) ∨ (128 ≤ n ∧ n < 192) ∨ 192 ≤ n := by omega
  rcases hq with hq | hq | hq | hq
  · obtain ⟨m, hm0⟩ : ∃ m, n = m := ⟨n - 0, by omega⟩
    have hd : (n : Int) / 64 = 0 := by omega
    have hm : (n : Int) % 64 = (m : Int) := by omega
    have hlt : m < 64 := by omega
    have HS : Hid ((bits BinOp.and IntKind.u64 ((x0 : Int) / 2 ^ m) 1 == 1) = S n) := by
      show _ = _
      rw [and_u64 x0 m h.l0, h.b0 m hlt, hm0]
    clear hm0 h
    go_enter Tryz.func95, Tryz.ntmps95
    go_wp2
    go_ret
    exact ⟨ret_bool HS.out, (Below.refl _ _).alloc (Nat.le_refl _) _⟩
  · obtain ⟨m, hm0⟩ : ∃ m, n = 64 + m := ⟨n - 64, by omega⟩
    have hd : (n : Int) / 64 = 1 := by omega
    have hm : (n : Int) % 64 = (m : Int) := by omega
    have hlt : m < 64 := by omega
    have HS : Hid ((bits BinOp.and IntKind.u64 ((x1 : Int) / 2 ^ m) 1 == 1) = S n) := by
      show _ = _
      rw [and_u64 x1 m h.l1, h.b1 m hlt, hm0]
    clear hm0 h
    go_enter Tryz.func95, Tryz.ntmps95
    go_wp2
    go_ret
    exact ⟨ret_bool HS.out, (Below.refl _ _).alloc (Nat.le_refl _) _⟩
  · obtain ⟨m, hm0⟩ : ∃ m, n = 128 + m := ⟨n - 128, by omega⟩
    have hd : (n : Int) / 64 = 2 := by omega
    have hm : (n : Int) % 64 = (m : Int) := by omega
    have hlt : m < 64 := by omega
    have HS : Hid ((bits BinOp.and IntKind.u64 ((x2 : Int) / 2 ^ m) 1 == 1) = S n) := by
      show _ = _
      rw [and_u64 x2 m h.l2, h.b2 m hlt, hm0]
    clear hm0 h
    go_enter Tryz.func95, Tryz.ntmps95
    go_wp2
    go_ret
    exact ⟨ret_bool HS.out, (Below.refl _ _).alloc (Nat.le_refl _) _⟩
  · obtain ⟨m, hm0⟩ : ∃ m, n = 192 + m := ⟨n - 192, by omega⟩
    have hd : (n : Int) / 64 = 3 := by omega
    have hm : (n : Int) % 64 = (m : Int) := by omega
    have hlt : m < 64 := by omega
    have HS : Hid ((bits BinOp.and IntKind.u64 ((x3 : Int) / 2 ^ m) 1 == 1) = S n) := by
      show _ = _
      rw [and_u64 x3 m h.l3, h.b3 m hlt, hm0]
    clear hm0 h
    go_enter Tryz.func95, Tryz.ntmps95
    go_wp2
    go_ret
    exact ⟨ret_bool HS.out, (Below.refl _ _).alloc (Nat.le_refl _) _⟩
end Go.Proofs.YtbjabpodkaokjaaGreatDoor

namespace Go.Proofs.YtbjabpodkaokjaaGreatDoor
open Go.RowKit

/-- A list in memory. -/
def RowE {α : Type} (enc : α → Value) (w : World) (v : Value) (l : List α) : Prop :=
  (l = [] ∧ ∃ a c, v = .slice a 0 c) ∨ ∃ b o c, v = .slice (some ⟨b, o, none⟩) l.length c ∧ ∀ j (hj : j < l.length), w.cell? ⟨b, o + j, none⟩ = some (enc l[j])
theorem RowE.form {α : Type} {enc : α → Value} {w : World} {v : Value} {l : List α} (h : RowE enc w v l) : ∃ a c, v = .slice a l.length c := by
  rcases h with ⟨rfl, a, c, rfl⟩ | ⟨b, o, c, rfl, _⟩
  · exact ⟨a, c, rfl⟩
  · exact ⟨_, c, rfl⟩
theorem RowE.nonnil {α : Type} {enc : α → Value} {w : World} {v : Value} {l : List α} (h : RowE enc w v l) (hl : 0 < l.length) : ∃ b o c, v = .slice (some ⟨b, o, none⟩) l.length c ∧ ∀ j (hj : j < l.length), w.cell? ⟨b, o + j, none⟩ = some (enc l[j]) := by
  rcases h with ⟨rfl, _⟩ | h
  · simp at hl
  · exact h
theorem cell_lt {w : World} {b o : Nat} {v : Value} (h : w.cell? ⟨b, o, none⟩ = some v) : b < w.heap.size := by
  rcases Nat.lt_or_ge b w.heap.size with q | q
  · exact q
  · simp [World.cell?, Array.getElem?_eq_none q] at h
theorem cell_below {w w' : World} {b o : Nat} {v : Value} (hb : Below w.heap.size w w') (h : w.cell? ⟨b, o, none⟩ = some v) : w'.cell? ⟨b, o, none⟩ = some v := by
  have e := hb.block b (cell_lt h)
  simp only [World.cell?] at h ⊢
  rw [e]; exact h
theorem RowE.below {α : Type} {enc : α → Value} {w w' : World} {v : Value} {l : List α} (h : RowE enc w v l) (hb : Below w.heap.size w w') : RowE enc w' v l := by
  rcases h with h | ⟨b, o, c, rfl, hc⟩
  · exact .inl h
  · exact .inr ⟨b, o, c, rfl, fun j hj => cell_below hb (hc j hj)⟩
/-- A list of lists in memory. -/
def RowsE {α : Type} (enc : α → Value) (w : World) (v : Value) (ls : List (List α)) : Prop :=
  ∃ us : List Value, us.length = ls.length ∧ RowE id w v us ∧ ∀ j (h1 : j < us.length) (h2 : j < ls.length), RowE enc w us[j] ls[j]
theorem RowsE.below {α : Type} {enc : α → Value} {w w' : World} {v : Value} {ls : List (List α)} (h : RowsE enc w v ls) (hb : Below w.heap.size w w') : RowsE enc w' v ls := by
  obtain ⟨us, h1, h2, h3⟩ := h
  exact ⟨us, h1, h2.below hb, fun j a b => (h3 j a b).below hb⟩
abbrev eI (z : Int) : Value := .int .i64 z
abbrev eB (b : Bool) : Value := .bool b
abbrev e8 (z : Int) : Value := .int .u8 z
abbrev ba (l : List UInt8) : ByteArray := ⟨l.toArray⟩
theorem ba_size (l : List UInt8) : (ba l).size = l.length := by simp [ByteArray.size]
theorem ba_list (l : List UInt8) : (ba l).data.toList = l := rfl
/-- A table as a value, and its lists in memory. -/
abbrev tv (t : Tb) (va vn : Value) : Value := .agg #[.bool t.front, .bool t.back, .int .i64 t.start, .string (ba t.cls), va, vn]
structure TabIn (w : World) (t : Tb) (va vn : Value) : Prop where
  acc : RowE eB w va t.acc
  next : RowsE eI w vn t.next
theorem TabIn.below {w w' : World} {t : Tb} {va vn : Value} (h : TabIn w t va vn) (hb : Below w.heap.size w w') : TabIn w' t va vn := ⟨h.acc.below hb, h.next.below hb⟩
/-- The numbers of a table that the machine can hold. -/
structure Small (t : Tb) : Prop where
  a : t.acc.length ≤ maxLen
  n : t.next.length ≤ maxLen
  r : ∀ r ∈ t.next, r.length ≤ maxLen
  c : t.cls.length ≤ maxLen

def rowOk (c : Nat) (n : Nat) (r : List Int) : Bool := r.length == c && r.all fun z => isSt z n
def isTb (t : Tb) : Bool :=
  decide (1 ≤ t.acc.length) && (decide (t.acc.length ≤ 200) && (decide (t.next.length = t.acc.length) && (isSt t.start t.acc.length && match cntR (ba t.cls) with
    | none => false
    | some c => t.next.all (rowOk c t.acc.length))))

set_option maxRecDepth 4000 in
set_option maxHeartbeats 1000000 in
theorem isTable_any (w : World) (t : Tb) (va vn : Value) (h : TabIn w t va vn) (hs : Small t) :
    Calls Tryz.prog 76 #[tv t va vn] w fun e w' => e = .returned (.bool (isTb t)) ∧ Below w.heap.size w w' := by
  obtain ⟨ha, hn⟩ := h
  obtain ⟨s1, s2, s3, s4⟩ := hs
  obtain ⟨a, ca, rfl⟩ := ha.form
  obtain ⟨us, hul, hu, hr⟩ := hn
  obtain ⟨f, b, st, cls, acc, next⟩ := t
  simp only at *
  obtain ⟨an, cn, rfl⟩ := hu.form
  obtain ⟨na, hna⟩ : ∃ na, na = acc.length := ⟨_, rfl⟩
  obtain ⟨nn, hnn⟩ : ∃ nn, nn = us.length := ⟨_, rfl⟩
  have HT : Hid (isTb ⟨f, b, st, cls, acc, next⟩ = (decide (1 ≤ na) && (decide (na ≤ 200) && (decide (nn = na) && (isSt st na && match cntR (ba cls) with | none => false | some c => next.all (rowOk c na)))))) := by
    show _ = _
    rw [hna, hnn, hul]; rfl
  rw [← hna] at s1 ⊢
  rw [← hnn] at hul hu ⊢
  have HB : Hid (Below w.heap.size w (w.alloc (.cells #[.bool f, .bool b, .int .i64 st, .string (ba cls), .slice a na ca, .slice an nn cn] 33))) := (Below.refl _ _).alloc (Nat.le_refl _) _
  have hU : Hid (RowE id (w.alloc (.cells #[.bool f, .bool b, .int .i64 st, .string (ba cls), .slice a na ca, .slice an nn cn] 33)) (.slice an nn cn) us) := hu.below HB.out
  have hRw : Hid (∀ j (h1 : j < us.length) (h2 : j < next.length), RowE eI (w.alloc (.cells #[.bool f, .bool b, .int .i64 st, .string (ba cls), .slice a na ca, .slice an nn cn] 33)) us[j] next[j]) := fun j h1 h2 => (hr j h1 h2).below HB.out
  unfold maxLen at s1 s2 s3 s4
  have HUL : Hid (nn = next.length) := hul
  have HNN : Hid (nn = us.length) := hnn
  rw [← hul] at s2
  clear hna ha hu hr hul hnn
  by_cases h1 : (na : Int) < 1
  · have HF : Hid (isTb ⟨f, b, st, cls, acc, next⟩ = false) := by
      show _ = _
      rw [HT.out, decide_eq_false (by omega)]; rfl
    clear HT
    go_enter Tryz.func76, Tryz.ntmps76
    go_wp2
    go_ret
    exact ⟨ret_bool HF.out.symm, HB.out⟩
  by_cases h2 : 200 < (na : Int)
  · have HF : Hid (isTb ⟨f, b, st, cls, acc, next⟩ = false) := by
      show _ = _
      rw [HT.out, decide_eq_false (p := na ≤ 200) (by omega)]; simp
    clear HT
    go_enter Tryz.func76, Tryz.ntmps76
    go_wp2
    go_ret
    exact ⟨ret_bool HF.out.symm, HB.out⟩
  by_cases h3 : (nn : Int) = na
  rotate_left
  · have HF : Hid (isTb ⟨f, b, st, cls, acc, next⟩ = false) := by
      show _ = _
      rw [HT.out, decide_eq_false (p := nn = na) (by omega)]; simp
    have h3' : ((nn : Int) != na) = true := by simpa using h3
    clear HT
    go_enter Tryz.func76, Tryz.ntmps76
    go_wp2
    go_ret
    exact ⟨ret_bool HF.out.symm, HB.out⟩
  have h3' : ((nn : Int) != na) = false := by simpa using h3
  cases h4 : isSt st na with
  | false =>
    have HF : Hid (isTb ⟨f, b, st, cls, acc, next⟩ = false) := by
      show _ = _
      rw [HT.out, h4]; simp
    clear HT
    have hst := isState_any st na
    rw [h4] at hst
    go_enter Tryz.func76, Tryz.ntmps76
    go_wp2_with (go_at_call 134; refine (hst _).mono ?_; rintro e w1 ⟨rfl, hw⟩; obtain rfl := hw.symm)
    go_ret
    exact ⟨ret_bool HF.out.symm, HB.out⟩
  | true =>
  have hst := isState_any st na
  rw [h4] at hst
  have hcc := countClasses_any (ba cls) (by rw [ba_size]; unfold maxLen; exact s4)
  cases h5 : cntR (ba cls) with
  | none =>
    have HF : Hid (isTb ⟨f, b, st, cls, acc, next⟩ = false) := by
      show _ = _
      rw [HT.out, h5]; simp
    rw [h5] at hcc
    clear HT
    go_enter Tryz.func76, Tryz.ntmps76
    go_wp2_with (first | (go_at_call 135; refine (hcc _).mono ?_; rintro e w2 ⟨rfl, hw2⟩; obtain rfl := hw2.symm) | (go_at_call 134; refine (hst _).mono ?_; rintro e w1 ⟨rfl, hw⟩; obtain rfl := hw.symm))
    go_ret
    exact ⟨ret_bool HF.out.symm, HB.out⟩
  | some c =>
  rw [h5] at hcc
  have HF : Hid (isTb ⟨f, b, st, cls, acc, next⟩ = next.all (rowOk c na)) := by
    show _ = _
    rw [HT.out, h5, h4, decide_eq_true (p := 1 ≤ na) (by omega), decide_eq_true (p := na ≤ 200) (by omega), decide_eq_true (p := nn = na) (by omega)]; simp
  have hc256 : c ≤ 256 := by
    unfold cntR at h5
    split at h5
    · have := cntC_le _ _ _ h5; omega
    · simp at h5
  clear HT h5
  simp only [Option.getD_some, Option.isSome_some] at hcc
  obtain ⟨wx, hwx⟩ : ∃ wx, wx = w.alloc (.cells #[.bool f, .bool b, .int .i64 st, .string (ba cls), .slice a na ca, .slice an nn cn] 33) := ⟨_, rfl⟩
  rw [← hwx] at HB hU hRw
  have HW : Hid (wx = w.alloc (.cells #[.bool f, .bool b, .int .i64 st, .string (ba cls), .slice a na ca, .slice an nn cn] 33)) := hwx
  obtain ⟨bn, on, cn', hvn, hcell⟩ := hU.out.nonnil (by have := HNN.out; omega)
  injection hvn with e1 e2 e3
  subst e1
  have HC : Hid (∀ j (hj : j < us.length), wx.cell? ⟨bn, on + j, none⟩ = some us[j]) := hcell
  clear hcell e2 e3 hU hwx
  go_enter Tryz.func76, Tryz.ntmps76
  go_wp2_with (first | (go_at_call 135; refine (hcc _).mono ?_; rintro e w2 ⟨rfl, hw2⟩; obtain rfl := hw2.symm) | (go_at_call 134; refine (hst _).mono ?_; rintro e w1 ⟨rfl, hw⟩; obtain rfl := hw.symm))
  rw [← HW.out]
  go_loop [42] (fun i => ∃ k : Nat, i = .int .i64 k ∧ k ≤ nn ∧ next.all (rowOk c na) = (next.drop k).all (rowOk c na)) (fun i => nn - (intOf i).toNat)
  case atStart => exact ⟨0, rfl, Nat.zero_le _, rfl⟩
  case round =>
    obtain ⟨k, rfl, hk, heq⟩ := hrel
    have HE : Hid (next.all (rowOk c na) = (next.drop k).all (rowOk c na)) := heq
    clear heq
    by_cases hlt : k < nn
    · have hlt1 : k < us.length := by have := HNN.out; omega
      have hlt2 : k < next.length := by have := HUL.out; omega
      have hltI : (k : Int) < nn := by omega
      have hck := HC.out k hlt1
      have hrk := hRw.out k hlt1 hlt2
      have hlen : next[k].length ≤ 9223372036854775807 := s3 _ (List.getElem_mem hlt2)
      obtain ⟨u, hu⟩ : ∃ u, u = us[k] := ⟨_, rfl⟩
      obtain ⟨r, hre⟩ : ∃ r, r = next[k] := ⟨_, rfl⟩
      rw [← hu] at hck hrk
      rw [← hre] at hrk hlen
      have HD : Hid (next.all (rowOk c na) = (rowOk c na r && (next.drop (k + 1)).all (rowOk c na))) := by
        show _ = _
        have := HE.out; rw [List.drop_eq_getElem_cons hlt2, ← hre] at this; simpa only [List.all_cons] using this
      have has := areStates_any u r na wx hrk (by unfold maxLen; exact hlen)
      obtain ⟨au, cu, hform⟩ := hrk.form
      subst hform
      clear hu hre hrk
      by_cases hc : (r.length : Int) = c
      · have hcb : ((r.length : Int) != c) = false := by simpa using hc
        cases hal : r.all fun z => isSt z na with
        | true =>
          rw [hal] at has
          have HQ : Hid (next.all (rowOk c na) = (next.drop (k + 1)).all (rowOk c na)) := by
            show _ = _
            rw [HD.out]; simp only [rowOk]; rw [hal]; simp; omega
          clear hal
          go_wp2_with (go_at_call 136; refine has.mono ?_; rintro e w3 ⟨rfl, hw3⟩; obtain rfl := hw3.symm)
          go_round
          case rel => exact ⟨k + 1, by go_num, by omega, HQ.out⟩
          case measure => simp [intOf] <;> omega
        | false =>
          rw [hal] at has
          have HQ : Hid (next.all (rowOk c na) = false) := by
            show _ = _
            rw [HD.out]; simp only [rowOk]; rw [hal]; simp
          clear hal
          go_wp2_with (go_at_call 136; refine has.mono ?_; rintro e w3 ⟨rfl, hw3⟩; obtain rfl := hw3.symm)
          go_ret
          exact ⟨ret_bool (by rw [HF.out, HQ.out]), HB.out⟩
      · have hcb : ((r.length : Int) != c) = true := by simpa using hc
        have HQ : Hid (next.all (rowOk c na) = false) := by
          show _ = _
          rw [HD.out]; simp only [rowOk]; rw [show (r.length == c) = false by simp; omega]; simp
        clear has
        go_wp2
        go_ret
        exact ⟨ret_bool (by rw [HF.out, HQ.out]), HB.out⟩
    · have hkI : ¬ (k : Int) < nn := by omega
      have HQ : Hid (next.all (rowOk c na) = true) := by
        show _ = _
        rw [HE.out, List.drop_of_length_le (by have := HUL.out; omega)]; rfl
      go_wp2
      go_ret
      exact ⟨ret_bool (by rw [HF.out, HQ.out]), HB.out⟩
end Go.Proofs.YtbjabpodkaokjaaGreatDoor

namespace Go.Proofs.YtbjabpodkaokjaaGreatDoor
open Go.RowKit
open Go.Maps (Keyed)
open Go.ChangeMaps (setBlock)

/-- The entries of a map that numbers the things of a list. -/
def numEs (vs : List Value) : Array MapEntry := (vs.zipIdx.map fun p => (⟨p.1, .int .i64 (p.2 : Int), p.2⟩ : MapEntry)).toArray
theorem numEs_get (vs : List Value) (j : Nat) : (numEs vs).toList[j]? = vs[j]?.map fun v => (⟨v, .int .i64 (j : Int), j⟩ : MapEntry) := by
  simp [numEs, List.getElem?_map, List.getElem?_zipIdx]
  cases vs[j]? <;> simp
theorem numEs_push (vs : List Value) (x : Value) : (numEs vs).push ⟨x, .int .i64 (vs.length : Int), vs.length⟩ = numEs (vs ++ [x]) := by
  apply Array.ext'
  simp [numEs, List.zipIdx_append]
theorem numEs_size (vs : List Value) : (numEs vs).size = vs.length := by simp [numEs]
theorem numEs_keys {vs : List Value} {e : MapEntry} (h : e ∈ (numEs vs).toList) : e.key ∈ vs := by
  obtain ⟨j, hj⟩ := List.mem_iff_getElem?.1 h
  rw [numEs_get] at hj
  obtain ⟨v, hv, rfl⟩ := Option.map_eq_some_iff.1 hj
  exact List.mem_of_getElem? hv

section
variable {P : Program} {k e t : TypeId} {w : World} {b : Nat} {vs : List Value} {x : Value}
theorem num_look (K : Keyed P k) (ht : P.underlying t = some (.map k e)) (hz : (zeroValue e).run P w = .ok (.int .i64 0) w) (hb : w.heap[b]? = some (.map (numEs vs) vs.length))
    (hk : ∀ v ∈ vs, ∃ l, keyOf P k v = some l) (hx : ∃ l, keyOf P k x = some l) :
    (x ∉ vs ∧ (Instr.lookup t (.map (some b)) x true).run P w = .ok (.tuple #[.int .i64 0, .bool false]) w) ∨
      ∃ j : Nat, vs[j]? = some x ∧ (Instr.lookup t (.map (some b)) x true).run P w = .ok (.tuple #[.int .i64 (j : Int), .bool true]) w := by
  obtain ⟨l, hl⟩ := hx
  rcases K.find w hl (numEs vs).toList (fun e he => hk _ (numEs_keys he)) with ⟨h1, h2⟩ | ⟨j, e0, h1, h2, h3⟩
  · refine .inl ⟨fun hm => ?_, by simp [Instr.lookup, run_underlying ht, MapKept.run_getObj_map hb, K.check w _ hl, h1, hz, Result.andThen]⟩
    obtain ⟨j, hj⟩ := List.mem_iff_getElem?.1 hm
    have := numEs_get vs j
    rw [hj] at this
    exact h2 _ (List.mem_of_getElem? this) rfl
  · rw [numEs_get] at h2
    obtain ⟨v, hv, rfl⟩ := Option.map_eq_some_iff.1 h2
    refine .inr ⟨j, by rw [hv]; exact congrArg some h3, by simp [Instr.lookup, run_underlying ht, MapKept.run_getObj_map hb, K.check w _ hl, h1, Result.andThen]⟩
theorem num_put (K : Keyed P k) (ht : P.underlying t = some (.map k e)) (hb : w.heap[b]? = some (.map (numEs vs) vs.length))
    (hk : ∀ v ∈ vs, ∃ l, keyOf P k v = some l) (hx : ∃ l, keyOf P k x = some l) (hn : x ∉ vs) :
    (Instr.mapUpdate t (.map (some b)) x (.int .i64 (vs.length : Int))).run P w = .ok () (setBlock w b (.map (numEs (vs ++ [x])) (vs ++ [x]).length)) := by
  obtain ⟨l, hl⟩ := hx
  rcases K.find w hl (numEs vs).toList (fun e he => hk _ (numEs_keys he)) with ⟨h1, h2⟩ | ⟨j, e0, h1, h2, h3⟩
  · simp [Instr.mapUpdate, run_underlying ht, MapKept.run_getObj_map hb, K.check w _ hl, h1, Result.andThen, numEs_push, setBlock, MapKept.run_setObj_map _ hb]
  · rw [numEs_get] at h2
    obtain ⟨v, hv, rfl⟩ := Option.map_eq_some_iff.1 h2
    exact absurd (h3 ▸ List.mem_of_getElem? hv) hn
theorem num_len (ty : TypeId) (ht : P.underlying t = some (.map k e)) (hb : w.heap[b]? = some (.map (numEs vs) vs.length)) : (Builtin.len_ #[t] ty #[.map (some b)]).run P w = .ok (.int .i64 (vs.length : Int)) w := by
  simp [Builtin.len_, run_underlying ht, MapKept.run_getObj_map hb, Result.andThen, numEs_size, goInt]
end
end Go.Proofs.YtbjabpodkaokjaaGreatDoor
