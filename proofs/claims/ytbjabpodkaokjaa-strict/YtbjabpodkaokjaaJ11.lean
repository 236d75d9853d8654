import Derived.Test.YtbjabpodkaokjaaJ10
import Derived.Lib.BufferRead
import Derived.Deep.RegionHeld3
set_option linter.unusedVariables false
set_option linter.unusedSimpArgs false
namespace Go.Proofs.Ytbjabpodkaokjaa
open Go.RowKit

/-- A table that can be written. -/
structure Wok (t : Tb) : Prop where
  a2 : t.acc.length ≤ 200
  n1 : 1 ≤ t.next.length
  n2 : t.next.length ≤ 200
  st : okZ t.start
  r : ∀ r ∈ t.next, r.length ≤ 256 ∧ ∀ z ∈ r, okZ z
  cl : t.cls.length ≤ 256
theorem box6 {w : World} {b : Nat} {x0 x1 x2 x3 x4 x5 : Value} {T : TypeId} (h : w.heap[b]? = some (.cells #[x0, x1, x2, x3, x4, x5] T)) : w.cell? ⟨b, 0, none⟩ = some x0 ∧ w.cell? ⟨b, 1, none⟩ = some x1 ∧ w.cell? ⟨b, 2, none⟩ = some x2 ∧ w.cell? ⟨b, 3, none⟩ = some x3 ∧ w.cell? ⟨b, 4, none⟩ = some x4 ∧ w.cell? ⟨b, 5, none⟩ = some x5 := by
  refine ⟨?_, ?_, ?_, ?_, ?_, ?_⟩ <;> simp [World.cell?, h]
theorem und_str : Try.prog.underlying 9 = some .string := by kernel_rfl
theorem und_byte : Try.prog.underlying 5 = some (.int .u8) := by kernel_rfl
theorem conv_bf {w : World} {base : Nat} {v : Value} {bs : List UInt8} (h : Bf w base v bs) : (convert 46 9 v).run Try.prog w = .ok (.string (ba bs)) w := by
  obtain ⟨hl, hr⟩ := h
  rcases hr with ⟨rfl, hn⟩ | ⟨k, cap, cur, rfl, h1, hh, h2⟩
  · have : bs = [] := List.length_eq_zero_iff.1 (by simpa using hn)
    subst this
    exact Lib.run_convert_nil_bytes w _ _ _ 0 Try.underlying46 und_byte und_str
  · refine run_convert_bytes_back w _ _ _ _ cap bs Try.underlying46 und_byte und_str ?_
    refine Lib.bytes_of_row hh ?_
    have := h2.2.2.2
    rw [Nat.mul_one] at this
    rw [this]
    simp [Lib.byteCells]
theorem bf_row {w : World} {base : Nat} {v : Value} {bs : List UInt8} (h : Bf w base v bs) : RowE eU w v bs := by
  rcases h.2 with ⟨rfl, hn⟩ | ⟨k, cap, cur, rfl, _⟩
  · exact .inl ⟨List.length_eq_zero_iff.1 (by simpa using hn), _, _, rfl⟩
  · refine .inr ⟨k, 0, cap, rfl, fun j hj => ?_⟩
    rw [Nat.zero_add, h.cellAt j (by omega)]
    simp [hj]
theorem Wr.new (w : World) (big : Bool) : Wr (w.alloc (.cells #[.bool big, .slice none 0 0] 88)) w.heap.size big (.slice none 0 0) [] :=
  ⟨by simp [go_sem], by simp [go_sem], fun o => by simp [go_sem], World.ownsRow_nil _ _ _ _⟩
theorem text_o (w : World) (g : Nat) (big : Bool) (bs cs : List UInt8) (s : ByteArray) (hs : s = ba cs) (h : ∃ v, Wr w g big v bs) (hl : bs.length + cs.length ≤ 1000000) (hp : 0 < bs.length + cs.length) :
    Calls Try.prog 42 #[.pointer (some ⟨g, 0, none⟩), .string s] w fun e w' => e = .returned (.tuple #[]) ∧ WrOut g big w (bs ++ cs) w' := by
  subst hs
  obtain ⟨v, h⟩ := h
  exact text_w w g big v bs cs h hl hp
theorem small_o (w : World) (g : Nat) (big : Bool) (bs : List UInt8) (c : UInt8) (z : Int) (hz : z = (c.toNat : Int)) (h : ∃ v, Wr w g big v bs) (hl : bs.length ≤ 1000000) :
    Calls Try.prog 43 #[.pointer (some ⟨g, 0, none⟩), .int .u8 z] w fun e w' => e = .returned (.tuple #[]) ∧ WrOut g big w (bs ++ [c]) w' := by
  subst hz
  obtain ⟨v, h⟩ := h
  exact small_w w g big v bs c h hl
def h1 (t : Tb) (kind : Nat) (big : Bool) : List UInt8 := mk5 ++ [UInt8.ofNat kind] ++ [UInt8.ofNat (bt t.front + 2 * bt t.back)] ++ [wrA big]
theorem hd_eq (t : Tb) (kind : Nat) (big : Bool) : hd t kind big = h1 t kind big ++ pr big t.acc.length ++ pr big (t.next.headD []).length ++ pr big t.start.toNat ++ t.cls := rfl
theorem rowsW_len (kind : Nat) (big : Bool) : ∀ l : List (List Int), (∀ r ∈ l, r.length ≤ 256) → (l.flatMap (wrRow kind big)).length ≤ 1026 * l.length
  | [], _ => by simp
  | r :: t, h => by
    have h1 := wrRow_len kind big r (h r (by simp))
    have h2 := rowsW_len kind big t (fun x hx => h x (by simp [hx]))
    simp only [List.flatMap_cons, List.length_append, List.length_cons]
    omega
theorem hd_len (t : Tb) (kind : Nat) (big : Bool) (h : t.cls.length ≤ 256) : (hd t kind big).length ≤ 270 := by
  rw [hd_eq]; simp [h1, mk5, pr_len]; omega
end Go.Proofs.Ytbjabpodkaokjaa
