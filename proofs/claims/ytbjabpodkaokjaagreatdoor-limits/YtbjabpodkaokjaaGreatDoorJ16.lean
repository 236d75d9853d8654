import Derived.Test.YtbjabpodkaokjaaGreatDoorJ15
set_option linter.unusedVariables false
set_option linter.unusedSimpArgs false
namespace Go.Proofs.YtbjabpodkaokjaaGreatDoor.Sx
open Go.RowKit

theorem escB_eq (c : UInt8) : escB c.toNat = (escByte c).map fun n => (n : Int) := by
  have H : ((List.range 256).all fun n => (fun c : UInt8 => escB c.toNat == (escByte c).map fun n => (n : Int)) (UInt8.ofNat n)) = true := by kernel_rfl
  exact eq_of_beq (all256 (fun c : UInt8 => escB c.toNat == (escByte c).map fun n => (n : Int)) H c)
theorem escByte_lt (c : UInt8) : ((escByte c).getD 0) < 256 := by
  have H : ((List.range 256).all fun n => (fun c : UInt8 => decide ((escByte c).getD 0 < 256)) (UInt8.ofNat n)) = true := by kernel_rfl
  exact of_decide_eq_true (all256 (fun c : UInt8 => decide ((escByte c).getD 0 < 256)) H c)
theorem u8_le (c : UInt8) : (c.toNat : Int) ≤ 255 := by have := c.toNat_lt; omega
theorem escapedByte_c (c : UInt8) (w : World) (hT : Tabs w) :
    Calls Tryz.prog 238 #[.int .u8 c.toNat] w fun e w' => e = .returned (.tuple #[.int .u8 ((escByte c).getD 0 : Nat), .bool (escByte c).isSome]) ∧ Below w.heap.size w w' := by
  refine (escapedByte_any c.toNat w hT (by omega) (u8_le c)).mono ?_
  rintro e w' ⟨he, hb⟩
  refine ⟨?_, hb⟩
  rw [he, escB_eq]
  cases escByte c <;> rfl

set_option maxHeartbeats 400000 in
theorem byteEscape_n (w : World) (b : Nat) (s : ByteArray) (d x : Int) (least : Nat) (hl : least < 256) (h : St w b s [] d x) :
    Calls Tryz.prog 231 #[.pointer (some ⟨b, 0, none⟩), .int .u8 least] w fun e w' => e = .returned (.tuple #[.int .u8 0, .bool false]) ∧ StTo w w' b s [] d x := by
  go_enter Tryz.func231, Tryz.ntmps231
  go_wp2_with (first | (go_at_call 172; refine (peek_n _ b s d x h1.1).mono ?_; rintro e w2 ⟨rfl, h2⟩) | (go_at_call 121; refine (take_n _ b s d x h _).mono ?_; rintro e w1 ⟨rfl, h1⟩))
  go_ret2
  exact ⟨rfl, h1.trans h2⟩

set_option maxHeartbeats 400000 in
theorem byteEscape_x (w : World) (b : Nat) (s : ByteArray) (t : List UInt8) (d x : Int) (least : Nat) (hl : least < 256) (h : St w b s (120 :: t) d x) (Q : Nat → Prop) (ok : Bool) (r' : List UInt8)
    (h1 : ∀ w, St w b s t d x → Calls Tryz.prog 237 #[.pointer (some ⟨b, 0, none⟩), .int .u8 least] w fun e w' => ∃ v : Nat, Q v ∧ e = .returned (.tuple #[.int .u8 v, .bool ok]) ∧ StTo w w' b s r' d x) :
    Calls Tryz.prog 231 #[.pointer (some ⟨b, 0, none⟩), .int .u8 least] w fun e w' => ∃ v : Nat, Q v ∧ e = .returned (.tuple #[.int .u8 v, .bool ok]) ∧ StTo w w' b s r' d x := by
  go_enter Tryz.func231, Tryz.ntmps231
  go_wp2_with (first | (go_at_call 237; refine (h1 _ g1.1).mono ?_; rintro e w2 ⟨v, hv, rfl, g2⟩) | (go_at_call 121; refine (take_c _ b s 120 t d x h 120 rfl).mono ?_; rintro e w1 ⟨rfl, g1⟩))
  go_ret2
  exact ⟨_, hv, rfl, g1.trans g2⟩

abbrev EscC (c : UInt8) (v : Nat) (ok : Bool) : Prop :=
  ∀ w, Tabs w → Calls Tryz.prog 238 #[.int .u8 c.toNat] w fun e w' => e = .returned (.tuple #[.int .u8 v, .bool ok]) ∧ Below w.heap.size w w'

set_option maxHeartbeats 400000 in
theorem byteEscape_e1 (w : World) (b : Nat) (s : ByteArray) (c : UInt8) (t : List UInt8) (d x : Int) (least : Nat) (hl : least < 256) (h : St w b s (c :: t) d x) (hc : (c.toNat : Int) ≠ 120) (h3 : EscC c 0 false) :
    Calls Tryz.prog 231 #[.pointer (some ⟨b, 0, none⟩), .int .u8 least] w fun e w' => e = .returned (.tuple #[.int .u8 0, .bool false]) ∧ StTo w w' b s (c :: t) d x := by
  go_enter Tryz.func231, Tryz.ntmps231
  go_wp2_with (first | (go_at_call 238; refine (h3 _ h2.1.tb).mono ?_; rintro e w3 ⟨rfl, hb3⟩) | (go_at_call 172; refine (peek_c _ b s c t d x h1.1).mono ?_; rintro e w2 ⟨rfl, h2⟩) | (go_at_call 121; refine (take_x _ b s c t d x h _ (by simpa using hc)).mono ?_; rintro e w1 ⟨rfl, h1⟩))
  go_ret2
  exact ⟨rfl, h2.1.below hb3, (h1.trans h2).2.trans (Rd.of_below hb3)⟩

set_option maxHeartbeats 400000 in
theorem byteEscape_e2 (w : World) (b : Nat) (s : ByteArray) (c : UInt8) (t : List UInt8) (d x : Int) (least v : Nat) (hl : least < 256) (h : St w b s (c :: t) d x) (hc : (c.toNat : Int) ≠ 120) (h3 : EscC c v true) (hv : (v : Int) < least) :
    Calls Tryz.prog 231 #[.pointer (some ⟨b, 0, none⟩), .int .u8 least] w fun e w' => e = .returned (.tuple #[.int .u8 0, .bool false]) ∧ StTo w w' b s (c :: t) d x := by
  go_enter Tryz.func231, Tryz.ntmps231
  go_wp2_with (first | (go_at_call 238; refine (h3 _ h2.1.tb).mono ?_; rintro e w3 ⟨rfl, hb3⟩) | (go_at_call 172; refine (peek_c _ b s c t d x h1.1).mono ?_; rintro e w2 ⟨rfl, h2⟩) | (go_at_call 121; refine (take_x _ b s c t d x h _ (by simpa using hc)).mono ?_; rintro e w1 ⟨rfl, h1⟩))
  go_ret2
  exact ⟨rfl, h2.1.below hb3, (h1.trans h2).2.trans (Rd.of_below hb3)⟩

set_option maxHeartbeats 400000 in
theorem byteEscape_e3 (w : World) (b : Nat) (s : ByteArray) (c : UInt8) (t : List UInt8) (d x : Int) (least v : Nat) (hl : least < 256) (h : St w b s (c :: t) d x) (hc : (c.toNat : Int) ≠ 120) (h3 : EscC c v true) (hv : ¬ (v : Int) < least) :
    Calls Tryz.prog 231 #[.pointer (some ⟨b, 0, none⟩), .int .u8 least] w fun e w' => e = .returned (.tuple #[.int .u8 v, .bool true]) ∧ StTo w w' b s t d x := by
  go_enter Tryz.func231, Tryz.ntmps231
  go_wp2_with (first | (go_at_call 238; refine (h3 _ h2.1.tb).mono ?_; rintro e w3 ⟨rfl, hb3⟩; have h4 := h2.1.below hb3; obtain ⟨k, hk, k1, k2, kk⟩ := h4.open) | (go_at_call 172; refine (peek_c _ b s c t d x h1.1).mono ?_; rintro e w2 ⟨rfl, h2⟩) | (go_at_call 121; refine (take_x _ b s c t d x h _ (by simpa using hc)).mono ?_; rintro e w1 ⟨rfl, h1⟩))
  go_ret2
  exact ⟨rfl, kk _ ((h1.trans h2).2.trans (Rd.of_below hb3))⟩

theorem byteEscape_any (w : World) (b : Nat) (s : ByteArray) (r : List UInt8) (d x : Int) (least : Nat) (hl : least < 256) (h : St w b s r d x) :
    Calls Tryz.prog 231 #[.pointer (some ⟨b, 0, none⟩), .int .u8 least] w fun e w' => ByteRes w w' b s d x e (pByteEscape least r) := by
  match r with
  | [] => exact (byteEscape_n w b s d x least hl h).mono fun e w' g => ⟨0, g⟩
  | c :: t =>
    by_cases hc : c = 120
    · subst hc
      simp only [pByteEscape, if_true]
      cases hR : pHexByte least t with
      | bad r' =>
        refine (byteEscape_x w b s t d x least hl h (fun _ => True) false r' (fun w hw => (hexByte_any w b s t d x least hl hw).mono fun e w' g => ?_)).mono ?_
        · rw [hR] at g; obtain ⟨v, g⟩ := g; exact ⟨v, trivial, g⟩
        · rintro e w' ⟨v, -, g⟩; exact ⟨v, g⟩
      | ok v0 r' =>
        refine (byteEscape_x w b s t d x least hl h (fun v => v = v0 ∧ v0 < 256) true r' (fun w hw => (hexByte_any w b s t d x least hl hw).mono fun e w' g => ?_)).mono ?_
        · rw [hR] at g; exact ⟨v0, ⟨rfl, g.2.1⟩, g.1, g.2.2⟩
        · rintro e w' ⟨v, ⟨rfl, hv⟩, g⟩; exact ⟨g.1, hv, g.2⟩
    · have hc' : (c.toNat : Int) ≠ 120 := u8_int (b := 120) hc
      have h3 := fun w hw => escapedByte_c c w hw
      have hlt := escByte_lt c
      simp only [pByteEscape, hc, if_false]
      cases hE : escByte c with
      | none =>
        rw [hE] at h3
        exact (byteEscape_e1 w b s c t d x least hl h hc' h3).mono fun e w' g => ⟨0, g⟩
      | some v =>
        rw [hE] at h3 hlt
        simp only [Option.getD_some] at hlt
        by_cases hv : v < least
        · simp only [hv, if_true]
          exact (byteEscape_e2 w b s c t d x least v hl h hc' h3 (by omega)).mono fun e w' g => ⟨0, g⟩
        · simp only [hv, if_false]
          exact (byteEscape_e3 w b s c t d x least v hl h hc' h3 (by omega)).mono fun e w' g => ⟨g.1, hlt, g.2⟩
end Go.Proofs.YtbjabpodkaokjaaGreatDoor.Sx

namespace Go.Proofs.YtbjabpodkaokjaaGreatDoor.Sx
open Go.RowKit

set_option maxHeartbeats 400000 in
theorem itemByte_t0 (w : World) (b : Nat) (s : ByteArray) (r r' : List UInt8) (d x : Int) (least : Nat) (hl : least < 256) (h : St w b s r d x) (Q : Nat → Prop) (ok : Bool)
    (h1 : ∀ w, St w b s r d x → Calls Tryz.prog 231 #[.pointer (some ⟨b, 0, none⟩), .int .u8 least] w fun e w' => ∃ v : Nat, Q v ∧ e = .returned (.tuple #[.int .u8 v, .bool ok]) ∧ StTo w w' b s r' d x) :
    Calls Tryz.prog 234 #[.pointer (some ⟨b, 0, none⟩), .bool true, .int .u8 least] w fun e w' => ∃ v : Nat, Q v ∧ e = .returned (.tuple #[.int .u8 v, .bool ok]) ∧ StTo w w' b s r' d x := by
  go_enter Tryz.func234, Tryz.ntmps234
  go_wp2_with (go_at_call 231; refine (h1 _ h).mono ?_; rintro e w2 ⟨v, hv, rfl, g2⟩)
  go_ret2
  exact ⟨_, hv, rfl, g2⟩
/-- A reading's contract, in the form that hands the value's property on. -/
def qOf : Res Nat → Nat → Prop
  | .ok v _ => fun u => u = v ∧ v < 256
  | .bad _ => fun _ => True
theorem ByteRes.q {w w' : World} {b : Nat} {s : ByteArray} {d x : Int} {e : Ending} {R : Res Nat} (g : ByteRes w w' b s d x e R) : ∃ v : Nat, qOf R v ∧ e = .returned (.tuple #[.int .u8 v, .bool R.isOk]) ∧ StTo w w' b s R.rest d x := by
  cases R with
  | ok v r => exact ⟨v, ⟨rfl, g.2.1⟩, g.1, g.2.2⟩
  | bad r => obtain ⟨v, g⟩ := g; exact ⟨v, trivial, g⟩
theorem ByteRes.of_q {w w' : World} {b : Nat} {s : ByteArray} {d x : Int} {e : Ending} {R : Res Nat} (g : ∃ v : Nat, qOf R v ∧ e = .returned (.tuple #[.int .u8 v, .bool R.isOk]) ∧ StTo w w' b s R.rest d x) : ByteRes w w' b s d x e R := by
  cases R with
  | ok v r => obtain ⟨u, ⟨rfl, hu⟩, g⟩ := g; exact ⟨g.1, hu, g.2⟩
  | bad r => obtain ⟨v, -, g⟩ := g; exact ⟨v, g⟩
theorem itemByte_t (w : World) (b : Nat) (s : ByteArray) (r : List UInt8) (d x : Int) (least : Nat) (hl : least < 256) (h : St w b s r d x) :
    Calls Tryz.prog 234 #[.pointer (some ⟨b, 0, none⟩), .bool true, .int .u8 least] w fun e w' => ByteRes w w' b s d x e (pByteEscape least r) :=
  (itemByte_t0 w b s r _ d x least hl h _ _ (fun w hw => (byteEscape_any w b s r d x least hl hw).mono fun _ _ g => g.q)).mono fun _ _ g => ByteRes.of_q g

set_option maxHeartbeats 400000 in
theorem itemByte_f (w : World) (b : Nat) (s : ByteArray) (r : List UInt8) (d x : Int) (least : Nat) (hl : least < 256) (h : St w b s r d x) :
    Calls Tryz.prog 234 #[.pointer (some ⟨b, 0, none⟩), .bool false, .int .u8 least] w fun e w' => ByteRes w w' b s d x e (pPlainItem least r) := by
  match r with
  | [] =>
    go_enter Tryz.func234, Tryz.ntmps234
    go_wp2_with (go_at_call 172; refine (peek_n _ b s d x h).mono ?_; rintro e w2 ⟨rfl, h2⟩)
    go_ret2
    exact ⟨0, rfl, h2⟩
  | c :: t =>
    by_cases hlt : c.toNat < least
    · have hlt' : (c.toNat : Int) < least := by omega
      have HR : Hid (pPlainItem least (c :: t) = .bad (c :: t)) := by show _ = _; simp only [pPlainItem, hlt, if_true]
      go_enter Tryz.func234, Tryz.ntmps234
      go_wp2_with (go_at_call 172; refine (peek_c _ b s c t d x h).mono ?_; rintro e w2 ⟨rfl, h2⟩)
      go_ret2
      rw [HR.out]
      exact ⟨0, rfl, h2⟩
    · have hlt' : ¬ (c.toNat : Int) < least := by omega
      by_cases hs : c = 92 ∨ c = 91 ∨ c = 93 ∨ c = 94 ∨ c = 45
      · have HR : Hid (pPlainItem least (c :: t) = .bad (c :: t)) := by show _ = _; simp only [pPlainItem, hlt, hs, if_true, if_false]
        rcases hs with rfl | rfl | rfl | rfl | rfl
        all_goals
          simp at hlt'
          go_enter Tryz.func234, Tryz.ntmps234
          go_wp2_with (go_at_call 172; refine (peek_c _ b s _ t d x h).mono ?_; rintro e w2 ⟨rfl, h2⟩)
          go_ret2
          rw [HR.out]
          exact ⟨0, rfl, h2⟩
      · have HR : Hid (pPlainItem least (c :: t) = .ok c.toNat t) := by show _ = _; simp only [pPlainItem, hlt, hs, if_false]
        have n1 : ((c.toNat : Int) == 92) = false := by simpa using u8_int (b := 92) (fun e => hs (.inl e))
        have n2 : ((c.toNat : Int) == 91) = false := by simpa using u8_int (b := 91) (fun e => hs (.inr (.inl e)))
        have n3 : ((c.toNat : Int) == 93) = false := by simpa using u8_int (b := 93) (fun e => hs (.inr (.inr (.inl e))))
        have n4 : ((c.toNat : Int) == 94) = false := by simpa using u8_int (b := 94) (fun e => hs (.inr (.inr (.inr (.inl e)))))
        have n5 : ((c.toNat : Int) == 45) = false := by simpa using u8_int (b := 45) (fun e => hs (.inr (.inr (.inr (.inr e)))))
        clear hs
        go_enter Tryz.func234, Tryz.ntmps234
        go_wp2_with (go_at_call 172; refine (peek_c _ b s c t d x h).mono ?_; rintro e w2 ⟨rfl, h2, hr2⟩; obtain ⟨k, hk, k1, k2, kk⟩ := h2.open)
        go_ret2
        rw [HR.out]
        exact ⟨rfl, c.toNat_lt, kk _ hr2⟩
end Go.Proofs.YtbjabpodkaokjaaGreatDoor.Sx

namespace Go.Proofs.YtbjabpodkaokjaaGreatDoor.Sx
open Go.RowKit

abbrev setE : List (Nat × Nat × Nat) := [(100, 48, 57), (119, 48, 57), (119, 65, 90), (119, 95, 95), (119, 97, 122), (115, 9, 10), (115, 13, 13), (115, 32, 32)]
theorem se_index0 (w : World) : (Instr.index 361 (.agg SE) (.int .i64 0)).run Tryz.prog w = .ok (.agg #[.int .u8 100, .int .u8 48, .int .u8 57]) w := by kernel_rfl
theorem se_index1 (w : World) : (Instr.index 361 (.agg SE) (.int .i64 1)).run Tryz.prog w = .ok (.agg #[.int .u8 119, .int .u8 48, .int .u8 57]) w := by kernel_rfl
theorem se_index2 (w : World) : (Instr.index 361 (.agg SE) (.int .i64 2)).run Tryz.prog w = .ok (.agg #[.int .u8 119, .int .u8 65, .int .u8 90]) w := by kernel_rfl
theorem se_index3 (w : World) : (Instr.index 361 (.agg SE) (.int .i64 3)).run Tryz.prog w = .ok (.agg #[.int .u8 119, .int .u8 95, .int .u8 95]) w := by kernel_rfl
theorem se_index4 (w : World) : (Instr.index 361 (.agg SE) (.int .i64 4)).run Tryz.prog w = .ok (.agg #[.int .u8 119, .int .u8 97, .int .u8 122]) w := by kernel_rfl
theorem se_index5 (w : World) : (Instr.index 361 (.agg SE) (.int .i64 5)).run Tryz.prog w = .ok (.agg #[.int .u8 115, .int .u8 9, .int .u8 10]) w := by kernel_rfl
theorem se_index6 (w : World) : (Instr.index 361 (.agg SE) (.int .i64 6)).run Tryz.prog w = .ok (.agg #[.int .u8 115, .int .u8 13, .int .u8 13]) w := by kernel_rfl
theorem se_index7 (w : World) : (Instr.index 361 (.agg SE) (.int .i64 7)).run Tryz.prog w = .ok (.agg #[.int .u8 115, .int .u8 32, .int .u8 32]) w := by kernel_rfl
theorem se_index (k : Nat) (h : k < 8) (w : World) : (Instr.index 361 (.agg SE) (.int .i64 k)).run Tryz.prog w = .ok (.agg #[.int .u8 ((setE.getD k (0, 0, 0)).1 : Nat), .int .u8 ((setE.getD k (0, 0, 0)).2.1 : Nat), .int .u8 ((setE.getD k (0, 0, 0)).2.2 : Nat)]) w := by
  match k, h with
  | 0, _ => exact se_index0 w
  | 1, _ => exact se_index1 w
  | 2, _ => exact se_index2 w
  | 3, _ => exact se_index3 w
  | 4, _ => exact se_index4 w
  | 5, _ => exact se_index5 w
  | 6, _ => exact se_index6 w
  | 7, _ => exact se_index7 w
  | n + 8, h => exact absurd h (by omega)
theorem setE_lt (k : Nat) (h : k < 8) : (setE.getD k (0, 0, 0)).2.1 < 256 ∧ (setE.getD k (0, 0, 0)).2.2 < 256 := by
  have H : ∀ i : Fin 8, (setE.getD i.val (0, 0, 0)).2.1 < 256 ∧ (setE.getD i.val (0, 0, 0)).2.2 < 256 := by decide
  exact H ⟨k, h⟩
def accS (c : UInt8) (k : Nat) (n : Nat) : Bool := (setE.take k).any fun e => e.1 == c.toNat && inSpan e.2.1 e.2.2 n
def fndS (c : UInt8) (k : Nat) : Bool := (setE.take k).any fun e => e.1 == c.toNat
theorem take_succ_E (k : Nat) (h : k < 8) : setE.take (k + 1) = setE.take k ++ [setE.getD k (0, 0, 0)] := by
  have H : ∀ i : Fin 8, setE.take (i.val + 1) = setE.take i.val ++ [setE.getD i.val (0, 0, 0)] := by decide
  exact H ⟨k, h⟩
theorem acc_yes (c : UInt8) (k : Nat) (h : k < 8) (e : (setE.getD k (0, 0, 0)).1 = c.toNat) (n : Nat) : accS c (k + 1) n = orS (accS c k) (inSpan (setE.getD k (0, 0, 0)).2.1 (setE.getD k (0, 0, 0)).2.2) n := by
  unfold accS; rw [take_succ_E k h]; simp only [List.any_append, List.any_cons, List.any_nil, orS, e]; simp
theorem acc_no (c : UInt8) (k : Nat) (h : k < 8) (e : (setE.getD k (0, 0, 0)).1 ≠ c.toNat) (n : Nat) : accS c (k + 1) n = accS c k n := by
  unfold accS; rw [take_succ_E k h]; simp only [List.any_append, List.any_cons, List.any_nil]
  have : ((setE.getD k (0, 0, 0)).1 == c.toNat) = false := by simpa using e
  rw [this]; simp
theorem fnd_yes (c : UInt8) (k : Nat) (h : k < 8) (e : (setE.getD k (0, 0, 0)).1 = c.toNat) : fndS c (k + 1) = true := by
  unfold fndS; rw [take_succ_E k h]; simp only [List.any_append, List.any_cons, List.any_nil, e]; simp
theorem fnd_no (c : UInt8) (k : Nat) (h : k < 8) (e : (setE.getD k (0, 0, 0)).1 ≠ c.toNat) : fndS c (k + 1) = fndS c k := by
  unfold fndS; rw [take_succ_E k h]; simp only [List.any_append, List.any_cons, List.any_nil]
  have : ((setE.getD k (0, 0, 0)).1 == c.toNat) = false := by simpa using e
  rw [this]; simp
def setOf (c : UInt8) : Nat → Bool := (escSet c).getD fun _ => false
theorem fnd_all (c : UInt8) : fndS c 8 = (escSet c).isSome := by
  have H : ((List.range 256).all fun n => (fun c : UInt8 => fndS c 8 == (escSet c).isSome) (UInt8.ofNat n)) = true := by kernel_rfl
  exact eq_of_beq (all256 (fun c : UInt8 => fndS c 8 == (escSet c).isSome) H c)
theorem acc_all (c : UInt8) (n : Nat) : accS c 8 n = setOf c n := by
  by_cases h1 : c = 100
  · subst h1; simp [accS, setOf, escSet]
  · by_cases h2 : c = 119
    · subst h2; simp [accS, setOf, escSet, Bool.or_assoc]
    · by_cases h3 : c = 115
      · subst h3; simp [accS, setOf, escSet, Bool.or_assoc]
      · have n1 : ¬ (100 = c.toNat) := fun e => h1 (UInt8.toNat_inj.1 e.symm)
        have n2 : ¬ (119 = c.toNat) := fun e => h2 (UInt8.toNat_inj.1 e.symm)
        have n3 : ¬ (115 = c.toNat) := fun e => h3 (UInt8.toNat_inj.1 e.symm)
        simp [accS, setOf, escSet, h1, h2, h3, n1, n2, n3]

/-- The set S lies in block b from the cell off on, in some words. -/
abbrev ExSet (w : World) (b off : Nat) (S : Nat → Bool) : Prop := ∃ y0 y1 y2 y3, SetAt w b off S y0 y1 y2 y3
theorem SetAt.of_heap {w w' : World} {b off : Nat} {S : Nat → Bool} {x0 x1 x2 x3 : Nat} (h : SetAt w b off S x0 x1 x2 x3) (hb : w'.heap[b]? = w.heap[b]?) : SetAt w' b off S x0 x1 x2 x3 := by
  have hc : ∀ o, w'.cell? ⟨b, o, none⟩ = w.cell? ⟨b, o, none⟩ := fun o => by simp [World.cell?, hb]
  have hf : ∀ o, w'.frozen? ⟨b, o, none⟩ = w.frozen? ⟨b, o, none⟩ := fun o => by simp [World.frozen?, hb]
  exact ⟨h.wd, (hc _).trans h.c0, (hc _).trans h.c1, (hc _).trans h.c2, (hc _).trans h.c3, fun o => (hf o).trans (h.fz o)⟩
theorem ExSet.of_heap {w w' : World} {b off : Nat} {S : Nat → Bool} (h : ExSet w b off S) (hb : w'.heap[b]? = w.heap[b]?) : ExSet w' b off S := by
  obtain ⟨y0, y1, y2, y3, h⟩ := h; exact ⟨y0, y1, y2, y3, h.of_heap hb⟩
theorem ExSet.congr {w : World} {b off : Nat} {S S' : Nat → Bool} (h : ExSet w b off S) (e : ∀ n, S n = S' n) : ExSet w b off S' := by
  obtain ⟨y0, y1, y2, y3, h⟩ := h; exact ⟨y0, y1, y2, y3, h.congr fun n _ => e n⟩
theorem ExSet.alloc {w : World} {b off : Nat} {S : Nat → Bool} (h : ExSet w b off S) (hb : b < w.heap.size) (o : Obj) : ExSet (w.alloc o) b off S := h.of_heap (Below.heap_alloc _ _ _ hb)

theorem Wd.congr {x0 x1 x2 x3 : Nat} {S S' : Nat → Bool} (h : Wd x0 x1 x2 x3 S) (e : ∀ n, S n = S' n) : Wd x0 x1 x2 x3 S' := by
  have : S = S' := funext e
  rw [← this]; exact h
/-- A set by value. -/
abbrev wv (x0 x1 x2 x3 : Nat) : Value := .agg #[.int .u64 x0, .int .u64 x1, .int .u64 x2, .int .u64 x3]

set_option maxHeartbeats 1000000 in
theorem escapedSet_any (c : UInt8) (w : World) (hT : Tabs w) :
    Calls Tryz.prog 236 #[.int .u8 c.toNat] w fun e w' => (∃ x0 x1 x2 x3, Wd x0 x1 x2 x3 (setOf c) ∧ e = .returned (.tuple #[wv x0 x1 x2 x3, .bool (escSet c).isSome])) ∧ Below w.heap.size w w' := by
  obtain ⟨-, ⟨tt, fr, hg⟩, -⟩ := hT
  have hg' : ((w.alloc (.cells #[.int .u64 0, .int .u64 0, .int .u64 0, .int .u64 0] 226)).alloc (.cells #[.int .u64 0, .int .u64 0, .int .u64 0, .int .u64 0] 226)).heap[3]? = some (.cells SE tt fr) := by
    have h1 : 3 < w.heap.size := by
      rcases Nat.lt_or_ge 3 w.heap.size with h | h
      · exact h
      · simp [Array.getElem?_eq_none h] at hg
    rw [Below.heap_alloc _ _ _ (by simp; omega), Below.heap_alloc _ _ _ h1]; exact hg
  go_enter Tryz.func236, Tryz.ntmps236
  go_wp2_with (refine wpList_load_row rfl 361 _ rfl 3 rfl tt _ fr _ hg' Tryz.underlying361 rfl (by kernel_rfl) ?_)
  go_loopw [9, 5] (fun i f wr => ∃ k : Nat, k ≤ 8 ∧ i = .int .i64 k ∧ f = .bool (fndS c k) ∧ (∃ y0 y1 y2 y3, SetAt wr (w.heap.size + 1) 0 (accS c k) y0 y1 y2 y3) ∧ SetAt wr w.heap.size 0 (fun _ => false) 0 0 0 0 ∧ Below w.heap.size w wr ∧ w.heap.size + 1 < wr.heap.size) (fun i _ _ => 8 - (intOf i).toNat)
  case atStart =>
    refine ⟨0, by omega, rfl, rfl, ⟨0, 0, 0, 0, ?_⟩, ?_, (by (repeat refine Below.setCell ?_ (by first | (simp; done) | (simp; omega)) _); (repeat refine Below.alloc ?_ (by first | (simp; done) | (simp; omega)) _); exact Below.refl _ _), by simp⟩
    · refine ⟨⟨by omega, by omega, by omega, by omega, ?_, ?_, ?_, ?_⟩, ?_, ?_, ?_, ?_, ?_⟩ <;> simp [accS, go_sem]
    · refine ⟨⟨by omega, by omega, by omega, by omega, ?_, ?_, ?_, ?_⟩, ?_, ?_, ?_, ?_, ?_⟩ <;> simp [go_sem]
  case round =>
    clear hg hg'
    obtain ⟨k, hk, rfl, rfl, hS, hZ, hbl, hsz⟩ := hrel
    have HS : Hid (∃ y0 y1 y2 y3, SetAt wr (w.heap.size + 1) 0 (accS c k) y0 y1 y2 y3) := hS
    have HZ : Hid (SetAt wr w.heap.size 0 (fun _ => false) 0 0 0 0) := hZ
    clear hS hZ
    by_cases hlt : k < 8
    · have hix := se_index k hlt
      obtain ⟨hl1, hl2⟩ := setE_lt k hlt
      obtain ⟨z1, hz1⟩ : ∃ z, z = (setE.getD k (0, 0, 0)).1 := ⟨_, rfl⟩
      obtain ⟨z2, hz2⟩ : ∃ z, z = (setE.getD k (0, 0, 0)).2.1 := ⟨_, rfl⟩
      obtain ⟨z3, hz3⟩ : ∃ z, z = (setE.getD k (0, 0, 0)).2.2 := ⟨_, rfl⟩
      rw [← hz1, ← hz2, ← hz3] at hix
      rw [← hz2] at hl1
      rw [← hz3] at hl2
      by_cases he : z1 = c.toNat
      · have e1 : ∀ n, accS c (k + 1) n = orS (accS c k) (inSpan z2 z3) n := fun n => by rw [hz2, hz3]; exact acc_yes c k hlt (hz1.symm.trans he) n
        have e2 : fndS c (k + 1) = true := fnd_yes c k hlt (hz1.symm.trans he)
        have E1 : Hid (∀ n, accS c (k + 1) n = orS (accS c k) (inSpan z2 z3) n) := e1
        have E2 : Hid (fndS c (k + 1) = true) := e2
        clear e1 e2 hz1 hz2 hz3
        have he' : ((z1 : Int) == c.toNat) = true := by rw [he]; simp
        clear he
        go_wp2_with (go_at_call 235; refine (addSpan_any _ (w.heap.size + 1) 0 z2 z3 (accS c k) hl2 hl1 (ExSet.alloc HS.out hsz _)).mono ?_; rintro e w1 ⟨rfl, hs1, hf1⟩; have HS1 : Hid _ := hs1; clear hs1)
        go_roundw
        case rel =>
          refine ⟨k + 1, by omega, by go_num, by rw [E2.out], ExSet.congr HS1.out (fun n => (E1.out n).symm), ?_, ?_, ?_⟩
          · exact HZ.out.of_heap ((hf1.block _ (by simp; omega) (by omega)).trans (Below.heap_alloc _ _ _ (by omega)))
          · have hb1 : Below w.heap.size (wr.alloc (.cells #[.int .u8 z1, .int .u8 z2, .int .u8 z3] 360)) w1 := ⟨hf1.os, hf1.tape, hf1.output, hf1.size, fun j hj => hf1.block j (by simp; omega) (by omega)⟩
            exact (hbl.alloc (by omega) _).trans hb1
          · have := hf1.size; simp at this; omega
        case measure => simp [intOf]; omega
      · have e1 : ∀ n, accS c (k + 1) n = accS c k n := fun n => acc_no c k hlt (fun e => he (hz1.trans e)) n
        have e2 : fndS c (k + 1) = fndS c k := fnd_no c k hlt (fun e => he (hz1.trans e))
        have E1 : Hid (∀ n, accS c (k + 1) n = accS c k n) := e1
        have E2 : Hid (fndS c (k + 1) = fndS c k) := e2
        clear e1 e2 hz1 hz2 hz3
        have he' : ((z1 : Int) == c.toNat) = false := by simp; omega
        clear he
        go_wp2
        go_roundw
        case rel =>
          refine ⟨k + 1, by omega, by go_num, by rw [E2.out], ExSet.congr (ExSet.alloc HS.out hsz _) (fun n => (E1.out n).symm), ?_, hbl.alloc (by omega) _, by simp; omega⟩
          exact HZ.out.of_heap (Below.heap_alloc _ _ _ (by omega))
        case measure => simp [intOf]; omega
    · have hk8 : k = 8 := by omega
      subst hk8
      obtain ⟨y0, y1, y2, y3, hw, c0, c1, c2, c3, fz⟩ := HS.out
      obtain ⟨-, d0, d1, d2, d3, dz⟩ := HZ.out
      simp only [Nat.zero_add] at c1 c2 c3 d1 d2 d3
      clear HS HZ
      go_wp2
      refine bodyPost_ret (v := .tuple #[wv y0 y1 y2 y3, .bool (fndS c 8)]) (by simp [results, Tryz.results236, go_sem, d0, d1, d2, d3]) rfl ⟨⟨y0, y1, y2, y3, hw.congr (acc_all c), by rw [fnd_all]⟩, ?_⟩
      exact (((hbl.setCell (Nat.le_refl _) _).setCell (Nat.le_refl _) _).setCell (Nat.le_refl _) _).setCell (Nat.le_refl _) _
end Go.Proofs.YtbjabpodkaokjaaGreatDoor.Sx

namespace Go.Proofs.YtbjabpodkaokjaaGreatDoor.Sx
open Go.RowKit

abbrev zero4 : Obj := .cells #[.int .u64 0, .int .u64 0, .int .u64 0, .int .u64 0] 226
theorem wd0 : Wd 0 0 0 0 (fun _ => false) := ⟨by omega, by omega, by omega, by omega, fun _ _ => by simp, fun _ _ => by simp, fun _ _ => by simp, fun _ _ => by simp⟩
theorem newSet (w : World) : SetAt (w.alloc zero4) w.heap.size 0 (fun _ => false) 0 0 0 0 := by
  refine ⟨wd0, ?_, ?_, ?_, ?_, fun o => ?_⟩ <;> simp [go_sem]

/-- Four cells of block b hold nothing yet. -/
structure Z4 (w : World) (b : Nat) : Prop where
  c0 : w.cell? ⟨b, 0, none⟩ = some (.int .u64 0)
  c1 : w.cell? ⟨b, 1, none⟩ = some (.int .u64 0)
  c2 : w.cell? ⟨b, 2, none⟩ = some (.int .u64 0)
  c3 : w.cell? ⟨b, 3, none⟩ = some (.int .u64 0)
  fz : ∀ o, w.frozen? ⟨b, o, none⟩ = false
theorem newZ (w : World) : Z4 (w.alloc zero4) w.heap.size := by
  refine ⟨?_, ?_, ?_, ?_, fun o => ?_⟩ <;> simp [go_sem]
theorem Z4.of_heap {w w' : World} {b : Nat} (h : Z4 w b) (hb : w'.heap[b]? = w.heap[b]?) : Z4 w' b := by
  have hc : ∀ o, w'.cell? ⟨b, o, none⟩ = w.cell? ⟨b, o, none⟩ := fun o => by simp [World.cell?, hb]
  have hf : ∀ o, w'.frozen? ⟨b, o, none⟩ = w.frozen? ⟨b, o, none⟩ := fun o => by simp [World.frozen?, hb]
  exact ⟨(hc _).trans h.c0, (hc _).trans h.c1, (hc _).trans h.c2, (hc _).trans h.c3, fun o => (hf o).trans (h.fz o)⟩

/-- What a reading that answers a set and ok leaves. -/
def SetRes (w w' : World) (b : Nat) (s : ByteArray) (d x : Int) (e : Ending) : Res (Nat → Bool) → Prop
  | .ok S r => (∃ x0 x1 x2 x3, Wd x0 x1 x2 x3 S ∧ e = .returned (.tuple #[wv x0 x1 x2 x3, .bool true])) ∧ StTo w w' b s r d x
  | .bad r => (∃ x0 x1 x2 x3 : Nat, e = .returned (.tuple #[wv x0 x1 x2 x3, .bool false])) ∧ StTo w w' b s r d x

theorem Rd.setNew {b : Nat} {x w : World} (h : Rd b x w) {p : Addr} (hp : x.heap.size ≤ p.block) (v : Value) : Rd b x (w.setCell p v) :=
  ⟨h.os, h.tape, h.output, by simpa [World.setCell] using h.size, fun k hk hb => (Below.heap_setCell _ _ _ _ (by omega)).trans (h.block k hk hb)⟩
theorem Rd.under {b : Nat} {x w : World} {o : Obj} (h : Rd b (x.alloc o) w) : Rd b x w := ((Rd.refl b x).alloc o).trans h
theorem Rd.below {b : Nat} {x y w : World} (h : Rd b x y) (hb : Below y.heap.size y w) : Rd b x w := h.trans (Rd.of_below hb)
/-- A write to new memory and draws. -/
theorem Rd.four {b b' off : Nat} {x y w : World} (h : Rd b x y) (hf : Four b' off y w) (hb : x.heap.size ≤ b') : Rd b x w :=
  ⟨hf.os.trans h.os, hf.tape.trans h.tape, hf.output.trans h.output, Nat.le_trans h.size hf.size, fun k hk hkb => (hf.block k (Nat.lt_of_lt_of_le hk h.size) (by omega)).trans (h.block k hk hkb)⟩

def pSetEsc : List UInt8 → Res (Nat → Bool)
  | [] => .bad []
  | c :: t => match escSet c with
    | some S => .ok S t
    | none => .bad (c :: t)

theorem St.ne {w : World} {b : Nat} {s : ByteArray} {r : List UInt8} {d x : Int} (h : St w b s r d x) : w.heap.size ≠ b := by have := h.lt; omega

set_option maxHeartbeats 400000 in
theorem setEscape_n (w : World) (b : Nat) (s : ByteArray) (d x : Int) (h : St w b s [] d x) :
    Calls Tryz.prog 230 #[.pointer (some ⟨b, 0, none⟩)] w fun e w' => SetRes w w' b s d x e (pSetEsc []) := by
  have hne := h.ne
  go_enter Tryz.func230, Tryz.ntmps230
  go_wp2_with (go_at_call 172; refine (peek_n _ b s d x (h.alloc _)).mono ?_; rintro e w1 ⟨rfl, h1, hr1⟩; obtain ⟨d0, d1, d2, d3, dz⟩ := (newZ w).of_heap (hr1.block w.heap.size (by simp) hne))
  refine bodyPost_ret (v := .tuple #[wv 0 0 0 0, .bool false]) (by simp [results, Tryz.results230, go_sem, d0, d1, d2, d3]) rfl ⟨⟨0, 0, 0, 0, rfl⟩, ?_, ?_⟩
  · have hlt := h.lt
    exact (((h1.setCell hlt _).setCell hlt _).setCell hlt _).setCell hlt _
  · have hr := hr1.under
    exact (((hr.setNew (Nat.le_refl _) _).setNew (Nat.le_refl _) _).setNew (Nat.le_refl _) _).setNew (Nat.le_refl _) _

set_option maxHeartbeats 1000000 in
theorem setEscape_c (w : World) (b : Nat) (s : ByteArray) (c : UInt8) (t : List UInt8) (d x : Int) (h : St w b s (c :: t) d x) :
    Calls Tryz.prog 230 #[.pointer (some ⟨b, 0, none⟩)] w fun e w' => SetRes w w' b s d x e (pSetEsc (c :: t)) := by
  have hne := h.ne
  have hlt := h.lt
  have hE := fun w hT => escapedSet_any c w hT
  cases hS : escSet c with
  | none =>
    have HR : Hid (pSetEsc (c :: t) = .bad (c :: t)) := by show _ = _; simp only [pSetEsc, hS]
    rw [hS] at hE
    simp only [Option.isSome_none] at hE
    clear hS
    go_enter Tryz.func230, Tryz.ntmps230
    go_wp2_with (first | (go_at_call 236; refine (hE _ h1.tb).mono ?_; rintro e w2 ⟨⟨x0, x1, x2, x3, hw, rfl⟩, hb2⟩; have h2 := h1.below hb2; have hz2 := hb2.size; have hlt2 : w.heap.size < w2.heap.size := (by omega); obtain ⟨d0, d1, d2, d3, dz⟩ := hN.of_heap (hb2.block w.heap.size hz1)) | (go_at_call 172; refine (peek_c _ b s c t d x (h.alloc _)).mono ?_; rintro e w1 ⟨rfl, h1, hr1⟩; have hz1 : w.heap.size < w1.heap.size := (by have := hr1.size; simp at this; omega); have hN := (newZ w).of_heap (hr1.block w.heap.size (by simp) hne)))
    refine bodyPost_ret (v := .tuple #[wv x0 x1 x2 x3, .bool false]) (by simp [results, Tryz.results230, go_sem, d0, d1, d2, d3, hlt2]) rfl ?_
    rw [HR.out]
    exact ⟨⟨x0, x1, x2, x3, rfl⟩, (by (repeat first | (with_reducible refine St.setCell ?_ (by first | exact hlt | (simp; done) | (simp; omega)) _) | (with_reducible refine St.alloc ?_ _) | (with_reducible refine St.drew ?_) | (with_reducible refine St.drewN ?_ _)); exact h2), (by (repeat first | (with_reducible refine Rd.setNew ?_ (by first | exact Nat.le_refl _ | (simp; done) | (simp; omega)) _) | (with_reducible refine Rd.alloc ?_ _) | (with_reducible refine Rd.drew ?_) | (with_reducible refine Rd.drewN ?_ _)); exact hr1.under.below hb2)⟩
  | some S =>
    have HR : Hid (pSetEsc (c :: t) = .ok S t) := by show _ = _; simp only [pSetEsc, hS]
    have hso : setOf c = S := by simp [setOf, hS]
    rw [hS, hso] at hE
    simp only [Option.isSome_some] at hE
    clear hS hso
    go_enter Tryz.func230, Tryz.ntmps230
    go_wp2_with (first | (go_at_call 236; refine (hE _ h1.tb).mono ?_; rintro e w2 ⟨⟨x0, x1, x2, x3, hw, rfl⟩, hb2⟩; have h2 := (h1.below hb2).alloc (.cells #[.int .u64 x0, .int .u64 x1, .int .u64 x2, .int .u64 x3] 226); obtain ⟨k, hk, k1, k2, kk⟩ := h2.open; have hz2 := hb2.size; have hlt2 : w.heap.size < w2.heap.size := (by omega); obtain ⟨d0, d1, d2, d3, dz⟩ := hN.of_heap (hb2.block w.heap.size hz1)) | (go_at_call 172; refine (peek_c _ b s c t d x (h.alloc _)).mono ?_; rintro e w1 ⟨rfl, h1, hr1⟩; have hz1 : w.heap.size < w1.heap.size := (by have := hr1.size; simp at this; omega); have hN := (newZ w).of_heap (hr1.block w.heap.size (by simp) hne)))
    refine bodyPost_ret (v := .tuple #[wv x0 x1 x2 x3, .bool true]) (by simp [results, Tryz.results230, go_sem, d0, d1, d2, d3, hlt2, hne, hne.symm]) rfl ?_
    rw [HR.out]
    have g := kk w ((hr1.under.below hb2).alloc _)
    exact ⟨⟨x0, x1, x2, x3, hw, rfl⟩, (by (repeat (with_reducible refine St.setCell ?_ (by first | exact hlt | (simp; done) | (simp; omega)) _)); exact g.1), (by (repeat (with_reducible refine Rd.setNew ?_ (by first | exact Nat.le_refl _ | (simp; done) | (simp; omega)) _)); exact g.2)⟩

theorem setEscape_any (w : World) (b : Nat) (s : ByteArray) (r : List UInt8) (d x : Int) (h : St w b s r d x) :
    Calls Tryz.prog 230 #[.pointer (some ⟨b, 0, none⟩)] w fun e w' => SetRes w w' b s d x e (pSetEsc r) := by
  match r with
  | [] => exact setEscape_n w b s d x h
  | c :: t => exact setEscape_c w b s c t d x h
end Go.Proofs.YtbjabpodkaokjaaGreatDoor.Sx

namespace Go.Proofs.YtbjabpodkaokjaaGreatDoor.Sx
open Go.RowKit

abbrev SetC (b : Nat) (s : ByteArray) (d x : Int) (r r' : List UInt8) (Q : Nat → Nat → Nat → Nat → Prop) (ok : Bool) : Prop :=
  ∀ w, St w b s r d x → Calls Tryz.prog 230 #[.pointer (some ⟨b, 0, none⟩)] w fun e w' => (∃ x0 x1 x2 x3, Q x0 x1 x2 x3 ∧ e = .returned (.tuple #[wv x0 x1 x2 x3, .bool ok])) ∧ StTo w w' b s r' d x
abbrev BytC (b : Nat) (s : ByteArray) (d x : Int) (l : Int) (r r' : List UInt8) (Q : Nat → Prop) (ok : Bool) : Prop :=
  ∀ w, St w b s r d x → Calls Tryz.prog 231 #[.pointer (some ⟨b, 0, none⟩), .int .u8 l] w fun e w' => ∃ v : Nat, Q v ∧ e = .returned (.tuple #[.int .u8 v, .bool ok]) ∧ StTo w w' b s r' d x

set_option maxHeartbeats 400000 in
theorem escape_1 (w : World) (b : Nat) (s : ByteArray) (r r' : List UInt8) (d x : Int) (h : St w b s r d x) (Q : Nat → Nat → Nat → Nat → Prop) (h1 : SetC b s d x r r' Q true) :
    Calls Tryz.prog 220 #[.pointer (some ⟨b, 0, none⟩)] w fun e w' => (∃ x0 x1 x2 x3, Q x0 x1 x2 x3 ∧ e = .returned (.tuple #[wv x0 x1 x2 x3, .bool true])) ∧ StTo w w' b s r' d x := by
  have hne := h.ne
  have hlt := h.lt
  go_enter Tryz.func220, Tryz.ntmps220
  go_wp2_with (go_at_call 230; refine (h1 _ (h.alloc _)).mono ?_; rintro e w1 ⟨⟨x0, x1, x2, x3, hq, rfl⟩, g1, hr1⟩; have hz1 : w.heap.size < w1.heap.size := (by have := hr1.size; simp at this; omega); obtain ⟨d0, d1, d2, d3, dz⟩ := (newZ w).of_heap (hr1.block w.heap.size (by simp) hne))
  refine bodyPost_ret (v := .tuple #[wv x0 x1 x2 x3, .bool true]) (by simp [results, Tryz.results220, go_sem, d0, d1, d2, d3, hz1]) rfl ⟨⟨x0, x1, x2, x3, hq, rfl⟩, (by (repeat first | (with_reducible refine St.setCell ?_ (by first | exact hlt | (simp; done) | (simp; omega)) _) | (with_reducible refine St.alloc ?_ _) | (with_reducible refine St.drew ?_) | (with_reducible refine St.drewN ?_ _)); exact g1), (by (repeat first | (with_reducible refine Rd.setNew ?_ (by first | exact Nat.le_refl _ | (simp; done) | (simp; omega)) _) | (with_reducible refine Rd.alloc ?_ _) | (with_reducible refine Rd.drew ?_) | (with_reducible refine Rd.drewN ?_ _)); exact hr1.under)⟩

set_option maxHeartbeats 1000000 in
theorem escape_2 (w : World) (b : Nat) (s : ByteArray) (r r' r'' : List UInt8) (d x : Int) (h : St w b s r d x) (Q : Nat → Nat → Nat → Nat → Prop) (Q2 : Nat → Prop) (h1 : SetC b s d x r r' Q false) (h2 : BytC b s d x 0 r' r'' Q2 false) :
    Calls Tryz.prog 220 #[.pointer (some ⟨b, 0, none⟩)] w fun e w' => (∃ x0 x1 x2 x3 : Nat, e = .returned (.tuple #[wv x0 x1 x2 x3, .bool false])) ∧ StTo w w' b s r'' d x := by
  have hne := h.ne
  have hlt := h.lt
  go_enter Tryz.func220, Tryz.ntmps220
  go_wp2_with (first | (go_at_call 231; refine (h2 _ ((g1.alloc _).alloc _)).mono ?_; rintro e w2 ⟨v, hv, rfl, g2, hr2⟩; have hz2 : w1.heap.size + 1 < w2.heap.size := (by have := hr2.size; simp at this; omega); have hlt2 : w.heap.size < w2.heap.size := (by omega); have hZ2 := hZ1.of_heap (w' := w2) ((hr2.block w.heap.size (by simp; omega) hne).trans ((Below.heap_alloc _ _ _ (by simp; omega)).trans (Below.heap_alloc _ _ _ hz1))); obtain ⟨d0, d1, d2, d3, dz⟩ := hZ2; have hO2 := (newZ (w1.alloc (.cells #[.int .u64 x0, .int .u64 x1, .int .u64 x2, .int .u64 x3] 226))).of_heap (w' := w2) (hr2.block _ (by simp) (by simp; omega)); simp only [World.size_alloc] at hO2; obtain ⟨o0, o1, o2, o3, oz⟩ := hO2) | (go_at_call 230; refine (h1 _ (h.alloc _)).mono ?_; rintro e w1 ⟨⟨x0, x1, x2, x3, hq, rfl⟩, g1, hr1⟩; have hz1 : w.heap.size < w1.heap.size := (by have := hr1.size; simp at this; omega); have hZ1 := (newZ w).of_heap (hr1.block w.heap.size (by simp) hne)))
  have hr := ((hr1.under.alloc _).alloc _).trans hr2
  exact bodyPost_ret (v := .tuple #[wv 0 0 0 0, .bool false]) (by simp [results, Tryz.results220, go_sem, d0, d1, d2, d3]) rfl ⟨⟨0, 0, 0, 0, rfl⟩, (by (repeat first | (with_reducible refine St.setCell ?_ (by first | exact hlt | (simp; done) | (simp; omega)) _) | (with_reducible refine St.alloc ?_ _) | (with_reducible refine St.drew ?_) | (with_reducible refine St.drewN ?_ _)); exact g2), (by (repeat first | (with_reducible refine Rd.setNew ?_ (by first | exact Nat.le_refl _ | (simp; done) | (simp; omega)) _) | (with_reducible refine Rd.alloc ?_ _) | (with_reducible refine Rd.drew ?_) | (with_reducible refine Rd.drewN ?_ _)); exact hr)⟩

set_option maxHeartbeats 1000000 in
theorem escape_3 (w : World) (b : Nat) (s : ByteArray) (r r' r'' : List UInt8) (d x : Int) (h : St w b s r d x) (Q : Nat → Nat → Nat → Nat → Prop) (Q2 : Nat → Prop) (hQ2 : ∀ v, Q2 v → v < 256) (h1 : SetC b s d x r r' Q false) (h2 : BytC b s d x 0 r' r'' Q2 true) :
    Calls Tryz.prog 220 #[.pointer (some ⟨b, 0, none⟩)] w fun e w' => (∃ v, Q2 v ∧ ∃ x0 x1 x2 x3, Wd x0 x1 x2 x3 (inSpan v v) ∧ e = .returned (.tuple #[wv x0 x1 x2 x3, .bool true])) ∧ StTo w w' b s r'' d x := by
  have hne := h.ne
  have hlt := h.lt
  go_enter Tryz.func220, Tryz.ntmps220
  go_wp2_with (first | (go_at_call 221; refine (add_any w2 (w1.heap.size + 1) 0 v (fun _ => false) 0 0 0 0 (hQ2 v hv) ⟨wd0, o0, o1, o2, o3, oz⟩).mono ?_; rintro e w3 ⟨rfl, ⟨y0, y1, y2, y3, hy⟩, hf3⟩; have hz3 := hf3.size; have hlt3 : w.heap.size < w3.heap.size := (by omega); obtain ⟨hwy, p0, p1, p2, p3, pz⟩ := hy; obtain ⟨f0, f1, f2, f3, ff⟩ := Z4.of_heap (w' := w3) ⟨d0, d1, d2, d3, dz⟩ (hf3.block w.heap.size hlt2 (by omega)); simp only [Nat.zero_add] at p1 p2 p3) | (go_at_call 231; refine (h2 _ ((g1.alloc _).alloc _)).mono ?_; rintro e w2 ⟨v, hv, rfl, g2, hr2⟩; have hz2 : w1.heap.size + 1 < w2.heap.size := (by have := hr2.size; simp at this; omega); have hlt2 : w.heap.size < w2.heap.size := (by omega); have hZ2 := hZ1.of_heap (w' := w2) ((hr2.block w.heap.size (by simp; omega) hne).trans ((Below.heap_alloc _ _ _ (by simp; omega)).trans (Below.heap_alloc _ _ _ hz1))); obtain ⟨d0, d1, d2, d3, dz⟩ := hZ2; have hO2 := (newZ (w1.alloc (.cells #[.int .u64 x0, .int .u64 x1, .int .u64 x2, .int .u64 x3] 226))).of_heap (w' := w2) (hr2.block _ (by simp) (by simp; omega)); simp only [World.size_alloc] at hO2; obtain ⟨o0, o1, o2, o3, oz⟩ := hO2) | (go_at_call 230; refine (h1 _ (h.alloc _)).mono ?_; rintro e w1 ⟨⟨x0, x1, x2, x3, hq, rfl⟩, g1, hr1⟩; have hz1 : w.heap.size < w1.heap.size := (by have := hr1.size; simp at this; omega); have hZ1 := (newZ w).of_heap (hr1.block w.heap.size (by simp) hne)))
  have hr := ((hr1.under.alloc _).alloc _).trans hr2
  have g3 := g2.four hf3 (by omega)
  have hr3 := hr.four hf3 (by omega)
  exact bodyPost_ret (v := .tuple #[wv y0 y1 y2 y3, .bool true]) (by simp [results, Tryz.results220, go_sem, f0, f1, f2, f3]) rfl ⟨⟨v, hv, y0, y1, y2, y3, hwy.congr (fun n => by simp [orS]), rfl⟩, (by (repeat first | (with_reducible refine St.setCell ?_ (by first | exact hlt | (simp; done) | (simp; omega)) _) | (with_reducible refine St.alloc ?_ _) | (with_reducible refine St.drew ?_) | (with_reducible refine St.drewN ?_ _)); exact g3), (by (repeat first | (with_reducible refine Rd.setNew ?_ (by first | exact Nat.le_refl _ | (simp; done) | (simp; omega)) _) | (with_reducible refine Rd.alloc ?_ _) | (with_reducible refine Rd.drew ?_) | (with_reducible refine Rd.drewN ?_ _)); exact hr3)⟩

theorem SetRes.ok_of {w w' : World} {b : Nat} {s : ByteArray} {d x : Int} {e : Ending} {S : Nat → Bool} {r : List UInt8} (g : (∃ x0 x1 x2 x3, Wd x0 x1 x2 x3 S ∧ e = .returned (.tuple #[wv x0 x1 x2 x3, .bool true])) ∧ StTo w w' b s r d x) : SetRes w w' b s d x e (.ok S r) := g

theorem escape_any (w : World) (b : Nat) (s : ByteArray) (r : List UInt8) (d x : Int) (h : St w b s r d x) :
    Calls Tryz.prog 220 #[.pointer (some ⟨b, 0, none⟩)] w fun e w' => SetRes w w' b s d x e (pEscape r) := by
  have hb := fun w hw => byteEscape_any w b s r d x 0 (by omega) hw
  cases hS : pSetEsc r with
  | ok S r' =>
    have hP : pEscape r = .ok S r' := by
      match r, hS with
      | [], hS => simp [pSetEsc] at hS
      | c :: t, hS =>
        simp only [pSetEsc] at hS
        simp only [pEscape]
        cases hE : escSet c with
        | none => rw [hE] at hS; simp at hS
        | some S' => rw [hE] at hS; simpa using hS
    rw [hP]
    refine (escape_1 w b s r r' d x h (fun x0 x1 x2 x3 => Wd x0 x1 x2 x3 S) (fun w hw => (setEscape_any w b s r d x hw).mono fun e w' g => ?_)).mono fun e w' g => g
    rw [hS] at g; exact g
  | bad r' =>
    have hr : r' = r ∧ pEscape r = (match pByteEscape 0 r with | .ok v r'' => .ok (inSpan v v) r'' | .bad r'' => .bad r'') := by
      match r, hS with
      | [], hS => simp only [pSetEsc] at hS; injection hS with e; exact ⟨e.symm, rfl⟩
      | c :: t, hS =>
        simp only [pSetEsc] at hS
        simp only [pEscape]
        cases hE : escSet c with
        | none => rw [hE] at hS; injection hS with e; exact ⟨e.symm, rfl⟩
        | some S' => rw [hE] at hS; simp at hS
    obtain ⟨rfl, hP⟩ := hr
    rw [hP]
    have h1 : SetC b s d x r' r' (fun _ _ _ _ => True) false := fun w hw => (setEscape_any w b s r' d x hw).mono fun e w' g => by
      rw [hS] at g; obtain ⟨⟨x0, x1, x2, x3, g⟩, g'⟩ := g; exact ⟨⟨x0, x1, x2, x3, trivial, g⟩, g'⟩
    cases hB : pByteEscape 0 r' with
    | bad r'' =>
      exact (escape_2 w b s r' r' r'' d x h _ (fun _ => True) h1 (fun w hw => (hb w hw).mono fun e w' g => by rw [hB] at g; obtain ⟨v, g⟩ := g; exact ⟨v, trivial, g⟩)).mono fun e w' g => g
    | ok v r'' =>
      refine (escape_3 w b s r' r' r'' d x h _ (fun u => u = v ∧ v < 256) (fun u hu => by omega) h1 (fun w hw => (hb w hw).mono fun e w' g => by rw [hB] at g; exact ⟨v, ⟨rfl, g.2.1⟩, g.1, g.2.2⟩)).mono fun e w' g => ?_
      obtain ⟨⟨u, ⟨rfl, hu⟩, x0, x1, x2, x3, hw, he⟩, g'⟩ := g
      exact ⟨⟨x0, x1, x2, x3, hw, he⟩, g'⟩
end Go.Proofs.YtbjabpodkaokjaaGreatDoor.Sx

namespace Go.Proofs.YtbjabpodkaokjaaGreatDoor.Sx
open Go.RowKit

abbrev TakC (b : Nat) (s : ByteArray) (d x : Int) (c : Int) (r r' : List UInt8) (ok : Bool) : Prop :=
  ∀ w, St w b s r d x → Calls Tryz.prog 121 #[.pointer (some ⟨b, 0, none⟩), .int .u8 c] w fun e w' => e = .returned (.bool ok) ∧ StTo w w' b s r' d x
abbrev ItmC (b : Nat) (s : ByteArray) (d x : Int) (tk : Bool) (l : Int) (r r' : List UInt8) (Q : Nat → Prop) (ok : Bool) : Prop :=
  ∀ w, St w b s r d x → Calls Tryz.prog 234 #[.pointer (some ⟨b, 0, none⟩), .bool tk, .int .u8 l] w fun e w' => ∃ v : Nat, Q v ∧ e = .returned (.tuple #[.int .u8 v, .bool ok]) ∧ StTo w w' b s r' d x
theorem new2 (w : World) : Z4 ((w.alloc zero4).alloc zero4) w.heap.size ∧ Z4 ((w.alloc zero4).alloc zero4) (w.heap.size + 1) := by
  refine ⟨⟨?_, ?_, ?_, ?_, fun o => ?_⟩, ⟨?_, ?_, ?_, ?_, fun o => ?_⟩⟩ <;> simp [go_sem]
theorem Z4.set {w : World} {b : Nat} (h : Z4 w b) : ExSet w b 0 (fun _ => false) := ⟨0, 0, 0, 0, wd0, h.c0, h.c1, h.c2, h.c3, h.fz⟩

set_option maxHeartbeats 1000000 in
theorem item_A (w : World) (b : Nat) (s : ByteArray) (r r1 r2 : List UInt8) (d x : Int) (h : St w b s r d x) (Q : Nat → Nat → Nat → Nat → Prop) (ht0 : TakC b s d x 92 r r1 true) (hs1 : SetC b s d x r1 r2 Q true) :
    Calls Tryz.prog 228 #[.pointer (some ⟨b, 0, none⟩)] w fun e w' => (∃ x0 x1 x2 x3, Q x0 x1 x2 x3 ∧ e = .returned (.tuple #[wv x0 x1 x2 x3, .bool true])) ∧ StTo w w' b s r2 d x := by
  have hne := h.ne
  have hlt := h.lt
  go_enter Tryz.func228, Tryz.ntmps228
  go_wp2_with (first | (go_at_call 230; refine (hs1 _ g1).mono ?_; rintro e w2 ⟨⟨x0, x1, x2, x3, hq, rfl⟩, g2', hr2'⟩; have hr2 := (hr1.trans hr2').alloc (.cells #[.int .u64 x0, .int .u64 x1, .int .u64 x2, .int .u64 x3] 226); have g2 := g2'.alloc (.cells #[.int .u64 x0, .int .u64 x1, .int .u64 x2, .int .u64 x3] 226); have hz2 : w.heap.size + 1 < w2.heap.size := (by have := (hr1.trans hr2').size; simp at this; omega); have hltF : w.heap.size < w2.heap.size := (by omega); obtain ⟨d0, d1, d2, d3, dz⟩ := (new2 w).1.of_heap ((hr1.trans hr2').block w.heap.size (by simp; omega) hne)) | (go_at_call 121; refine (ht0 _ ((h.alloc _).alloc _)).mono ?_; rintro e w1 ⟨rfl, g1, hr1⟩))
  exact bodyPost_ret (v := .tuple #[wv x0 x1 x2 x3, .bool true]) (by simp [results, Tryz.results228, go_sem, d0, d1, d2, d3, hltF]) rfl ⟨⟨x0, x1, x2, x3, hq, rfl⟩, (by (repeat first | (with_reducible refine St.setCell ?_ (by first | exact hlt | (simp; done) | (simp; omega)) _) | (with_reducible refine St.alloc ?_ _) | (with_reducible refine St.drew ?_) | (with_reducible refine St.drewN ?_ _)); exact g2'), (by (repeat first | (with_reducible refine Rd.setNew ?_ (by first | exact Nat.le_refl _ | (simp; done) | (simp; omega)) _) | (with_reducible refine Rd.alloc ?_ _) | (with_reducible refine Rd.drew ?_) | (with_reducible refine Rd.drewN ?_ _)); exact (hr1.trans hr2').under.under)⟩

set_option maxHeartbeats 1000000 in
theorem item_e0 (w : World) (b : Nat) (s : ByteArray) (r r1 r2 r3 : List UInt8) (d x : Int) (h : St w b s r d x) (Q : Nat → Prop) (R : Nat → Nat → Nat → Nat → Prop) (ht0 : TakC b s d x 92 r r1 true) (hs1 : SetC b s d x r1 r2 R false) (hi1 : ItmC b s d x true 0 r2 r3 Q false) :
    Calls Tryz.prog 228 #[.pointer (some ⟨b, 0, none⟩)] w fun e w' => (∃ x0 x1 x2 x3 : Nat, e = .returned (.tuple #[wv x0 x1 x2 x3, .bool false])) ∧ StTo w w' b s r3 d x := by
  have hne := h.ne
  have hlt := h.lt
  go_enter Tryz.func228, Tryz.ntmps228
  go_wp2_with (first | (go_at_call 234; refine (hi1 _ g2).mono ?_; rintro e w3 ⟨low, hlow, rfl, g3, hr3'⟩; have hr3 := hr2.trans hr3'; have hzF : w.heap.size + 1 < w3.heap.size := (by have := hr3.size; simp at this; omega); have hltF : w.heap.size < w3.heap.size := (by omega); obtain ⟨d0, d1, d2, d3, dz⟩ := (new2 w).1.of_heap (hr3.block w.heap.size (by simp; omega) hne); have hspan := (new2 w).2.of_heap (hr3.block (w.heap.size + 1) (by simp) (by omega)); obtain ⟨o0, o1, o2, o3, oz⟩ := hspan) | (go_at_call 230; refine (hs1 _ g1).mono ?_; rintro e w2 ⟨⟨x0, x1, x2, x3, hq, rfl⟩, g2', hr2'⟩; have hr2 := (hr1.trans hr2').alloc (.cells #[.int .u64 x0, .int .u64 x1, .int .u64 x2, .int .u64 x3] 226); have g2 := g2'.alloc (.cells #[.int .u64 x0, .int .u64 x1, .int .u64 x2, .int .u64 x3] 226); have hz2 : w.heap.size + 1 < w2.heap.size := (by have := (hr1.trans hr2').size; simp at this; omega)) | (go_at_call 121; refine (ht0 _ ((h.alloc _).alloc _)).mono ?_; rintro e w1 ⟨rfl, g1, hr1⟩))
  exact bodyPost_ret (v := .tuple #[wv 0 0 0 0, .bool false]) (by simp [results, Tryz.results228, go_sem, d0, d1, d2, d3]) rfl ⟨⟨0, 0, 0, 0, rfl⟩, (by (repeat first | (with_reducible refine St.setCell ?_ (by first | exact hlt | (simp; done) | (simp; omega)) _) | (with_reducible refine St.alloc ?_ _) | (with_reducible refine St.drew ?_) | (with_reducible refine St.drewN ?_ _)); exact g3), (by (repeat first | (with_reducible refine Rd.setNew ?_ (by first | exact Nat.le_refl _ | (simp; done) | (simp; omega)) _) | (with_reducible refine Rd.alloc ?_ _) | (with_reducible refine Rd.drew ?_) | (with_reducible refine Rd.drewN ?_ _)); exact hr3.under.under)⟩

set_option maxHeartbeats 1000000 in
theorem item_e1 (w : World) (b : Nat) (s : ByteArray) (r r1 r2 r3 r4 : List UInt8) (d x : Int) (h : St w b s r d x) (Q : Nat → Prop) (hQ : ∀ v, Q v → v < 256) (R : Nat → Nat → Nat → Nat → Prop) (ht0 : TakC b s d x 92 r r1 true) (hs1 : SetC b s d x r1 r2 R false) (hi1 : ItmC b s d x true 0 r2 r3 Q true) (ht1 : TakC b s d x 45 r3 r4 false) :
    Calls Tryz.prog 228 #[.pointer (some ⟨b, 0, none⟩)] w fun e w' => (∃ low, Q low ∧ ∃ x0 x1 x2 x3, Wd x0 x1 x2 x3 (inSpan low low) ∧ e = .returned (.tuple #[wv x0 x1 x2 x3, .bool true])) ∧ StTo w w' b s r4 d x := by
  have hne := h.ne
  have hlt := h.lt
  go_enter Tryz.func228, Tryz.ntmps228
  go_wp2_with (first | (go_at_call 235; refine (addSpan_any w4 (w.heap.size + 1) 0 low low (fun _ => false) (hQ _ hlow) (hQ _ hlow) (Z4.set ⟨o0, o1, o2, o3, oz⟩)).mono ?_; rintro e wz ⟨rfl, ⟨y0, y1, y2, y3, hy⟩, hfz⟩; have hzz := hfz.size; have hltz : w.heap.size < wz.heap.size := (by omega); obtain ⟨hwy, p0, p1, p2, p3, pz⟩ := hy; obtain ⟨f0, f1, f2, f3, ff⟩ := Z4.of_heap (w' := wz) ⟨d0, d1, d2, d3, dz⟩ (hfz.block w.heap.size hltF (by omega)); simp only [Nat.zero_add] at p1 p2 p3) | (go_at_call 121; refine (ht1 _ g3).mono ?_; rintro e w4 ⟨rfl, g4, hr4'⟩; have hr4 := hr3.trans hr4'; have hzF : w.heap.size + 1 < w4.heap.size := (by have := hr4.size; simp at this; omega); have hltF : w.heap.size < w4.heap.size := (by omega); obtain ⟨d0, d1, d2, d3, dz⟩ := (new2 w).1.of_heap (hr4.block w.heap.size (by simp; omega) hne); have hspan := (new2 w).2.of_heap (hr4.block (w.heap.size + 1) (by simp) (by omega)); obtain ⟨o0, o1, o2, o3, oz⟩ := hspan) | (go_at_call 234; refine (hi1 _ g2).mono ?_; rintro e w3 ⟨low, hlow, rfl, g3, hr3'⟩; have hr3 := hr2.trans hr3') | (go_at_call 230; refine (hs1 _ g1).mono ?_; rintro e w2 ⟨⟨x0, x1, x2, x3, hq, rfl⟩, g2', hr2'⟩; have hr2 := (hr1.trans hr2').alloc (.cells #[.int .u64 x0, .int .u64 x1, .int .u64 x2, .int .u64 x3] 226); have g2 := g2'.alloc (.cells #[.int .u64 x0, .int .u64 x1, .int .u64 x2, .int .u64 x3] 226); have hz2 : w.heap.size + 1 < w2.heap.size := (by have := (hr1.trans hr2').size; simp at this; omega)) | (go_at_call 121; refine (ht0 _ ((h.alloc _).alloc _)).mono ?_; rintro e w1 ⟨rfl, g1, hr1⟩))
  have g7 := g4.four hfz (by omega)
  have hr7 := hr4.under.under.four hfz (by omega)
  exact bodyPost_ret (v := .tuple #[wv y0 y1 y2 y3, .bool true]) (by simp [results, Tryz.results228, go_sem, f0, f1, f2, f3]) rfl ⟨⟨low, hlow, y0, y1, y2, y3, hwy.congr (fun n => by simp [orS]), rfl⟩, (by (repeat first | (with_reducible refine St.setCell ?_ (by first | exact hlt | (simp; done) | (simp; omega)) _) | (with_reducible refine St.alloc ?_ _) | (with_reducible refine St.drew ?_) | (with_reducible refine St.drewN ?_ _)); exact g7), (by (repeat first | (with_reducible refine Rd.setNew ?_ (by first | exact Nat.le_refl _ | (simp; done) | (simp; omega)) _) | (with_reducible refine Rd.alloc ?_ _) | (with_reducible refine Rd.drew ?_) | (with_reducible refine Rd.drewN ?_ _)); exact hr7)⟩

set_option maxHeartbeats 1000000 in
theorem item_e2 (w : World) (b : Nat) (s : ByteArray) (r r1 r2 r3 r4 r5 r6 : List UInt8) (d x : Int) (h : St w b s r d x) (Q : Nat → Prop) (Q2 : Nat → Nat → Prop) (tk : Bool) (R : Nat → Nat → Nat → Nat → Prop) (ht0 : TakC b s d x 92 r r1 true) (hs1 : SetC b s d x r1 r2 R false) (hi1 : ItmC b s d x true 0 r2 r3 Q true) (ht1 : TakC b s d x 45 r3 r4 true) (ht2 : TakC b s d x 92 r4 r5 tk) (hi2 : ∀ low : Nat, Q low → ItmC b s d x tk low r5 r6 (Q2 low) false) :
    Calls Tryz.prog 228 #[.pointer (some ⟨b, 0, none⟩)] w fun e w' => (∃ x0 x1 x2 x3 : Nat, e = .returned (.tuple #[wv x0 x1 x2 x3, .bool false])) ∧ StTo w w' b s r6 d x := by
  have hne := h.ne
  have hlt := h.lt
  go_enter Tryz.func228, Tryz.ntmps228
  go_wp2_with (first | (go_at_call 234; refine (hi2 low hlow _ g5).mono ?_; rintro e w6 ⟨high, hhigh, rfl, g6, hr6'⟩; have hr6 := hr5.trans hr6'; have hzF : w.heap.size + 1 < w6.heap.size := (by have := hr6.size; simp at this; omega); have hltF : w.heap.size < w6.heap.size := (by omega); obtain ⟨d0, d1, d2, d3, dz⟩ := (new2 w).1.of_heap (hr6.block w.heap.size (by simp; omega) hne); have hspan := (new2 w).2.of_heap (hr6.block (w.heap.size + 1) (by simp) (by omega)); obtain ⟨o0, o1, o2, o3, oz⟩ := hspan) | (go_at_call 121; refine (ht2 _ g4).mono ?_; rintro e w5 ⟨rfl, g5, hr5'⟩; have hr5 := hr4.trans hr5') | (go_at_call 121; refine (ht1 _ g3).mono ?_; rintro e w4 ⟨rfl, g4, hr4'⟩; have hr4 := hr3.trans hr4') | (go_at_call 234; refine (hi1 _ g2).mono ?_; rintro e w3 ⟨low, hlow, rfl, g3, hr3'⟩; have hr3 := hr2.trans hr3') | (go_at_call 230; refine (hs1 _ g1).mono ?_; rintro e w2 ⟨⟨x0, x1, x2, x3, hq, rfl⟩, g2', hr2'⟩; have hr2 := (hr1.trans hr2').alloc (.cells #[.int .u64 x0, .int .u64 x1, .int .u64 x2, .int .u64 x3] 226); have g2 := g2'.alloc (.cells #[.int .u64 x0, .int .u64 x1, .int .u64 x2, .int .u64 x3] 226); have hz2 : w.heap.size + 1 < w2.heap.size := (by have := (hr1.trans hr2').size; simp at this; omega)) | (go_at_call 121; refine (ht0 _ ((h.alloc _).alloc _)).mono ?_; rintro e w1 ⟨rfl, g1, hr1⟩))
  exact bodyPost_ret (v := .tuple #[wv 0 0 0 0, .bool false]) (by simp [results, Tryz.results228, go_sem, d0, d1, d2, d3]) rfl ⟨⟨0, 0, 0, 0, rfl⟩, (by (repeat first | (with_reducible refine St.setCell ?_ (by first | exact hlt | (simp; done) | (simp; omega)) _) | (with_reducible refine St.alloc ?_ _) | (with_reducible refine St.drew ?_) | (with_reducible refine St.drewN ?_ _)); exact g6), (by (repeat first | (with_reducible refine Rd.setNew ?_ (by first | exact Nat.le_refl _ | (simp; done) | (simp; omega)) _) | (with_reducible refine Rd.alloc ?_ _) | (with_reducible refine Rd.drew ?_) | (with_reducible refine Rd.drewN ?_ _)); exact hr6.under.under)⟩

set_option maxHeartbeats 1000000 in
theorem item_e3 (w : World) (b : Nat) (s : ByteArray) (r r1 r2 r3 r4 r5 r6 : List UInt8) (d x : Int) (h : St w b s r d x) (Q : Nat → Prop) (Q2 : Nat → Nat → Prop) (tk : Bool) (hQ : ∀ v, Q v → v < 256) (hQ2 : ∀ v, ∀ u, Q2 v u → u < 256) (R : Nat → Nat → Nat → Nat → Prop) (ht0 : TakC b s d x 92 r r1 true) (hs1 : SetC b s d x r1 r2 R false) (hi1 : ItmC b s d x true 0 r2 r3 Q true) (ht1 : TakC b s d x 45 r3 r4 true) (ht2 : TakC b s d x 92 r4 r5 tk) (hi2 : ∀ low : Nat, Q low → ItmC b s d x tk low r5 r6 (Q2 low) true) :
    Calls Tryz.prog 228 #[.pointer (some ⟨b, 0, none⟩)] w fun e w' => (∃ low, Q low ∧ ∃ high, Q2 low high ∧ ∃ x0 x1 x2 x3, Wd x0 x1 x2 x3 (inSpan low high) ∧ e = .returned (.tuple #[wv x0 x1 x2 x3, .bool true])) ∧ StTo w w' b s r6 d x := by
  have hne := h.ne
  have hlt := h.lt
  go_enter Tryz.func228, Tryz.ntmps228
  go_wp2_with (first | (go_at_call 235; refine (addSpan_any w6 (w.heap.size + 1) 0 low high (fun _ => false) (hQ2 _ _ hhigh) (hQ _ hlow) (Z4.set ⟨o0, o1, o2, o3, oz⟩)).mono ?_; rintro e wz ⟨rfl, ⟨y0, y1, y2, y3, hy⟩, hfz⟩; have hzz := hfz.size; have hltz : w.heap.size < wz.heap.size := (by omega); obtain ⟨hwy, p0, p1, p2, p3, pz⟩ := hy; obtain ⟨f0, f1, f2, f3, ff⟩ := Z4.of_heap (w' := wz) ⟨d0, d1, d2, d3, dz⟩ (hfz.block w.heap.size hltF (by omega)); simp only [Nat.zero_add] at p1 p2 p3) | (go_at_call 234; refine (hi2 low hlow _ g5).mono ?_; rintro e w6 ⟨high, hhigh, rfl, g6, hr6'⟩; have hr6 := hr5.trans hr6'; have hzF : w.heap.size + 1 < w6.heap.size := (by have := hr6.size; simp at this; omega); have hltF : w.heap.size < w6.heap.size := (by omega); obtain ⟨d0, d1, d2, d3, dz⟩ := (new2 w).1.of_heap (hr6.block w.heap.size (by simp; omega) hne); have hspan := (new2 w).2.of_heap (hr6.block (w.heap.size + 1) (by simp) (by omega)); obtain ⟨o0, o1, o2, o3, oz⟩ := hspan) | (go_at_call 121; refine (ht2 _ g4).mono ?_; rintro e w5 ⟨rfl, g5, hr5'⟩; have hr5 := hr4.trans hr5') | (go_at_call 121; refine (ht1 _ g3).mono ?_; rintro e w4 ⟨rfl, g4, hr4'⟩; have hr4 := hr3.trans hr4') | (go_at_call 234; refine (hi1 _ g2).mono ?_; rintro e w3 ⟨low, hlow, rfl, g3, hr3'⟩; have hr3 := hr2.trans hr3') | (go_at_call 230; refine (hs1 _ g1).mono ?_; rintro e w2 ⟨⟨x0, x1, x2, x3, hq, rfl⟩, g2', hr2'⟩; have hr2 := (hr1.trans hr2').alloc (.cells #[.int .u64 x0, .int .u64 x1, .int .u64 x2, .int .u64 x3] 226); have g2 := g2'.alloc (.cells #[.int .u64 x0, .int .u64 x1, .int .u64 x2, .int .u64 x3] 226); have hz2 : w.heap.size + 1 < w2.heap.size := (by have := (hr1.trans hr2').size; simp at this; omega)) | (go_at_call 121; refine (ht0 _ ((h.alloc _).alloc _)).mono ?_; rintro e w1 ⟨rfl, g1, hr1⟩))
  have g7 := g6.four hfz (by omega)
  have hr7 := hr6.under.under.four hfz (by omega)
  exact bodyPost_ret (v := .tuple #[wv y0 y1 y2 y3, .bool true]) (by simp [results, Tryz.results228, go_sem, f0, f1, f2, f3]) rfl ⟨⟨low, hlow, high, hhigh, y0, y1, y2, y3, hwy.congr (fun n => by simp [orS]), rfl⟩, (by (repeat first | (with_reducible refine St.setCell ?_ (by first | exact hlt | (simp; done) | (simp; omega)) _) | (with_reducible refine St.alloc ?_ _) | (with_reducible refine St.drew ?_) | (with_reducible refine St.drewN ?_ _)); exact g7), (by (repeat first | (with_reducible refine Rd.setNew ?_ (by first | exact Nat.le_refl _ | (simp; done) | (simp; omega)) _) | (with_reducible refine Rd.alloc ?_ _) | (with_reducible refine Rd.drew ?_) | (with_reducible refine Rd.drewN ?_ _)); exact hr7)⟩

set_option maxHeartbeats 1000000 in
theorem item_p0 (w : World) (b : Nat) (s : ByteArray) (r r1 r3 : List UInt8) (d x : Int) (h : St w b s r d x) (Q : Nat → Prop) (ht0 : TakC b s d x 92 r r1 false) (hi1 : ItmC b s d x false 0 r1 r3 Q false) :
    Calls Tryz.prog 228 #[.pointer (some ⟨b, 0, none⟩)] w fun e w' => (∃ x0 x1 x2 x3 : Nat, e = .returned (.tuple #[wv x0 x1 x2 x3, .bool false])) ∧ StTo w w' b s r3 d x := by
  have hne := h.ne
  have hlt := h.lt
  go_enter Tryz.func228, Tryz.ntmps228
  go_wp2_with (first | (go_at_call 234; refine (hi1 _ g1).mono ?_; rintro e w3 ⟨low, hlow, rfl, g3, hr3'⟩; have hr3 := hr1.trans hr3'; have hzF : w.heap.size + 1 < w3.heap.size := (by have := hr3.size; simp at this; omega); have hltF : w.heap.size < w3.heap.size := (by omega); obtain ⟨d0, d1, d2, d3, dz⟩ := (new2 w).1.of_heap (hr3.block w.heap.size (by simp; omega) hne); have hspan := (new2 w).2.of_heap (hr3.block (w.heap.size + 1) (by simp) (by omega)); obtain ⟨o0, o1, o2, o3, oz⟩ := hspan) | (go_at_call 121; refine (ht0 _ ((h.alloc _).alloc _)).mono ?_; rintro e w1 ⟨rfl, g1, hr1⟩))
  exact bodyPost_ret (v := .tuple #[wv 0 0 0 0, .bool false]) (by simp [results, Tryz.results228, go_sem, d0, d1, d2, d3]) rfl ⟨⟨0, 0, 0, 0, rfl⟩, (by (repeat first | (with_reducible refine St.setCell ?_ (by first | exact hlt | (simp; done) | (simp; omega)) _) | (with_reducible refine St.alloc ?_ _) | (with_reducible refine St.drew ?_) | (with_reducible refine St.drewN ?_ _)); exact g3), (by (repeat first | (with_reducible refine Rd.setNew ?_ (by first | exact Nat.le_refl _ | (simp; done) | (simp; omega)) _) | (with_reducible refine Rd.alloc ?_ _) | (with_reducible refine Rd.drew ?_) | (with_reducible refine Rd.drewN ?_ _)); exact hr3.under.under)⟩

set_option maxHeartbeats 1000000 in
theorem item_p1 (w : World) (b : Nat) (s : ByteArray) (r r1 r3 r4 : List UInt8) (d x : Int) (h : St w b s r d x) (Q : Nat → Prop) (hQ : ∀ v, Q v → v < 256) (ht0 : TakC b s d x 92 r r1 false) (hi1 : ItmC b s d x false 0 r1 r3 Q true) (ht1 : TakC b s d x 45 r3 r4 false) :
    Calls Tryz.prog 228 #[.pointer (some ⟨b, 0, none⟩)] w fun e w' => (∃ low, Q low ∧ ∃ x0 x1 x2 x3, Wd x0 x1 x2 x3 (inSpan low low) ∧ e = .returned (.tuple #[wv x0 x1 x2 x3, .bool true])) ∧ StTo w w' b s r4 d x := by
  have hne := h.ne
  have hlt := h.lt
  go_enter Tryz.func228, Tryz.ntmps228
  go_wp2_with (first | (go_at_call 235; refine (addSpan_any w4 (w.heap.size + 1) 0 low low (fun _ => false) (hQ _ hlow) (hQ _ hlow) (Z4.set ⟨o0, o1, o2, o3, oz⟩)).mono ?_; rintro e wz ⟨rfl, ⟨y0, y1, y2, y3, hy⟩, hfz⟩; have hzz := hfz.size; have hltz : w.heap.size < wz.heap.size := (by omega); obtain ⟨hwy, p0, p1, p2, p3, pz⟩ := hy; obtain ⟨f0, f1, f2, f3, ff⟩ := Z4.of_heap (w' := wz) ⟨d0, d1, d2, d3, dz⟩ (hfz.block w.heap.size hltF (by omega)); simp only [Nat.zero_add] at p1 p2 p3) | (go_at_call 121; refine (ht1 _ g3).mono ?_; rintro e w4 ⟨rfl, g4, hr4'⟩; have hr4 := hr3.trans hr4'; have hzF : w.heap.size + 1 < w4.heap.size := (by have := hr4.size; simp at this; omega); have hltF : w.heap.size < w4.heap.size := (by omega); obtain ⟨d0, d1, d2, d3, dz⟩ := (new2 w).1.of_heap (hr4.block w.heap.size (by simp; omega) hne); have hspan := (new2 w).2.of_heap (hr4.block (w.heap.size + 1) (by simp) (by omega)); obtain ⟨o0, o1, o2, o3, oz⟩ := hspan) | (go_at_call 234; refine (hi1 _ g1).mono ?_; rintro e w3 ⟨low, hlow, rfl, g3, hr3'⟩; have hr3 := hr1.trans hr3') | (go_at_call 121; refine (ht0 _ ((h.alloc _).alloc _)).mono ?_; rintro e w1 ⟨rfl, g1, hr1⟩))
  have g7 := g4.four hfz (by omega)
  have hr7 := hr4.under.under.four hfz (by omega)
  exact bodyPost_ret (v := .tuple #[wv y0 y1 y2 y3, .bool true]) (by simp [results, Tryz.results228, go_sem, f0, f1, f2, f3]) rfl ⟨⟨low, hlow, y0, y1, y2, y3, hwy.congr (fun n => by simp [orS]), rfl⟩, (by (repeat first | (with_reducible refine St.setCell ?_ (by first | exact hlt | (simp; done) | (simp; omega)) _) | (with_reducible refine St.alloc ?_ _) | (with_reducible refine St.drew ?_) | (with_reducible refine St.drewN ?_ _)); exact g7), (by (repeat first | (with_reducible refine Rd.setNew ?_ (by first | exact Nat.le_refl _ | (simp; done) | (simp; omega)) _) | (with_reducible refine Rd.alloc ?_ _) | (with_reducible refine Rd.drew ?_) | (with_reducible refine Rd.drewN ?_ _)); exact hr7)⟩

set_option maxHeartbeats 1000000 in
theorem item_p2 (w : World) (b : Nat) (s : ByteArray) (r r1 r3 r4 r5 r6 : List UInt8) (d x : Int) (h : St w b s r d x) (Q : Nat → Prop) (Q2 : Nat → Nat → Prop) (tk : Bool) (ht0 : TakC b s d x 92 r r1 false) (hi1 : ItmC b s d x false 0 r1 r3 Q true) (ht1 : TakC b s d x 45 r3 r4 true) (ht2 : TakC b s d x 92 r4 r5 tk) (hi2 : ∀ low : Nat, Q low → ItmC b s d x tk low r5 r6 (Q2 low) false) :
    Calls Tryz.prog 228 #[.pointer (some ⟨b, 0, none⟩)] w fun e w' => (∃ x0 x1 x2 x3 : Nat, e = .returned (.tuple #[wv x0 x1 x2 x3, .bool false])) ∧ StTo w w' b s r6 d x := by
  have hne := h.ne
  have hlt := h.lt
  go_enter Tryz.func228, Tryz.ntmps228
  go_wp2_with (first | (go_at_call 234; refine (hi2 low hlow _ g5).mono ?_; rintro e w6 ⟨high, hhigh, rfl, g6, hr6'⟩; have hr6 := hr5.trans hr6'; have hzF : w.heap.size + 1 < w6.heap.size := (by have := hr6.size; simp at this; omega); have hltF : w.heap.size < w6.heap.size := (by omega); obtain ⟨d0, d1, d2, d3, dz⟩ := (new2 w).1.of_heap (hr6.block w.heap.size (by simp; omega) hne); have hspan := (new2 w).2.of_heap (hr6.block (w.heap.size + 1) (by simp) (by omega)); obtain ⟨o0, o1, o2, o3, oz⟩ := hspan) | (go_at_call 121; refine (ht2 _ g4).mono ?_; rintro e w5 ⟨rfl, g5, hr5'⟩; have hr5 := hr4.trans hr5') | (go_at_call 121; refine (ht1 _ g3).mono ?_; rintro e w4 ⟨rfl, g4, hr4'⟩; have hr4 := hr3.trans hr4') | (go_at_call 234; refine (hi1 _ g1).mono ?_; rintro e w3 ⟨low, hlow, rfl, g3, hr3'⟩; have hr3 := hr1.trans hr3') | (go_at_call 121; refine (ht0 _ ((h.alloc _).alloc _)).mono ?_; rintro e w1 ⟨rfl, g1, hr1⟩))
  exact bodyPost_ret (v := .tuple #[wv 0 0 0 0, .bool false]) (by simp [results, Tryz.results228, go_sem, d0, d1, d2, d3]) rfl ⟨⟨0, 0, 0, 0, rfl⟩, (by (repeat first | (with_reducible refine St.setCell ?_ (by first | exact hlt | (simp; done) | (simp; omega)) _) | (with_reducible refine St.alloc ?_ _) | (with_reducible refine St.drew ?_) | (with_reducible refine St.drewN ?_ _)); exact g6), (by (repeat first | (with_reducible refine Rd.setNew ?_ (by first | exact Nat.le_refl _ | (simp; done) | (simp; omega)) _) | (with_reducible refine Rd.alloc ?_ _) | (with_reducible refine Rd.drew ?_) | (with_reducible refine Rd.drewN ?_ _)); exact hr6.under.under)⟩

set_option maxHeartbeats 1000000 in
theorem item_p3 (w : World) (b : Nat) (s : ByteArray) (r r1 r3 r4 r5 r6 : List UInt8) (d x : Int) (h : St w b s r d x) (Q : Nat → Prop) (Q2 : Nat → Nat → Prop) (tk : Bool) (hQ : ∀ v, Q v → v < 256) (hQ2 : ∀ v, ∀ u, Q2 v u → u < 256) (ht0 : TakC b s d x 92 r r1 false) (hi1 : ItmC b s d x false 0 r1 r3 Q true) (ht1 : TakC b s d x 45 r3 r4 true) (ht2 : TakC b s d x 92 r4 r5 tk) (hi2 : ∀ low : Nat, Q low → ItmC b s d x tk low r5 r6 (Q2 low) true) :
    Calls Tryz.prog 228 #[.pointer (some ⟨b, 0, none⟩)] w fun e w' => (∃ low, Q low ∧ ∃ high, Q2 low high ∧ ∃ x0 x1 x2 x3, Wd x0 x1 x2 x3 (inSpan low high) ∧ e = .returned (.tuple #[wv x0 x1 x2 x3, .bool true])) ∧ StTo w w' b s r6 d x := by
  have hne := h.ne
  have hlt := h.lt
  go_enter Tryz.func228, Tryz.ntmps228
  go_wp2_with (first | (go_at_call 235; refine (addSpan_any w6 (w.heap.size + 1) 0 low high (fun _ => false) (hQ2 _ _ hhigh) (hQ _ hlow) (Z4.set ⟨o0, o1, o2, o3, oz⟩)).mono ?_; rintro e wz ⟨rfl, ⟨y0, y1, y2, y3, hy⟩, hfz⟩; have hzz := hfz.size; have hltz : w.heap.size < wz.heap.size := (by omega); obtain ⟨hwy, p0, p1, p2, p3, pz⟩ := hy; obtain ⟨f0, f1, f2, f3, ff⟩ := Z4.of_heap (w' := wz) ⟨d0, d1, d2, d3, dz⟩ (hfz.block w.heap.size hltF (by omega)); simp only [Nat.zero_add] at p1 p2 p3) | (go_at_call 234; refine (hi2 low hlow _ g5).mono ?_; rintro e w6 ⟨high, hhigh, rfl, g6, hr6'⟩; have hr6 := hr5.trans hr6'; have hzF : w.heap.size + 1 < w6.heap.size := (by have := hr6.size; simp at this; omega); have hltF : w.heap.size < w6.heap.size := (by omega); obtain ⟨d0, d1, d2, d3, dz⟩ := (new2 w).1.of_heap (hr6.block w.heap.size (by simp; omega) hne); have hspan := (new2 w).2.of_heap (hr6.block (w.heap.size + 1) (by simp) (by omega)); obtain ⟨o0, o1, o2, o3, oz⟩ := hspan) | (go_at_call 121; refine (ht2 _ g4).mono ?_; rintro e w5 ⟨rfl, g5, hr5'⟩; have hr5 := hr4.trans hr5') | (go_at_call 121; refine (ht1 _ g3).mono ?_; rintro e w4 ⟨rfl, g4, hr4'⟩; have hr4 := hr3.trans hr4') | (go_at_call 234; refine (hi1 _ g1).mono ?_; rintro e w3 ⟨low, hlow, rfl, g3, hr3'⟩; have hr3 := hr1.trans hr3') | (go_at_call 121; refine (ht0 _ ((h.alloc _).alloc _)).mono ?_; rintro e w1 ⟨rfl, g1, hr1⟩))
  have g7 := g6.four hfz (by omega)
  have hr7 := hr6.under.under.four hfz (by omega)
  exact bodyPost_ret (v := .tuple #[wv y0 y1 y2 y3, .bool true]) (by simp [results, Tryz.results228, go_sem, f0, f1, f2, f3]) rfl ⟨⟨low, hlow, high, hhigh, y0, y1, y2, y3, hwy.congr (fun n => by simp [orS]), rfl⟩, (by (repeat first | (with_reducible refine St.setCell ?_ (by first | exact hlt | (simp; done) | (simp; omega)) _) | (with_reducible refine St.alloc ?_ _) | (with_reducible refine St.drew ?_) | (with_reducible refine St.drewN ?_ _)); exact g7), (by (repeat first | (with_reducible refine Rd.setNew ?_ (by first | exact Nat.le_refl _ | (simp; done) | (simp; omega)) _) | (with_reducible refine Rd.alloc ?_ _) | (with_reducible refine Rd.drew ?_) | (with_reducible refine Rd.drewN ?_ _)); exact hr7)⟩

end Go.Proofs.YtbjabpodkaokjaaGreatDoor.Sx

namespace Go.Proofs.YtbjabpodkaokjaaGreatDoor.Sx
open Go.RowKit

/-- What is left behind a look for c. -/
def tkR (c : UInt8) : List UInt8 → List UInt8
  | a :: t => if a = c then t else a :: t
  | [] => []
def tkB (c : UInt8) : List UInt8 → Bool
  | a :: _ => a == c
  | [] => false
theorem take_any (b : Nat) (s : ByteArray) (d x : Int) (c : UInt8) (r : List UInt8) : TakC b s d x c.toNat r (tkR c r) (tkB c r) := by
  intro w h
  match r with
  | [] => exact take_n w b s d x h _
  | a :: t =>
    by_cases e : a = c
    · subst e
      simp only [tkR, tkB, if_true, beq_self_eq_true]
      exact take_c w b s a t d x h _ rfl
    · have e' : (a == c) = false := by simpa using e
      simp only [tkR, tkB, e, if_false, e']
      exact take_x w b s a t d x h _ (u8_int e)
theorem itm_t (b : Nat) (s : ByteArray) (d x : Int) (l : Nat) (hl : l < 256) (r : List UInt8) : ItmC b s d x true l r (pByteEscape l r).rest (qOf (pByteEscape l r)) (pByteEscape l r).isOk :=
  fun w hw => (itemByte_t w b s r d x l hl hw).mono fun _ _ g => g.q
theorem itm_f (b : Nat) (s : ByteArray) (d x : Int) (l : Nat) (hl : l < 256) (r : List UInt8) : ItmC b s d x false l r (pPlainItem l r).rest (qOf (pPlainItem l r)) (pPlainItem l r).isOk :=
  fun w hw => (itemByte_f w b s r d x l hl hw).mono fun _ _ g => g.q
/-- A byte of a class, behind a look for its backslash. -/
theorem itm_any (b : Nat) (s : ByteArray) (d x : Int) (l : Nat) (hl : l < 256) (r : List UInt8) : ItmC b s d x (tkB 92 r) l (tkR 92 r) (pItemByte l r).rest (qOf (pItemByte l r)) (pItemByte l r).isOk := by
  match r with
  | [] => exact itm_f b s d x l hl []
  | a :: t =>
    by_cases e : a = 92
    · subst e; exact itm_t b s d x l hl t
    · have e' : (a == 92) = false := by simpa using e
      have e2 : pItemByte l (a :: t) = pPlainItem l (a :: t) := by
        unfold pItemByte
        split
        · rename_i h; injection h with h1 h2; exact absurd h1 e
        · rfl
      simp only [tkR, tkB, e, if_false, e', e2]
      exact itm_f b s d x l hl (a :: t)
theorem pRange_no (low : Nat) (r : List UInt8) (h : tkB 45 r = false) : pRange low r = .ok (inSpan low low) r ∧ tkR 45 r = r := by
  match r with
  | [] => exact ⟨rfl, rfl⟩
  | a :: t =>
    have e : a ≠ 45 := by simpa [tkB] using h
    constructor
    · unfold pRange
      split
      · rename_i h; injection h with h1 h2; exact absurd h1 e
      · rfl
    · simp [tkR, e]
theorem pRange_yes (low : Nat) (r : List UInt8) (h : tkB 45 r = true) : pRange low r = (match pItemByte low (tkR 45 r) with | .ok high r' => .ok (inSpan low high) r' | .bad r' => .bad r') := by
  match r with
  | [] => simp [tkB] at h
  | a :: t =>
    have e : a = 45 := by simpa [tkB] using h
    subst e
    rfl
theorem pItem_esc (t : List UInt8) : pItem (92 :: t) = (match pSetEsc t with
    | .ok S r => .ok S r
    | .bad _ => match pByteEscape 0 t with | .ok low r => pRange low r | .bad r => .bad r) := by
  match t with
  | [] => rfl
  | c :: t' =>
    simp only [pItem, pSetEsc]
    cases escSet c <;> rfl
theorem pItemByte_plain (l : Nat) (a : UInt8) (t : List UInt8) (e : a ≠ 92) : pItemByte l (a :: t) = pPlainItem l (a :: t) := by
  unfold pItemByte
  split
  · rename_i h; injection h with h1 h2; exact absurd h1 e
  · rfl
theorem pItem_plain (r : List UInt8) (h : tkB 92 r = false) : pItem r = (match pPlainItem 0 r with | .ok low r' => pRange low r' | .bad r' => .bad r') ∧ tkR 92 r = r := by
  match r with
  | [] => exact ⟨rfl, rfl⟩
  | a :: t =>
    have e : a ≠ 92 := by simpa [tkB] using h
    constructor
    · unfold pItem
      split
      · rename_i h; injection h with h1 h2; exact absurd h1 e
      · rw [pItemByte_plain 0 a t e]; cases pPlainItem 0 (a :: t) <;> rfl
    · simp [tkR, e]

theorem qOf_lt {R : Res Nat} (h : R.isOk = true) (v : Nat) (hv : qOf R v) : v < 256 := by
  cases R with
  | ok u r => obtain ⟨rfl, h⟩ := hv; exact h
  | bad r => simp [Res.isOk] at h

theorem item_any (w : World) (b : Nat) (s : ByteArray) (r : List UInt8) (d x : Int) (h : St w b s r d x) :
    Calls Tryz.prog 228 #[.pointer (some ⟨b, 0, none⟩)] w fun e w' => SetRes w w' b s d x e (pItem r) := by
  have ht0 := take_any b s d x 92 r
  cases hk : tkB 92 r with
  | true =>
    obtain ⟨t, rfl⟩ : ∃ t, r = 92 :: t := by
      match r, hk with
      | a :: t, hk => exact ⟨t, by have : a = 92 := by simpa [tkB] using hk
                                   rw [this]⟩
    rw [hk] at ht0
    have e0 : tkR 92 (92 :: t) = t := rfl
    rw [e0] at ht0
    rw [pItem_esc]
    cases hS : pSetEsc t with
    | ok S r2 =>
      refine (item_A w b s (92 :: t) t r2 d x h (fun x0 x1 x2 x3 => Wd x0 x1 x2 x3 S) ht0 (fun w hw => (setEscape_any w b s t d x hw).mono fun e w' g => ?_)).mono fun e w' g => g
      rw [hS] at g; exact g
    | bad r2 =>
      have hr2 : r2 = t := by
        match t, hS with
        | [], hS => injection hS with e; exact e.symm
        | c :: t', hS =>
          simp only [pSetEsc] at hS
          cases hE : escSet c with
          | none => rw [hE] at hS; injection hS with e; exact e.symm
          | some S' => rw [hE] at hS; simp at hS
      subst hr2
      have hs1 : SetC b s d x r2 r2 (fun _ _ _ _ => True) false := fun w hw => (setEscape_any w b s r2 d x hw).mono fun e w' g => by
        rw [hS] at g; obtain ⟨⟨x0, x1, x2, x3, g⟩, g'⟩ := g; exact ⟨⟨x0, x1, x2, x3, trivial, g⟩, g'⟩
      have hi1 := itm_t b s d x 0 (by omega) r2
      simp only
      cases hB : pByteEscape 0 r2 with
      | bad r3 =>
        rw [hB] at hi1
        exact (item_e0 w b s (92 :: r2) r2 r2 r3 d x h _ _ ht0 hs1 hi1).mono fun e w' g => g
      | ok low r3 =>
        rw [hB] at hi1
        have ht1 := take_any b s d x 45 r3
        simp only
        cases hm : tkB 45 r3 with
        | false =>
          obtain ⟨p1, p2⟩ := pRange_no low r3 hm
          rw [hm, p2] at ht1
          rw [p1]
          refine (item_e1 w b s (92 :: r2) r2 r2 r3 r3 d x h _ (fun v hv => qOf_lt (R := .ok low r3) rfl v hv) _ ht0 hs1 hi1 ht1).mono fun e w' g => ?_
          obtain ⟨⟨u, ⟨rfl, hu⟩, g⟩, g'⟩ := g
          exact ⟨g, g'⟩
        | true =>
          rw [hm] at ht1
          rw [pRange_yes low r3 hm]
          have ht2 := take_any b s d x 92 (tkR 45 r3)
          have hi2 : ∀ l : Nat, qOf (.ok low r3) l → ItmC b s d x (tkB 92 (tkR 45 r3)) l (tkR 92 (tkR 45 r3)) (pItemByte low (tkR 45 r3)).rest ((fun _ => qOf (pItemByte low (tkR 45 r3))) l) (pItemByte low (tkR 45 r3)).isOk := by
            rintro l ⟨rfl, hl⟩; exact itm_any b s d x l hl _
          cases hI : pItemByte low (tkR 45 r3) with
          | bad r6 =>
            rw [hI] at hi2
            exact (item_e2 w b s (92 :: r2) r2 r2 r3 _ _ r6 d x h _ _ _ _ ht0 hs1 hi1 ht1 ht2 hi2).mono fun e w' g => g
          | ok high r6 =>
            rw [hI] at hi2
            refine (item_e3 w b s (92 :: r2) r2 r2 r3 _ _ r6 d x h _ _ _ (fun v hv => qOf_lt (R := .ok low r3) rfl v hv) (fun v u hu => qOf_lt (R := .ok high r6) rfl u hu) _ ht0 hs1 hi1 ht1 ht2 hi2).mono fun e w' g => ?_
            obtain ⟨⟨u, ⟨rfl, hu⟩, v, ⟨rfl, hv⟩, g⟩, g'⟩ := g
            exact ⟨g, g'⟩
  | false =>
    obtain ⟨e1, e2⟩ := pItem_plain r hk
    rw [hk, e2] at ht0
    rw [e1]
    have hi1 := itm_f b s d x 0 (by omega) r
    cases hB : pPlainItem 0 r with
    | bad r3 =>
      rw [hB] at hi1
      exact (item_p0 w b s r r r3 d x h _ ht0 hi1).mono fun e w' g => g
    | ok low r3 =>
      rw [hB] at hi1
      have ht1 := take_any b s d x 45 r3
      simp only
      cases hm : tkB 45 r3 with
      | false =>
        obtain ⟨p1, p2⟩ := pRange_no low r3 hm
        rw [hm, p2] at ht1
        rw [p1]
        refine (item_p1 w b s r r r3 r3 d x h _ (fun v hv => qOf_lt (R := .ok low r3) rfl v hv) ht0 hi1 ht1).mono fun e w' g => ?_
        obtain ⟨⟨u, ⟨rfl, hu⟩, g⟩, g'⟩ := g
        exact ⟨g, g'⟩
      | true =>
        rw [hm] at ht1
        rw [pRange_yes low r3 hm]
        have ht2 := take_any b s d x 92 (tkR 45 r3)
        have hi2 : ∀ l : Nat, qOf (.ok low r3) l → ItmC b s d x (tkB 92 (tkR 45 r3)) l (tkR 92 (tkR 45 r3)) (pItemByte low (tkR 45 r3)).rest ((fun _ => qOf (pItemByte low (tkR 45 r3))) l) (pItemByte low (tkR 45 r3)).isOk := by
          rintro l ⟨rfl, hl⟩; exact itm_any b s d x l hl _
        cases hI : pItemByte low (tkR 45 r3) with
        | bad r6 =>
          rw [hI] at hi2
          exact (item_p2 w b s r r r3 _ _ r6 d x h _ _ _ ht0 hi1 ht1 ht2 hi2).mono fun e w' g => g
        | ok high r6 =>
          rw [hI] at hi2
          refine (item_p3 w b s r r r3 _ _ r6 d x h _ _ _ (fun v hv => qOf_lt (R := .ok low r3) rfl v hv) (fun v u hu => qOf_lt (R := .ok high r6) rfl u hu) ht0 hi1 ht1 ht2 hi2).mono fun e w' g => ?_
          obtain ⟨⟨u, ⟨rfl, hu⟩, v, ⟨rfl, hv⟩, g⟩, g'⟩ := g
          exact ⟨g, g'⟩
end Go.Proofs.YtbjabpodkaokjaaGreatDoor.Sx
