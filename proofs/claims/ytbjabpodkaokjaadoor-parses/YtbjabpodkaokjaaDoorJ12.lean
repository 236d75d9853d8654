import Derived.Test.YtbjabpodkaokjaaDoorJ11
import Derived.Deep.RegionWith
set_option linter.unusedVariables false
set_option linter.unusedSimpArgs false
namespace Go.Proofs.YtbjabpodkaokjaaDoor
open Go.RowKit

abbrev HexC (b : Nat) (s : ByteArray) (d x : Int) (l : Int) (r : List UInt8) (P : Ending → World → World → Prop) : Prop :=
  ∀ w, St w b s r d x → Calls Tryd.prog 81 #[.pointer (some ⟨b, 0, none⟩), .int .u8 l] w fun e w' => P e w w'

set_option maxHeartbeats 400000 in
theorem hexByte_1 (w : World) (b : Nat) (s : ByteArray) (r r' : List UInt8) (d x : Int) (least : Nat) (hl : least < 256) (h : St w b s r d x)
    (h1 : HexC b s d x ((least : Int) / 16) r fun e w w' => ∃ v : Nat, e = .returned (.tuple #[.int .u8 v, .bool false]) ∧ StTo w w' b s r' d x) :
    Calls Tryd.prog 74 #[.pointer (some ⟨b, 0, none⟩), .int .u8 least] w fun e w' => ∃ v : Nat, e = .returned (.tuple #[.int .u8 v, .bool false]) ∧ StTo w w' b s r' d x := by
  go_enter Tryd.func74, Tryd.ntmps74
  go_wp2_with (go_at_call 81; refine (h1 _ h).mono ?_; rintro e w1 ⟨v, rfl, h1'⟩)
  go_ret2
  exact ⟨0, rfl, h1'⟩

set_option maxHeartbeats 400000 in
theorem hexByte_2 (w : World) (b : Nat) (s : ByteArray) (r r' r'' : List UInt8) (d x : Int) (least high low : Nat) (ok : Bool) (hl : least < 256) (h : St w b s r d x) (hh : high < 16) (hlw : low < 16)
    (h1 : HexC b s d x ((least : Int) / 16) r fun e w w' => e = .returned (.tuple #[.int .u8 high, .bool true]) ∧ StTo w w' b s r' d x)
    (hc : (least : Int) / 16 < high)
    (h2 : HexC b s d x 0 r' fun e w w' => e = .returned (.tuple #[.int .u8 low, .bool ok]) ∧ StTo w w' b s r'' d x) :
    Calls Tryd.prog 74 #[.pointer (some ⟨b, 0, none⟩), .int .u8 least] w fun e w' => e = .returned (.tuple #[.int .u8 (high * 16 + low : Nat), .bool ok]) ∧ StTo w w' b s r'' d x := by
  go_enter Tryd.func74, Tryd.ntmps74
  go_wp2_with (first | (go_at_call 81; refine (h2 _ h1'.1).mono ?_; rintro e w2 ⟨rfl, h2'⟩) | (go_at_call 81; refine (h1 _ h).mono ?_; rintro e w1 ⟨rfl, h1'⟩))
  go_ret2
  exact ⟨by simp [Int.natCast_add, Int.natCast_mul], h1'.trans h2'⟩

set_option maxHeartbeats 400000 in
theorem hexByte_3 (w : World) (b : Nat) (s : ByteArray) (r r' r'' : List UInt8) (d x : Int) (least high low : Nat) (ok : Bool) (hl : least < 256) (h : St w b s r d x) (hh : high < 16) (hlw : low < 16)
    (h1 : HexC b s d x ((least : Int) / 16) r fun e w w' => e = .returned (.tuple #[.int .u8 high, .bool true]) ∧ StTo w w' b s r' d x)
    (hc : ¬ (least : Int) / 16 < high)
    (h2 : HexC b s d x ((least : Int) % 16) r' fun e w w' => e = .returned (.tuple #[.int .u8 low, .bool ok]) ∧ StTo w w' b s r'' d x) :
    Calls Tryd.prog 74 #[.pointer (some ⟨b, 0, none⟩), .int .u8 least] w fun e w' => e = .returned (.tuple #[.int .u8 (high * 16 + low : Nat), .bool ok]) ∧ StTo w w' b s r'' d x := by
  go_enter Tryd.func74, Tryd.ntmps74
  go_wp2_with (first | (go_at_call 81; refine (h2 _ h1'.1).mono ?_; rintro e w2 ⟨rfl, h2'⟩) | (go_at_call 81; refine (h1 _ h).mono ?_; rintro e w1 ⟨rfl, h1'⟩))
  go_ret2
  exact ⟨by simp [Int.natCast_add, Int.natCast_mul], h1'.trans h2'⟩
theorem hexByte_any (w : World) (b : Nat) (s : ByteArray) (r : List UInt8) (d x : Int) (least : Nat) (hl : least < 256) (h : St w b s r d x) :
    Calls Tryd.prog 74 #[.pointer (some ⟨b, 0, none⟩), .int .u8 least] w fun e w' => ByteRes w w' b s d x e (pHexByte least r) := by
  have h1 := fun w h => hexSign_any w b s r d x (least / 16) (by omega) h
  have hlt1 := hexSign_lt (least / 16) r
  have q : ((least / 16 : Nat) : Int) = (least : Int) / 16 := by omega
  have q2 : ((least % 16 : Nat) : Int) = (least : Int) % 16 := by omega
  rw [q] at h1
  unfold pHexByte
  cases hR : pHexSign (least / 16) r with
  | bad r' =>
    rw [hR] at h1
    refine (hexByte_1 w b s r r' d x least hl h (fun w hw => (h1 w hw).mono fun e w' g => ⟨0, g⟩)).mono ?_
    exact fun e w' g => g
  | ok high r' =>
    rw [hR] at h1 hlt1
    simp only [Res.val0, Res.isOk, Res.rest] at h1 hlt1
    by_cases hc : least / 16 < high
    · have h2 := fun w h => hexSign_any w b s r' d x 0 (by omega) h
      have hlt2 := hexSign_lt 0 r'
      simp only [hc, if_true, Nat.zero_mod]
      refine (hexByte_2 w b s r r' _ d x least high _ _ hl h hlt1 hlt2 h1 (by omega) h2).mono ?_
      intro e w' g
      cases hR2 : pHexSign 0 r' with
      | bad r'' => rw [hR2] at g; exact ⟨_, g⟩
      | ok low r'' => rw [hR2] at g hlt2; exact ⟨g.1, by simp only [Res.val0] at hlt2; omega, g.2⟩
    · have h2 := fun w h => hexSign_any w b s r' d x (least % 16) (by omega) h
      have hlt2 := hexSign_lt (least % 16) r'
      rw [q2] at h2
      simp only [hc, if_false]
      refine (hexByte_3 w b s r r' _ d x least high _ _ hl h hlt1 hlt2 h1 (by omega) h2).mono ?_
      intro e w' g
      cases hR2 : pHexSign (least % 16) r' with
      | bad r'' => rw [hR2] at g; exact ⟨_, g⟩
      | ok low r'' => rw [hR2] at g hlt2; exact ⟨g.1, by simp only [Res.val0] at hlt2; omega, g.2⟩
end Go.Proofs.YtbjabpodkaokjaaDoor

namespace Go.Proofs.YtbjabpodkaokjaaDoor
open Go.RowKit

theorem escB_eq (c : UInt8) : escB c.toNat = (escByte c).map fun n => (n : Int) := by
  have H : ((List.range 256).all fun n => (fun c : UInt8 => escB c.toNat == (escByte c).map fun n => (n : Int)) (UInt8.ofNat n)) = true := by kernel_rfl
  exact eq_of_beq (all256 (fun c : UInt8 => escB c.toNat == (escByte c).map fun n => (n : Int)) H c)
theorem escByte_lt (c : UInt8) : ((escByte c).getD 0) < 256 := by
  have H : ((List.range 256).all fun n => (fun c : UInt8 => decide ((escByte c).getD 0 < 256)) (UInt8.ofNat n)) = true := by kernel_rfl
  exact of_decide_eq_true (all256 (fun c : UInt8 => decide ((escByte c).getD 0 < 256)) H c)
theorem u8_le (c : UInt8) : (c.toNat : Int) ≤ 255 := by have := c.toNat_lt; omega
theorem escapedByte_c (c : UInt8) (w : World) (hT : Tabs w) :
    Calls Tryd.prog 75 #[.int .u8 c.toNat] w fun e w' => e = .returned (.tuple #[.int .u8 ((escByte c).getD 0 : Nat), .bool (escByte c).isSome]) ∧ Below w.heap.size w w' := by
  refine (escapedByte_any c.toNat w hT (by omega) (u8_le c)).mono ?_
  rintro e w' ⟨he, hb⟩
  refine ⟨?_, hb⟩
  rw [he, escB_eq]
  cases escByte c <;> rfl

set_option maxHeartbeats 400000 in
theorem byteEscape_n (w : World) (b : Nat) (s : ByteArray) (d x : Int) (least : Nat) (hl : least < 256) (h : St w b s [] d x) :
    Calls Tryd.prog 68 #[.pointer (some ⟨b, 0, none⟩), .int .u8 least] w fun e w' => e = .returned (.tuple #[.int .u8 0, .bool false]) ∧ StTo w w' b s [] d x := by
  go_enter Tryd.func68, Tryd.ntmps68
  go_wp2_with (first | (go_at_call 31; refine (peek_n _ b s d x h1.1).mono ?_; rintro e w2 ⟨rfl, h2⟩) | (go_at_call 18; refine (take_n _ b s d x h _).mono ?_; rintro e w1 ⟨rfl, h1⟩))
  go_ret2
  exact ⟨rfl, h1.trans h2⟩

set_option maxHeartbeats 400000 in
theorem byteEscape_x (w : World) (b : Nat) (s : ByteArray) (t : List UInt8) (d x : Int) (least : Nat) (hl : least < 256) (h : St w b s (120 :: t) d x) (Q : Nat → Prop) (ok : Bool) (r' : List UInt8)
    (h1 : ∀ w, St w b s t d x → Calls Tryd.prog 74 #[.pointer (some ⟨b, 0, none⟩), .int .u8 least] w fun e w' => ∃ v : Nat, Q v ∧ e = .returned (.tuple #[.int .u8 v, .bool ok]) ∧ StTo w w' b s r' d x) :
    Calls Tryd.prog 68 #[.pointer (some ⟨b, 0, none⟩), .int .u8 least] w fun e w' => ∃ v : Nat, Q v ∧ e = .returned (.tuple #[.int .u8 v, .bool ok]) ∧ StTo w w' b s r' d x := by
  go_enter Tryd.func68, Tryd.ntmps68
  go_wp2_with (first | (go_at_call 74; refine (h1 _ g1.1).mono ?_; rintro e w2 ⟨v, hv, rfl, g2⟩) | (go_at_call 18; refine (take_c _ b s 120 t d x h 120 rfl).mono ?_; rintro e w1 ⟨rfl, g1⟩))
  go_ret2
  exact ⟨_, hv, rfl, g1.trans g2⟩

abbrev EscC (c : UInt8) (v : Nat) (ok : Bool) : Prop :=
  ∀ w, Tabs w → Calls Tryd.prog 75 #[.int .u8 c.toNat] w fun e w' => e = .returned (.tuple #[.int .u8 v, .bool ok]) ∧ Below w.heap.size w w'

set_option maxHeartbeats 400000 in
theorem byteEscape_e1 (w : World) (b : Nat) (s : ByteArray) (c : UInt8) (t : List UInt8) (d x : Int) (least : Nat) (hl : least < 256) (h : St w b s (c :: t) d x) (hc : (c.toNat : Int) ≠ 120) (h3 : EscC c 0 false) :
    Calls Tryd.prog 68 #[.pointer (some ⟨b, 0, none⟩), .int .u8 least] w fun e w' => e = .returned (.tuple #[.int .u8 0, .bool false]) ∧ StTo w w' b s (c :: t) d x := by
  go_enter Tryd.func68, Tryd.ntmps68
  go_wp2_with (first | (go_at_call 75; refine (h3 _ h2.1.tb).mono ?_; rintro e w3 ⟨rfl, hb3⟩) | (go_at_call 31; refine (peek_c _ b s c t d x h1.1).mono ?_; rintro e w2 ⟨rfl, h2⟩) | (go_at_call 18; refine (take_x _ b s c t d x h _ (by simpa using hc)).mono ?_; rintro e w1 ⟨rfl, h1⟩))
  go_ret2
  exact ⟨rfl, h2.1.below hb3, (h1.trans h2).2.trans (Rd.of_below hb3)⟩

set_option maxHeartbeats 400000 in
theorem byteEscape_e2 (w : World) (b : Nat) (s : ByteArray) (c : UInt8) (t : List UInt8) (d x : Int) (least v : Nat) (hl : least < 256) (h : St w b s (c :: t) d x) (hc : (c.toNat : Int) ≠ 120) (h3 : EscC c v true) (hv : (v : Int) < least) :
    Calls Tryd.prog 68 #[.pointer (some ⟨b, 0, none⟩), .int .u8 least] w fun e w' => e = .returned (.tuple #[.int .u8 0, .bool false]) ∧ StTo w w' b s (c :: t) d x := by
  go_enter Tryd.func68, Tryd.ntmps68
  go_wp2_with (first | (go_at_call 75; refine (h3 _ h2.1.tb).mono ?_; rintro e w3 ⟨rfl, hb3⟩) | (go_at_call 31; refine (peek_c _ b s c t d x h1.1).mono ?_; rintro e w2 ⟨rfl, h2⟩) | (go_at_call 18; refine (take_x _ b s c t d x h _ (by simpa using hc)).mono ?_; rintro e w1 ⟨rfl, h1⟩))
  go_ret2
  exact ⟨rfl, h2.1.below hb3, (h1.trans h2).2.trans (Rd.of_below hb3)⟩

set_option maxHeartbeats 400000 in
theorem byteEscape_e3 (w : World) (b : Nat) (s : ByteArray) (c : UInt8) (t : List UInt8) (d x : Int) (least v : Nat) (hl : least < 256) (h : St w b s (c :: t) d x) (hc : (c.toNat : Int) ≠ 120) (h3 : EscC c v true) (hv : ¬ (v : Int) < least) :
    Calls Tryd.prog 68 #[.pointer (some ⟨b, 0, none⟩), .int .u8 least] w fun e w' => e = .returned (.tuple #[.int .u8 v, .bool true]) ∧ StTo w w' b s t d x := by
  go_enter Tryd.func68, Tryd.ntmps68
  go_wp2_with (first | (go_at_call 75; refine (h3 _ h2.1.tb).mono ?_; rintro e w3 ⟨rfl, hb3⟩; have h4 := h2.1.below hb3; obtain ⟨k, hk, k1, k2, kk⟩ := h4.open) | (go_at_call 31; refine (peek_c _ b s c t d x h1.1).mono ?_; rintro e w2 ⟨rfl, h2⟩) | (go_at_call 18; refine (take_x _ b s c t d x h _ (by simpa using hc)).mono ?_; rintro e w1 ⟨rfl, h1⟩))
  go_ret2
  exact ⟨rfl, kk _ ((h1.trans h2).2.trans (Rd.of_below hb3))⟩

theorem byteEscape_any (w : World) (b : Nat) (s : ByteArray) (r : List UInt8) (d x : Int) (least : Nat) (hl : least < 256) (h : St w b s r d x) :
    Calls Tryd.prog 68 #[.pointer (some ⟨b, 0, none⟩), .int .u8 least] w fun e w' => ByteRes w w' b s d x e (pByteEscape least r) := by
  match r with
  | [] => exact (byteEscape_n w b s d x least hl h).mono fun e w' g => ⟨0, g⟩
  | c :: t =>
    by_cases hc : c = 120
    · subst hc
      simp only [pByteEscape, if_true]
      cases hR : pHexByte least t with
      | bad r' =>
        refine (byteEscape_x w b s t d x least hl h (fun _ => True) false r' (fun w hw => (hexByte_any w b s t d x least hl hw).mono fun e w' g => ?_)).mono ?_
        · rw [hR] at g; obtain ⟨v, g⟩ := g; exact ⟨v, trivial, g⟩
        · rintro e w' ⟨v, -, g⟩; exact ⟨v, g⟩
      | ok v0 r' =>
        refine (byteEscape_x w b s t d x least hl h (fun v => v = v0 ∧ v0 < 256) true r' (fun w hw => (hexByte_any w b s t d x least hl hw).mono fun e w' g => ?_)).mono ?_
        · rw [hR] at g; exact ⟨v0, ⟨rfl, g.2.1⟩, g.1, g.2.2⟩
        · rintro e w' ⟨v, ⟨rfl, hv⟩, g⟩; exact ⟨g.1, hv, g.2⟩
    · have hc' : (c.toNat : Int) ≠ 120 := u8_int (b := 120) hc
      have h3 := fun w hw => escapedByte_c c w hw
      have hlt := escByte_lt c
      simp only [pByteEscape, hc, if_false]
      cases hE : escByte c with
      | none =>
        rw [hE] at h3
        exact (byteEscape_e1 w b s c t d x least hl h hc' h3).mono fun e w' g => ⟨0, g⟩
      | some v =>
        rw [hE] at h3 hlt
        simp only [Option.getD_some] at hlt
        by_cases hv : v < least
        · simp only [hv, if_true]
          exact (byteEscape_e2 w b s c t d x least v hl h hc' h3 (by omega)).mono fun e w' g => ⟨0, g⟩
        · simp only [hv, if_false]
          exact (byteEscape_e3 w b s c t d x least v hl h hc' h3 (by omega)).mono fun e w' g => ⟨g.1, hlt, g.2⟩
end Go.Proofs.YtbjabpodkaokjaaDoor

namespace Go.Proofs.YtbjabpodkaokjaaDoor
open Go.RowKit

set_option maxHeartbeats 400000 in
theorem itemByte_t0 (w : World) (b : Nat) (s : ByteArray) (r r' : List UInt8) (d x : Int) (least : Nat) (hl : least < 256) (h : St w b s r d x) (Q : Nat → Prop) (ok : Bool)
    (h1 : ∀ w, St w b s r d x → Calls Tryd.prog 68 #[.pointer (some ⟨b, 0, none⟩), .int .u8 least] w fun e w' => ∃ v : Nat, Q v ∧ e = .returned (.tuple #[.int .u8 v, .bool ok]) ∧ StTo w w' b s r' d x) :
    Calls Tryd.prog 71 #[.pointer (some ⟨b, 0, none⟩), .bool true, .int .u8 least] w fun e w' => ∃ v : Nat, Q v ∧ e = .returned (.tuple #[.int .u8 v, .bool ok]) ∧ StTo w w' b s r' d x := by
  go_enter Tryd.func71, Tryd.ntmps71
  go_wp2_with (go_at_call 68; refine (h1 _ h).mono ?_; rintro e w2 ⟨v, hv, rfl, g2⟩)
  go_ret2
  exact ⟨_, hv, rfl, g2⟩
/-- A reading's contract, in the form that hands the value's property on. -/
def qOf : Res Nat → Nat → Prop
  | .ok v _ => fun u => u = v ∧ v < 256
  | .bad _ => fun _ => True
theorem ByteRes.q {w w' : World} {b : Nat} {s : ByteArray} {d x : Int} {e : Ending} {R : Res Nat} (g : ByteRes w w' b s d x e R) : ∃ v : Nat, qOf R v ∧ e = .returned (.tuple #[.int .u8 v, .bool R.isOk]) ∧ StTo w w' b s R.rest d x := by
  cases R with
  | ok v r => exact ⟨v, ⟨rfl, g.2.1⟩, g.1, g.2.2⟩
  | bad r => obtain ⟨v, g⟩ := g; exact ⟨v, trivial, g⟩
theorem ByteRes.of_q {w w' : World} {b : Nat} {s : ByteArray} {d x : Int} {e : Ending} {R : Res Nat} (g : ∃ v : Nat, qOf R v ∧ e = .returned (.tuple #[.int .u8 v, .bool R.isOk]) ∧ StTo w w' b s R.rest d x) : ByteRes w w' b s d x e R := by
  cases R with
  | ok v r => obtain ⟨u, ⟨rfl, hu⟩, g⟩ := g; exact ⟨g.1, hu, g.2⟩
  | bad r => obtain ⟨v, -, g⟩ := g; exact ⟨v, g⟩
theorem itemByte_t (w : World) (b : Nat) (s : ByteArray) (r : List UInt8) (d x : Int) (least : Nat) (hl : least < 256) (h : St w b s r d x) :
    Calls Tryd.prog 71 #[.pointer (some ⟨b, 0, none⟩), .bool true, .int .u8 least] w fun e w' => ByteRes w w' b s d x e (pByteEscape least r) :=
  (itemByte_t0 w b s r _ d x least hl h _ _ (fun w hw => (byteEscape_any w b s r d x least hl hw).mono fun _ _ g => g.q)).mono fun _ _ g => ByteRes.of_q g

set_option maxHeartbeats 400000 in
theorem itemByte_f (w : World) (b : Nat) (s : ByteArray) (r : List UInt8) (d x : Int) (least : Nat) (hl : least < 256) (h : St w b s r d x) :
    Calls Tryd.prog 71 #[.pointer (some ⟨b, 0, none⟩), .bool false, .int .u8 least] w fun e w' => ByteRes w w' b s d x e (pPlainItem least r) := by
  match r with
  | [] =>
    go_enter Tryd.func71, Tryd.ntmps71
    go_wp2_with (go_at_call 31; refine (peek_n _ b s d x h).mono ?_; rintro e w2 ⟨rfl, h2⟩)
    go_ret2
    exact ⟨0, rfl, h2⟩
  | c :: t =>
    by_cases hlt : c.toNat < least
    · have hlt' : (c.toNat : Int) < least := by omega
      have HR : Hid (pPlainItem least (c :: t) = .bad (c :: t)) := by show _ = _; simp only [pPlainItem, hlt, if_true]
      go_enter Tryd.func71, Tryd.ntmps71
      go_wp2_with (go_at_call 31; refine (peek_c _ b s c t d x h).mono ?_; rintro e w2 ⟨rfl, h2⟩)
      go_ret2
      rw [HR.out]
      exact ⟨0, rfl, h2⟩
    · have hlt' : ¬ (c.toNat : Int) < least := by omega
      by_cases hs : c = 92 ∨ c = 91 ∨ c = 93 ∨ c = 94 ∨ c = 45
      · have HR : Hid (pPlainItem least (c :: t) = .bad (c :: t)) := by show _ = _; simp only [pPlainItem, hlt, hs, if_true, if_false]
        rcases hs with rfl | rfl | rfl | rfl | rfl
        all_goals
          simp at hlt'
          go_enter Tryd.func71, Tryd.ntmps71
          go_wp2_with (go_at_call 31; refine (peek_c _ b s _ t d x h).mono ?_; rintro e w2 ⟨rfl, h2⟩)
          go_ret2
          rw [HR.out]
          exact ⟨0, rfl, h2⟩
      · have HR : Hid (pPlainItem least (c :: t) = .ok c.toNat t) := by show _ = _; simp only [pPlainItem, hlt, hs, if_false]
        have n1 : ((c.toNat : Int) == 92) = false := by simpa using u8_int (b := 92) (fun e => hs (.inl e))
        have n2 : ((c.toNat : Int) == 91) = false := by simpa using u8_int (b := 91) (fun e => hs (.inr (.inl e)))
        have n3 : ((c.toNat : Int) == 93) = false := by simpa using u8_int (b := 93) (fun e => hs (.inr (.inr (.inl e))))
        have n4 : ((c.toNat : Int) == 94) = false := by simpa using u8_int (b := 94) (fun e => hs (.inr (.inr (.inr (.inl e)))))
        have n5 : ((c.toNat : Int) == 45) = false := by simpa using u8_int (b := 45) (fun e => hs (.inr (.inr (.inr (.inr e)))))
        clear hs
        go_enter Tryd.func71, Tryd.ntmps71
        go_wp2_with (go_at_call 31; refine (peek_c _ b s c t d x h).mono ?_; rintro e w2 ⟨rfl, h2, hr2⟩; obtain ⟨k, hk, k1, k2, kk⟩ := h2.open)
        go_ret2
        rw [HR.out]
        exact ⟨rfl, c.toNat_lt, kk _ hr2⟩
end Go.Proofs.YtbjabpodkaokjaaDoor
