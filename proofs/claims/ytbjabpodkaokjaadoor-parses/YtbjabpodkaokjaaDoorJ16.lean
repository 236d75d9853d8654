import Derived.Test.YtbjabpodkaokjaaDoorJ15
set_option linter.unusedVariables false
set_option linter.unusedSimpArgs false
namespace Go.Proofs.YtbjabpodkaokjaaDoor
open Go.RowKit

theorem class_any (w : World) (b : Nat) (s : ByteArray) (r : List UInt8) (d x : Int) (h : St w b s r d x) :
    Calls Tryd.prog 56 #[.pointer (some ⟨b, 0, none⟩)] w fun e w' => SetRes w w' b s d x e (pClass r) := by
  have ht0 := take_any b s d x 94 r
  match r, h, ht0 with
  | [], h, ht0 => exact (class_false w b s [] [] d x h ht0 _ rfl).mono fun e w' g => g
  | a :: t, h, ht0 =>
    by_cases e : a = 94
    · subst e
      have e2 : pClass (94 :: t) = fin2 true (pItems (t.length + 1) (fun _ => false) t) := by
        simp only [pClass]; cases pItems (t.length + 1) (fun _ => false) t <;> rfl
      rw [e2]
      exact class_true w b s (94 :: t) t d x h ht0 _ rfl
    · have e' : (a == 94) = false := by simpa using e
      simp only [tkB, tkR, e, e', if_false] at ht0
      have e2 : pClass (a :: t) = fin2 false (pItems ((a :: t).length + 1) (fun _ => false) (a :: t)) := by
        unfold pClass
        split
        · rename_i h'; injection h' with h1 _; exact absurd h1 e
        · cases pItems ((a :: t).length + 1) (fun _ => false) (a :: t) <;> rfl
      rw [e2]
      exact class_false w b s (a :: t) (a :: t) d x h ht0 _ rfl

/-- The sign with which a count begins. -/
def cntSign (c : UInt8) : Bool := c == 42 || c == 43 || c == 63 || c == 123
set_option maxHeartbeats 400000 in
theorem countSign_n (w : World) (b : Nat) (s : ByteArray) (d x : Int) (h : St w b s [] d x) :
    Calls Tryd.prog 60 #[.pointer (some ⟨b, 0, none⟩)] w fun e w' => e = .returned (.tuple #[.int .u8 0, .bool false]) ∧ StTo w w' b s [] d x := by
  go_enter Tryd.func60, Tryd.ntmps60
  go_wp2_with (go_at_call 31; refine (peek_n _ b s d x h).mono ?_; rintro e w2 ⟨rfl, h2⟩)
  go_ret2
  exact ⟨rfl, h2⟩
set_option maxHeartbeats 400000 in
theorem countSign_y (w : World) (b : Nat) (s : ByteArray) (c : UInt8) (t : List UInt8) (d x : Int) (h : St w b s (c :: t) d x) (hc : c = 42 ∨ c = 43 ∨ c = 63 ∨ c = 123) :
    Calls Tryd.prog 60 #[.pointer (some ⟨b, 0, none⟩)] w fun e w' => e = .returned (.tuple #[.int .u8 c.toNat, .bool true]) ∧ StTo w w' b s t d x := by
  rcases hc with rfl | rfl | rfl | rfl
  all_goals
    go_enter Tryd.func60, Tryd.ntmps60
    go_wp2_with (go_at_call 31; refine (peek_c _ b s _ t d x h).mono ?_; rintro e w2 ⟨rfl, h2, hr2⟩; obtain ⟨k, hk, k1, k2, kk⟩ := h2.open)
    go_ret2
    exact ⟨rfl, kk _ hr2⟩
set_option maxHeartbeats 400000 in
theorem countSign_x (w : World) (b : Nat) (s : ByteArray) (c : UInt8) (t : List UInt8) (d x : Int) (h : St w b s (c :: t) d x) (h1 : c ≠ 42) (h2 : c ≠ 43) (h3 : c ≠ 63) (h4 : c ≠ 123) :
    Calls Tryd.prog 60 #[.pointer (some ⟨b, 0, none⟩)] w fun e w' => e = .returned (.tuple #[.int .u8 0, .bool false]) ∧ StTo w w' b s (c :: t) d x := by
  have n1 : ((c.toNat : Int) == 42) = false := by simpa using u8_int (b := 42) h1
  have n2 : ((c.toNat : Int) == 43) = false := by simpa using u8_int (b := 43) h2
  have n3 : ((c.toNat : Int) == 63) = false := by simpa using u8_int (b := 63) h3
  have n4 : ((c.toNat : Int) == 123) = false := by simpa using u8_int (b := 123) h4
  go_enter Tryd.func60, Tryd.ntmps60
  go_wp2_with (go_at_call 31; refine (peek_c _ b s _ t d x h).mono ?_; rintro e w2 ⟨rfl, h2⟩)
  go_ret2
  exact ⟨rfl, h2⟩

set_option maxHeartbeats 1000000 in
theorem beginsNumber_any (value least : Int) (w : World) (v0 : 0 ≤ value) (v1 : value ≤ 1000) (l0 : 0 ≤ least) (l1 : least ≤ 30) :
    Calls Tryd.prog 82 #[.int .i64 value, .int .i64 least] w fun e w' => e = .returned (.bool (beginsNum value least)) ∧ w' = w := by
  go_enter Tryd.func82, Tryd.ntmps82
  go_wp2
  refine wp_scope_once 0 (fun a' w' => w' = w ∧ ∃ lo hi : Int, ((lo = value ∧ hi = value) ∨ (lo = value * 10 ∧ hi = value * 10 + 9 ∧ value ≤ 30 ∧ value < least ∧ value ≠ 0) ∨ (lo = value * 10 * 10 ∧ hi = (value * 10 + 9) * 10 + 9 ∧ value * 10 ≤ 30 ∧ value * 10 + 9 < least ∧ value < least ∧ value ≠ 0)) ∧ ∃ u9 u10 u11 u12 u13 u14 u15 u16 u17 u18 u19 u20, a' = { tmps := #[.int .i64 value, .int .i64 least, undef, undef, .bool false, .int .i64 lo, .int .i64 hi, .int .i64 value, .int .i64 value, u9, u10, u11, u12, u13, u14, u15, u16, u17, u18, u19, u20], defers := [] }) (fun a' _ => (1000000 - intOf (a'.tmps.getD 5 undef)).toNat) rfl ?_ ?_
  · intro hp
    have HP : Hid _ := hp
    clear hp
    go_wp2
    go_step3
    exact ‹∀ a w, Code.wp _ _ _ a w → _› _ _ (HP.out _ _ ⟨rfl, value, value, .inl ⟨rfl, rfl⟩, _, _, _, _, _, _, _, _, _, _, _, _, rfl⟩)
  · rintro a' w' ⟨rfl, lo, hi, hd, u9, u10, u11, u12, u13, u14, u15, u16, u17, u18, u19, u20, rfl⟩
    rcases hd with ⟨e1, e2⟩ | ⟨rfl, rfl, q1, q2, q3⟩ | ⟨rfl, rfl, q0, q1, q2, q3⟩
    · obtain rfl := e1.symm
      obtain rfl := e2.symm
      by_cases p1 : 30 < value
      · go_wp2
        simp only [Exit.jump]
        go_ret
        exact ⟨ret_bool (by simp [beginsNum, p1]), rfl⟩
      · by_cases p2 : least ≤ value
        · go_wp2
          simp only [Exit.jump]
          go_ret
          exact ⟨ret_bool (by simp [beginsNum, p1, p2]), rfl⟩
        · by_cases p3 : value = 0
          · have p3' : (value == 0) = true := by simpa using p3
            have P3 : Hid (value = 0) := p3
            clear p3
            go_wp2
            simp only [Exit.jump]
            go_ret
            have := P3.out
            exact ⟨ret_bool (by simp [beginsNum, this]; omega), rfl⟩
          · have p3' : (value == 0) = false := by simpa using p3
            go_wp2
            go_step3
            refine ⟨rfl, ⟨rfl, value * 10, value * 10 + 9, .inr (.inl ⟨rfl, rfl, by omega, by omega, p3⟩), _, _, _, _, _, _, _, _, _, _, _, _, rfl⟩, ?_⟩
            simp [intOf]; omega
    · by_cases p1 : 30 < value * 10
      · go_wp2
        simp only [Exit.jump]
        go_ret
        exact ⟨ret_bool (by simp [beginsNum, p1, q3]; omega), rfl⟩
      · by_cases p2 : least ≤ value * 10 + 9
        · go_wp2
          simp only [Exit.jump]
          go_ret
          exact ⟨ret_bool (by simp [beginsNum, p1, p2, q3]; omega), rfl⟩
        · have p3' : (value == 0) = false := by simpa using q3
          go_wp2
          go_step3
          refine ⟨rfl, ⟨rfl, value * 10 * 10, (value * 10 + 9) * 10 + 9, .inr (.inr ⟨rfl, rfl, by omega, by omega, q2, q3⟩), _, _, _, _, _, _, _, _, _, _, _, _, rfl⟩, ?_⟩
          simp [intOf]; omega
    · have p1 : 30 < value * 10 * 10 := by omega
      go_wp2
      simp only [Exit.jump]
      go_ret
      exact ⟨ret_bool (by simp [beginsNum, q3]; omega), rfl⟩

/-- What a number of a count becomes with the next byte. -/
def longerR (least value : Int) (begun : Bool) : List UInt8 → Option Int
  | c :: _ => if 48 ≤ c.toNat ∧ c.toNat ≤ 57 ∧ ¬ (begun = true ∧ value = 0) ∧ beginsNum (value * 10 + (c.toNat - 48)) least = true then some (value * 10 + (c.toNat - 48)) else none
  | [] => none

set_option maxHeartbeats 1000000 in
theorem longer_any (w : World) (b : Nat) (s : ByteArray) (r : List UInt8) (d x least value : Int) (begun : Bool) (h : St w b s r d x) (v0 : 0 ≤ value) (v1 : value ≤ 30) (l0 : 0 ≤ least) (l1 : least ≤ 30) :
    Calls Tryd.prog 76 #[.pointer (some ⟨b, 0, none⟩), .int .i64 value, .bool begun, .int .i64 least] w fun e w' => (∃ v : Int, (∀ z, longerR least value begun r = some z → v = z) ∧ e = .returned (.tuple #[.int .i64 v, .bool (longerR least value begun r).isSome])) ∧ StTo w w' b s r d x := by
  match r with
  | [] =>
    go_enter Tryd.func76, Tryd.ntmps76
    go_wp2_with (go_at_call 31; refine (peek_n _ b s d x h).mono ?_; rintro e w2 ⟨rfl, h2⟩)
    go_ret2
    exact ⟨⟨0, fun z hz => by simp [longerR] at hz, rfl⟩, h2⟩
  | c :: t =>
    by_cases hd : 48 ≤ c.toNat ∧ c.toNat ≤ 57
    · obtain ⟨hd1, hd2⟩ := hd
      have hd1' : ¬ (c.toNat : Int) < 48 := by omega
      have hd2' : ¬ 57 < (c.toNat : Int) := by omega
      by_cases hb : begun = true ∧ value = 0
      · have HL : Hid (longerR least value begun (c :: t) = none) := by show _ = _; simp only [longerR, hb]; simp
        obtain ⟨rfl, rfl⟩ := hb
        go_enter Tryd.func76, Tryd.ntmps76
        go_wp2_with (go_at_call 31; refine (peek_c _ b s c t d x h).mono ?_; rintro e w2 ⟨rfl, h2⟩)
        go_ret2
        rw [HL.out]
        exact ⟨⟨0, fun z hz => by simp at hz, rfl⟩, h2⟩
      · have hbn := fun w => beginsNumber_any (value * 10 + ((c.toNat : Int) - 48)) least w (by omega) (by omega) l0 l1
        obtain ⟨B, hB⟩ : ∃ B, B = beginsNum (value * 10 + ((c.toNat : Int) - 48)) least := ⟨_, rfl⟩
        rw [← hB] at hbn
        have HL : Hid (longerR least value begun (c :: t) = if B = true then some (value * 10 + ((c.toNat : Int) - 48)) else none) := by
          show _ = _
          simp only [longerR, hd1, hd2, ← hB]
          by_cases hBt : B = true
          · rw [if_pos ⟨trivial, trivial, hb, hBt⟩, if_pos hBt]
          · rw [if_neg (fun q => hBt q.2.2.2), if_neg hBt]
        clear hB
        cases begun with
        | false =>
          clear hb
          go_enter Tryd.func76, Tryd.ntmps76
          go_wp2_with (first | (go_at_call 82; refine (hbn _).mono ?_; rintro e w3 ⟨rfl, hw⟩; obtain rfl := hw.symm) | (go_at_call 31; refine (peek_c _ b s c t d x h).mono ?_; rintro e w2 ⟨rfl, h2⟩))
          go_ret2
          rw [HL.out]
          cases B with
          | true => exact ⟨⟨_, fun z hz => by simpa using hz, rfl⟩, h2⟩
          | false => exact ⟨⟨_, fun z hz => by simp at hz, rfl⟩, h2⟩
        | true =>
          have hv : (value == 0) = false := by simpa using hb
          clear hb
          go_enter Tryd.func76, Tryd.ntmps76
          go_wp2_with (first | (go_at_call 82; refine (hbn _).mono ?_; rintro e w3 ⟨rfl, hw⟩; obtain rfl := hw.symm) | (go_at_call 31; refine (peek_c _ b s c t d x h).mono ?_; rintro e w2 ⟨rfl, h2⟩))
          go_ret2
          rw [HL.out]
          cases B with
          | true => exact ⟨⟨_, fun z hz => by simpa using hz, rfl⟩, h2⟩
          | false => exact ⟨⟨_, fun z hz => by simp at hz, rfl⟩, h2⟩
    · have HL : Hid (longerR least value begun (c :: t) = none) := by
        show _ = _
        simp only [longerR]
        rw [if_neg (fun q => hd ⟨q.1, q.2.1⟩)]
      by_cases h48 : c.toNat < 48
      · have h48' : (c.toNat : Int) < 48 := by omega
        go_enter Tryd.func76, Tryd.ntmps76
        go_wp2_with (go_at_call 31; refine (peek_c _ b s c t d x h).mono ?_; rintro e w2 ⟨rfl, h2⟩)
        go_ret2
        rw [HL.out]
        exact ⟨⟨0, fun z hz => by simp at hz, rfl⟩, h2⟩
      · have h48' : ¬ (c.toNat : Int) < 48 := by omega
        have h57' : 57 < (c.toNat : Int) := by omega
        go_enter Tryd.func76, Tryd.ntmps76
        go_wp2_with (go_at_call 31; refine (peek_c _ b s c t d x h).mono ?_; rintro e w2 ⟨rfl, h2⟩)
        go_ret2
        rw [HL.out]
        exact ⟨⟨0, fun z hz => by simp at hz, rfl⟩, h2⟩
end Go.Proofs.YtbjabpodkaokjaaDoor

namespace Go.Proofs.YtbjabpodkaokjaaDoor
open Go.RowKit

/-- What a reading that answers a number and ok leaves. -/
def NumRes (w w' : World) (b : Nat) (s : ByteArray) (d x : Int) (e : Ending) : Res Int → Prop
  | .ok v r => e = .returned (.tuple #[.int .i64 v, .bool true]) ∧ 0 ≤ v ∧ v ≤ 30 ∧ StTo w w' b s r d x
  | .bad r => (∃ v : Int, e = .returned (.tuple #[.int .i64 v, .bool false])) ∧ StTo w w' b s r d x

theorem pDigits_go {least value z : Int} {begun : Bool} {r : List UInt8} (h : longerR least value begun r = some z) : ∃ c t, r = c :: t ∧ pDigits least value begun r = pDigits least z true t ∧ (0 ≤ value → 0 ≤ z) ∧ z ≤ 30 := by
  match r, h with
  | c :: t, h =>
    simp only [longerR] at h
    split at h
    · rename_i q
      injection h with e
      refine ⟨c, t, rfl, ?_, ?_, ?_⟩
      · rw [pDigits, if_pos q, e]
      · intro hv; have := q.1; omega
      · have := q.2.2.2
        rw [e] at this
        unfold beginsNum at this
        split at this
        · simp at this
        · omega
    · simp at h
theorem pDigits_end {least value : Int} {begun : Bool} {r : List UInt8} (h : longerR least value begun r = none) : pDigits least value begun r = if begun = true ∧ least ≤ value then .ok value r else .bad r := by
  match r, h with
  | [], h => rfl
  | c :: t, h =>
    simp only [longerR] at h
    split at h
    · simp at h
    · rename_i q
      rw [pDigits, if_neg q]

structure NumAt (w w' : World) (b : Nat) (s : ByteArray) (d x least : Int) (R0 : Res Int) (value : Int) (begun : Bool) (r : List UInt8) : Prop where
  st : St w' b s r d x
  rd : Rd b w w'
  v0 : 0 ≤ value
  v1 : value ≤ 30
  heq : pDigits least value begun r = R0

set_option maxHeartbeats 2000000 in
theorem number_any (w : World) (b : Nat) (s : ByteArray) (r : List UInt8) (d x least : Int) (h : St w b s r d x) (l0 : 0 ≤ least) (l1 : least ≤ 30) :
    Calls Tryd.prog 69 #[.pointer (some ⟨b, 0, none⟩), .int .i64 least] w fun e w' => NumRes w w' b s d x e (pDigits least 0 false r) := by
  obtain ⟨R0, hR0⟩ : ∃ R0, pDigits least 0 false r = R0 := ⟨_, rfl⟩
  rw [hR0]
  go_enter Tryd.func69, Tryd.ntmps69
  go_wp2
  refine wp_scope_once 0 (fun a' w' => ∃ value begun r', NumAt w w' b s d x least R0 value begun r' ∧ ∃ u8 u9 u10 u11 u12 u13 u14 u15 u16 u17 u18 u19 u20 u21 u22 u23 u24 u25 u26 u27 u28 u29 u30 u31 u32 u33 u34, a' = { tmps := #[.pointer (some ⟨b, 0, none⟩), .int .i64 least, undef, undef, .int .i64 0, .bool false, .int .i64 value, .bool begun, u8, u9, u10, u11, u12, u13, u14, u15, u16, u17, u18, u19, u20, u21, u22, u23, u24, u25, u26, u27, u28, u29, u30, u31, u32, u33, u34], defers := [] }) (fun _ w' => leftOf b s w') rfl ?_ ?_
  · intro hp
    have HP : Hid _ := hp
    clear hp
    go_wp2
    go_step3
    exact ‹∀ a w, Code.wp _ _ _ a w → _› _ _ (HP.out _ _ ⟨0, false, r, ⟨h, Rd.refl _ _, by omega, by omega, hR0⟩, _, _, _, _, _, _, _, _, _, _, _, _, _, _, _, _, _, _, _, _, _, _, _, _, _, _, _, rfl⟩)
  · rintro a' w' ⟨value, begun, r', ⟨hst, hrd, v0, v1, heq⟩, u8, u9, u10, u11, u12, u13, u14, u15, u16, u17, u18, u19, u20, u21, u22, u23, u24, u25, u26, u27, u28, u29, u30, u31, u32, u33, u34, rfl⟩
    have hlg := fun w hw => longer_any w b s r' d x least value begun hw v0 v1 l0 l1
    cases hL : longerR least value begun r' with
    | none =>
      rw [hL] at hlg
      have HQ : Hid (R0 = if begun = true ∧ least ≤ value then .ok value r' else .bad r') := by show _ = _; rw [← heq, pDigits_end hL]
      clear heq hL
      cases begun with
      | false =>
        go_wp2_with (go_at_call 76; refine (hlg _ hst).mono ?_; rintro e w2 ⟨⟨v, -, rfl⟩, g2, hr2⟩)
        simp only [Exit.jump]
        go_ret2
        rw [HQ.out, if_neg (by simp)]
        exact ⟨⟨_, rfl⟩, g2, hrd.trans hr2⟩
      | true =>
        by_cases hle : least ≤ value
        · go_wp2_with (go_at_call 76; refine (hlg _ hst).mono ?_; rintro e w2 ⟨⟨v, -, rfl⟩, g2, hr2⟩)
          simp only [Exit.jump]
          go_ret2
          rw [HQ.out, if_pos (by simp; omega)]
          exact ⟨by simp [hle], v0, v1, g2, hrd.trans hr2⟩
        · go_wp2_with (go_at_call 76; refine (hlg _ hst).mono ?_; rintro e w2 ⟨⟨v, -, rfl⟩, g2, hr2⟩)
          simp only [Exit.jump]
          go_ret2
          rw [HQ.out, if_neg (by simp; omega)]
          exact ⟨⟨value, by simp; omega⟩, g2, hrd.trans hr2⟩
    | some z =>
      rw [hL] at hlg
      obtain ⟨c, t, rfl, e1, e2, e3⟩ := pDigits_go hL
      have HQ : Hid (pDigits least z true t = R0) := by show _ = _; rw [← heq, e1]
      clear heq hL e1
      go_wp2_with (go_at_call 76; refine (hlg _ hst).mono ?_; rintro e w2 ⟨⟨v, hv, rfl⟩, g2, hr2⟩; obtain rfl := (hv z rfl).symm; obtain ⟨k, hk, k1, k2, kk⟩ := g2.open)
      go_step3
      have g := kk w (hrd.trans hr2)
      refine ⟨rfl, ⟨z, true, t, ⟨g.1, g.2, e2 v0, e3, HQ.out⟩, _, _, _, _, _, _, _, _, _, _, _, _, _, _, _, _, _, _, _, _, _, _, _, _, _, _, _, rfl⟩, ?_⟩
      rw [g.1.left, hst.left]; simp
end Go.Proofs.YtbjabpodkaokjaaDoor
