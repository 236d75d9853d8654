import Derived.Test.YtbjabpodkaokjaaDoorJ14
import Derived.WalkKit
import Derived.Test.YtbjabpodkaokjaaDoorJ09
set_option linter.unusedVariables false
set_option linter.unusedSimpArgs false
namespace Go.Proofs.YtbjabpodkaokjaaDoor
open Go.RowKit

/-- What is left behind a look for c. -/
def tkR (c : UInt8) : List UInt8 → List UInt8
  | a :: t => if a = c then t else a :: t
  | [] => []
def tkB (c : UInt8) : List UInt8 → Bool
  | a :: _ => a == c
  | [] => false
theorem take_any (b : Nat) (s : ByteArray) (d x : Int) (c : UInt8) (r : List UInt8) : TakC b s d x c.toNat r (tkR c r) (tkB c r) := by
  intro w h
  match r with
  | [] => exact take_n w b s d x h _
  | a :: t =>
    by_cases e : a = c
    · subst e
      simp only [tkR, tkB, if_true, beq_self_eq_true]
      exact take_c w b s a t d x h _ rfl
    · have e' : (a == c) = false := by simpa using e
      simp only [tkR, tkB, e, if_false, e']
      exact take_x w b s a t d x h _ (u8_int e)
theorem itm_t (b : Nat) (s : ByteArray) (d x : Int) (l : Nat) (hl : l < 256) (r : List UInt8) : ItmC b s d x true l r (pByteEscape l r).rest (qOf (pByteEscape l r)) (pByteEscape l r).isOk :=
  fun w hw => (itemByte_t w b s r d x l hl hw).mono fun _ _ g => g.q
theorem itm_f (b : Nat) (s : ByteArray) (d x : Int) (l : Nat) (hl : l < 256) (r : List UInt8) : ItmC b s d x false l r (pPlainItem l r).rest (qOf (pPlainItem l r)) (pPlainItem l r).isOk :=
  fun w hw => (itemByte_f w b s r d x l hl hw).mono fun _ _ g => g.q
/-- A byte of a class, behind a look for its backslash. -/
theorem itm_any (b : Nat) (s : ByteArray) (d x : Int) (l : Nat) (hl : l < 256) (r : List UInt8) : ItmC b s d x (tkB 92 r) l (tkR 92 r) (pItemByte l r).rest (qOf (pItemByte l r)) (pItemByte l r).isOk := by
  match r with
  | [] => exact itm_f b s d x l hl []
  | a :: t =>
    by_cases e : a = 92
    · subst e; exact itm_t b s d x l hl t
    · have e' : (a == 92) = false := by simpa using e
      have e2 : pItemByte l (a :: t) = pPlainItem l (a :: t) := by
        unfold pItemByte
        split
        · rename_i h; injection h with h1 h2; exact absurd h1 e
        · rfl
      simp only [tkR, tkB, e, if_false, e', e2]
      exact itm_f b s d x l hl (a :: t)
theorem pRange_no (low : Nat) (r : List UInt8) (h : tkB 45 r = false) : pRange low r = .ok (inSpan low low) r ∧ tkR 45 r = r := by
  match r with
  | [] => exact ⟨rfl, rfl⟩
  | a :: t =>
    have e : a ≠ 45 := by simpa [tkB] using h
    constructor
    · unfold pRange
      split
      · rename_i h; injection h with h1 h2; exact absurd h1 e
      · rfl
    · simp [tkR, e]
theorem pRange_yes (low : Nat) (r : List UInt8) (h : tkB 45 r = true) : pRange low r = (match pItemByte low (tkR 45 r) with | .ok high r' => .ok (inSpan low high) r' | .bad r' => .bad r') := by
  match r with
  | [] => simp [tkB] at h
  | a :: t =>
    have e : a = 45 := by simpa [tkB] using h
    subst e
    rfl
theorem pItem_esc (t : List UInt8) : pItem (92 :: t) = (match pSetEsc t with
    | .ok S r => .ok S r
    | .bad _ => match pByteEscape 0 t with | .ok low r => pRange low r | .bad r => .bad r) := by
  match t with
  | [] => rfl
  | c :: t' =>
    simp only [pItem, pSetEsc]
    cases escSet c <;> rfl
theorem pItemByte_plain (l : Nat) (a : UInt8) (t : List UInt8) (e : a ≠ 92) : pItemByte l (a :: t) = pPlainItem l (a :: t) := by
  unfold pItemByte
  split
  · rename_i h; injection h with h1 h2; exact absurd h1 e
  · rfl
theorem pItem_plain (r : List UInt8) (h : tkB 92 r = false) : pItem r = (match pPlainItem 0 r with | .ok low r' => pRange low r' | .bad r' => .bad r') ∧ tkR 92 r = r := by
  match r with
  | [] => exact ⟨rfl, rfl⟩
  | a :: t =>
    have e : a ≠ 92 := by simpa [tkB] using h
    constructor
    · unfold pItem
      split
      · rename_i h; injection h with h1 h2; exact absurd h1 e
      · rw [pItemByte_plain 0 a t e]; cases pPlainItem 0 (a :: t) <;> rfl
    · simp [tkR, e]

theorem qOf_lt {R : Res Nat} (h : R.isOk = true) (v : Nat) (hv : qOf R v) : v < 256 := by
  cases R with
  | ok u r => obtain ⟨rfl, h⟩ := hv; exact h
  | bad r => simp [Res.isOk] at h

theorem item_any (w : World) (b : Nat) (s : ByteArray) (r : List UInt8) (d x : Int) (h : St w b s r d x) :
    Calls Tryd.prog 65 #[.pointer (some ⟨b, 0, none⟩)] w fun e w' => SetRes w w' b s d x e (pItem r) := by
  have ht0 := take_any b s d x 92 r
  cases hk : tkB 92 r with
  | true =>
    obtain ⟨t, rfl⟩ : ∃ t, r = 92 :: t := by
      match r, hk with
      | a :: t, hk => exact ⟨t, by have : a = 92 := by simpa [tkB] using hk
                                   rw [this]⟩
    rw [hk] at ht0
    have e0 : tkR 92 (92 :: t) = t := rfl
    rw [e0] at ht0
    rw [pItem_esc]
    cases hS : pSetEsc t with
    | ok S r2 =>
      refine (item_A w b s (92 :: t) t r2 d x h (fun x0 x1 x2 x3 => Wd x0 x1 x2 x3 S) ht0 (fun w hw => (setEscape_any w b s t d x hw).mono fun e w' g => ?_)).mono fun e w' g => g
      rw [hS] at g; exact g
    | bad r2 =>
      have hr2 : r2 = t := by
        match t, hS with
        | [], hS => injection hS with e; exact e.symm
        | c :: t', hS =>
          simp only [pSetEsc] at hS
          cases hE : escSet c with
          | none => rw [hE] at hS; injection hS with e; exact e.symm
          | some S' => rw [hE] at hS; simp at hS
      subst hr2
      have hs1 : SetC b s d x r2 r2 (fun _ _ _ _ => True) false := fun w hw => (setEscape_any w b s r2 d x hw).mono fun e w' g => by
        rw [hS] at g; obtain ⟨⟨x0, x1, x2, x3, g⟩, g'⟩ := g; exact ⟨⟨x0, x1, x2, x3, trivial, g⟩, g'⟩
      have hi1 := itm_t b s d x 0 (by omega) r2
      simp only
      cases hB : pByteEscape 0 r2 with
      | bad r3 =>
        rw [hB] at hi1
        exact (item_e0 w b s (92 :: r2) r2 r2 r3 d x h _ _ ht0 hs1 hi1).mono fun e w' g => g
      | ok low r3 =>
        rw [hB] at hi1
        have ht1 := take_any b s d x 45 r3
        simp only
        cases hm : tkB 45 r3 with
        | false =>
          obtain ⟨p1, p2⟩ := pRange_no low r3 hm
          rw [hm, p2] at ht1
          rw [p1]
          refine (item_e1 w b s (92 :: r2) r2 r2 r3 r3 d x h _ (fun v hv => qOf_lt (R := .ok low r3) rfl v hv) _ ht0 hs1 hi1 ht1).mono fun e w' g => ?_
          obtain ⟨⟨u, ⟨rfl, hu⟩, g⟩, g'⟩ := g
          exact ⟨g, g'⟩
        | true =>
          rw [hm] at ht1
          rw [pRange_yes low r3 hm]
          have ht2 := take_any b s d x 92 (tkR 45 r3)
          have hi2 : ∀ l : Nat, qOf (.ok low r3) l → ItmC b s d x (tkB 92 (tkR 45 r3)) l (tkR 92 (tkR 45 r3)) (pItemByte low (tkR 45 r3)).rest ((fun _ => qOf (pItemByte low (tkR 45 r3))) l) (pItemByte low (tkR 45 r3)).isOk := by
            rintro l ⟨rfl, hl⟩; exact itm_any b s d x l hl _
          cases hI : pItemByte low (tkR 45 r3) with
          | bad r6 =>
            rw [hI] at hi2
            exact (item_e2 w b s (92 :: r2) r2 r2 r3 _ _ r6 d x h _ _ _ _ ht0 hs1 hi1 ht1 ht2 hi2).mono fun e w' g => g
          | ok high r6 =>
            rw [hI] at hi2
            refine (item_e3 w b s (92 :: r2) r2 r2 r3 _ _ r6 d x h _ _ _ (fun v hv => qOf_lt (R := .ok low r3) rfl v hv) (fun v u hu => qOf_lt (R := .ok high r6) rfl u hu) _ ht0 hs1 hi1 ht1 ht2 hi2).mono fun e w' g => ?_
            obtain ⟨⟨u, ⟨rfl, hu⟩, v, ⟨rfl, hv⟩, g⟩, g'⟩ := g
            exact ⟨g, g'⟩
  | false =>
    obtain ⟨e1, e2⟩ := pItem_plain r hk
    rw [hk, e2] at ht0
    rw [e1]
    have hi1 := itm_f b s d x 0 (by omega) r
    cases hB : pPlainItem 0 r with
    | bad r3 =>
      rw [hB] at hi1
      exact (item_p0 w b s r r r3 d x h _ ht0 hi1).mono fun e w' g => g
    | ok low r3 =>
      rw [hB] at hi1
      have ht1 := take_any b s d x 45 r3
      simp only
      cases hm : tkB 45 r3 with
      | false =>
        obtain ⟨p1, p2⟩ := pRange_no low r3 hm
        rw [hm, p2] at ht1
        rw [p1]
        refine (item_p1 w b s r r r3 r3 d x h _ (fun v hv => qOf_lt (R := .ok low r3) rfl v hv) ht0 hi1 ht1).mono fun e w' g => ?_
        obtain ⟨⟨u, ⟨rfl, hu⟩, g⟩, g'⟩ := g
        exact ⟨g, g'⟩
      | true =>
        rw [hm] at ht1
        rw [pRange_yes low r3 hm]
        have ht2 := take_any b s d x 92 (tkR 45 r3)
        have hi2 : ∀ l : Nat, qOf (.ok low r3) l → ItmC b s d x (tkB 92 (tkR 45 r3)) l (tkR 92 (tkR 45 r3)) (pItemByte low (tkR 45 r3)).rest ((fun _ => qOf (pItemByte low (tkR 45 r3))) l) (pItemByte low (tkR 45 r3)).isOk := by
          rintro l ⟨rfl, hl⟩; exact itm_any b s d x l hl _
        cases hI : pItemByte low (tkR 45 r3) with
        | bad r6 =>
          rw [hI] at hi2
          exact (item_p2 w b s r r r3 _ _ r6 d x h _ _ _ ht0 hi1 ht1 ht2 hi2).mono fun e w' g => g
        | ok high r6 =>
          rw [hI] at hi2
          refine (item_p3 w b s r r r3 _ _ r6 d x h _ _ _ (fun v hv => qOf_lt (R := .ok low r3) rfl v hv) (fun v u hu => qOf_lt (R := .ok high r6) rfl u hu) ht0 hi1 ht1 ht2 hi2).mono fun e w' g => ?_
          obtain ⟨⟨u, ⟨rfl, hu⟩, v, ⟨rfl, hv⟩, g⟩, g'⟩ := g
          exact ⟨g, g'⟩
end Go.Proofs.YtbjabpodkaokjaaDoor

namespace Go.Proofs.YtbjabpodkaokjaaDoor
open Go

theorem wp_scope_once {P : Program} {a : Act} {w : World} {Q : Exit → Act → World → Prop} {c rest : Code} (l : Nat) (J : Act → World → Prop) (μ : Act → World → Nat)
    (hf : findLabel c l = some (Code.skip.seq rest))
    (first : (∀ a w, J a w → rest.wp P (Exit.jump l J Q) a w) → c.wp P (Exit.jump l J Q) a w)
    (pass : ∀ a w, J a w → rest.wp P (Exit.jump l (fun a' w' => J a' w' ∧ μ a' w' < μ a w) Q) a w) : (Code.scope c).wp P Q a w := by
  refine wp_scope_jumps l J μ hf (first fun a w hJ => ?_) (fun a w hJ => ?_)
  · refine wp_mono (pass a w hJ) ?_
    intro e a' w' h
    cases e <;> first | exact h | exact ⟨h.1, h.2.1⟩
  · apply wp_seq
    apply wp_skip
    exact pass a w hJ
end Go.Proofs.YtbjabpodkaokjaaDoor

namespace Go.Proofs.YtbjabpodkaokjaaDoor

theorem pHexSign_len {l v : Nat} {r r' : List UInt8} (h : pHexSign l r = .ok v r') : r'.length < r.length := by
  match r, h with
  | c :: t, h =>
    simp only [pHexSign] at h
    split at h
    · split at h
      · simp at h
      · injection h with _ e; subst e; simp
    · simp at h
theorem pHexByte_len {l v : Nat} {r r' : List UInt8} (h : pHexByte l r = .ok v r') : r'.length < r.length := by
  simp only [pHexByte] at h
  split at h
  · simp at h
  · rename_i h1
    split at h
    · simp at h
    · rename_i h2
      injection h with _ e; subst e
      exact Nat.lt_trans (pHexSign_len h2) (pHexSign_len h1)
theorem pByteEscape_len {l v : Nat} {r r' : List UInt8} (h : pByteEscape l r = .ok v r') : r'.length < r.length := by
  match r, h with
  | c :: t, h =>
    simp only [pByteEscape] at h
    split at h
    · have := pHexByte_len h; simp; omega
    · split at h
      · split at h
        · simp at h
        · injection h with _ e; subst e; simp
      · simp at h
theorem pPlainItem_len {l v : Nat} {r r' : List UInt8} (h : pPlainItem l r = .ok v r') : r'.length < r.length := by
  match r, h with
  | c :: t, h =>
    simp only [pPlainItem] at h
    split at h
    · simp at h
    · split at h
      · simp at h
      · injection h with _ e; subst e; simp
theorem pItemByte_len {l v : Nat} {r r' : List UInt8} (h : pItemByte l r = .ok v r') : r'.length < r.length := by
  unfold pItemByte at h
  split at h
  · have := pByteEscape_len h; simp; omega
  · exact pPlainItem_len h
theorem pRange_len {l : Nat} {S : Nat → Bool} {r r' : List UInt8} (h : pRange l r = .ok S r') : r'.length ≤ r.length := by
  unfold pRange at h
  split at h
  · split at h
    · rename_i h1; injection h with _ e; subst e; have := pItemByte_len h1; simp; omega
    · simp at h
  · injection h with _ e; subst e; exact Nat.le_refl _
theorem pItem_len {S : Nat → Bool} {r r' : List UInt8} (h : pItem r = .ok S r') : r'.length < r.length := by
  unfold pItem at h
  split at h
  · split at h
    · injection h with _ e; subst e; simp; omega
    · split at h
      · rename_i h1; have := pByteEscape_len h1; have := pRange_len h; simp at *; omega
      · simp at h
  · split at h
    · rename_i h1; have := pItemByte_len h1; have := pRange_len h; omega
    · simp at h
theorem pItems_len {n : Nat} {A S : Nat → Bool} {r r' : List UInt8} (h : pItems n A r = .ok S r') : r'.length < r.length := by
  induction n generalizing A r with
  | zero => simp [pItems] at h
  | succ n ih =>
    simp only [pItems] at h
    split at h
    · simp at h
    · rename_i h1
      have := pItem_len h1
      split at h
      · injection h with _ e; subst e; simp at *; omega
      · have := ih h; omega
theorem pClass_len {S : Nat → Bool} {r r' : List UInt8} (h : pClass r = .ok S r') : r'.length < r.length := by
  unfold pClass at h
  split at h
  · split at h
    · rename_i h1; injection h with _ e; subst e; have := pItems_len h1; simp; omega
    · simp at h
  · exact pItems_len h
theorem pEscape_len {S : Nat → Bool} {r r' : List UInt8} (h : pEscape r = .ok S r') : r'.length < r.length := by
  match r, h with
  | c :: t, h =>
    simp only [pEscape] at h
    split at h
    · injection h with _ e; subst e; simp
    · split at h
      · rename_i h1; injection h with _ e; subst e; exact pByteEscape_len h1
      · simp at h
theorem pDigits_len {l v : Int} {b : Bool} {z : Int} {r r' : List UInt8} (h : pDigits l v b r = .ok z r') : r'.length ≤ r.length := by
  induction r generalizing v b with
  | nil => simp only [pDigits] at h; split at h <;> simp_all
  | cons c t ih =>
    simp only [pDigits] at h
    split at h
    · have := ih h; simp; omega
    · split at h
      · injection h with _ e; subst e; exact Nat.le_refl _
      · simp at h
theorem pBounds_len {p : Int × Int} {r r' : List UInt8} (h : pBounds r = .ok p r') : r'.length ≤ r.length := by
  simp only [pBounds] at h
  split at h
  · simp at h
  · rename_i h1
    have := pDigits_len h1
    split at h
    · injection h with _ e; subst e; simp at *; omega
    · split at h
      · simp at h
      · rename_i h2
        have := pDigits_len h2
        split at h
        · injection h with _ e; subst e; simp at *; omega
        · simp at h
    · injection h with _ e; subst e; simp at *; omega
    · simp at h
theorem pCounts_len {n : Nat} {cs : List Cnt} {r r' : List UInt8} (h : pCounts n r = .ok cs r') : r'.length ≤ r.length := by
  induction n generalizing r cs with
  | zero => simp [pCounts] at h
  | succ n ih =>
    simp only [pCounts] at h
    split at h
    · split at h
      · split at h
        · rename_i h1; injection h with _ e; subst e; have := ih h1; simp; omega
        · simp at h
      · split at h
        · split at h
          · simp at h
          · rename_i h1
            have := pBounds_len h1
            split at h
            · rename_i h2; injection h with _ e; subst e; have := ih h2; simp; omega
            · simp at h
        · injection h with _ e; subst e; exact Nat.le_refl _
    · injection h with _ e; subst e; exact Nat.le_refl _

def fin2 (tk : Bool) : Res (Nat → Bool) → Res (Nat → Bool)
  | .ok S r => .ok (if tk then fun n => !S n else S) r
  | .bad r => .bad r
end Go.Proofs.YtbjabpodkaokjaaDoor

namespace Go.Proofs.YtbjabpodkaokjaaDoor
open Go.RowKit

/-- How much of the text is left, as a number for a measure. -/
def leftOf (b : Nat) (s : ByteArray) (w : World) : Nat := s.size - (intOf ((w.cell? ⟨b, 1, none⟩).getD undef)).toNat
theorem St.left {w : World} {b : Nat} {s : ByteArray} {r : List UInt8} {d x : Int} (h : St w b s r d x) : leftOf b s w = r.length := by
  obtain ⟨⟨k, hr, hk, hs⟩, _⟩ := h
  rw [← hs, suf_len]
  simp [leftOf, hr.c1, intOf]
theorem pItems_bad {n : Nat} {A : Nat → Bool} {r r' : List UInt8} (h : pItem r = .bad r') : pItems (n + 1) A r = .bad r' := by simp only [pItems, h]
theorem pItems_end {n : Nat} {A S : Nat → Bool} {r r' : List UInt8} (h : pItem r = .ok S r') (e : tkB 93 r' = true) : pItems (n + 1) A r = .ok (orS A S) (tkR 93 r') := by
  match r', h, e with
  | [], h, e => simp [tkB] at e
  | a :: t, h, e =>
    have : a = 93 := by simpa [tkB] using e
    subst this
    simp only [pItems, h]; rfl
theorem pItems_go {n : Nat} {A S : Nat → Bool} {r r' : List UInt8} (h : pItem r = .ok S r') (e : tkB 93 r' = false) : pItems (n + 1) A r = pItems n (orS A S) r' ∧ tkR 93 r' = r' := by
  match r', h, e with
  | [], h, e => exact ⟨by simp only [pItems, h], rfl⟩
  | a :: t, h, e =>
    have ne : a ≠ 93 := by simpa [tkB] using e
    constructor
    · simp only [pItems, h]
      split
      · rename_i h'; injection h' with h1 _; exact absurd h1 ne
      · rfl
    · simp [tkR, ne]

/-- What holds whenever the class's label is come to. -/
structure ClsAt (w w' : World) (b : Nat) (s : ByteArray) (d x : Int) (R0 : Res (Nat → Bool)) (n : Nat) (A : Nat → Bool) (r : List UInt8) : Prop where
  st : St w' b s r d x
  rd : Rd b w w'
  z : Z4 w' w.heap.size
  set : ExSet w' (w.heap.size + 1) 0 A
  lt : w.heap.size + 1 < w'.heap.size
  hn : r.length < n
  heq : pItems n A r = R0

set_option maxHeartbeats 2000000 in
theorem class_true (w : World) (b : Nat) (s : ByteArray) (r r1 : List UInt8) (d x : Int) (h : St w b s r d x) (ht0 : TakC b s d x 94 r r1 true) (R0 : Res (Nat → Bool)) (hR0 : pItems (r1.length + 1) (fun _ => false) r1 = R0) :
    Calls Tryd.prog 56 #[.pointer (some ⟨b, 0, none⟩)] w fun e w' => SetRes w w' b s d x e (fin2 true R0) := by
  have hne := h.ne
  have hlt := h.lt
  go_enter Tryd.func56, Tryd.ntmps56
  go_wp2
  refine wp_scope_once 0 (fun a' w' => (∃ n A r', ClsAt w w' b s d x R0 n A r') ∧ ∃ u6 u7 u10 u11 u12 u13 u14 u15 u16 u17 u18 u19 u20 u21 u22 u23 u24 u25, a' = { tmps := #[.pointer (some ⟨b, 0, none⟩), undef, .pointer (some ⟨w.heap.size, 0, none⟩), .bool false, .pointer (some ⟨w.heap.size + 1, 0, none⟩), .bool true, u6, u7, .pointer (some ⟨b, 0, none⟩), .bool true, u10, u11, u12, u13, u14, u15, u16, u17, u18, u19, u20, u21, u22, u23, u24, u25], defers := [] }) (fun _ w' => leftOf b s w') rfl ?_ ?_
  · intro hp
    have HP : Hid _ := hp
    clear hp
    go_wp2_with (go_at_call 18; refine (ht0 _ ((h.alloc _).alloc _)).mono ?_; rintro e w1 ⟨rfl, g1, hr1⟩)
    go_step3
    refine ‹∀ a w, Code.wp _ _ _ a w → _› _ _ (HP.out _ _ ⟨⟨r1.length + 1, fun _ => false, r1, ⟨g1, hr1.under.under, ?_, ?_, ?_, Nat.lt_succ_self _, hR0⟩⟩, _, _, _, _, _, _, _, _, _, _, _, _, _, _, _, _, _, _, rfl⟩)
    · exact (new2 w).1.of_heap (hr1.block w.heap.size (by simp; omega) hne)
    · exact (Z4.set ((new2 w).2.of_heap (hr1.block (w.heap.size + 1) (by simp) (by omega))))
    · have := hr1.size; simp at this; omega
  · rintro a' w' ⟨⟨n, A, r', ⟨hst, hrd, hz, hset, hlt', hn, heq⟩⟩, u6, u7, u10, u11, u12, u13, u14, u15, u16, u17, u18, u19, u20, u21, u22, u23, u24, u25, rfl⟩
    have hitem := fun w hw => item_any w b s r' d x hw
    have HSet : Hid (ExSet w' (w.heap.size + 1) 0 A) := hset
    clear hset
    obtain ⟨n', rfl⟩ : ∃ n', n = n' + 1 := ⟨n - 1, by omega⟩
    cases hI : pItem r' with
    | bad r2 =>
      rw [hI] at hitem
      have HQ : Hid (R0 = .bad r2) := by show _ = _; rw [← heq, pItems_bad hI]
      clear heq hI
      go_wp2_with (go_at_call 65; refine (hitem _ hst).mono ?_; rintro e w2 ⟨⟨x0, x1, x2, x3, rfl⟩, g2, hr2⟩; have hz2 : w.heap.size + 1 < w2.heap.size := (by have := hr2.size; omega); have hl2 : w.heap.size < w2.heap.size := (by omega); obtain ⟨z0, z1, z2, z3, zz⟩ := hz.of_heap (w' := w2) (hr2.block w.heap.size (by omega) hne))
      simp only [Exit.jump]
      refine bodyPost_ret (v := .tuple #[wv 0 0 0 0, .bool false]) (by simp [results, Tryd.results56, go_sem, z0, z1, z2, z3, hl2]) rfl ?_
      rw [HQ.out]
      exact ⟨⟨0, 0, 0, 0, rfl⟩, (by (repeat first | (with_reducible refine St.setCell ?_ (by first | exact hlt | (simp; done) | (simp; omega)) _) | (with_reducible refine St.alloc ?_ _) | (with_reducible refine St.drew ?_) | (with_reducible refine St.drewN ?_ _)); exact g2), (by (repeat first | (with_reducible refine Rd.setNew ?_ (by first | exact Nat.le_refl _ | (simp; done) | (simp; omega)) _) | (with_reducible refine Rd.alloc ?_ _) | (with_reducible refine Rd.drew ?_) | (with_reducible refine Rd.drewN ?_ _)); exact hrd.trans hr2)⟩
    | ok S r2 =>
      rw [hI] at hitem
      have hlen := pItem_len hI
      have ht := take_any b s d x 93 r2
      cases hk : tkB 93 r2 with
      | true =>
        rw [hk] at ht
        have HQ : Hid (R0 = .ok (orS A S) (tkR 93 r2)) := by show _ = _; rw [← heq, pItems_end hI hk]
        clear heq hI hk
        go_wp2_with (first | (go_at_call 59; refine (invert_any _ (w.heap.size + 1) 0 (orS A S) HS4.out).mono ?_; rintro e w5 ⟨rfl, ⟨y0, y1, y2, y3, hy⟩, hf5⟩; obtain ⟨hwy, p0, p1, p2, p3, pz⟩ := hy; simp only [Nat.zero_add] at p1 p2 p3; have hl5 : w.heap.size < w5.heap.size := (by have := hf5.size; omega); obtain ⟨f0, f1, f2, f3, ff⟩ := Z4.of_heap (w' := w5) ⟨k0, k1, k2, k3, kz⟩ (hf5.block w.heap.size hl4 (by omega))) | (go_at_call 18; refine (ht _ g3).mono ?_; rintro e w4 ⟨rfl, g4, hr4⟩; have hz4 : w.heap.size + 1 < w4.heap.size := (by have := hr4.size; omega); have hl4 : w.heap.size < w4.heap.size := (by omega); have Z5 := zz3.of_heap (w' := w4) (hr4.block w.heap.size hl3 hne); obtain ⟨k0, k1, k2, k3, kz⟩ := Z5; have HS4 : Hid (ExSet w4 (w.heap.size + 1) 0 (orS A S)) := HS3.out.of_heap (hr4.block _ hz3 (by omega))) | (go_at_call 66; refine (addAll_any _ (w.heap.size + 1) 0 A S x0 x1 x2 x3 hwd (by simp; omega) ((HSet.out.of_heap (hr2.block _ hlt' (by omega))).alloc hz2 _)).mono ?_; rintro e w3 ⟨rfl, hs3, hf3⟩; have HS3 : Hid (ExSet w3 (w.heap.size + 1) 0 (orS A S)) := hs3; clear hs3; have hz3 : w.heap.size + 1 < w3.heap.size := (by have := hf3.size; simp at this; omega); have hl3 : w.heap.size < w3.heap.size := (by omega); have zz3 := Z4.of_heap (w' := w3) ⟨z0, z1, z2, z3, zz⟩ ((hf3.block _ (by simp; omega) (by omega)).trans (Below.heap_alloc _ _ _ hl2)); have g3 := (g2.alloc _).four hf3 (by omega); have hr3 := ((hrd.trans hr2).alloc _).four hf3 (by omega)) | (go_at_call 65; refine (hitem _ hst).mono ?_; rintro e w2 ⟨⟨x0, x1, x2, x3, hwd, rfl⟩, g2, hr2⟩; have hz2 : w.heap.size + 1 < w2.heap.size := (by have := hr2.size; omega); have hl2 : w.heap.size < w2.heap.size := (by omega); obtain ⟨z0, z1, z2, z3, zz⟩ := hz.of_heap (w' := w2) (hr2.block w.heap.size (by omega) hne)))
        simp only [Exit.jump]
        refine bodyPost_ret (v := .tuple #[wv y0 y1 y2 y3, .bool true]) (by simp [results, Tryd.results56, go_sem, f0, f1, f2, f3]) rfl ?_
        rw [HQ.out]
        have g5 := g4.four hf5 (by omega)
        have hr5 := (hr3.trans hr4).four hf5 (by omega)
        exact ⟨⟨y0, y1, y2, y3, hwy, rfl⟩, (by (repeat first | (with_reducible refine St.setCell ?_ (by first | exact hlt | (simp; done) | (simp; omega)) _) | (with_reducible refine St.alloc ?_ _) | (with_reducible refine St.drew ?_) | (with_reducible refine St.drewN ?_ _)); exact g5), (by (repeat first | (with_reducible refine Rd.setNew ?_ (by first | exact Nat.le_refl _ | (simp; done) | (simp; omega)) _) | (with_reducible refine Rd.alloc ?_ _) | (with_reducible refine Rd.drew ?_) | (with_reducible refine Rd.drewN ?_ _)); exact hr5)⟩
      | false =>
        obtain ⟨e1, e2⟩ := pItems_go (n := n') (A := A) hI hk
        rw [hk, e2] at ht
        have HQ : Hid (pItems n' (orS A S) r2 = R0) := by show _ = _; rw [← heq, e1]
        clear heq hI hk e1 e2
        go_wp2_with (first | (go_at_call 18; refine (ht _ g3).mono ?_; rintro e w4 ⟨rfl, g4, hr4⟩; have hz4 : w.heap.size + 1 < w4.heap.size := (by have := hr4.size; omega); have hl4 : w.heap.size < w4.heap.size := (by omega); have Z5 := zz3.of_heap (w' := w4) (hr4.block w.heap.size hl3 hne); obtain ⟨k0, k1, k2, k3, kz⟩ := Z5; have HS4 : Hid (ExSet w4 (w.heap.size + 1) 0 (orS A S)) := HS3.out.of_heap (hr4.block _ hz3 (by omega))) | (go_at_call 66; refine (addAll_any _ (w.heap.size + 1) 0 A S x0 x1 x2 x3 hwd (by simp; omega) ((HSet.out.of_heap (hr2.block _ hlt' (by omega))).alloc hz2 _)).mono ?_; rintro e w3 ⟨rfl, hs3, hf3⟩; have HS3 : Hid (ExSet w3 (w.heap.size + 1) 0 (orS A S)) := hs3; clear hs3; have hz3 : w.heap.size + 1 < w3.heap.size := (by have := hf3.size; simp at this; omega); have hl3 : w.heap.size < w3.heap.size := (by omega); have zz3 := Z4.of_heap (w' := w3) ⟨z0, z1, z2, z3, zz⟩ ((hf3.block _ (by simp; omega) (by omega)).trans (Below.heap_alloc _ _ _ hl2)); have g3 := (g2.alloc _).four hf3 (by omega); have hr3 := ((hrd.trans hr2).alloc _).four hf3 (by omega)) | (go_at_call 65; refine (hitem _ hst).mono ?_; rintro e w2 ⟨⟨x0, x1, x2, x3, hwd, rfl⟩, g2, hr2⟩; have hz2 : w.heap.size + 1 < w2.heap.size := (by have := hr2.size; omega); have hl2 : w.heap.size < w2.heap.size := (by omega); obtain ⟨z0, z1, z2, z3, zz⟩ := hz.of_heap (w' := w2) (hr2.block w.heap.size (by omega) hne)))
        go_step3
        refine ⟨rfl, ⟨⟨n', orS A S, r2, ⟨g4, hr3.trans hr4, ⟨k0, k1, k2, k3, kz⟩, HS4.out, hz4, by omega, HQ.out⟩⟩, _, _, _, _, _, _, _, _, _, _, _, _, _, _, _, _, _, _, rfl⟩, ?_⟩
        rw [g4.left, hst.left]; exact hlen

set_option maxHeartbeats 2000000 in
theorem class_false (w : World) (b : Nat) (s : ByteArray) (r r1 : List UInt8) (d x : Int) (h : St w b s r d x) (ht0 : TakC b s d x 94 r r1 false) (R0 : Res (Nat → Bool)) (hR0 : pItems (r1.length + 1) (fun _ => false) r1 = R0) :
    Calls Tryd.prog 56 #[.pointer (some ⟨b, 0, none⟩)] w fun e w' => SetRes w w' b s d x e (fin2 false R0) := by
  have hne := h.ne
  have hlt := h.lt
  go_enter Tryd.func56, Tryd.ntmps56
  go_wp2
  refine wp_scope_once 0 (fun a' w' => (∃ n A r', ClsAt w w' b s d x R0 n A r') ∧ ∃ u6 u7 u10 u11 u12 u13 u14 u15 u16 u17 u18 u19 u20 u21 u22 u23 u24 u25, a' = { tmps := #[.pointer (some ⟨b, 0, none⟩), undef, .pointer (some ⟨w.heap.size, 0, none⟩), .bool false, .pointer (some ⟨w.heap.size + 1, 0, none⟩), .bool false, u6, u7, .pointer (some ⟨b, 0, none⟩), .bool false, u10, u11, u12, u13, u14, u15, u16, u17, u18, u19, u20, u21, u22, u23, u24, u25], defers := [] }) (fun _ w' => leftOf b s w') rfl ?_ ?_
  · intro hp
    have HP : Hid _ := hp
    clear hp
    go_wp2_with (go_at_call 18; refine (ht0 _ ((h.alloc _).alloc _)).mono ?_; rintro e w1 ⟨rfl, g1, hr1⟩)
    go_step3
    refine ‹∀ a w, Code.wp _ _ _ a w → _› _ _ (HP.out _ _ ⟨⟨r1.length + 1, fun _ => false, r1, ⟨g1, hr1.under.under, ?_, ?_, ?_, Nat.lt_succ_self _, hR0⟩⟩, _, _, _, _, _, _, _, _, _, _, _, _, _, _, _, _, _, _, rfl⟩)
    · exact (new2 w).1.of_heap (hr1.block w.heap.size (by simp; omega) hne)
    · exact (Z4.set ((new2 w).2.of_heap (hr1.block (w.heap.size + 1) (by simp) (by omega))))
    · have := hr1.size; simp at this; omega
  · rintro a' w' ⟨⟨n, A, r', ⟨hst, hrd, hz, hset, hlt', hn, heq⟩⟩, u6, u7, u10, u11, u12, u13, u14, u15, u16, u17, u18, u19, u20, u21, u22, u23, u24, u25, rfl⟩
    have hitem := fun w hw => item_any w b s r' d x hw
    have HSet : Hid (ExSet w' (w.heap.size + 1) 0 A) := hset
    clear hset
    obtain ⟨n', rfl⟩ : ∃ n', n = n' + 1 := ⟨n - 1, by omega⟩
    cases hI : pItem r' with
    | bad r2 =>
      rw [hI] at hitem
      have HQ : Hid (R0 = .bad r2) := by show _ = _; rw [← heq, pItems_bad hI]
      clear heq hI
      go_wp2_with (go_at_call 65; refine (hitem _ hst).mono ?_; rintro e w2 ⟨⟨x0, x1, x2, x3, rfl⟩, g2, hr2⟩; have hz2 : w.heap.size + 1 < w2.heap.size := (by have := hr2.size; omega); have hl2 : w.heap.size < w2.heap.size := (by omega); obtain ⟨z0, z1, z2, z3, zz⟩ := hz.of_heap (w' := w2) (hr2.block w.heap.size (by omega) hne))
      simp only [Exit.jump]
      refine bodyPost_ret (v := .tuple #[wv 0 0 0 0, .bool false]) (by simp [results, Tryd.results56, go_sem, z0, z1, z2, z3, hl2]) rfl ?_
      rw [HQ.out]
      exact ⟨⟨0, 0, 0, 0, rfl⟩, (by (repeat first | (with_reducible refine St.setCell ?_ (by first | exact hlt | (simp; done) | (simp; omega)) _) | (with_reducible refine St.alloc ?_ _) | (with_reducible refine St.drew ?_) | (with_reducible refine St.drewN ?_ _)); exact g2), (by (repeat first | (with_reducible refine Rd.setNew ?_ (by first | exact Nat.le_refl _ | (simp; done) | (simp; omega)) _) | (with_reducible refine Rd.alloc ?_ _) | (with_reducible refine Rd.drew ?_) | (with_reducible refine Rd.drewN ?_ _)); exact hrd.trans hr2)⟩
    | ok S r2 =>
      rw [hI] at hitem
      have hlen := pItem_len hI
      have ht := take_any b s d x 93 r2
      cases hk : tkB 93 r2 with
      | true =>
        rw [hk] at ht
        have HQ : Hid (R0 = .ok (orS A S) (tkR 93 r2)) := by show _ = _; rw [← heq, pItems_end hI hk]
        clear heq hI hk
        go_wp2_with (first | (go_at_call 18; refine (ht _ g3).mono ?_; rintro e w4 ⟨rfl, g4, hr4⟩; have hz4 : w.heap.size + 1 < w4.heap.size := (by have := hr4.size; omega); have hl4 : w.heap.size < w4.heap.size := (by omega); have Z5 := zz3.of_heap (w' := w4) (hr4.block w.heap.size hl3 hne); obtain ⟨k0, k1, k2, k3, kz⟩ := Z5; have HS4 : Hid (ExSet w4 (w.heap.size + 1) 0 (orS A S)) := HS3.out.of_heap (hr4.block _ hz3 (by omega)); obtain ⟨y0, y1, y2, y3, hy⟩ := HS4.out; obtain ⟨hwy, p0, p1, p2, p3, pz⟩ := hy; simp only [Nat.zero_add] at p1 p2 p3) | (go_at_call 66; refine (addAll_any _ (w.heap.size + 1) 0 A S x0 x1 x2 x3 hwd (by simp; omega) ((HSet.out.of_heap (hr2.block _ hlt' (by omega))).alloc hz2 _)).mono ?_; rintro e w3 ⟨rfl, hs3, hf3⟩; have HS3 : Hid (ExSet w3 (w.heap.size + 1) 0 (orS A S)) := hs3; clear hs3; have hz3 : w.heap.size + 1 < w3.heap.size := (by have := hf3.size; simp at this; omega); have hl3 : w.heap.size < w3.heap.size := (by omega); have zz3 := Z4.of_heap (w' := w3) ⟨z0, z1, z2, z3, zz⟩ ((hf3.block _ (by simp; omega) (by omega)).trans (Below.heap_alloc _ _ _ hl2)); have g3 := (g2.alloc _).four hf3 (by omega); have hr3 := ((hrd.trans hr2).alloc _).four hf3 (by omega)) | (go_at_call 65; refine (hitem _ hst).mono ?_; rintro e w2 ⟨⟨x0, x1, x2, x3, hwd, rfl⟩, g2, hr2⟩; have hz2 : w.heap.size + 1 < w2.heap.size := (by have := hr2.size; omega); have hl2 : w.heap.size < w2.heap.size := (by omega); obtain ⟨z0, z1, z2, z3, zz⟩ := hz.of_heap (w' := w2) (hr2.block w.heap.size (by omega) hne)))
        simp only [Exit.jump]
        refine bodyPost_ret (v := .tuple #[wv y0 y1 y2 y3, .bool true]) (by simp [results, Tryd.results56, go_sem, k0, k1, k2, k3]) rfl ?_
        rw [HQ.out]
        have hr5 := hr3.trans hr4
        exact ⟨⟨y0, y1, y2, y3, hwy, rfl⟩, (by (repeat first | (with_reducible refine St.setCell ?_ (by first | exact hlt | (simp; done) | (simp; omega)) _) | (with_reducible refine St.alloc ?_ _) | (with_reducible refine St.drew ?_) | (with_reducible refine St.drewN ?_ _)); exact g4), (by (repeat first | (with_reducible refine Rd.setNew ?_ (by first | exact Nat.le_refl _ | (simp; done) | (simp; omega)) _) | (with_reducible refine Rd.alloc ?_ _) | (with_reducible refine Rd.drew ?_) | (with_reducible refine Rd.drewN ?_ _)); exact hr5)⟩
      | false =>
        obtain ⟨e1, e2⟩ := pItems_go (n := n') (A := A) hI hk
        rw [hk, e2] at ht
        have HQ : Hid (pItems n' (orS A S) r2 = R0) := by show _ = _; rw [← heq, e1]
        clear heq hI hk e1 e2
        go_wp2_with (first | (go_at_call 18; refine (ht _ g3).mono ?_; rintro e w4 ⟨rfl, g4, hr4⟩; have hz4 : w.heap.size + 1 < w4.heap.size := (by have := hr4.size; omega); have hl4 : w.heap.size < w4.heap.size := (by omega); have Z5 := zz3.of_heap (w' := w4) (hr4.block w.heap.size hl3 hne); obtain ⟨k0, k1, k2, k3, kz⟩ := Z5; have HS4 : Hid (ExSet w4 (w.heap.size + 1) 0 (orS A S)) := HS3.out.of_heap (hr4.block _ hz3 (by omega))) | (go_at_call 66; refine (addAll_any _ (w.heap.size + 1) 0 A S x0 x1 x2 x3 hwd (by simp; omega) ((HSet.out.of_heap (hr2.block _ hlt' (by omega))).alloc hz2 _)).mono ?_; rintro e w3 ⟨rfl, hs3, hf3⟩; have HS3 : Hid (ExSet w3 (w.heap.size + 1) 0 (orS A S)) := hs3; clear hs3; have hz3 : w.heap.size + 1 < w3.heap.size := (by have := hf3.size; simp at this; omega); have hl3 : w.heap.size < w3.heap.size := (by omega); have zz3 := Z4.of_heap (w' := w3) ⟨z0, z1, z2, z3, zz⟩ ((hf3.block _ (by simp; omega) (by omega)).trans (Below.heap_alloc _ _ _ hl2)); have g3 := (g2.alloc _).four hf3 (by omega); have hr3 := ((hrd.trans hr2).alloc _).four hf3 (by omega)) | (go_at_call 65; refine (hitem _ hst).mono ?_; rintro e w2 ⟨⟨x0, x1, x2, x3, hwd, rfl⟩, g2, hr2⟩; have hz2 : w.heap.size + 1 < w2.heap.size := (by have := hr2.size; omega); have hl2 : w.heap.size < w2.heap.size := (by omega); obtain ⟨z0, z1, z2, z3, zz⟩ := hz.of_heap (w' := w2) (hr2.block w.heap.size (by omega) hne)))
        go_step3
        refine ⟨rfl, ⟨⟨n', orS A S, r2, ⟨g4, hr3.trans hr4, ⟨k0, k1, k2, k3, kz⟩, HS4.out, hz4, by omega, HQ.out⟩⟩, _, _, _, _, _, _, _, _, _, _, _, _, _, _, _, _, _, _, rfl⟩, ?_⟩
        rw [g4.left, hst.left]; exact hlen

end Go.Proofs.YtbjabpodkaokjaaDoor
