import Derived.Test.YtbjabpodkaokjaaDoorJ09
import Derived.Test.YtbjabpodkaokjaaDoorJ10
set_option linter.unusedVariables false
set_option linter.unusedSimpArgs false
namespace Go.Proofs.YtbjabpodkaokjaaDoor
open Go.RowKit

/-- What is left of the text from place k on. -/
def suf (s : ByteArray) (k : Nat) : List UInt8 := s.data.toList.drop k

theorem suf_cons {s : ByteArray} {k : Nat} {c : UInt8} {t : List UInt8} (h : suf s k = c :: t) : ∃ hk : k < s.size, s[k] = c ∧ suf s (k + 1) = t := by
  have hl : k < s.data.toList.length := by
    rcases Nat.lt_or_ge k s.data.toList.length with g | g
    · exact g
    · simp [suf, List.drop_eq_nil_of_le g] at h
  have hk : k < s.size := by simpa using hl
  unfold suf at h
  rw [List.drop_eq_getElem_cons hl] at h
  injection h with h1 h2
  exact ⟨hk, h1, h2⟩
theorem suf_nil {s : ByteArray} {k : Nat} (hk : k ≤ s.size) (h : suf s k = []) : k = s.size := by
  unfold suf at h
  have := List.drop_eq_nil_iff.1 h
  simp at this
  have : s.data.size = s.size := rfl
  omega
theorem suf_len {s : ByteArray} {k : Nat} : (suf s k).length = s.size - k := by simp [suf]

/-- The reader stands where r is left of its text; d groups are open, x is the most that were. -/
structure St (w : World) (b : Nat) (s : ByteArray) (r : List UInt8) (d x : Int) : Prop where
  rd : ∃ k, RdAt w b s k d x ∧ k ≤ s.size ∧ suf s k = r
  tb : Tabs w
  b3 : 2 < b
  sz : s.size ≤ 200

theorem St.lt {w : World} {b : Nat} {s : ByteArray} {r : List UInt8} {d x : Int} (h : St w b s r d x) : b < w.heap.size := by
  obtain ⟨⟨k, h, _⟩, _⟩ := h; exact h.lt
theorem St.len {w : World} {b : Nat} {s : ByteArray} {r : List UInt8} {d x : Int} (h : St w b s r d x) : r.length ≤ 200 := by
  obtain ⟨⟨k, _, _, h⟩, _, _, hs⟩ := h; rw [← h, suf_len]; omega
/-- The reader is as it was if the old blocks are. -/
theorem St.keep {w w' : World} {b : Nat} {s : ByteArray} {r : List UInt8} {d x : Int} (h : St w b s r d x) (hb : ∀ k, k ≤ b → w'.heap[k]? = w.heap[k]?) (hz : w.heap.size ≤ w'.heap.size) : St w' b s r d x := by
  have hc : ∀ o, w'.cell? ⟨b, o, none⟩ = w.cell? ⟨b, o, none⟩ := fun o => by simp [World.cell?, hb b (Nat.le_refl _)]
  have hf : ∀ o, w'.frozen? ⟨b, o, none⟩ = w.frozen? ⟨b, o, none⟩ := fun o => by simp [World.frozen?, hb b (Nat.le_refl _)]
  obtain ⟨⟨k, ⟨c0, c1, c2, c3, fz, lt⟩, hk, hs⟩, tb, b3, sz⟩ := h
  exact ⟨⟨k, ⟨(hc 0).trans c0, (hc 1).trans c1, (hc 2).trans c2, (hc 3).trans c3, fun o => (hf o).trans (fz o), Nat.lt_of_lt_of_le lt hz⟩, hk, hs⟩, tb.of_block (fun k hk => hb k (by omega)), b3, sz⟩
theorem St.below {w w' : World} {b : Nat} {s : ByteArray} {r : List UInt8} {d x : Int} (h : St w b s r d x) (hb : Below w.heap.size w w') : St w' b s r d x :=
  h.keep (fun k hk => hb.block k (Nat.lt_of_le_of_lt hk h.lt)) hb.size
theorem St.alloc {w : World} {b : Nat} {s : ByteArray} {r : List UInt8} {d x : Int} (h : St w b s r d x) (o : Obj) : St (w.alloc o) b s r d x :=
  h.below ((Below.refl _ _).alloc (Nat.le_refl _) _)
theorem St.drewN {w : World} {b : Nat} {s : ByteArray} {r : List UInt8} {d x : Int} (h : St w b s r d x) (n : Nat) : St (w.drewN n) b s r d x := h.keep (fun _ _ => rfl) (Nat.le_refl _)
theorem St.drew {w : World} {b : Nat} {s : ByteArray} {r : List UInt8} {d x : Int} (h : St w b s r d x) : St w.drew b s r d x := h.keep (fun _ _ => rfl) (Nat.le_refl _)
/-- A store into another block above the reader's. -/
theorem St.setCell {w : World} {b : Nat} {s : ByteArray} {r : List UInt8} {d x : Int} (h : St w b s r d x) {p : Addr} (hp : b < p.block) (v : Value) : St (w.setCell p v) b s r d x :=
  h.keep (fun k hk => Below.heap_setCell _ _ _ _ (by omega)) (by simp [World.setCell])
theorem St.four {w w' : World} {b b' off : Nat} {s : ByteArray} {r : List UInt8} {d x : Int} (h : St w b s r d x) (hf : Four b' off w w') (hb : b < b') : St w' b s r d x :=
  h.keep (fun k hk => hf.block k (Nat.lt_of_le_of_lt hk h.lt) (by omega)) hf.size

/-- What a method of the reader leaves. -/
abbrev StTo (w w' : World) (b : Nat) (s : ByteArray) (r : List UInt8) (d x : Int) : Prop := St w' b s r d x ∧ Rd b w w'
theorem StTo.trans {w y z : World} {b : Nat} {s : ByteArray} {r r' : List UInt8} {d d' x x' : Int} (h : StTo w y b s r d x) (g : StTo y z b s r' d' x') : StTo w z b s r' d' x' := ⟨g.1, h.2.trans g.2⟩

theorem St.of_rd {w w' : World} {b : Nat} {s : ByteArray} {r r' : List UInt8} {d d' x x' : Int} {k : Nat} (h : St w b s r d x) (g : RdTo w w' b s k d' x') (hk : k ≤ s.size) (hs : suf s k = r') : StTo w w' b s r' d' x' :=
  ⟨⟨⟨k, g.1, hk, hs⟩, h.tb.of_block (fun j hj => g.2.block j (by have := h.tb.lt; omega) (by have := h.b3; omega)), h.b3, h.sz⟩, g.2⟩

theorem peek_c (w : World) (b : Nat) (s : ByteArray) (c : UInt8) (t : List UInt8) (d x : Int) (h : St w b s (c :: t) d x) :
    Calls Tryd.prog 31 #[.pointer (some ⟨b, 0, none⟩)] w fun e w' => e = .returned (.tuple #[.int .u8 c.toNat, .bool true]) ∧ StTo w w' b s (c :: t) d x := by
  obtain ⟨k, hr, hk, hs⟩ := h.rd
  obtain ⟨hk', e1, e2⟩ := suf_cons hs
  refine (peek_some w b s k d x hr h.sz hk').mono ?_
  rintro e w' ⟨he, hw⟩
  exact ⟨by rw [he, e1], h.of_rd hw hk hs⟩
theorem peek_n (w : World) (b : Nat) (s : ByteArray) (d x : Int) (h : St w b s [] d x) :
    Calls Tryd.prog 31 #[.pointer (some ⟨b, 0, none⟩)] w fun e w' => e = .returned (.tuple #[.int .u8 0, .bool false]) ∧ StTo w w' b s [] d x := by
  obtain ⟨k, hr, hk, hs⟩ := h.rd
  refine (peek_none w b s k d x hr h.sz (suf_nil hk hs)).mono ?_
  rintro e w' ⟨he, hw⟩
  exact ⟨he, h.of_rd hw hk hs⟩
theorem u8_int {a b : UInt8} (h : a ≠ b) : (a.toNat : Int) ≠ b.toNat := fun e => h (UInt8.toNat_inj.1 (by omega))
theorem take_c (w : World) (b : Nat) (s : ByteArray) (c : UInt8) (t : List UInt8) (d x : Int) (h : St w b s (c :: t) d x) (v : Int) (hv : v = c.toNat) :
    Calls Tryd.prog 18 #[.pointer (some ⟨b, 0, none⟩), .int .u8 v] w fun e w' => e = .returned (.bool true) ∧ StTo w w' b s t d x := by
  obtain ⟨k, hr, hk, hs⟩ := h.rd
  obtain ⟨hk', e1, e2⟩ := suf_cons hs
  refine (take_yes w b s k d x v hr h.sz hk' (by rw [e1, hv])).mono ?_
  rintro e w' ⟨he, hw⟩
  exact ⟨he, h.of_rd hw hk' e2⟩
theorem take_x (w : World) (b : Nat) (s : ByteArray) (c : UInt8) (t : List UInt8) (d x : Int) (h : St w b s (c :: t) d x) (v : Int) (hv : (c.toNat : Int) ≠ v) :
    Calls Tryd.prog 18 #[.pointer (some ⟨b, 0, none⟩), .int .u8 v] w fun e w' => e = .returned (.bool false) ∧ StTo w w' b s (c :: t) d x := by
  obtain ⟨k, hr, hk, hs⟩ := h.rd
  obtain ⟨hk', e1, e2⟩ := suf_cons hs
  refine (take_no w b s k d x v hr h.sz hk' (by rw [e1]; exact hv)).mono ?_
  rintro e w' ⟨he, hw⟩
  exact ⟨he, h.of_rd hw hk hs⟩
theorem take_n (w : World) (b : Nat) (s : ByteArray) (d x : Int) (h : St w b s [] d x) (v : Int) :
    Calls Tryd.prog 18 #[.pointer (some ⟨b, 0, none⟩), .int .u8 v] w fun e w' => e = .returned (.bool false) ∧ StTo w w' b s [] d x := by
  obtain ⟨k, hr, hk, hs⟩ := h.rd
  refine (take_end w b s k d x v hr h.sz (suf_nil hk hs)).mono ?_
  rintro e w' ⟨he, hw⟩
  exact ⟨he, h.of_rd hw hk hs⟩

/-- The reader opened, ahead of a step by hand. -/
theorem St.open {w : World} {b : Nat} {s : ByteArray} {c : UInt8} {t : List UInt8} {d x : Int} (h : St w b s (c :: t) d x) :
    ∃ k : Nat, k < 200 ∧ w.cell? ⟨b, 1, none⟩ = some (.int .i64 k) ∧ w.frozen? ⟨b, 1, none⟩ = false ∧ ∀ w0, Rd b w0 w → StTo w0 (w.setCell ⟨b, 1, none⟩ (.int .i64 (k + 1))) b s t d x := by
  obtain ⟨k, hr, hk, hs⟩ := h.rd
  obtain ⟨hk', e1, e2⟩ := suf_cons hs
  have := h.sz
  refine ⟨k, by omega, hr.c1, hr.fz 1, fun w0 h0 => ?_⟩
  have := hr.step (k + 1)
  have g := h.of_rd (k := k + 1) (d' := d) (x' := x) (r' := t) ⟨by simpa using this, (Rd.refl b w).setCell 1 _⟩ hk' e2
  exact ⟨by simpa using g.1, h0.setCell _ _⟩
end Go.Proofs.YtbjabpodkaokjaaDoor

namespace Go.Proofs.YtbjabpodkaokjaaDoor
open Go.RowKit

abbrev hexS : ByteArray := ⟨#[48, 49, 50, 51, 52, 53, 54, 55, 56, 57, 97, 98, 99, 100, 101, 102]⟩
def hexI (c : UInt8) : Int := match hexN c with | some v => v | none => -1
theorem all256 (p : UInt8 → Bool) (h : ((List.range 256).all fun n => p (UInt8.ofNat n)) = true) (c : UInt8) : p c = true := by
  rw [List.all_eq_true] at h
  have := h c.toNat (List.mem_range.2 c.toNat_lt)
  rwa [UInt8.ofNat_toNat] at this
theorem firstIdx_hex (c : UInt8) : firstIdx hexS c = hexI c := by
  have H : ((List.range 256).all fun n => (fun c => firstIdx hexS c == hexI c) (UInt8.ofNat n)) = true := by kernel_rfl
  exact eq_of_beq (all256 (fun c => firstIdx hexS c == hexI c) H c)

theorem run_idx (s : ByteArray) (c : Int) (w : World) : (callFunc 92 #[.string s, .int .u8 c]).run Tryd.prog w = .ok (.value (.int .i64 (firstIdx s c.toNat.toUInt8))) w := by
  rw [run_callFunc_indexByte Tryd.func92 (by kernel_rfl) (by kernel_rfl) (by kernel_rfl) (by kernel_rfl), run_indexByte_string]
  rfl

set_option maxHeartbeats 400000 in
theorem indexByte_any (c : UInt8) (w : World) :
    Calls Tryd.prog 88 #[.string hexS, .int .u8 c.toNat] w fun e w' => e = .returned (.int .i64 (hexI c)) ∧ w' = w := by
  have hr := run_idx
  have he : firstIdx hexS c = hexI c := firstIdx_hex c
  go_enter Tryd.func88, Tryd.ntmps88
  go_wp2
  go_ret
  exact ⟨rfl, rfl⟩

theorem hexI_none {c : UInt8} (h : hexN c = none) : hexI c = -1 := by simp [hexI, h]
theorem hexI_some {c : UInt8} {v : Nat} (h : hexN c = some v) : hexI c = v := by simp [hexI, h]
theorem hexN_lt {c : UInt8} {v : Nat} (h : hexN c = some v) : v < 16 := by
  unfold hexN at h
  split at h
  · injection h with h; omega
  · split at h
    · injection h with h; omega
    · simp at h

/-- What a reading that answers a byte and ok leaves. -/
def ByteRes (w w' : World) (b : Nat) (s : ByteArray) (d x : Int) (e : Ending) : Res Nat → Prop
  | .ok v r => e = .returned (.tuple #[.int .u8 v, .bool true]) ∧ v < 256 ∧ StTo w w' b s r d x
  | .bad r => ∃ v : Nat, e = .returned (.tuple #[.int .u8 v, .bool false]) ∧ StTo w w' b s r d x

def Res.isOk {α : Type} : Res α → Bool | .ok _ _ => true | .bad _ => false
def Res.val0 : Res Nat → Nat | .ok v _ => v | .bad _ => 0
theorem ByteRes.mk {w w' : World} {b : Nat} {s : ByteArray} {d x : Int} {e : Ending} {R : Res Nat} (h : e = .returned (.tuple #[.int .u8 R.val0, .bool R.isOk])) (hv : R.val0 < 256) (g : StTo w w' b s R.rest d x) : ByteRes w w' b s d x e R := by
  cases R with
  | ok v r => exact ⟨h, hv, g⟩
  | bad r => exact ⟨0, h, g⟩

set_option maxHeartbeats 1000000 in
theorem hexSign_any (w : World) (b : Nat) (s : ByteArray) (r : List UInt8) (d x : Int) (least : Nat) (hl : least < 256) (h : St w b s r d x) :
    Calls Tryd.prog 81 #[.pointer (some ⟨b, 0, none⟩), .int .u8 least] w fun e w' => e = .returned (.tuple #[.int .u8 (pHexSign least r).val0, .bool (pHexSign least r).isOk]) ∧ StTo w w' b s (pHexSign least r).rest d x := by
  match r with
  | [] =>
    have hp := fun w h => peek_n w b s d x h
    go_enter Tryd.func81, Tryd.ntmps81
    go_wp2_with (go_at_call 31; refine (hp _ h).mono ?_; rintro e w1 ⟨rfl, h1⟩)
    go_ret2
    exact ⟨rfl, h1⟩
  | c :: t =>
    have hp := fun w h => peek_c w b s c t d x h
    have hi := fun w => indexByte_any c w
    cases hx : hexN c with
    | none =>
      rw [hexI_none hx] at hi
      have hlt : (-1 : Int) < least := by omega
      have HX : Hid (hexN c = none) := hx
      clear hx
      go_enter Tryd.func81, Tryd.ntmps81
      go_wp2_with (first | (go_at_call 31; refine (hp _ h).mono ?_; rintro e w1 ⟨rfl, h1⟩) | (go_at_call 88; refine (hi _).mono ?_; rintro e w2 ⟨rfl, hw⟩; obtain rfl := hw.symm))
      go_ret2
      simp only [pHexSign, HX.out]
      exact ⟨rfl, h1⟩
    | some v =>
      rw [hexI_some hx] at hi
      have hv := hexN_lt hx
      have HX : Hid (hexN c = some v) := hx
      clear hx
      by_cases hlt : v < least
      · have hlt' : (v : Int) < least := by omega
        go_enter Tryd.func81, Tryd.ntmps81
        go_wp2_with (first | (go_at_call 31; refine (hp _ h).mono ?_; rintro e w1 ⟨rfl, h1⟩) | (go_at_call 88; refine (hi _).mono ?_; rintro e w2 ⟨rfl, hw⟩; obtain rfl := hw.symm))
        go_ret2
        simp only [pHexSign, HX.out, hlt, if_true]
        exact ⟨rfl, h1⟩
      · have hlt' : ¬ (v : Int) < least := by omega
        go_enter Tryd.func81, Tryd.ntmps81
        go_wp2_with (first | (go_at_call 31; refine (hp _ h).mono ?_; rintro e w1 ⟨rfl, h1, hr1⟩; obtain ⟨k, hk, k1, k2, kk⟩ := h1.open) | (go_at_call 88; refine (hi _).mono ?_; rintro e w2 ⟨rfl, hw⟩; obtain rfl := hw.symm))
        go_ret2
        simp only [pHexSign, HX.out, hlt, if_false]
        exact ⟨rfl, kk _ hr1⟩

theorem hexSign_lt (least : Nat) (r : List UInt8) : (pHexSign least r).val0 < 16 := by
  match r with
  | [] => simp [pHexSign, Res.val0]
  | c :: t =>
    cases hx : hexN c with
    | none => simp [pHexSign, Res.val0, hx]
    | some v =>
      by_cases hl : v < least
      · simp [pHexSign, Res.val0, hx, hl]
      · simp only [pHexSign, Res.val0, hx, hl, if_false]; exact hexN_lt hx
end Go.Proofs.YtbjabpodkaokjaaDoor
