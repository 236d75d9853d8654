import Derived.Test.YtbjabpodkaokjaaDoorJ16
import Derived.Maps.AppendAt
set_option linter.unusedVariables false
set_option linter.unusedSimpArgs false
namespace Go.Proofs.YtbjabpodkaokjaaDoor
open Go.RowKit

abbrev NumC (b : Nat) (s : ByteArray) (d x : Int) (l : Int) (r r' : List UInt8) (Q : Int → Prop) (ok : Bool) : Prop :=
  ∀ w, St w b s r d x → Calls Tryd.prog 69 #[.pointer (some ⟨b, 0, none⟩), .int .i64 l] w fun e w' => ∃ v : Int, Q v ∧ e = .returned (.tuple #[.int .i64 v, .bool ok]) ∧ StTo w w' b s r' d x
def qNum : Res Int → Int → Prop
  | .ok v _ => fun u => u = v ∧ 0 ≤ v ∧ v ≤ 30
  | .bad _ => fun _ => True
theorem NumRes.q {w w' : World} {b : Nat} {s : ByteArray} {d x : Int} {e : Ending} {R : Res Int} (g : NumRes w w' b s d x e R) : ∃ v : Int, qNum R v ∧ e = .returned (.tuple #[.int .i64 v, .bool R.isOk]) ∧ StTo w w' b s R.rest d x := by
  cases R with
  | ok v r => exact ⟨v, ⟨rfl, g.2.1, g.2.2.1⟩, g.1, g.2.2.2⟩
  | bad r => obtain ⟨⟨v, g1⟩, g2⟩ := g; exact ⟨v, trivial, g1, g2⟩
theorem num_any (b : Nat) (s : ByteArray) (d x l : Int) (r : List UInt8) (l0 : 0 ≤ l) (l1 : l ≤ 30) : NumC b s d x l r (pDigits l 0 false r).rest (qNum (pDigits l 0 false r)) (pDigits l 0 false r).isOk :=
  fun w hw => (number_any w b s r d x l hw l0 l1).mono fun _ _ g => g.q

set_option maxHeartbeats 1000000 in
theorem bounds_0 (w : World) (b : Nat) (s : ByteArray) (r r1 : List UInt8) (d x : Int) (h : St w b s r d x) (Q : Int → Prop) (hn1 : NumC b s d x 0 r r1 Q false) :
    Calls Tryd.prog 61 #[.pointer (some ⟨b, 0, none⟩)] w fun e w' => e = .returned (.tuple #[.int .i64 0, .int .i64 0, .bool false]) ∧ StTo w w' b s r1 d x := by
  go_enter Tryd.func61, Tryd.ntmps61
  go_wp2_with (first | (go_at_call 69; refine (hn1 _ h).mono ?_; rintro e w1 ⟨v, hv, rfl, g1, hr1⟩))
  go_ret3
  exact ⟨rfl, g1, hr1⟩

set_option maxHeartbeats 1000000 in
theorem bounds_1 (w : World) (b : Nat) (s : ByteArray) (r r1 r2 r3 : List UInt8) (d x : Int) (h : St w b s r d x) (Q : Int → Prop) (tk : Bool) (hn1 : NumC b s d x 0 r r1 Q true) (ht1 : TakC b s d x 44 r1 r2 false) (ht2 : TakC b s d x 125 r2 r3 tk) :
    Calls Tryd.prog 61 #[.pointer (some ⟨b, 0, none⟩)] w fun e w' => (∃ v, Q v ∧ e = .returned (.tuple #[.int .i64 v, .int .i64 v, .bool tk])) ∧ StTo w w' b s r3 d x := by
  go_enter Tryd.func61, Tryd.ntmps61
  go_wp2_with (first | (go_at_call 18; refine (ht2 _ g2).mono ?_; rintro e w3 ⟨rfl, g3, hr3⟩) | (go_at_call 18; refine (ht1 _ g1).mono ?_; rintro e w2 ⟨rfl, g2, hr2⟩) | (go_at_call 69; refine (hn1 _ h).mono ?_; rintro e w1 ⟨v, hv, rfl, g1, hr1⟩))
  go_ret3
  exact ⟨⟨v, hv, rfl⟩, g3, (hr1.trans hr2).trans hr3⟩

set_option maxHeartbeats 1000000 in
theorem bounds_2 (w : World) (b : Nat) (s : ByteArray) (r r1 r2 r3 : List UInt8) (d x : Int) (h : St w b s r d x) (Q : Int → Prop) (hn1 : NumC b s d x 0 r r1 Q true) (ht1 : TakC b s d x 44 r1 r2 true) (ht2 : TakC b s d x 125 r2 r3 true) :
    Calls Tryd.prog 61 #[.pointer (some ⟨b, 0, none⟩)] w fun e w' => (∃ v, Q v ∧ e = .returned (.tuple #[.int .i64 v, .int .i64 (-1), .bool true])) ∧ StTo w w' b s r3 d x := by
  go_enter Tryd.func61, Tryd.ntmps61
  go_wp2_with (first | (go_at_call 18; refine (ht2 _ g2).mono ?_; rintro e w3 ⟨rfl, g3, hr3⟩) | (go_at_call 18; refine (ht1 _ g1).mono ?_; rintro e w2 ⟨rfl, g2, hr2⟩) | (go_at_call 69; refine (hn1 _ h).mono ?_; rintro e w1 ⟨v, hv, rfl, g1, hr1⟩))
  go_ret3
  exact ⟨⟨v, hv, rfl⟩, g3, (hr1.trans hr2).trans hr3⟩

set_option maxHeartbeats 1000000 in
theorem bounds_3 (w : World) (b : Nat) (s : ByteArray) (r r1 r2 r3 r4 : List UInt8) (d x : Int) (h : St w b s r d x) (Q : Int → Prop) (Q2 : Int → Int → Prop) (hn1 : NumC b s d x 0 r r1 Q true) (ht1 : TakC b s d x 44 r1 r2 true) (ht2 : TakC b s d x 125 r2 r3 false) (hn2 : ∀ v, Q v → NumC b s d x v r3 r4 (Q2 v) false) :
    Calls Tryd.prog 61 #[.pointer (some ⟨b, 0, none⟩)] w fun e w' => (∃ v u : Int, e = .returned (.tuple #[.int .i64 v, .int .i64 u, .bool false])) ∧ StTo w w' b s r4 d x := by
  go_enter Tryd.func61, Tryd.ntmps61
  go_wp2_with (first | (go_at_call 69; refine (hn2 v hv _ g3).mono ?_; rintro e w4 ⟨u, hu, rfl, g4, hr4⟩) | (go_at_call 18; refine (ht2 _ g2).mono ?_; rintro e w3 ⟨rfl, g3, hr3⟩) | (go_at_call 18; refine (ht1 _ g1).mono ?_; rintro e w2 ⟨rfl, g2, hr2⟩) | (go_at_call 69; refine (hn1 _ h).mono ?_; rintro e w1 ⟨v, hv, rfl, g1, hr1⟩))
  go_ret3
  exact ⟨⟨v, u, rfl⟩, g4, ((hr1.trans hr2).trans hr3).trans hr4⟩

set_option maxHeartbeats 1000000 in
theorem bounds_4 (w : World) (b : Nat) (s : ByteArray) (r r1 r2 r3 r4 r5 : List UInt8) (d x : Int) (h : St w b s r d x) (Q : Int → Prop) (Q2 : Int → Int → Prop) (tk : Bool) (hn1 : NumC b s d x 0 r r1 Q true) (ht1 : TakC b s d x 44 r1 r2 true) (ht2 : TakC b s d x 125 r2 r3 false) (hn2 : ∀ v, Q v → NumC b s d x v r3 r4 (Q2 v) true) (ht3 : TakC b s d x 125 r4 r5 tk) :
    Calls Tryd.prog 61 #[.pointer (some ⟨b, 0, none⟩)] w fun e w' => (∃ v u : Int, Q v ∧ Q2 v u ∧ e = .returned (.tuple #[.int .i64 v, .int .i64 u, .bool tk])) ∧ StTo w w' b s r5 d x := by
  go_enter Tryd.func61, Tryd.ntmps61
  go_wp2_with (first | (go_at_call 18; refine (ht3 _ g4).mono ?_; rintro e w5 ⟨rfl, g5, hr5⟩) | (go_at_call 69; refine (hn2 v hv _ g3).mono ?_; rintro e w4 ⟨u, hu, rfl, g4, hr4⟩) | (go_at_call 18; refine (ht2 _ g2).mono ?_; rintro e w3 ⟨rfl, g3, hr3⟩) | (go_at_call 18; refine (ht1 _ g1).mono ?_; rintro e w2 ⟨rfl, g2, hr2⟩) | (go_at_call 69; refine (hn1 _ h).mono ?_; rintro e w1 ⟨v, hv, rfl, g1, hr1⟩))
  go_ret3
  exact ⟨⟨v, u, hv, hu, rfl⟩, g5, (((hr1.trans hr2).trans hr3).trans hr4).trans hr5⟩

/-- What a reading of bounds leaves. -/
def BndRes (w w' : World) (b : Nat) (s : ByteArray) (d x : Int) (e : Ending) : Res (Int × Int) → Prop
  | .ok p r => e = .returned (.tuple #[.int .i64 p.1, .int .i64 p.2, .bool true]) ∧ (0 ≤ p.1 ∧ p.1 ≤ 30 ∧ -1 ≤ p.2 ∧ p.2 ≤ 30) ∧ StTo w w' b s r d x
  | .bad r => (∃ u v : Int, e = .returned (.tuple #[.int .i64 u, .int .i64 v, .bool false])) ∧ StTo w w' b s r d x

theorem bounds_any (w : World) (b : Nat) (s : ByteArray) (r : List UInt8) (d x : Int) (h : St w b s r d x) :
    Calls Tryd.prog 61 #[.pointer (some ⟨b, 0, none⟩)] w fun e w' => BndRes w w' b s d x e (pBounds r) := by
  have hn1 := num_any b s d x 0 r (by omega) (by omega)
  obtain ⟨R, hR⟩ : ∃ R, R = pBounds r := ⟨_, rfl⟩
  rw [← hR]
  unfold pBounds at hR
  cases hD : pDigits 0 0 false r with
  | bad r1 =>
    rw [hD] at hn1 hR
    simp only at hR
    subst hR
    exact (bounds_0 w b s r r1 d x h _ hn1).mono fun e w' g => ⟨⟨_, _, g.1⟩, g.2⟩
  | ok least r1 =>
    rw [hD] at hn1 hR
    have ht1 := take_any b s d x 44 r1
    simp only at hR
    cases h1 : tkB 44 r1 with
    | false =>
      have e1 : tkR 44 r1 = r1 := by
        match r1, h1 with
        | [], _ => rfl
        | a :: t, h1 => simp only [tkB, beq_eq_false_iff_ne] at h1; simp [tkR, h1]
      rw [h1, e1] at ht1
      have ht2 := take_any b s d x 125 r1
      refine (bounds_1 w b s r r1 r1 _ d x h _ _ hn1 ht1 ht2).mono fun e w' g => ?_
      obtain ⟨⟨v, ⟨rfl, hv⟩, rfl⟩, g⟩ := g
      match r1, h1, g with
      | [], _, g => simp only at hR; subst hR; exact ⟨⟨_, _, rfl⟩, g⟩
      | a :: t, h1, g =>
        have ne : a ≠ 44 := by simpa [tkB] using h1
        by_cases e : a = 125
        · subst e
          simp only at hR; subst hR
          exact ⟨rfl, ⟨hv.1, hv.2, by simp; omega, hv.2⟩, g⟩
        · have e' : (a == 125) = false := by simpa using e
          simp only [tkB, tkR, e, e', if_false] at g ⊢
          split at hR
          · rename_i h'; injection h' with h1 _; exact absurd h1 ne
          · rename_i h'; injection h' with h1 _; exact absurd h1 ne
          · rename_i h'; injection h' with h1 _; exact absurd h1 e
          · subst hR; exact ⟨⟨_, _, rfl⟩, g⟩
    | true =>
      obtain ⟨t1, rfl⟩ : ∃ t, r1 = 44 :: t := by
        match r1, h1 with
        | a :: t, hk => exact ⟨t, by have : a = 44 := by simpa [tkB] using hk
                                     rw [this]⟩
      rw [h1] at ht1
      have e0 : tkR 44 (44 :: t1) = t1 := rfl
      rw [e0] at ht1
      have ht2 := take_any b s d x 125 t1
      cases h2 : tkB 125 t1 with
      | true =>
        obtain ⟨t2, rfl⟩ : ∃ t, t1 = 125 :: t := by
          match t1, h2 with
          | a :: t, hk => exact ⟨t, by have : a = 125 := by simpa [tkB] using hk
                                       rw [this]⟩
        rw [h2] at ht2
        simp only at hR; subst hR
        refine (bounds_2 w b s r _ _ _ d x h _ hn1 ht1 ht2).mono fun e w' g => ?_
        obtain ⟨⟨v, ⟨rfl, hv⟩, rfl⟩, g⟩ := g
        exact ⟨rfl, ⟨hv.1, hv.2, by simp, by simp⟩, g⟩
      | false =>
        have e2 : tkR 125 t1 = t1 := by
          match t1, h2 with
          | [], _ => rfl
          | a :: t, h1 => simp only [tkB, beq_eq_false_iff_ne] at h1; simp [tkR, h1]
        rw [h2, e2] at ht2
        have hn2 : ∀ v, qNum (.ok least (44 :: t1)) v → NumC b s d x v t1 (pDigits least 0 false t1).rest ((fun _ => qNum (pDigits least 0 false t1)) v) (pDigits least 0 false t1).isOk := by
          rintro v ⟨rfl, hv⟩; exact num_any b s d x v t1 hv.1 hv.2
        have hmid : R = (match pDigits least 0 false t1 with
              | .bad r'' => .bad r''
              | .ok most r'' => match r'' with
                | 125 :: t' => .ok (least, most) t'
                | _ => .bad r'') := by
          rw [hR]
          match t1, h2 with
          | [], _ => rfl
          | a :: t, h2 =>
            have ne : a ≠ 125 := by simpa [tkB] using h2
            split
            · rename_i h'; injection h' with _ h'; injection h' with h1 _; exact absurd h1 ne
            · rename_i h'; injection h' with _ h'; subst h'; rfl
            · rename_i h'; injection h' with h1 _; simp at h1
            · rename_i h1 h2 h3; exact absurd rfl (h2 _)
        clear hR
        subst hmid
        cases hD2 : pDigits least 0 false t1 with
        | bad r4 =>
          rw [hD2] at hn2
          exact (bounds_3 w b s r _ _ _ r4 d x h _ _ hn1 ht1 ht2 hn2).mono fun e w' g => g
        | ok most r4 =>
          rw [hD2] at hn2
          have ht3 := take_any b s d x 125 r4
          refine (bounds_4 w b s r _ _ _ r4 _ d x h _ _ _ hn1 ht1 ht2 hn2 ht3).mono fun e w' g => ?_
          obtain ⟨⟨v, u, ⟨rfl, hv⟩, ⟨rfl, hu⟩, rfl⟩, g⟩ := g
          match r4, g with
          | [], g => exact ⟨⟨_, _, rfl⟩, g⟩
          | a :: t, g =>
            by_cases e : a = 125
            · subst e
              exact ⟨rfl, ⟨hv.1, hv.2, by simp; omega, hu.2⟩, g⟩
            · have e' : (a == 125) = false := by simpa using e
              simp only [tkB, tkR, e, e', if_false] at g ⊢
              split
              · rename_i h'; injection h' with h1 _; exact absurd h1 e
              · exact ⟨⟨_, _, rfl⟩, g⟩
end Go.Proofs.YtbjabpodkaokjaaDoor

namespace Go.Proofs.YtbjabpodkaokjaaDoor
open Go.RowKit

theorem ownsRow_rd {w w' : World} {base : Nat} {e : TypeId} {size : Nat} {v : Value} {n : Nat} {xs : List Value} {b : Nat} (h : w.ownsRow base e size v n xs) (hr : Rd b w w') (hb : b < base) : w'.ownsRow base e size v n xs := by
  obtain ⟨h1, h2⟩ := h
  refine ⟨h1, ?_⟩
  rcases h2 with h2 | ⟨g, cap, cur, hv, hg, hh, r⟩
  · exact .inl h2
  · have hlt : g < w.heap.size := by
      rcases Nat.lt_or_ge g w.heap.size with q | q
      · exact q
      · simp [Array.getElem?_eq_none q] at hh
    exact .inr ⟨g, cap, cur, hv, hg, (hr.block g hlt (by omega)).trans hh, r⟩

theorem Rd.grown {b : Nat} {x w w' : World} {row : Option Nat} (h : Rd b x w) (hg : w.grownBy w' row) (hr : ∀ k, row = some k → x.heap.size ≤ k) : Rd b x w' :=
  ⟨hg.os.trans h.os, hg.tape.trans h.tape, hg.output.trans h.output, Nat.le_trans h.size hg.size, fun k hk hb => (hg.block k (Nat.lt_of_lt_of_le hk h.size) (fun e => by have := hr k e.symm; omega)).trans (h.block k hk hb)⟩
theorem St.grown {w w' : World} {b : Nat} {s : ByteArray} {r : List UInt8} {d x : Int} {row : Option Nat} (h : St w b s r d x) (hg : w.grownBy w' row) (hr : ∀ k, row = some k → b < k) : St w' b s r d x :=
  h.keep (fun k hk => hg.block k (Nat.lt_of_le_of_lt hk h.lt) (fun e => by have := hr k e.symm; omega)) hg.size

theorem cell_kept {w w3 : World} {cs : Array Value} {T : TypeId} (h : w3.heap[w.heap.size]? = (w.alloc (.cells cs T)).heap[w.heap.size]?) (o : Nat) : w3.cell? ⟨w.heap.size, o, none⟩ = cs[o]? := by
  rw [heap_alloc_new] at h
  simp [World.cell?, h]
theorem frozen_kept {w w3 : World} {cs : Array Value} {T : TypeId} (h : w3.heap[w.heap.size]? = (w.alloc (.cells cs T)).heap[w.heap.size]?) (o : Nat) : w3.frozen? ⟨w.heap.size, o, none⟩ = false := by
  rw [heap_alloc_new] at h
  simp [World.frozen?, h]

def cntCells (c : Cnt) : List Value := [.int .u8 c.sign.toNat, .int .i64 c.least, .int .i64 c.most]
abbrev CntRep (w : World) (base : Nat) (v : Value) (cs : List Cnt) : Prop := w.ownsRow base 87 3 v cs.length (cs.flatMap cntCells)
theorem Tryd.infoCnt : (Tryd.prog.info? 87).map (fun i => (i.zero, i.size, i.bytes)) = some (some (.agg #[.int .u8 0, .int .i64 0, .int .i64 0]), 3, 24) := by kernel_rfl

def preC (acc : List Cnt) : Res (List Cnt) → Res (List Cnt)
  | .ok cs r => .ok (acc ++ cs) r
  | .bad r => .bad r

/-- What a reading of counts leaves. -/
def CntRes (w w' : World) (b : Nat) (s : ByteArray) (d x : Int) (e : Ending) : Res (List Cnt) → Prop
  | .ok cs r => (∃ v, CntRep w' w.heap.size v cs ∧ e = .returned (.tuple #[v, .bool true])) ∧ StTo w w' b s r d x
  | .bad r => e = .returned (.tuple #[.slice none 0 0, .bool false]) ∧ StTo w w' b s r d x

structure CntAt (w w' : World) (b : Nat) (s : ByteArray) (d x : Int) (R0 : Res (List Cnt)) (n : Nat) (acc : List Cnt) (v : Value) (r : List UInt8) : Prop where
  st : St w' b s r d x
  rd : Rd b w w'
  own : CntRep w' w.heap.size v acc
  len : acc.length + r.length ≤ 200
  hn : r.length < n
  heq : preC acc (pCounts n r) = R0

set_option maxHeartbeats 2000000 in
theorem counts_any (w : World) (b : Nat) (s : ByteArray) (r : List UInt8) (d x : Int) (h : St w b s r d x) (R0 : Res (List Cnt)) (hR0 : pCounts (r.length + 1) r = R0) :
    Calls Tryd.prog 47 #[.pointer (some ⟨b, 0, none⟩)] w fun e w' => CntRes w w' b s d x e R0 := by
  have hne := h.ne
  have hlt := h.lt
  obtain ⟨i0, hi, hz0, hz1, hz2⟩ := info_parts Tryd.infoCnt
  go_enter Tryd.func47, Tryd.ntmps47
  go_wp2
  refine wp_scope_once 0 (fun a' w' => ∃ n acc v r', CntAt w w' b s d x R0 n acc v r' ∧ ∃ u5 u6 u7 u8 u9 u10 u11 u12 u13 u14 u15 u16 u17 u18 u19 u20 u21 u22 u23 u24 u25 u26 u27 u28 u29 u30 u31 u32 u33, a' = { tmps := #[.pointer (some ⟨b, 0, none⟩), undef, .slice none 0 0, .bool false, v, u5, u6, u7, u8, u9, u10, u11, u12, u13, u14, u15, u16, u17, u18, u19, u20, u21, u22, u23, u24, u25, u26, u27, u28, u29, u30, u31, u32, u33], defers := [] }) (fun _ w' => leftOf b s w') rfl ?_ ?_
  · intro hp
    have HP : Hid _ := hp
    clear hp
    go_wp2
    go_step3
    refine ‹∀ a w, Code.wp _ _ _ a w → _› _ _ (HP.out _ _ ⟨r.length + 1, [], .slice none 0 0, r, ⟨h, Rd.refl _ _, World.ownsRow_nil _ _ _ _, ?_, Nat.lt_succ_self _, ?_⟩, _, _, _, _, _, _, _, _, _, _, _, _, _, _, _, _, _, _, _, _, _, _, _, _, _, _, _, _, _, rfl⟩)
    · have := h.len; simpa using this
    · rw [hR0]; cases R0 <;> rfl
  · rintro a' w' ⟨n, acc, v, r', ⟨hst, hrd, hown, hlen, hn, heq⟩, u5, u6, u7, u8, u9, u10, u11, u12, u13, u14, u15, u16, u17, u18, u19, u20, u21, u22, u23, u24, u25, u26, u27, u28, u29, u30, u31, u32, u33, rfl⟩
    obtain ⟨n', rfl⟩ : ∃ n', n = n' + 1 := ⟨n - 1, by omega⟩
    have HO : Hid (CntRep w' w.heap.size v acc) := hown
    clear hown
    match r', hst, hlen, hn, heq with
    | [], hst, hlen, hn, heq =>
      have HQ : Hid (R0 = .ok acc []) := by show _ = _; rw [← heq]; simp [pCounts, preC]
      clear heq
      go_wp2_with (go_at_call 60; refine (countSign_n _ b s d x hst).mono ?_; rintro e w2 ⟨rfl, g2, hr2⟩)
      simp only [Exit.jump]
      go_ret2
      rw [HQ.out]
      exact ⟨⟨v, ownsRow_rd HO.out hr2 hlt, rfl⟩, g2, hrd.trans hr2⟩
    | c :: t, hst, hlen, hn, heq =>
      by_cases hc : c = 42 ∨ c = 43 ∨ c = 63
      · have hcs : c = 42 ∨ c = 43 ∨ c = 63 ∨ c = 123 := by rcases hc with q | q | q <;> simp [q]
        have HQ : Hid (preC (acc ++ [⟨c, 0, 0⟩]) (pCounts n' t) = R0) := by
          show _ = _
          rw [← heq]
          simp only [pCounts, hc, if_true]
          cases pCounts n' t <;> simp [preC]
        have hb123 : ((c.toNat : Int) == 123) = false := by rcases hc with q | q | q <;> subst q <;> rfl
        clear heq hc
        have hsg := fun w hw => countSign_y w b s c t d x hw hcs
        clear hcs
        go_wp2_with (first | (go_at_call 60; refine (hsg _ hst).mono ?_; rintro e w2 ⟨rfl, g2, hr2⟩; have hl2 : w.heap.size ≤ w2.heap.size := (hrd.trans hr2).size) | (at_builtin; refine wpList_append_own_at _ rfl (.tmp 30) (.tmp 32) 78 rfl w.heap.size 87 i0 (.agg #[.int .u8 0, .int .i64 0, .int .i64 0]) 3 24 Tryd.underlying78 hi hz0 hz1 hz2 rfl (by decide) v acc.length (acc.flatMap cntCells) rfl (((ownsRow_rd HO.out hr2 hlt).alloc _).alloc _) ⟨w2.heap.size + 1, 0, none⟩ 1 1 [.int .u8 c.toNat, .int .i64 0, .int .i64 0] rfl rfl ?c1 ?c2 ?c3 ?c4 ?c5 ?_))
        case c1 =>
          intro j u hj
          match j, hj with
          | 0, hj => simp at hj; subst hj; simp [Addr.add, go_sem]
          | 1, hj => simp at hj; subst hj; simp [Addr.add, go_sem]
          | 2, hj => simp at hj; subst hj; simp [Addr.add, go_sem]
        case c2 => intro u hu; simp at hu; rcases hu with rfl | rfl <;> rfl
        case c3 => unfold maxLen; simp at hlen; omega
        case c4 => simp at hlen; omega
        case c5 => simp; omega
        intro v' w3 hown3 hgr _ _
        have hrow : ∀ k, v.ownBlock = some k → w.heap.size ≤ k := fun k hk => (HO.out.lt k hk).1
        have HO3 : Hid (CntRep w3 w.heap.size v' (acc ++ [⟨c, 0, 0⟩])) := by
          show CntRep w3 w.heap.size v' (acc ++ [⟨c, 0, 0⟩])
          simpa [CntRep, cntCells] using hown3
        have g3 : St w3 b s t d x := ((g2.alloc _).alloc _).grown hgr (fun k hk => by have := hrow k hk; omega)
        have hr3 : Rd b w w3 := (((hrd.trans hr2).alloc _).alloc _).grown hgr hrow
        clear hown3 hgr
        go_wp2
        go_step3
        refine ⟨rfl, ⟨n', acc ++ [⟨c, 0, 0⟩], v', t, ⟨g3, hr3, HO3.out, by simp at hlen ⊢; omega, by simp at hn; omega, HQ.out⟩, _, _, _, _, _, _, _, _, _, _, _, _, _, _, _, _, _, _, _, _, _, _, _, _, _, _, _, _, _, rfl⟩, ?_⟩
        rw [g3.left, hst.left]; simp
      · by_cases hc3 : c = 123
        · subst hc3
          have hsg := fun w hw => countSign_y w b s 123 t d x hw (by simp)
          have hbd := fun w hw => bounds_any w b s t d x hw
          cases hB : pBounds t with
          | bad r3 =>
            rw [hB] at hbd
            have HQ : Hid (R0 = .bad r3) := by show _ = _; rw [← heq]; simp [pCounts, hB, preC]
            clear heq
            go_wp2_with (first | (go_at_call 61; refine (hbd _ (g2.alloc _)).mono ?_; rintro e w3 ⟨⟨p, q, rfl⟩, g3, hr3⟩; have hl3 : w2.heap.size < w3.heap.size := (by have := hr3.size; simp at this; omega); have hcell := hr3.block w2.heap.size (by simp) (by omega); have k0 : w3.cell? ⟨w2.heap.size, 0, none⟩ = some (.int .u8 123) := cell_kept hcell 0; have k1 : w3.cell? ⟨w2.heap.size, 1, none⟩ = some (.int .i64 0) := cell_kept hcell 1; have k2 : w3.cell? ⟨w2.heap.size, 2, none⟩ = some (.int .i64 0) := cell_kept hcell 2; have kf : ∀ o, w3.frozen? ⟨w2.heap.size, o, none⟩ = false := frozen_kept hcell) | (go_at_call 60; refine (hsg _ hst).mono ?_; rintro e w2 ⟨rfl, g2, hr2⟩; have hl2 : w.heap.size ≤ w2.heap.size := (hrd.trans hr2).size))
            simp only [Exit.jump]
            go_ret2
            rw [HQ.out]
            exact ⟨rfl, (by (repeat (with_reducible refine St.setCell ?_ (by first | exact hlt | (simp; done) | (simp; omega)) _)); exact g3), (by (repeat (with_reducible refine Rd.setNew ?_ (by first | exact Nat.le_refl _ | (simp; done) | (simp; omega)) _)); exact ((hrd.trans hr2).alloc _).trans hr3)⟩
          | ok pq r3 =>
            obtain ⟨p, q⟩ := pq
            rw [hB] at hbd
            have hlb := pBounds_len hB
            have HQ : Hid (preC (acc ++ [⟨123, p, q⟩]) (pCounts n' r3) = R0) := by
              show _ = _
              rw [← heq]
              simp only [pCounts, hB]
              cases pCounts n' r3 <;> simp [preC]
            clear heq
            go_wp2_with (first | (at_builtin; refine wpList_append_own_at _ rfl (.tmp 30) (.tmp 32) 78 rfl w.heap.size 87 i0 (.agg #[.int .u8 0, .int .i64 0, .int .i64 0]) 3 24 Tryd.underlying78 hi hz0 hz1 hz2 rfl (by decide) v acc.length (acc.flatMap cntCells) rfl ((ownsRow_setCell_other (ownsRow_setCell_other (ownsRow_rd ((ownsRow_rd HO.out hr2 hlt).alloc _) hr3 hlt) hob _) hob _).alloc _) ⟨w3.heap.size, 0, none⟩ 1 1 [.int .u8 123, .int .i64 p, .int .i64 q] rfl rfl ?c1 ?c2 ?c3 ?c4 ?c5 ?_) | (go_at_call 61; refine (hbd _ (g2.alloc _)).mono ?_; rintro e w3 ⟨rfl, hpq, g3, hr3⟩; have hob : v.ownBlock ≠ some w2.heap.size := (fun e => by have := (HO.out.lt _ e).2; have := hr2.size; omega); have hl3 : w2.heap.size < w3.heap.size := (by have := hr3.size; simp at this; omega); have hcell := hr3.block w2.heap.size (by simp) (by omega); have k0 : w3.cell? ⟨w2.heap.size, 0, none⟩ = some (.int .u8 123) := cell_kept hcell 0; have k1 : w3.cell? ⟨w2.heap.size, 1, none⟩ = some (.int .i64 0) := cell_kept hcell 1; have k2 : w3.cell? ⟨w2.heap.size, 2, none⟩ = some (.int .i64 0) := cell_kept hcell 2; have kf : ∀ o, w3.frozen? ⟨w2.heap.size, o, none⟩ = false := frozen_kept hcell) | (go_at_call 60; refine (hsg _ hst).mono ?_; rintro e w2 ⟨rfl, g2, hr2⟩; have hl2 : w.heap.size ≤ w2.heap.size := (hrd.trans hr2).size))
            case c1 =>
              intro j u hj
              match j, hj with
              | 0, hj => simp at hj; subst hj; simp [Addr.add, go_sem]
              | 1, hj => simp at hj; subst hj; simp [Addr.add, go_sem]
              | 2, hj => simp at hj; subst hj; simp [Addr.add, go_sem]
            case c2 => intro u hu; simp at hu; rcases hu with rfl | rfl | rfl <;> rfl
            case c3 => unfold maxLen; simp at hlen; omega
            case c4 => simp at hlen; omega
            case c5 => simp; omega
            intro v' w4 hown4 hgr _ _
            have hrow : ∀ k, v.ownBlock = some k → w.heap.size ≤ k := fun k hk => (HO.out.lt k hk).1
            have HO4 : Hid (CntRep w4 w.heap.size v' (acc ++ [⟨123, p, q⟩])) := by
              show CntRep w4 w.heap.size v' (acc ++ [⟨123, p, q⟩])
              simpa [CntRep, cntCells] using hown4
            have g3' : St ((w3.setCell ⟨w2.heap.size, 1, none⟩ (.int .i64 p)).setCell ⟨w2.heap.size, 2, none⟩ (.int .i64 q)) b s r3 d x := (g3.setCell (by simp; omega) _).setCell (by simp; omega) _
            have hr3' : Rd b w ((w3.setCell ⟨w2.heap.size, 1, none⟩ (.int .i64 p)).setCell ⟨w2.heap.size, 2, none⟩ (.int .i64 q)) := ((((hrd.trans hr2).alloc _).trans hr3).setNew (by simp; omega) _).setNew (by simp; omega) _
            have g4 : St w4 b s r3 d x := (g3'.alloc _).grown hgr (fun k hk => by have := hrow k hk; omega)
            have hr4 : Rd b w w4 := (hr3'.alloc _).grown hgr hrow
            clear hown4 hgr
            go_wp2
            go_step3
            refine ⟨rfl, ⟨n', acc ++ [⟨123, p, q⟩], v', r3, ⟨g4, hr4, HO4.out, by simp at hlen ⊢; omega, by simp at hn; omega, HQ.out⟩, _, _, _, _, _, _, _, _, _, _, _, _, _, _, _, _, _, _, _, _, _, _, _, _, _, _, _, _, _, rfl⟩, ?_⟩
            rw [g4.left, hst.left]; simp; omega
        · have HQ : Hid (R0 = .ok acc (c :: t)) := by show _ = _; rw [← heq]; simp [pCounts, hc, hc3, preC]
          have hsg := fun w hw => countSign_x w b s c t d x hw (fun e => hc (.inl e)) (fun e => hc (.inr (.inl e))) (fun e => hc (.inr (.inr e))) hc3
          clear heq hc hc3
          go_wp2_with (go_at_call 60; refine (hsg _ hst).mono ?_; rintro e w2 ⟨rfl, g2, hr2⟩)
          simp only [Exit.jump]
          go_ret2
          rw [HQ.out]
          exact ⟨⟨v, ownsRow_rd HO.out hr2 hlt, rfl⟩, g2, hrd.trans hr2⟩
end Go.Proofs.YtbjabpodkaokjaaDoor
