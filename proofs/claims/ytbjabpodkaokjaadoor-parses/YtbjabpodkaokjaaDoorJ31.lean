import Derived.Test.YtbjabpodkaokjaaDoorJ30
import Derived.Test.YtbjabpodkaokjaaDoorJ08
import Derived.Test.YtbjabpodkaokjaaDoorJ15
import Derived.Test.YtbjabpodkaokjaaDoorJ21
set_option linter.unusedVariables false
set_option linter.unusedSimpArgs false
namespace Go.Proofs.YtbjabpodkaokjaaDoor
open Go.RowKit

theorem nbeq {c k : UInt8} (h : c ≠ k) : ((c.toNat : Int) == (k.toNat : Int)) = false := by
  simp; intro e; exact h (UInt8.toNat_inj.mp (by omega))
def overB : List UInt8 → Bool
  | [] => true
  | c :: t => c == 124 || c == 41 || (c == 36 && t.isEmpty)

/-- The cells of a maker, and where the text goes on. -/
theorem Mk.cells {w : World} {b : Nat} {s : ByteArray} {r : List UInt8} (h : Mk w b s r) : ∃ k : Nat, w.cell? ⟨b, 0, none⟩ = some (.string s) ∧ w.cell? ⟨b, 1, none⟩ = some (.int .i64 k) ∧ k + r.length = s.size ∧ suf s k = r ∧ s.size ≤ 200 ∧ b < w.heap.size ∧ ∀ o, w.frozen? ⟨b, o, none⟩ = false := by
  obtain ⟨⟨k, c0, c1, hk, hs⟩, fz, lt, sz⟩ := h
  exact ⟨k, c0, c1, by rw [← hs, suf_len]; omega, hs, sz, lt, fz⟩

set_option maxHeartbeats 1000000 in
theorem over_any (w : World) (b : Nat) (s : ByteArray) (r : List UInt8) (h : Mk w b s r) :
    Calls Tryd.prog 37 #[.pointer (some ⟨b, 0, none⟩)] w fun e w' => e = .returned (.bool (overB r)) ∧ MkAs w w' b s r := by
  have hh := here_any w b s r h
  match r, h, hh with
  | [], h, hh =>
    go_enter Tryd.func37, Tryd.ntmps37
    go_wp2_with (go_at_call 14; refine hh.mono ?_; rintro e w1 ⟨rfl, g1, hb1⟩; obtain ⟨k, c0, c1, hk, hs, sz, lt, fz⟩ := g1.cells; simp at hk)
    have hge : ¬ (k : Int) < s.size := by omega
    go_quiet (fail)
    go_wp2
    go_ret
    exact ⟨rfl, g1.drewN _, (by (repeat first | (with_reducible refine Below.setCell ?_ (by first | exact Nat.le_refl _ | (simp; done) | (simp; omega)) _) | (with_reducible refine Below.alloc ?_ (by first | omega | (simp; done) | (simp; omega)) _) | (with_reducible refine Below.drew ?_) | (with_reducible refine belowN ?_ _)); exact hb1)⟩
  | c :: t, h, hh =>
    simp only [hd0] at hh
    by_cases q1 : c = 124
    · subst q1
      go_enter Tryd.func37, Tryd.ntmps37
      go_wp2_with (go_at_call 14; refine hh.mono ?_; rintro e w1 ⟨rfl, g1, hb1⟩; obtain ⟨k, c0, c1, hk, hs, sz, lt, fz⟩ := g1.cells; simp at hk)
      have hge : ¬ (s.size : Int) ≤ k := by omega
      go_quiet (fail)
      go_wp2
      go_ret
      exact ⟨rfl, g1.drewN _, (by (repeat first | (with_reducible refine Below.setCell ?_ (by first | exact Nat.le_refl _ | (simp; done) | (simp; omega)) _) | (with_reducible refine Below.alloc ?_ (by first | omega | (simp; done) | (simp; omega)) _) | (with_reducible refine Below.drew ?_) | (with_reducible refine belowN ?_ _)); exact hb1)⟩
    by_cases q2 : c = 41
    · subst q2
      go_enter Tryd.func37, Tryd.ntmps37
      go_wp2_with (go_at_call 14; refine hh.mono ?_; rintro e w1 ⟨rfl, g1, hb1⟩; obtain ⟨k, c0, c1, hk, hs, sz, lt, fz⟩ := g1.cells; simp at hk)
      have hge : ¬ (s.size : Int) ≤ k := by omega
      go_quiet (fail)
      go_wp2
      go_ret
      exact ⟨rfl, g1.drewN _, (by (repeat first | (with_reducible refine Below.setCell ?_ (by first | exact Nat.le_refl _ | (simp; done) | (simp; omega)) _) | (with_reducible refine Below.alloc ?_ (by first | omega | (simp; done) | (simp; omega)) _) | (with_reducible refine Below.drew ?_) | (with_reducible refine belowN ?_ _)); exact hb1)⟩
    have p1 : ((c.toNat : Int) == 124) = false := nbeq q1
    have p2 : ((c.toNat : Int) == 41) = false := nbeq q2
    by_cases q3 : c = 36
    · subst q3
      cases t with
      | nil =>
        go_enter Tryd.func37, Tryd.ntmps37
        go_wp2_with (go_at_call 14; refine hh.mono ?_; rintro e w1 ⟨rfl, g1, hb1⟩; obtain ⟨k, c0, c1, hk, hs, sz, lt, fz⟩ := g1.cells; simp at hk)
        have hq : ((k : Int) == (s.size : Int) - 1) = true := by simp; omega
        have hge : ¬ (s.size : Int) ≤ k := by omega
        go_quiet (fail)
        go_wp2
        go_ret
        exact ⟨rfl, g1.drewN _, (by (repeat first | (with_reducible refine Below.setCell ?_ (by first | exact Nat.le_refl _ | (simp; done) | (simp; omega)) _) | (with_reducible refine Below.alloc ?_ (by first | omega | (simp; done) | (simp; omega)) _) | (with_reducible refine Below.drew ?_) | (with_reducible refine belowN ?_ _)); exact hb1)⟩
      | cons a t' =>
        go_enter Tryd.func37, Tryd.ntmps37
        go_wp2_with (go_at_call 14; refine hh.mono ?_; rintro e w1 ⟨rfl, g1, hb1⟩; obtain ⟨k, c0, c1, hk, hs, sz, lt, fz⟩ := g1.cells; simp at hk)
        have hq : ((k : Int) == (s.size : Int) - 1) = false := by simp; omega
        have hge : ¬ (s.size : Int) ≤ k := by omega
        go_quiet (fail)
        go_wp2
        go_ret
        exact ⟨rfl, g1.drewN _, (by (repeat first | (with_reducible refine Below.setCell ?_ (by first | exact Nat.le_refl _ | (simp; done) | (simp; omega)) _) | (with_reducible refine Below.alloc ?_ (by first | omega | (simp; done) | (simp; omega)) _) | (with_reducible refine Below.drew ?_) | (with_reducible refine belowN ?_ _)); exact hb1)⟩
    have p3 : ((c.toNat : Int) == 36) = false := nbeq q3
    have e : overB (c :: t) = false := by simp [overB, q1, q2, q3]
    rw [e]
    go_enter Tryd.func37, Tryd.ntmps37
    go_wp2_with (go_at_call 14; refine hh.mono ?_; rintro e w1 ⟨rfl, g1, hb1⟩; obtain ⟨k, c0, c1, hk, hs, sz, lt, fz⟩ := g1.cells; simp at hk)
    have hge : ¬ (s.size : Int) ≤ k := by omega
    go_quiet (fail)
    go_wp2
    go_ret
    exact ⟨rfl, g1.drewN _, (by (repeat first | (with_reducible refine Below.setCell ?_ (by first | exact Nat.le_refl _ | (simp; done) | (simp; omega)) _) | (with_reducible refine Below.alloc ?_ (by first | omega | (simp; done) | (simp; omega)) _) | (with_reducible refine Below.drew ?_) | (with_reducible refine belowN ?_ _)); exact hb1)⟩
end Go.Proofs.YtbjabpodkaokjaaDoor

namespace Go.Proofs.YtbjabpodkaokjaaDoor
open Go.RowKit

theorem Mk.left {w : World} {b : Nat} {s : ByteArray} {r : List UInt8} (h : Mk w b s r) : leftOf b s w = r.length := by
  obtain ⟨k, c0, c1, hk, hs, sz, lt, fz⟩ := h.cells
  simp [leftOf, c1, intOf]; omega
/-- A byte further. -/
theorem Mk.next {w : World} {b : Nat} {s : ByteArray} {c : UInt8} {t : List UInt8} (h : Mk w b s (c :: t)) {k : Nat} (hk : k + (c :: t).length = s.size) : Mk (w.setCell ⟨b, 1, none⟩ (.int .i64 ((k : Int) + 1))) b s t := by
  obtain ⟨k', c0, c1, hk', hs, sz, lt, fz⟩ := h.cells
  have e : k' = k := by omega
  subst e
  have := h.to (k' + 1) (by simp at hk; omega)
  obtain ⟨_, _, e2⟩ := suf_cons hs
  rw [e2] at this
  simpa using this
theorem Mk.byte {w : World} {b : Nat} {s : ByteArray} {c : UInt8} {t : List UInt8} (h : Mk w b s (c :: t)) : ∃ (k : Nat) (hk' : k < s.size), s[k] = c ∧ w.cell? ⟨b, 0, none⟩ = some (.string s) ∧ w.cell? ⟨b, 1, none⟩ = some (.int .i64 k) ∧ k + (c :: t).length = s.size ∧ s.size ≤ 200 ∧ b < w.heap.size ∧ (∀ o, w.frozen? ⟨b, o, none⟩ = false) := by
  obtain ⟨k, c0, c1, hk, hs, sz, lt, fz⟩ := h.cells
  obtain ⟨hk', e1, e2⟩ := suf_cons hs
  exact ⟨k, hk', e1, c0, c1, hk, sz, lt, fz⟩
def isDg (c : UInt8) : Bool := decide (48 ≤ c.toNat ∧ c.toNat ≤ 57)

set_option maxHeartbeats 2000000 in
theorem number_ok (w : World) (b : Nat) (s : ByteArray) (r r' : List UInt8) (least v : Int) (h : Mk w b s r) (hD : pDigits least 0 false r = .ok v r') (hr : ∀ c t, r' = c :: t → isDg c = false) :
    Calls Tryd.prog 54 #[.pointer (some ⟨b, 0, none⟩)] w fun e w' => e = .returned (.int .i64 v) ∧ MkTo w w' b s r' := by
  go_enter Tryd.func54, Tryd.ntmps54
  go_wp2
  go_loopw [3] (fun i wr => ∃ (value : Int) (begun : Bool) (rr : List UInt8), i = .int .i64 value ∧ Mk wr b s rr ∧ Rd b w wr ∧ pDigits least value begun rr = .ok v r' ∧ 0 ≤ value ∧ value ≤ 30) (fun _ wr => leftOf b s wr)
  case atStart => exact ⟨0, false, r, rfl, h, Rd.refl _ _, hD, by omega, by omega⟩
  case round =>
    obtain ⟨value, begun, rr, rfl, hm, hrd, hP, v0, v1⟩ := hrel
    have HP : Hid (pDigits least value begun rr = .ok v r') := hP
    clear hP hD
    match rr, hm, HP with
    | [], hm, HP =>
      have e : value = v ∧ [] = r' := by
        have := HP.out; simp only [pDigits] at this
        split at this
        · injection this with a b; exact ⟨a, b⟩
        · simp at this
      obtain ⟨rfl, rfl⟩ := e
      obtain ⟨k, c0, c1, hk, hs, sz, lt, fz⟩ := hm.cells
      simp at hk
      have hge : ¬ (k : Int) < s.size := by omega
      go_wp2
      go_quiet (fail)
      go_wp2
      go_ret
      exact ⟨rfl, hm.drewN _, (by (repeat first | (with_reducible refine Rd.setNew ?_ (by first | exact Nat.le_refl _ | (simp; done) | (simp; omega)) _) | (with_reducible refine Rd.alloc ?_ _) | (with_reducible refine Rd.drew ?_) | (with_reducible refine Rd.drewN ?_ _)); exact hrd)⟩
    | c :: t, hm, HP =>
      obtain ⟨k, hk', e1, c0, c1, hk, sz, lt, fz⟩ := hm.byte
      have hc := c.toNat_lt
      by_cases hd : isDg c = true
      · have hdd : 48 ≤ c.toNat ∧ c.toNat ≤ 57 := by simpa [isDg] using hd
        have HN : Hid (pDigits least (value * 10 + (c.toNat - 48)) true t = .ok v r' ∧ 0 ≤ value * 10 + ((c.toNat : Int) - 48) ∧ value * 10 + ((c.toNat : Int) - 48) ≤ 30) := by
          have := HP.out; simp only [pDigits] at this
          split at this
          · rename_i q
            refine ⟨this, by omega, ?_⟩
            have q4 := q.2.2.2
            unfold beginsNum at q4; split at q4
            · simp at q4
            · omega
          · split at this
            · injection this with a b
              have := hr c t b.symm
              rw [hd] at this; simp at this
            · simp at this
        clear HP hr
        have HM : Hid (Mk wr b s (c :: t)) := hm
        clear hm
        have n1 : (48 : Int) ≤ c.toNat := by omega
        have n2 : (c.toNat : Int) ≤ 57 := by omega
        subst e1
        go_wp2
        go_quiet (fail)
        go_wp2
        go_quiet (fail)
        go_wp2
        go_roundw
        case rel => exact ⟨_, true, t, by go_num, (HM.out.drewN _).next hk, (hrd.drewN _).setCell _ _, HN.out⟩
        case measure =>
          rw [((HM.out.drewN _).next hk).left, HM.out.left]; simp
      · have e : value = v ∧ c :: t = r' := by
          have := HP.out; simp only [pDigits] at this
          split at this
          · rename_i q; exact absurd (by simp [isDg]; omega) hd
          · split at this
            · injection this with a b; exact ⟨a, b⟩
            · simp at this
        obtain ⟨rfl, rfl⟩ := e
        clear HP hr
        have HM : Hid (Mk wr b s (c :: t)) := hm
        clear hm
        by_cases hlo : 48 ≤ c.toNat
        · have n1 : (48 : Int) ≤ c.toNat := by omega
          have n2 : ¬ (c.toNat : Int) ≤ 57 := by simp [isDg] at hd; omega
          subst e1
          go_wp2
          go_quiet (fail)
          go_wp2
          go_ret
          exact ⟨rfl, HM.out.drewN _, (by (repeat first | (with_reducible refine Rd.setNew ?_ (by first | exact Nat.le_refl _ | (simp; done) | (simp; omega)) _) | (with_reducible refine Rd.alloc ?_ _) | (with_reducible refine Rd.drew ?_) | (with_reducible refine Rd.drewN ?_ _)); exact hrd)⟩
        · have n1 : decide ((48 : Int) ≤ c.toNat) = false := by simp; omega
          subst e1
          go_wp2
          go_quiet (fail)
          go_wp2
          go_ret
          exact ⟨rfl, HM.out.drewN _, (by (repeat first | (with_reducible refine Rd.setNew ?_ (by first | exact Nat.le_refl _ | (simp; done) | (simp; omega)) _) | (with_reducible refine Rd.alloc ?_ _) | (with_reducible refine Rd.drew ?_) | (with_reducible refine Rd.drewN ?_ _)); exact hrd)⟩

/-- All old blocks but two are as they were. -/
structure Rd2 (b g : Nat) (w w' : World) : Prop where
  os : w'.os = w.os
  tape : w'.tape = w.tape
  output : w'.output = w.output
  size : w.heap.size ≤ w'.heap.size
  block : ∀ k, k < w.heap.size → k ≠ b → k ≠ g → w'.heap[k]? = w.heap[k]?
theorem Rd2.refl (b g : Nat) (w : World) : Rd2 b g w w := ⟨rfl, rfl, rfl, Nat.le_refl _, fun _ _ _ _ => rfl⟩
theorem Rd2.rd {b g : Nat} {x y z : World} (h : Rd2 b g x y) (r : Rd b y z) : Rd2 b g x z :=
  ⟨r.os.trans h.os, r.tape.trans h.tape, r.output.trans h.output, Nat.le_trans h.size r.size, fun k hk h1 h2 => (r.block k (Nat.lt_of_lt_of_le hk h.size) h1).trans (h.block k hk h1 h2)⟩
theorem Rd2.below {b g : Nat} {x y z : World} (h : Rd2 b g x y) (r : Below y.heap.size y z) : Rd2 b g x z := h.rd (Rd.of_below r)
theorem Rd2.set1 {b g : Nat} {x y : World} (h : Rd2 b g x y) (o : Nat) (v : Value) : Rd2 b g x (y.setCell ⟨b, o, none⟩ v) := h.rd ((Rd.refl b y).setCell o v)
theorem Rd2.set2 {b g : Nat} {x y : World} (h : Rd2 b g x y) (o : Nat) (v : Value) : Rd2 b g x (y.setCell ⟨g, o, none⟩ v) :=
  ⟨h.os, h.tape, h.output, by simpa [World.setCell] using h.size, fun k hk h1 h2 => (Below.heap_setCell _ _ _ _ h2).trans (h.block k hk h1 h2)⟩
theorem Mk.far {w : World} {b g o : Nat} {s : ByteArray} {r : List UInt8} (h : Mk w b s r) (hg : b ≠ g) (v : Value) : Mk (w.setCell ⟨g, o, none⟩ v) b s r :=
  h.keep (Below.heap_setCell _ _ _ _ hg) (by simp [World.setCell])
theorem Tr.far {w : World} {g : Nat} {kind : Int} {B : Nat → Bool} {kv : Value} {mn mx sg : Int} (h : Tr w g kind B kv mn mx sg) {b o : Nat} (hb : g ≠ b) (v : Value) : Tr (w.setCell ⟨b, o, none⟩ v) g kind B kv mn mx sg :=
  h.of_heap (Below.heap_setCell _ _ _ _ hb)

abbrev MkNumC (b : Nat) (s : ByteArray) (r r' : List UInt8) (v : Int) : Prop := ∀ w, Mk w b s r → Calls Tryd.prog 54 #[.pointer (some ⟨b, 0, none⟩)] w fun e w' => e = .returned (.int .i64 v) ∧ MkTo w w' b s r'
abbrev MkHereC (b : Nat) (s : ByteArray) (r : List UInt8) : Prop := ∀ w, Mk w b s r → Calls Tryd.prog 14 #[.pointer (some ⟨b, 0, none⟩)] w fun e w' => e = .returned (.int .u8 (hd0 r).toNat) ∧ MkAs w w' b s r

set_option maxHeartbeats 2000000 in
theorem counts_1 (w : World) (b g : Nat) (s : ByteArray) (r t : List UInt8) (v : Int) (B : Nat → Bool) (kv : Value) (mn mx sg : Int) (h : Mk w b s r) (hT : Tr w g 3 B kv mn mx sg) (hne : b ≠ g) (hn : MkNumC b s r (125 :: t) v) (hh : MkHereC b s (125 :: t)) :
    Calls Tryd.prog 44 #[.pointer (some ⟨b, 0, none⟩), .pointer (some ⟨g, 0, none⟩)] w fun e w' => e = .returned (.tuple #[]) ∧ Mk w' b s t ∧ Tr w' g 3 B kv v v sg ∧ Rd2 b g w w' := by
  go_enter Tryd.func44, Tryd.ntmps44
  go_wp2_with (first | (go_at_call 14; refine (hh _ ((g1.far hne _).far hne _)).mono ?_; rintro e w2 ⟨rfl, g2, hb2⟩; have t2 := ((t1.least v).most v).of_heap (hb2.block _ ((t1.least v).most v).lt); obtain ⟨k, hk', e1, c0, c1, hk, sz, lt, fz⟩ := g2.byte) | (go_at_call 54; refine (hn _ h).mono ?_; rintro e w1 ⟨rfl, g1, hr1⟩; have t1 := hT.of_heap (hr1.block _ hT.lt hne.symm); have t1c := t1; obtain ⟨u0, uB, uk, um, ux, us, uf⟩ := t1c))
  go_end0
  exact ⟨rfl, g2.next hk, t2.far hne.symm _, ((((Rd2.refl b g w).rd hr1).set2 _ _).set2 _ _).below hb2 |>.set1 _ _⟩

set_option maxHeartbeats 2000000 in
theorem counts_2 (w : World) (b g : Nat) (s : ByteArray) (r t : List UInt8) (v : Int) (B : Nat → Bool) (kv : Value) (mn mx sg : Int) (h : Mk w b s r) (hT : Tr w g 3 B kv mn mx sg) (hne : b ≠ g) (hn : MkNumC b s r (44 :: 125 :: t) v) (hh : MkHereC b s (44 :: 125 :: t)) (hh2 : MkHereC b s (125 :: t)) :
    Calls Tryd.prog 44 #[.pointer (some ⟨b, 0, none⟩), .pointer (some ⟨g, 0, none⟩)] w fun e w' => e = .returned (.tuple #[]) ∧ Mk w' b s t ∧ Tr w' g 3 B kv v (-1) sg ∧ Rd2 b g w w' := by
  go_enter Tryd.func44, Tryd.ntmps44
  go_wp2_with (first | (go_at_call 14; refine (hh2 _ ((g2.next hk).far hne _)).mono ?_; rintro e w3 ⟨rfl, g3, hb3⟩; have t3 := ((t2.far hne.symm _).most (-1)).of_heap (hb3.block _ ((t2.far hne.symm _).most (-1)).lt); obtain ⟨j, hj', f1, d0, d1, hj, sz', lt', fz'⟩ := g3.byte) | (go_at_call 14; refine (hh _ ((g1.far hne _).far hne _)).mono ?_; rintro e w2 ⟨rfl, g2, hb2⟩; have t2 := ((t1.least v).most v).of_heap (hb2.block _ ((t1.least v).most v).lt); obtain ⟨k, hk', e1, c0, c1, hk, sz, lt, fz⟩ := g2.byte; have t2c := t2; obtain ⟨x0, xB, xk, xm, xx, xs, xf⟩ := t2c) | (go_at_call 54; refine (hn _ h).mono ?_; rintro e w1 ⟨rfl, g1, hr1⟩; have t1 := hT.of_heap (hr1.block _ hT.lt hne.symm); have t1c := t1; obtain ⟨u0, uB, uk, um, ux, us, uf⟩ := t1c))
  go_end0
  exact ⟨rfl, g3.next hj, t3.far hne.symm _, ((((((Rd2.refl b g w).rd hr1).set2 _ _).set2 _ _).below hb2 |>.set1 _ _).set2 _ _).below hb3 |>.set1 _ _⟩

set_option maxHeartbeats 2000000 in
theorem counts_3 (w : World) (b g : Nat) (s : ByteArray) (r t t' : List UInt8) (v v2 : Int) (B : Nat → Bool) (kv : Value) (mn mx sg : Int) (h : Mk w b s r) (hT : Tr w g 3 B kv mn mx sg) (hne : b ≠ g) (hn : MkNumC b s r (44 :: t) v) (hh : MkHereC b s (44 :: t)) (hh2 : MkHereC b s t) (hc : hd0 t ≠ 125) (hn2 : MkNumC b s t (125 :: t') v2) :
    Calls Tryd.prog 44 #[.pointer (some ⟨b, 0, none⟩), .pointer (some ⟨g, 0, none⟩)] w fun e w' => e = .returned (.tuple #[]) ∧ Mk w' b s t' ∧ Tr w' g 3 B kv v v2 sg ∧ Rd2 b g w w' := by
  have hc' : (((hd0 t).toNat : Int) != 125) = true := by have := nbeq hc; simp at this ⊢; exact this
  go_enter Tryd.func44, Tryd.ntmps44
  go_wp2_with (first | (go_at_call 54; refine (hn2 _ g3).mono ?_; rintro e w4 ⟨rfl, g4, hr4⟩; have t4 := t3.of_heap (hr4.block _ t3.lt hne.symm); have t4c := t4; obtain ⟨y0, yB, yk, ym, yx, ys, yf⟩ := t4c; obtain ⟨j, hj', f1, d0, d1, hj, sz', lt', fz'⟩ := g4.byte) | (go_at_call 14; refine (hh2 _ ((g2.next hk).far hne _)).mono ?_; rintro e w3 ⟨rfl, g3, hb3⟩; have t3 := ((t2.far hne.symm _).most (-1)).of_heap (hb3.block _ ((t2.far hne.symm _).most (-1)).lt)) | (go_at_call 14; refine (hh _ ((g1.far hne _).far hne _)).mono ?_; rintro e w2 ⟨rfl, g2, hb2⟩; have t2 := ((t1.least v).most v).of_heap (hb2.block _ ((t1.least v).most v).lt); obtain ⟨k, hk', e1, c0, c1, hk, sz, lt, fz⟩ := g2.byte; have t2c := t2; obtain ⟨x0, xB, xk, xm, xx, xs, xf⟩ := t2c) | (go_at_call 54; refine (hn _ h).mono ?_; rintro e w1 ⟨rfl, g1, hr1⟩; have t1 := hT.of_heap (hr1.block _ hT.lt hne.symm); have t1c := t1; obtain ⟨u0, uB, uk, um, ux, us, uf⟩ := t1c))
  go_end0
  exact ⟨rfl, (g4.far hne _).next hj, (t4.most v2).far hne.symm _, ((((((((Rd2.refl b g w).rd hr1).set2 _ _).set2 _ _).below hb2 |>.set1 _ _).set2 _ _).below hb3).rd hr4 |>.set2 _ _).set1 _ _⟩

theorem counts_ok (w : World) (b g : Nat) (s : ByteArray) (r r' : List UInt8) (a z : Int) (B : Nat → Bool) (kv : Value) (mn mx sg : Int) (h : Mk w b s r) (hT : Tr w g 3 B kv mn mx sg) (hne : b ≠ g) (hB : pBounds r = .ok (a, z) r') :
    Calls Tryd.prog 44 #[.pointer (some ⟨b, 0, none⟩), .pointer (some ⟨g, 0, none⟩)] w fun e w' => e = .returned (.tuple #[]) ∧ Mk w' b s r' ∧ Tr w' g 3 B kv a z sg ∧ Rd2 b g w w' := by
  have hh : ∀ r, MkHereC b s r := fun r w h => here_any w b s r h
  simp only [pBounds] at hB
  split at hB
  · simp at hB
  · rename_i least r1 hD
    split at hB
    · rename_i t
      injection hB with e1 e2
      injection e1 with e3 e4
      subst e2; subst e3; subst e4
      exact counts_2 w b g s r t least B kv mn mx sg h hT hne (fun w h => number_ok w b s r _ 0 least h hD (fun c t e => by injection e with e _; subst e; decide)) (hh _) (hh _)
    · rename_i t hnt
      split at hB
      · simp at hB
      · rename_i most r2 hD2
        split at hB
        · rename_i t'
          injection hB with e1 e2
          injection e1 with e3 e4
          subst e2; subst e3; subst e4
          refine counts_3 w b g s r t t' least most B kv mn mx sg h hT hne (fun w h => number_ok w b s r _ 0 least h hD (fun c t e => by injection e with e _; subst e; decide)) (hh _) (hh _) ?_ (fun w h => number_ok w b s t _ least most h hD2 (fun c t e => by injection e with e _; subst e; decide))
          match t, hnt with
          | [], _ => simp [hd0]
          | c :: t2, hnt => intro e; simp [hd0] at e; exact hnt t2 (by rw [e])
        · simp at hB
    · rename_i t
      injection hB with e1 e2
      injection e1 with e3 e4
      subst e2; subst e3; subst e4
      exact counts_1 w b g s r t least B kv mn mx sg h hT hne (fun w h => number_ok w b s r _ 0 least h hD (fun c t e => by injection e with e _; subst e; decide)) (hh _)
    · simp at hB
end Go.Proofs.YtbjabpodkaokjaaDoor
