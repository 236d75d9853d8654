import Derived.Test.YtbjabpodkaokjaaDoorJ39
import Derived.Test.YtbjabpodkaokjaaDoorJ22
import Derived.Test.YtbjabpodkaokjaaDoorJ28
import Derived.Deep.RegionWith
set_option linter.unusedVariables false
set_option linter.unusedSimpArgs false
namespace Go.Proofs.YtbjabpodkaokjaaDoor
open Go.RowKit

abbrev mkObj (s : ByteArray) : Obj := .cells #[.string s, .int .i64 0] 49
theorem newMk (w : World) (s : ByteArray) (hs : s.size ≤ 200) : Mk (w.alloc (mkObj s)) w.heap.size s s.data.toList := by
  refine ⟨⟨0, ?_, ?_, Nat.zero_le _, by simp [suf]⟩, fun o => ?_, by simp, hs⟩ <;> simp [go_sem]

def MadeRes (w w' : World) (e : Ending) (p : Ptn) : Prop := ∃ g, e = .returned (.tuple #[.pointer (some ⟨g, 0, none⟩), .bool p.front, .bool p.back]) ∧ Below w.heap.size w w' ∧ RepT w' (fun k => k < w'.heap.size) (rCs p.choices) g

theorem readP_forms {l : List UInt8} {p : Ptn} (h : readP l = .ok p []) : ∃ r', pChoices (4 * (tkR 94 l).length + 4) (tkR 94 l) = .ok p.choices r' ∧ p.front = tkB 94 l ∧ p.back = !r'.isEmpty ∧ overB r' = true := by
  unfold readP at h
  split at h
  · simp at h
  · rename_i cs r' h1
    split at h
    · rename_i he
      injection h with e _
      subst e
      refine ⟨r', h1, rfl, ?_, ?_⟩
      · match r', he with
        | [], _ => rfl
        | c :: t, he =>
          simp only [tkR] at he
          split at he
          · rename_i e; subst e; rfl
          · simp at he
      · match r', he with
        | [], _ => rfl
        | c :: t, he =>
          simp only [tkR] at he
          split at he
          · rename_i e; subst e; simp [overB, he]
          · simp at he
    · simp at h

theorem below_of_rd1 {w w1 : World} {o : Obj} (h : Rd w.heap.size (w.alloc o) w1) : Below w.heap.size w w1 :=
  ⟨h.os, h.tape, h.output, by have := h.size; simp at this; omega, fun k hk => (h.block k (by simp; omega) (by omega)).trans (Below.heap_alloc _ _ _ hk)⟩

theorem rep_any {x : World} {B g : Nat} {T : RT} (h : RepT x (From B x) T g) (n : Nat) : RepT (x.drewN n) (fun k => k < (x.drewN n).heap.size) T g :=
  RepT.of_heap (w := x) (w' := x.drewN n) (S := From B x) (S' := fun k => k < (x.drewN n).heap.size) (fun j hj _ => ⟨hj.2, rfl⟩) T g h
set_option maxRecDepth 20000 in
set_option maxHeartbeats 2000000 in
theorem made_f (w : World) (s : ByteArray) (l r' : List UInt8) (T : RT) (hg : Mk (w.alloc (mkObj s)) w.heap.size s l) (c : UInt8) (hc : ((c.toNat : Int) == 94) = false) (hh : MkHereAt w.heap.size s l c) (hch : MkChsC w.heap.size s l r' T) :
    Calls Tryd.prog 9 #[.string s] w fun e w' => ∃ g, e = .returned (.tuple #[.pointer (some ⟨g, 0, none⟩), .bool false, .bool (!r'.isEmpty)]) ∧ Below w.heap.size w w' ∧ RepT w' (fun k => k < w'.heap.size) T g := by
  have HG : Hid (Mk (w.alloc (mkObj s)) w.heap.size s l) := hg
  clear hg
  have hb : ∀ k : Nat, k + r'.length = s.size → decide (k < s.size) = !r'.isEmpty := by
    intro k hk
    cases r' with
    | nil => simp at hk ⊢; omega
    | cons a t => simp at hk ⊢; omega
  have HB : Hid (∀ k : Nat, k + r'.length = s.size → decide (k < s.size) = !r'.isEmpty) := hb
  clear hb
  go_enter Tryd.func9, Tryd.ntmps9
  go_wp2_with (first | (go_at_call 15; refine (hch _ g2).mono ?_; rintro e w3 ⟨g, rfl, ⟨g3, l3⟩, t3⟩; obtain ⟨k, c0, c1, hk, hsf, sz, lt, fz⟩ := g3.cells; have HT : Hid _ := t3; clear t3; have HBK : Hid _ := HB.out k hk) | (go_at_call 14; refine (hh _ HG.out).mono ?_; rintro e w2 ⟨rfl, g2, l2⟩; obtain ⟨k2, d0, d1, hk2, hsf2, sz2, lt2, fz2⟩ := g2.cells))
  go_quiet (fail)
  go_wp2
  have hall := (Rd.of_below l2 (b := w.heap.size)).trans l3
  have hz3 := l3.size
  refine bodyPost_ret (v := .tuple #[.pointer (some ⟨g, 0, none⟩), .bool false, .bool (!r'.isEmpty)]) ?_ rfl ⟨g, rfl, belowN (below_of_rd1 hall) _, rep_any HT.out nq⟩
  rw [← HBK.out]
  simp [results, Tryd.results9, go_sem]
set_option maxRecDepth 20000 in
set_option maxHeartbeats 2000000 in
theorem made_t (w : World) (s : ByteArray) (t r' : List UInt8) (T : RT) (hg : Mk (w.alloc (mkObj s)) w.heap.size s (94 :: t)) (hl : s.data.toList = 94 :: t) (hh : MkHereAt w.heap.size s (94 :: t) 94) (hch : MkChsC w.heap.size s t r' T) :
    Calls Tryd.prog 9 #[.string s] w fun e w' => ∃ g, e = .returned (.tuple #[.pointer (some ⟨g, 0, none⟩), .bool true, .bool (!r'.isEmpty)]) ∧ Below w.heap.size w w' ∧ RepT w' (fun k => k < w'.heap.size) T g := by
  have HG : Hid (Mk (w.alloc (mkObj s)) w.heap.size s (94 :: t)) := hg
  clear hg
  have hb : ∀ k : Nat, k + r'.length = s.size → decide (k < s.size) = !r'.isEmpty := by
    intro k hk
    cases r' with
    | nil => simp at hk ⊢; omega
    | cons a t => simp at hk ⊢; omega
  have HB : Hid (∀ k : Nat, k + r'.length = s.size → decide (k < s.size) = !r'.isEmpty) := hb
  clear hb
  have HTO : Hid (∀ x, Mk x w.heap.size s (94 :: t) → Mk (x.setCell ⟨w.heap.size, 1, none⟩ (.int .i64 1)) w.heap.size s t) := fun x hx => by
    have hsz : s.size = t.length + 1 := by
      have := congrArg List.length hl
      simpa using this
    have := hx.to 1 (by omega)
    rw [show suf s 1 = t from by simp [suf, hl]] at this
    simpa using this
  clear hl
  go_enter Tryd.func9, Tryd.ntmps9
  go_wp2_with (first | (go_at_call 15; refine (hch _ (HTO.out _ g2)).mono ?_; rintro e w3 ⟨g, rfl, ⟨g3, l3⟩, t3⟩; obtain ⟨k, c0, c1, hk, hsf, sz, lt, fz⟩ := g3.cells; have HT : Hid _ := t3; clear t3; have HBK : Hid _ := HB.out k hk) | (go_at_call 14; refine (hh _ HG.out).mono ?_; rintro e w2 ⟨rfl, g2, l2⟩; obtain ⟨k2, d0, d1, hk2, hsf2, sz2, lt2, fz2⟩ := g2.cells))
  go_quiet (fail)
  go_wp2
  have hall := ((Rd.of_below l2 (b := w.heap.size)).setCell 1 (.int .i64 1)).trans l3
  have hz3 := l3.size
  refine bodyPost_ret (v := .tuple #[.pointer (some ⟨g, 0, none⟩), .bool true, .bool (!r'.isEmpty)]) ?_ rfl ⟨g, rfl, belowN (below_of_rd1 hall) _, rep_any HT.out nq⟩
  rw [← HBK.out]
  simp [results, Tryd.results9, go_sem]
theorem made_ok (w : World) (s : ByteArray) (hs : s.size ≤ 200) (p : Ptn) (h : readP s.data.toList = .ok p []) :
    Calls Tryd.prog 9 #[.string s] w fun e w' => MadeRes w w' e p := by
  obtain ⟨r', hC, hf, hbk, ho⟩ := readP_forms h
  have hch := (maker_all w.heap.size s _).1 _ _ _ hC ho
  have g0 := newMk w s hs
  unfold MadeRes
  rw [hf, hbk]
  clear hC h hf hbk
  match hl : s.data.toList with
  | [] =>
    rw [hl] at hch g0
    exact made_f w s [] r' _ g0 0 (by decide) (fun w h => here_any w _ s [] h) hch
  | c :: t =>
    rw [hl] at hch g0
    by_cases e : c = 94
    · subst e
      have e1 : tkR 94 (94 :: t) = t := by simp [tkR]
      rw [e1] at hch
      have e2 : tkB 94 (94 :: t) = true := by simp [tkB]
      rw [e2]
      exact made_t w s t r' _ g0 hl (fun w h => here_any w _ s _ h) hch
    · have e1 : tkR 94 (c :: t) = c :: t := by simp [tkR, e]
      rw [e1] at hch
      have e2 : tkB 94 (c :: t) = false := by simp [tkB, e]
      rw [e2]
      exact made_f w s (c :: t) r' _ g0 c (nbeq e) (fun w h => here_any w _ s _ h) hch
end Go.Proofs.YtbjabpodkaokjaaDoor

namespace Go.Proofs.YtbjabpodkaokjaaDoor
open Go.RowKit

theorem hex1 (q : Nat) (h : q < 16) : hexS.extract q (q + 1) = ⟨#[hexD q]⟩ := by
  have : ∀ q, q < 16 → hexS.extract q (q + 1) = ⟨#[hexD q]⟩ := by decide
  exact this q h
set_option maxHeartbeats 2000000 in
theorem two_x (v : Nat) (hv : v < 256) (w : World) :
    Calls Tryd.prog 30 #[.int .i64 v] w fun e w' => e = .returned (.string ⟨#[hexD (v / 16), hexD (v % 16)]⟩) ∧ ∃ n, w' = w.drewN n := by
  have hq : ((v : Int) / 16) = ((v / 16 : Nat) : Int) := by omega
  have hr : ((v : Int) % 16) = ((v % 16 : Nat) : Int) := by omega
  obtain ⟨q, hq1⟩ : ∃ q, q = v / 16 := ⟨_, rfl⟩
  obtain ⟨r, hr1⟩ : ∃ r, r = v % 16 := ⟨_, rfl⟩
  have q16 : q < 16 := by omega
  have r16 : r < 16 := by omega
  rw [← hq1] at hq
  rw [← hr1] at hr
  rw [← hq1, ← hr1]
  clear hq1 hr1
  go_enter Tryd.func30, Tryd.ntmps30
  go_wp2
  go_quiet (fail)
  go_wp2
  go_ret
  refine ⟨?_, nq, rfl⟩
  show Ending.returned (Value.string (hexS.extract q (q + 1) ++ hexS.extract r (r + 1))) = _
  rw [hex1 q q16, hex1 r r16]
  rfl
theorem conv1 (x : World) (g : Nat) (z : Int) (c : UInt8) (hz : z = c.toNat) (h : x.cell? ⟨g, 0, none⟩ = some (.int .u8 z)) : (convert 42 9 (.slice (some ⟨g, 0, none⟩) 1 1)).run Tryd.prog x = .ok (.string ⟨#[c]⟩) x := by
  refine run_convert_bytes_back x _ _ _ _ 1 [c] Tryd.underlying42 underlyingByte underlyingStr ?_
  intro j hj
  have : j = 0 := by simpa using hj
  subst this
  simpa [Addr.add, hz] using h
set_option maxRecDepth 20000 in
set_option maxHeartbeats 2000000 in
theorem decimal_1 (n : Nat) (hn : n < 10) (w : World) :
    Calls Tryd.prog 17 #[.int .i64 n] w fun e w' => e = .returned (.string ⟨#[UInt8.ofNat (48 + n)]⟩) ∧ w' = w.alloc (.cells #[.int .u8 (48 + n)] 5) := by
  have h9 : ¬ (9 : Int) < n := by omega
  have hz : (48 + (n : Int)) = (UInt8.ofNat (48 + n)).toNat := by simp; omega
  have hcv := fun x g h => conv1 x g (48 + n) (UInt8.ofNat (48 + n)) hz h
  have HZ : Hid _ := hz
  clear hz
  go_enter Tryd.func17, Tryd.ntmps17
  go_wp2
  go_ret
  exact ⟨rfl, rfl⟩
set_option maxRecDepth 20000 in
set_option maxHeartbeats 600000 in
theorem decimal_2 (n : Nat) (hn : 10 ≤ n) (hn' : n < 100) (w : World) :
    Calls Tryd.prog 17 #[.int .i64 n] w fun e w' => e = .returned (.string ⟨#[UInt8.ofNat (48 + n / 10), UInt8.ofNat (48 + n % 10)]⟩) ∧ Below w.heap.size w w' := by
  have h9 : (9 : Int) < n := by omega
  have hq : ((n : Int) / 10) = ((n / 10 : Nat) : Int) := by omega
  have hr : ((n : Int) % 10) = ((n % 10 : Nat) : Int) := by omega
  obtain ⟨q, hq1⟩ : ∃ q, q = n / 10 := ⟨_, rfl⟩
  obtain ⟨r, hr1⟩ : ∃ r, r = n % 10 := ⟨_, rfl⟩
  have q10 : q < 10 := by omega
  have r10 : r < 10 := by omega
  rw [← hq1] at hq
  rw [← hr1] at hr
  rw [← hq1, ← hr1]
  clear hq1 hr1
  have ew : IntKind.i64.wrap (q : Int) = q := by simp [IntKind.wrap, go_sem]; omega
  have ez : IntKind.u8.wrap (IntKind.i64.wrap (48 + (n : Int).tmod 10)) = (UInt8.ofNat (48 + r)).toNat := by
    rw [Int.tmod_eq_emod_of_nonneg (by omega), hr]
    simp [IntKind.wrap, go_sem]; omega
  obtain ⟨cr, hcr⟩ : ∃ c, c = UInt8.ofNat (48 + r) := ⟨_, rfl⟩
  obtain ⟨cq, hcq⟩ : ∃ c, c = UInt8.ofNat (48 + q) := ⟨_, rfl⟩
  rw [← hcr] at ez
  rw [← hcr, ← hcq]
  have hcv := fun x g h => conv1 x g (IntKind.u8.wrap (IntKind.i64.wrap (48 + (n : Int).tmod 10))) cr ez h
  have hd : ∀ w, Calls Tryd.prog 17 #[.int .i64 (IntKind.i64.wrap (q : Int))] w fun e w' => e = .returned (.string ⟨#[cq]⟩) ∧ w' = w.alloc (.cells #[.int .u8 (48 + q)] 5) := by
    rw [ew, hcq]; exact decimal_1 q q10
  clear ew ez hcr hcq
  go_enter Tryd.func17, Tryd.ntmps17
  go_wp2
  go_region_with (first | (go_at_call 17; refine (hd _).mono ?_; rintro e w' ⟨rfl, hw⟩; obtain rfl := hw.symm))
  all_goals
    go_wp2
    go_ret
    exact ⟨rfl, (by (repeat first | (with_reducible refine Below.setCell ?_ (by first | exact Nat.le_refl _ | (simp; done) | (simp; omega)) _) | (with_reducible refine Below.alloc ?_ (by first | omega | (simp; done) | (simp; omega)) _) | (with_reducible refine Below.drew ?_) | (with_reducible refine belowN ?_ _)); exact Below.refl _ _)⟩
theorem decimal_ok (n : Nat) (hn : n < 100) (w : World) :
    Calls Tryd.prog 17 #[.int .i64 n] w fun e w' => e = .returned (.string ⟨(tDec n).toArray⟩) ∧ Below w.heap.size w w' := by
  by_cases h : n < 10
  · refine (decimal_1 n h w).mono ?_
    rintro e w' ⟨rfl, rfl⟩
    exact ⟨by simp [tDec, h], (Below.refl _ _).alloc (Nat.le_refl _) _⟩
  · refine (decimal_2 n (by omega) hn w).mono ?_
    rintro e w' ⟨rfl, hb⟩
    exact ⟨by simp [tDec, h], hb⟩
end Go.Proofs.YtbjabpodkaokjaaDoor
