import Derived.Test.YtbjabpodkaokjaaDoorJ01
import Derived.Test.YtbjabpodkaokjaaDoorJ07
import Derived.Deep.RegionWith
set_option linter.unusedVariables false
set_option linter.unusedSimpArgs false
namespace Go.Proofs.YtbjabpodkaokjaaDoor

def Md.init : Md := ⟨0, 0, 0, false, -1, 0, 0, 0⟩
def runAll (m : Md) (l : List UInt8) : Md := l.foldl (fun m c => m.step c.toNat) m

structure Md.Ok (k : Int) (m : Md) : Prop where
  m0 : 0 ≤ m.M
  m1 : m.M ≤ 16
  d0 : 0 ≤ m.Depth
  d1 : m.Depth ≤ k
  o0 : 0 ≤ m.Most
  o1 : m.Most ≤ k
  v0 : 0 ≤ m.Value
  v1 : m.Value ≤ 255
  e0 : 0 ≤ m.Least
  e1 : m.Least ≤ 30
  n0 : 0 ≤ m.N
  n1 : m.N ≤ 30
  x5 : m.M = 5 → m.Value ≤ 15

theorem Md.Ok_init : Md.Ok 0 Md.init := by constructor <;> simp [Md.init]

theorem reaches_le (v lo : Int) (h : reachesB v lo = true) : v ≤ 30 := by
  simp only [reachesB, List.any_eq_true, List.mem_range, Bool.and_eq_true, decide_eq_true_eq, Bool.or_eq_true, beq_iff_eq] at h
  obtain ⟨j, hj, hl, hr⟩ := h
  omega
theorem hexv_bnd (c : Int) : -1 ≤ hexv c ∧ hexv c ≤ 15 := by unfold hexv; (repeat' split) <;> omega

theorem Md.Ok.to {k : Int} {m : Md} (h : Md.Ok k m) (j : Int) (hj : 0 ≤ j) (hj' : j ≤ 16) (hj5 : j ≠ 5) (k' : Int) (hk : k ≤ k') : Md.Ok k' (m.to j) := by
  obtain ⟨a, b, c, d, e, f, g, i, l, n, o, p, x5⟩ := h
  constructor <;> simp [Md.to] <;> omega

theorem Md.Ok.byteItem {k : Int} {m : Md} (h : Md.Ok k m) (v : Int) (g0 : 0 ≤ v) (g1 : v ≤ 255) (k' : Int) (hk : k ≤ k') : Md.Ok k' (m.byteItem v) := by
  unfold Md.byteItem
  have h' := h
  obtain ⟨a, b, c, d, e, f, g, i, l, n, o, p, x5⟩ := h
  split
  · split
    · exact h'.to 16 (by omega) (by omega) (by omega) k' hk
    · constructor <;> (try simp) <;> omega
  · constructor <;> (try simp) <;> omega
theorem Md.Ok.one {k : Int} {m : Md} (h : Md.Ok k m) (v : Int) (g0 : 0 ≤ v) (g1 : v ≤ 255) (k' : Int) (hk : k ≤ k') : Md.Ok k' (m.one v) := by
  unfold Md.one
  split
  · exact h.byteItem v g0 g1 k' hk
  · exact h.to 2 (by omega) (by omega) (by omega) k' hk
theorem Md.Ok.escape {k : Int} {m : Md} (h : Md.Ok k m) (c : Int) (g0 : 0 ≤ c) (g1 : c ≤ 255) (k' : Int) (hk : k ≤ k') : Md.Ok k' (m.escape c) := by
  unfold Md.escape
  (repeat' split) <;> first | exact h.one _ (by omega) (by omega) k' hk | exact h.to _ (by omega) (by omega) (by omega) k' hk
theorem Md.Ok.cls {k : Int} {m : Md} (h : Md.Ok k m) (c : Int) (g0 : 0 ≤ c) (g1 : c ≤ 255) (k' : Int) (hk : k ≤ k') : Md.Ok k' (m.cls c) := by
  unfold Md.cls
  have h' := h
  obtain ⟨a, b, c, d, e, f, g, i, l, n, o, p, x5⟩ := h
  (repeat' split) <;> first | exact h'.byteItem _ (by omega) (by omega) k' hk | exact h'.to _ (by omega) (by omega) (by omega) k' hk | (constructor <;> (try simp) <;> omega)
theorem Md.Ok.count {k : Int} {m : Md} (h : Md.Ok k m) (c : Int) (g0 : 0 ≤ c) (g1 : c ≤ 255) (k' : Int) (hk : k ≤ k') (hm : 11 ≤ m.M) (hm' : m.M ≤ 14) : Md.Ok k' (m.count c) := by
  unfold Md.count
  have h' := h
  obtain ⟨a, b, c', d, e, f, g, i, l, n, o, p, x5⟩ := h
  extract_lets digit v lo fits
  have hv : 0 ≤ v := by
    simp only [v, digit]
    split <;> split <;> rename_i q _ <;> simp at q <;> omega
  split
  · rename_i q
    simp at q
    have := reaches_le _ _ q.1.2
    constructor <;> (try simp) <;> omega
  split
  · rename_i q
    simp at q
    have := reaches_le _ _ q.1.1.2
    constructor <;> (try simp) <;> omega
  (repeat' split) <;> first | exact h'.to _ (by omega) (by omega) (by omega) k' hk | (constructor <;> (try simp) <;> omega)
theorem Md.Ok.group {k : Int} {m : Md} (h : Md.Ok k m) (c : Int) (k' : Int) (hk : k + 1 ≤ k') : Md.Ok k' (m.group c) := by
  have h' := h
  obtain ⟨a, b, c', d, e, f, g, i, l, n, o, p, x5⟩ := h
  by_cases q : c = 40
  · by_cases q2 : m.Most < m.Depth + 1
    · simp only [Md.group, q, beq_self_eq_true, if_true, q2]
      constructor <;> dsimp only <;> omega
    · simp only [Md.group, q, beq_self_eq_true, if_true, q2]
      constructor <;> dsimp only <;> (try simp) <;> omega
  · by_cases q2 : m.Depth = 0
    · simp only [Md.group, q, q2, beq_self_eq_true, if_true]
      simp only [beq_iff_eq, q, if_false]
      exact h'.to 16 (by omega) (by omega) (by omega) k' (by omega)
    · simp only [Md.group, beq_iff_eq, q, q2, if_false]
      constructor <;> dsimp only <;> omega
theorem Md.Ok.chain {k : Int} {m : Md} (h : Md.Ok k m) (c : Int) (k' : Int) (hk : k + 1 ≤ k') : Md.Ok k' (m.chain c) := by
  unfold Md.chain
  have h' := h
  obtain ⟨a, b, c', d, e, f, g, i, l, n, o, p, x5⟩ := h
  (repeat' split) <;> first | exact h'.group _ k' hk | exact h'.to _ (by omega) (by omega) (by omega) k' (by omega) | (constructor <;> (try simp) <;> omega)
theorem Md.Ok.step {k : Int} {m : Md} (h : Md.Ok k m) (c : Int) (g0 : 0 ≤ c) (g1 : c ≤ 255) (k' : Int) (hk : k + 1 ≤ k') : Md.Ok k' (m.step c) := by
  unfold Md.step
  have h' := h
  have hx := hexv_bnd c
  obtain ⟨a, b, c', d, e, f, g, i, l, n, o, p, x5⟩ := h
  split
  · exact h'.chain _ k' hk
  split
  · exact h'.escape _ g0 g1 k' (by omega)
  split
  · split
    · exact h'.to _ (by omega) (by omega) (by omega) k' (by omega)
    · rename_i q; simp at q; constructor <;> (try simp) <;> omega
  split
  · split
    · exact h'.to _ (by omega) (by omega) (by omega) k' (by omega)
    · rename_i q0 q; simp at q
      have := x5 (by simpa using q0)
      exact h'.one _ (by omega) (by omega) k' (by omega)
  split
  · exact h'.cls _ g0 g1 k' (by omega)
  split
  · (repeat' split) <;> first | exact h'.to _ (by omega) (by omega) (by omega) k' (by omega) | exact h'.byteItem _ g0 g1 k' (by omega) | (constructor <;> (try simp) <;> omega)
  split
  · rename_i q; exact h'.count _ g0 g1 k' (by omega) (by simp at q; omega) (by simp at q; omega)
  · exact h'.to _ (by omega) (by omega) (by omega) k' (by omega)

theorem Md.Ok.runAll {k : Int} : ∀ {m : Md} (_ : Md.Ok k m) (l : List UInt8), Md.Ok (k + l.length) (runAll m l) := by
  intro m h l
  induction l generalizing m k with
  | nil => simpa [Go.Proofs.YtbjabpodkaokjaaDoor.runAll] using h
  | cons c r ih =>
    have := ih (h.step c.toNat (by omega) (by have := c.toNat_lt; omega) (k + 1) (by omega))
    simp only [List.length_cons, Go.Proofs.YtbjabpodkaokjaaDoor.runAll, List.foldl_cons] at this ⊢
    have e : k + 1 + (r.length : Int) = k + ((r.length + 1 : Nat) : Int) := by omega
    rw [← e]; exact this

theorem runAll_snoc (m : Md) (l : List UInt8) (c : UInt8) : runAll m (l ++ [c]) = (runAll m l).step c.toNat := by simp [runAll]

/-- A broken mode stays broken. -/
theorem step_broken (m : Md) (c : Int) (h : m.M = 16) : (m.step c).M = 16 := by simp [Md.step, h, Md.to]
theorem runAll_broken (m : Md) (l : List UInt8) (h : m.M = 16) : (runAll m l).M = 16 := by
  induction l generalizing m with
  | nil => simpa [runAll] using h
  | cons c r ih => simp only [runAll, List.foldl_cons]; exact ih _ (step_broken m _ h)

/-- The text's first place from which nothing goes on: the mode is broken behind the byte there, and not before. -/
def BrokenAt (l : List UInt8) (i : Nat) : Prop := i < l.length ∧ (runAll Md.init (l.take (i + 1))).M = 16 ∧ (runAll Md.init (l.take i)).M ≠ 16

/-- The error and the place that the reference's 'syntax' answers. -/
def Syn (l : List UInt8) (e p : Int) : Prop :=
  (200 < l.length ∧ e = 4 ∧ p = 0) ∨
  (l.length ≤ 200 ∧ ∃ i, BrokenAt l i ∧ e = 3 ∧ p = i) ∨
  (l.length ≤ 200 ∧ (runAll Md.init l).M ≠ 16 ∧ (0 < (runAll Md.init l).Depth ∨ ((runAll Md.init l).M ≠ 0 ∧ (runAll Md.init l).M ≠ 1 ∧ (runAll Md.init l).M ≠ 2 ∧ (runAll Md.init l).M ≠ 15)) ∧ e = 3 ∧ p = l.length) ∨
  (l.length ≤ 200 ∧ (runAll Md.init l).Depth = 0 ∧ ((runAll Md.init l).M = 0 ∨ (runAll Md.init l).M = 1 ∨ (runAll Md.init l).M = 2 ∨ (runAll Md.init l).M = 15) ∧ 20 < (runAll Md.init l).Most ∧ e = 4 ∧ p = 0) ∨
  (l.length ≤ 200 ∧ (runAll Md.init l).Depth = 0 ∧ ((runAll Md.init l).M = 0 ∨ (runAll Md.init l).M = 1 ∨ (runAll Md.init l).M = 2 ∨ (runAll Md.init l).M = 15) ∧ (runAll Md.init l).Most ≤ 20 ∧ e = 0 ∧ p = 0)

end Go.Proofs.YtbjabpodkaokjaaDoor

namespace Go.Proofs.YtbjabpodkaokjaaDoor
open Go.RowKit

/-- A mode lies in block b. -/
structure ModeAt (w : World) (b : Nat) (m : Md) : Prop where
  c0 : w.cell? ⟨b, 0, none⟩ = some (.int .i64 m.M)
  c1 : w.cell? ⟨b, 1, none⟩ = some (.int .i64 m.Depth)
  c2 : w.cell? ⟨b, 2, none⟩ = some (.int .i64 m.Most)
  c3 : w.cell? ⟨b, 3, none⟩ = some (.bool m.Class)
  c4 : w.cell? ⟨b, 4, none⟩ = some (.int .i64 m.Low)
  c5 : w.cell? ⟨b, 5, none⟩ = some (.int .i64 m.Value)
  c6 : w.cell? ⟨b, 6, none⟩ = some (.int .i64 m.Least)
  c7 : w.cell? ⟨b, 7, none⟩ = some (.int .i64 m.N)
  fz : ∀ o, w.frozen? ⟨b, o, none⟩ = false

theorem ModeAt.carry {w w' : World} {b B : Nat} {m : Md} (h : ModeAt w b m) (hb : Below B w w') (hB : b < B) : ModeAt w' b m :=
  ⟨(hb.cell hB).trans h.c0, (hb.cell hB).trans h.c1, (hb.cell hB).trans h.c2, (hb.cell hB).trans h.c3, (hb.cell hB).trans h.c4, (hb.cell hB).trans h.c5, (hb.cell hB).trans h.c6, (hb.cell hB).trans h.c7, fun o => (hb.frozen (p := ⟨b, o, none⟩) hB).trans (h.fz o)⟩

def setMode (w : World) (b : Nat) (m : Md) : World :=
  (((((((w.setCell ⟨b, 0, none⟩ (.int .i64 m.M)).setCell ⟨b, 1, none⟩ (.int .i64 m.Depth)).setCell ⟨b, 2, none⟩ (.int .i64 m.Most)).setCell ⟨b, 3, none⟩ (.bool m.Class)).setCell ⟨b, 4, none⟩ (.int .i64 m.Low)).setCell ⟨b, 5, none⟩ (.int .i64 m.Value)).setCell ⟨b, 6, none⟩ (.int .i64 m.Least)).setCell ⟨b, 7, none⟩ (.int .i64 m.N)
theorem setMode_at {w : World} {b : Nat} {m : Md} (h : ModeAt w b m) (m' : Md) : ModeAt (setMode w b m') b m' := by
  obtain ⟨q0, q1, q2, q3, q4, q5, q6, q7, qf⟩ := h
  unfold setMode
  constructor <;> (try intro o) <;> simp [q0, q1, q2, q3, q4, q5, q6, q7, qf, go_sem]
theorem setMode_below {B b : Nat} {w0 w : World} (h : Below B w0 w) (hb : B ≤ b) (m : Md) : Below B w0 (setMode w b m) := by
  unfold setMode
  exact ((((((((h.setCell hb _).setCell hb _).setCell hb _).setCell hb _).setCell hb _).setCell hb _).setCell hb _).setCell hb _)
theorem setMode_size (w : World) (b : Nat) (m : Md) : (setMode w b m).heap.size = w.heap.size := by simp [setMode]

set_option maxHeartbeats 400000 in
theorem syntax_long (s : ByteArray) (w : World) (hs : s.size ≤ maxLen) (h : 200 < s.size) :
    Calls Tryd.prog 8 #[.string s] w fun e w' => e = .returned (.tuple #[.int .i64 4, .int .i64 0]) ∧ w' = w := by
  unfold maxLen at hs
  go_enter Tryd.func8, Tryd.ntmps8
  go_wp2
  go_ret2
  exact ⟨rfl, rfl⟩

set_option maxHeartbeats 2000000 in
theorem syntax_any (s : ByteArray) (w : World) (hs : s.size ≤ 200) :
    Calls Tryd.prog 8 #[.string s] w fun e w' => ∃ x p, e = .returned (.tuple #[.int .i64 x, .int .i64 p]) ∧ Syn s.data.toList x p ∧ Below w.heap.size w w' := by
  go_enter Tryd.func8, Tryd.ntmps8
  go_wp2
  go_loopw [5] (fun i wr => ∃ k : Nat, k ≤ s.size ∧ i = .int .i64 k ∧ ModeAt wr w.heap.size (runAll Md.init (s.data.toList.take k)) ∧ (runAll Md.init (s.data.toList.take k)).M ≠ 16 ∧ Below w.heap.size w wr ∧ w.heap.size < wr.heap.size) (fun i _ => s.size - (intOf i).toNat)
  case atStart =>
    refine ⟨0, Nat.zero_le _, rfl, ?_, ?_, ?_, ?_⟩
    · constructor <;> simp [runAll, Md.init, go_sem]
    · simp [runAll, Md.init]
    · exact (by (repeat refine Below.setCell ?_ (by first | (simp; done) | (simp; omega)) _); (repeat refine Below.alloc ?_ (by first | (simp; done) | (simp; omega)) _); exact Below.refl _ _)
    · simp
  case round =>
    obtain ⟨k, hk, rfl, hm, hnb, hbl, hsz⟩ := hrel
    have hok := Md.Ok_init.runAll (s.data.toList.take k)
    obtain ⟨m, hmd⟩ : ∃ m, m = runAll Md.init (s.data.toList.take k) := ⟨_, rfl⟩
    rw [← hmd] at hm hnb hok
    have HM : Hid (m = runAll Md.init (s.data.toList.take k)) := hmd
    clear hmd
    obtain ⟨M, D, Mo, C, L, V, Le, N⟩ := m
    have hmw : ModeAt wr.drew w.heap.size ⟨M, D, Mo, C, L, V, Le, N⟩ := ⟨hm.c0, hm.c1, hm.c2, hm.c3, hm.c4, hm.c5, hm.c6, hm.c7, hm.fz⟩
    obtain ⟨c0, c1, c2, c3, c4, c5, c6, c7, fz⟩ := hm
    simp only at c0 c1 c2 c3 c4 c5 c6 c7 hnb
    have hlen : ((s.data.toList.take k).length : Int) ≤ 200 := by simp; omega
    obtain ⟨m0, m1, d0, d1, o0, o1, v0, v1, e0, e1, n0, n1, x5⟩ := hok
    simp only at m0 m1 d0 d1 o0 o1 v0 v1 e0 e1 n0 n1 x5
    clear x5
    by_cases hlt : k < s.size
    · have hc255 : (s[k].toNat : Int) ≤ 255 := by have := (s[k]).toNat_lt; omega
      go_wp2
      go_region_with (first | (go_at_call 13; refine (step_raw _ _ _ _ _ _ _ _ _ _ (by omega) hc255 (by omega) (by omega) (by omega) (by omega) (by omega) (by omega) (by omega) (by omega) (by omega) (by omega)).mono ?_; rintro e w' ⟨rfl, hb⟩; obtain ⟨q0, q1, q2, q3, q4, q5, q6, q7, qf⟩ := ModeAt.carry (b := w.heap.size) (m := ⟨M, D, Mo, C, L, V, Le, N⟩) hmw hb hsz))
      all_goals
        obtain ⟨R, hR⟩ : ∃ R : Md, R = Md.step ⟨M, D, Mo, C, L, V, Le, N⟩ (s[k].toNat : Int) := ⟨_, rfl⟩
        rw [← hR]
        obtain ⟨W2, hW⟩ : ∃ W2, W2 = setMode w' w.heap.size R := ⟨_, rfl⟩
        have hm2 : ModeAt W2 w.heap.size R := by rw [hW]; exact setMode_at (m := ⟨M, D, Mo, C, L, V, Le, N⟩) ⟨q0, q1, q2, q3, q4, q5, q6, q7, qf⟩ R
        have hb2 : Below w.heap.size w W2 := by rw [hW]; exact setMode_below ((hbl.drew).trans (hb.mono (Nat.le_of_lt hsz))) (Nat.le_refl _) R
        have hs2 : w.heap.size < W2.heap.size := by rw [hW, setMode_size]; exact Nat.lt_of_lt_of_le hsz hb.size
        simp only [setMode] at hW
        rw [← hW]
        have HR : Hid (R = runAll Md.init (s.data.toList.take (k + 1))) := by
          have e := HM.out
          have ht : s.data.toList.take (k + 1) = s.data.toList.take k ++ [s[k]] := by
            rw [List.take_succ_eq_append_getElem (by simpa using hlt)]; rfl
          show R = _
          rw [ht, runAll_snoc, ← e, hR]
        clear hW hR q0 q1 q2 q3 q4 q5 q6 q7 qf hb c0 c1 c2 c3 c4 c5 c6 c7 fz hmw
        obtain ⟨c0, c1, c2, c3, c4, c5, c6, c7, fz⟩ := hm2
        by_cases hbr : R.M = 16
        · have hbr' : (R.M == 16) = true := by simpa using hbr
          go_wp2
          go_ret2
          refine ⟨_, _, rfl, .inr (.inl ⟨by simpa using hs, k, ⟨by simpa using hlt, ?_, ?_⟩, rfl, rfl⟩), hb2⟩
          · rw [← HR.out]; exact hbr
          · rw [← HM.out]; exact hnb
        · have hbr' : (R.M == 16) = false := by simpa using hbr
          go_wp2
          go_roundw
          case rel => exact ⟨k + 1, by omega, by go_num, by rw [← HR.out]; exact ⟨c0, c1, c2, c3, c4, c5, c6, c7, fz⟩, by rw [← HR.out]; exact hbr, hb2, hs2⟩
          case measure => simp [intOf]; omega
    · have hk' : k = s.size := by omega
      have ht : s.data.toList.take k = s.data.toList := List.take_of_length_le (by simp; omega)
      have HM2 : Hid (runAll Md.init s.data.toList = ⟨M, D, Mo, C, L, V, Le, N⟩) := by
        have := HM.out; rw [ht] at this; exact this.symm
      clear ht HM
      have hl : s.data.toList.length ≤ 200 := by simpa using hs
      by_cases p1 : 0 < D
      · go_wp2
        go_ret2
        exact ⟨_, _, rfl, .inr (.inr (.inl ⟨hl, by rw [HM2.out]; exact hnb, by rw [HM2.out]; exact .inl p1, rfl, by simp⟩)), hbl⟩
      · by_cases p2 : M = 0 ∨ M = 1 ∨ M = 2 ∨ M = 15
        · by_cases p3 : 20 < Mo
          · rcases p2 with rfl | rfl | rfl | rfl
            all_goals
              go_wp2
              go_ret2
              exact ⟨_, _, rfl, .inr (.inr (.inr (.inl ⟨hl, by rw [HM2.out]; simp; omega, by rw [HM2.out]; simp, by rw [HM2.out]; exact p3, rfl, rfl⟩))), hbl⟩
          · rcases p2 with rfl | rfl | rfl | rfl
            all_goals
              go_wp2
              go_ret2
              exact ⟨_, _, rfl, .inr (.inr (.inr (.inr ⟨hl, by rw [HM2.out]; simp; omega, by rw [HM2.out]; simp, by rw [HM2.out]; simp; omega, rfl, rfl⟩))), hbl⟩
        · have a1 : (M != 0) = true := by simp; omega
          have a2 : (M != 1) = true := by simp; omega
          have a3 : (M != 2) = true := by simp; omega
          have a4 : (M != 15) = true := by simp; omega
          go_wp2
          go_ret2
          exact ⟨_, _, rfl, .inr (.inr (.inl ⟨hl, by rw [HM2.out]; exact hnb, by rw [HM2.out]; simp; omega, rfl, by simp⟩)), hbl⟩
end Go.Proofs.YtbjabpodkaokjaaDoor
