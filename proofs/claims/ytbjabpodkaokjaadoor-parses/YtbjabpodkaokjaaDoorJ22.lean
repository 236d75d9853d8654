import Derived.Test.YtbjabpodkaokjaaDoorJ21
set_option linter.unusedVariables false
set_option linter.unusedSimpArgs false
namespace Go.Proofs.YtbjabpodkaokjaaDoor
open Go.RowKit

abbrev zero3 : Obj := .cells #[.bool false, .bool false, .slice none 0 0] 29
/-- Three cells of block b hold nothing yet. -/
structure Z3 (w : World) (b : Nat) : Prop where
  c0 : w.cell? ⟨b, 0, none⟩ = some (.bool false)
  c1 : w.cell? ⟨b, 1, none⟩ = some (.bool false)
  c2 : w.cell? ⟨b, 2, none⟩ = some (.slice none 0 0)
  fz : ∀ o, w.frozen? ⟨b, o, none⟩ = false
theorem Z3.of_heap {w w' : World} {b : Nat} (h : Z3 w b) (hb : w'.heap[b]? = w.heap[b]?) : Z3 w' b := by
  have hc : ∀ o, w'.cell? ⟨b, o, none⟩ = w.cell? ⟨b, o, none⟩ := fun o => by simp [World.cell?, hb]
  have hf : ∀ o, w'.frozen? ⟨b, o, none⟩ = w.frozen? ⟨b, o, none⟩ := fun o => by simp [World.frozen?, hb]
  exact ⟨(hc _).trans h.c0, (hc _).trans h.c1, (hc _).trans h.c2, fun o => (hf o).trans (h.fz o)⟩
theorem new3 (w : World) : Z3 (w.alloc zero3) w.heap.size := by
  refine ⟨?_, ?_, ?_, fun o => ?_⟩ <;> simp [go_sem]

theorem St.at_end {w : World} {b : Nat} {s : ByteArray} {r : List UInt8} {d x : Int} (h : St w b s r d x) :
    ∃ k : Nat, k + r.length = s.size ∧ s.size ≤ 200 ∧ w.cell? ⟨b, 0, none⟩ = some (.string s) ∧ w.cell? ⟨b, 1, none⟩ = some (.int .i64 k) ∧ ((k : Int) == s.size) = r.isEmpty := by
  obtain ⟨⟨k, hr, hk, hs⟩, _, _, sz⟩ := h
  have hl : r.length = s.size - k := by rw [← hs, suf_len]
  refine ⟨k, by omega, sz, hr.c0, hr.c1, ?_⟩
  cases r with
  | nil => simp at hl; simp; omega
  | cons c t => simp at hl; simp; omega

abbrev ptnV (f k : Bool) (g0 : Option Addr) (n0 c0 : Nat) : Value := .agg #[.bool f, .bool k, .slice g0 n0 c0]

set_option maxHeartbeats 1000000 in
theorem pattern_1 (w : World) (b : Nat) (s : ByteArray) (r r1 r2 : List UInt8) (d x : Int) (X : Int → Prop) (tk : Bool) (h : St w b s r d x) (Q : World → World → Value → Prop) (ht : TakC b s d x 94 r r1 tk) (hc : ChsC b s r1 r2 d x X false Q) :
    Calls Tryd.prog 11 #[.pointer (some ⟨b, 0, none⟩)] w fun e w' => ∃ x', X x' ∧ e = .returned (.tuple #[ptnV false false none 0 0, .bool false]) ∧ StTo w w' b s r2 d x' := by
  have hne := h.ne
  have hlt := h.lt
  go_enter Tryd.func11, Tryd.ntmps11
  go_wp2_with (first | (go_at_call 19; refine (hc _ g1).mono ?_; rintro e w2 ⟨x', hX, ⟨g0, n0, c0, hq, rfl⟩, g2, hr2⟩; obtain ⟨d0, d1, d2, dz⟩ := (new3 w).of_heap ((hr1.trans hr2).block w.heap.size (by simp) hne)) | (go_at_call 18; refine (ht _ (h.alloc _)).mono ?_; rintro e w1 ⟨rfl, g1, hr1⟩))
  refine bodyPost_ret (v := .tuple #[ptnV false false none 0 0, .bool false]) ?_ rfl ?_
  · simp [results, Tryd.results11, go_sem, d0, d1, d2]
  · exact ⟨x', hX, rfl, (by (repeat first | (with_reducible refine St.setCell ?_ (by first | exact hlt | (simp; done) | (simp; omega)) _) | (with_reducible refine St.alloc ?_ _) | (with_reducible refine St.drew ?_) | (with_reducible refine St.drewN ?_ _)); exact g2), (by (repeat first | (with_reducible refine Rd.setNew ?_ (by first | exact Nat.le_refl _ | (simp; done) | (simp; omega)) _) | (with_reducible refine Rd.alloc ?_ _) | (with_reducible refine Rd.drew ?_) | (with_reducible refine Rd.drewN ?_ _)); exact (hr1.trans hr2).under)⟩

set_option maxHeartbeats 1000000 in
theorem pattern_2 (w : World) (b : Nat) (s : ByteArray) (r r1 r2 r3 : List UInt8) (d x x' : Int) (tk tk2 : Bool) (h : St w b s r d x) (Q : World → World → Value → Prop) (ht : TakC b s d x 94 r r1 tk) (hc : ChsC b s r1 r2 d x (fun y => y = x') true Q) (ht2 : TakC b s d x' 36 r2 r3 tk2) :
    Calls Tryd.prog 11 #[.pointer (some ⟨b, 0, none⟩)] w fun e w' => (∃ g0 n0 c0 w1 w2, Q w1 w2 (.slice g0 n0 c0) ∧ w.heap.size < w1.heap.size ∧ w2.heap.size ≤ w'.heap.size ∧ (∀ g, w.heap.size < g → g < w2.heap.size → g ≠ b → w'.heap[g]? = w2.heap[g]?) ∧ e = .returned (.tuple #[ptnV tk tk2 g0 n0 c0, .bool r3.isEmpty])) ∧ StTo w w' b s r3 d x' := by
  have hne := h.ne
  have hlt := h.lt
  go_enter Tryd.func11, Tryd.ntmps11
  go_wp2_with (first | (go_at_call 18; refine (ht2 _ g2).mono ?_; rintro e w3 ⟨rfl, g3, hr3⟩; obtain ⟨d0, d1, d2, dz⟩ := (new3 w).of_heap (((hr1.trans hr2).trans hr3).block w.heap.size (by simp) hne); obtain ⟨k, hkl, hs2, k0, k1, ke⟩ := g3.at_end) | (go_at_call 19; refine (hc _ g1).mono ?_; rintro e w2 ⟨x'', rfl, ⟨g0, n0, c0, hq, rfl⟩, g2, hr2⟩) | (go_at_call 18; refine (ht _ (h.alloc _)).mono ?_; rintro e w1 ⟨rfl, g1, hr1⟩))
  go_region
  all_goals
    go_wp2
    have hr := (hr1.trans hr2).trans hr3
    have hs1 := hr1.size
    simp only [World.size_alloc] at hs1
    refine bodyPost_ret (v := .tuple #[ptnV tk tk2 g0 n0 c0, .bool r3.isEmpty]) ?_ rfl ?_
    · simp [results, Tryd.results11, go_sem, d0, d1, d2]
    · refine ⟨⟨g0, n0, c0, w1, w2, hq, by omega, ?_, ?_, rfl⟩, (by (repeat first | (with_reducible refine St.setCell ?_ (by first | exact hlt | (simp; done) | (simp; omega)) _) | (with_reducible refine St.alloc ?_ _) | (with_reducible refine St.drew ?_) | (with_reducible refine St.drewN ?_ _)); exact g3), (by (repeat first | (with_reducible refine Rd.setNew ?_ (by first | exact Nat.le_refl _ | (simp; done) | (simp; omega)) _) | (with_reducible refine Rd.alloc ?_ _) | (with_reducible refine Rd.drew ?_) | (with_reducible refine Rd.drewN ?_ _)); exact hr.under)⟩
      · have := hr3.size; simpa [World.setCell] using this
      · intro g hg hg2 hgb
        show (World.setCell _ _ _).heap[g]? = _
        (repeat rw [Below.heap_setCell _ _ _ _ (by simp; omega)])
        exact hr3.block g hg2 hgb

/-- What a reading of a whole pattern leaves. -/
def PtnRes (w w' : World) (b : Nat) (s : ByteArray) (d x : Int) (e : Ending) : Res Ptn → Prop
  | .ok p r => (∃ g0 n0 c0, RepCs w' (From w.heap.size w') p.choices (.slice g0 n0 c0) ∧ e = .returned (.tuple #[ptnV p.front p.back g0 n0 c0, .bool true])) ∧ StTo w w' b s r d (up x d (nestCs p.choices))
  | .bad r => ∃ x', (∃ f k g0 n0 c0, e = .returned (.tuple #[ptnV f k g0 n0 c0, .bool false])) ∧ StTo w w' b s r d x'

/-- A whole pattern, read. -/
def readP (l : List UInt8) : Res Ptn := match pChoices (4 * (tkR 94 l).length + 4) (tkR 94 l) with
  | .bad r' => .bad r'
  | .ok cs r' => if (tkR 36 r').isEmpty then .ok ⟨tkB 94 l, tkB 36 r', cs⟩ [] else .bad (tkR 36 r')

theorem pattern_any (w : World) (b : Nat) (s : ByteArray) (r : List UInt8) (d x : Int) (h : St w b s r d x) (hl : Lim d x r) :
    Calls Tryd.prog 11 #[.pointer (some ⟨b, 0, none⟩)] w fun e w' => PtnRes w w' b s d x e (readP r) := by
  have hlt := h.lt
  have ht := take_any b s d x 94 r
  have hlen : (tkR 94 r).length ≤ r.length := by
    match r with
    | [] => exact Nat.le_refl _
    | a :: t => simp only [tkR]; split <;> simp
  obtain ⟨d0, dr, dx, x1⟩ := hl
  have hk := fun w hw => (all_K (4 * (tkR 94 r).length + 4)).1 w b s (tkR 94 r) d x hw ⟨d0, by omega, dx, x1⟩ (Nat.le_refl _)
  cases hR : pChoices (4 * (tkR 94 r).length + 4) (tkR 94 r) with
  | bad r2 =>
    have hP : readP r = .bad r2 := by simp only [readP, hR]
    rw [hP]
    refine (pattern_1 w b s r _ r2 d x (fun _ => True) _ h (fun _ _ _ => True) ht (fun w hw => (hk w hw).mono fun e w' g => ?_)).mono fun e w' g => ?_
    · rw [hR] at g; obtain ⟨x', he, g⟩ := g; exact ⟨x', trivial, ⟨_, _, _, trivial, he⟩, g⟩
    · obtain ⟨x', -, he, g⟩ := g; exact ⟨x', ⟨_, _, _, _, _, he⟩, g⟩
  | ok cs r2 =>
    have ht2 := take_any b s d (up x d (nestCs cs)) 36 r2
    refine (pattern_2 w b s r _ r2 _ d x (up x d (nestCs cs)) _ _ h (fun w w' v => RepCs w' (From w.heap.size w') cs v) ht (fun w hw => (hk w hw).mono fun e w' g => ?_) ht2).mono fun e w' g => ?_
    · rw [hR] at g; obtain ⟨⟨g0, n0, c0, hq, he⟩, g⟩ := g; exact ⟨_, rfl, ⟨g0, n0, c0, hq, he⟩, g⟩
    · obtain ⟨⟨g0, n0, c0, w1, w2, hq, hz1, hz2, hh, he⟩, g⟩ := g
      cases hE : (tkR 36 r2).isEmpty with
      | false =>
        rw [hE] at he
        have hP : readP r = .bad (tkR 36 r2) := by simp only [readP, hR, hE, Bool.false_eq_true, if_false]
        rw [hP]
        exact ⟨_, ⟨_, _, _, _, _, he⟩, g⟩
      | true =>
        rw [hE] at he
        have e0 : tkR 36 r2 = [] := by simpa using hE
        have hP : readP r = .ok ⟨tkB 94 r, tkB 36 r2, cs⟩ [] := by simp only [readP, hR, hE, if_true]
        rw [hP]
        rw [e0] at g
        refine ⟨⟨g0, n0, c0, hq.of_heap (fun j hj hlt' => ?_), he⟩, g⟩
        have := hj.1
        exact ⟨⟨by omega, by omega⟩, hh j (by omega) hlt' (by omega)⟩
end Go.Proofs.YtbjabpodkaokjaaDoor

namespace Go.Proofs.YtbjabpodkaokjaaDoor
open Go.RowKit

abbrev rdObj (s : ByteArray) : Obj := .cells #[.string s, .int .i64 0, .int .i64 0, .int .i64 0] 39
theorem newReader (w : World) (s : ByteArray) (hT : Tabs w) (hs : s.size ≤ 200) : St ((w.alloc zero3).alloc (rdObj s)) (w.heap.size + 1) s s.data.toList 0 0 := by
  have hlt := hT.lt
  refine ⟨⟨0, ⟨?_, ?_, ?_, ?_, ?_, ?_⟩, Nat.zero_le _, by simp [suf]⟩, hT.of_block (fun k hk => ?_), by omega, hs⟩
  · simp [go_sem]
  · simp [go_sem]
  · simp [go_sem]
  · simp [go_sem]
  · intro o; simp [go_sem]
  · simp
  · rw [Below.heap_alloc _ _ _ (by simp; omega), Below.heap_alloc _ _ _ (by omega)]

set_option maxHeartbeats 1000000 in
theorem read_long (w : World) (s : ByteArray) (hs : s.size ≤ maxLen) (h : 200 < s.size) :
    Calls Tryd.prog 6 #[.string s] w fun e w' => e = .returned (.tuple #[ptnV false false none 0 0, .int .i64 4, .int .i64 0]) ∧ Below w.heap.size w w' := by
  unfold maxLen at hs
  go_enter Tryd.func6, Tryd.ntmps6
  go_wp2
  refine bodyPost_ret (v := .tuple #[ptnV false false none 0 0, .int .i64 4, .int .i64 0]) ?_ rfl ⟨rfl, (by (repeat refine Below.setCell ?_ (by first | (simp; done) | (simp; omega)) _); (repeat refine Below.alloc ?_ (by first | (simp; done) | (simp; omega)) _); exact Below.refl _ _)⟩
  simp [results, Tryd.results6, go_sem]

abbrev PtC (b : Nat) (s : ByteArray) (r r' : List UInt8) (d x : Int) (X : Int → Prop) (ok : Bool) (Q : World → World → Bool → Bool → Value → Prop) : Prop :=
  ∀ w, St w b s r d x → Calls Tryd.prog 11 #[.pointer (some ⟨b, 0, none⟩)] w fun e w' => ∃ x', X x' ∧ (∃ f k g0 n0 c0, Q w w' f k (.slice g0 n0 c0) ∧ e = .returned (.tuple #[ptnV f k g0 n0 c0, .bool ok])) ∧ StTo w w' b s r' d x'

theorem below_of_rd {w w1 : World} {o1 o2 : Obj} (h : Rd (w.heap.size + 1) ((w.alloc o1).alloc o2) w1) : Below w.heap.size w w1 :=
  ⟨h.os, h.tape, h.output, by have := h.size; simp at this; omega, fun k hk => (h.block k (by simp; omega) (by omega)).trans (by rw [Below.heap_alloc _ _ _ (by simp; omega), Below.heap_alloc _ _ _ hk])⟩

set_option maxHeartbeats 1000000 in
theorem read_bad (w : World) (s : ByteArray) (hT : Tabs w) (hs : s.size ≤ 200) (r' : List UInt8) (X : Int → Prop) (Q : World → World → Bool → Bool → Value → Prop)
    (hp : PtC (w.heap.size + 1) s s.data.toList r' 0 0 X false Q) :
    Calls Tryd.prog 6 #[.string s] w fun e w' => e = .returned (.tuple #[ptnV false false none 0 0, .int .i64 3, .int .i64 ((s.size - r'.length : Nat) : Int)]) ∧ Below w.heap.size w w' := by
  have h0 := newReader w s hT hs
  have H0 : Hid (St ((w.alloc zero3).alloc (rdObj s)) (w.heap.size + 1) s s.data.toList 0 0) := h0
  clear h0
  go_enter Tryd.func6, Tryd.ntmps6
  go_wp2_with (go_at_call 11; refine (hp _ H0.out).mono ?_; rintro e w1 ⟨x', hX, ⟨f, kb, g0, n0, c0, hq, rfl⟩, g1, hr1⟩; obtain ⟨d0, d1, d2, dz⟩ := (new3 w).of_heap (w' := w1) ((hr1.block w.heap.size (by simp; omega) (by omega)).trans (Below.heap_alloc _ _ _ (by simp))); obtain ⟨k, hkl, hs2, k0, k1, ke⟩ := g1.at_end; have hz1 : w.heap.size + 1 < w1.heap.size := (by have := hr1.size; simp at this; omega); have hz0 : w.heap.size < w1.heap.size := (by omega))
  go_region
  all_goals
    go_wp2
    have ek : s.size - r'.length = k := by omega
    refine bodyPost_ret (v := .tuple #[ptnV false false none 0 0, .int .i64 3, .int .i64 ((s.size - r'.length : Nat) : Int)]) ?_ rfl ⟨rfl, ?_⟩
    · rw [ek]; simp [results, Tryd.results6, go_sem, d0, d1, d2, hz0]
    · have hb := below_of_rd hr1
      exact (by (repeat first | (with_reducible refine Below.setCell ?_ (by first | exact Nat.le_refl _ | (simp; done) | (simp; omega)) _) | (with_reducible refine Below.alloc ?_ (by first | omega | (simp; done) | (simp; omega)) _) | (with_reducible refine Below.drew ?_)); exact hb)

set_option maxHeartbeats 1000000 in
theorem read_deep (w : World) (s : ByteArray) (hT : Tabs w) (hs : s.size ≤ 200) (r' : List UInt8) (x' : Int) (Q : World → World → Bool → Bool → Value → Prop) (hx : 20 < x')
    (hp : PtC (w.heap.size + 1) s s.data.toList r' 0 0 (fun y => y = x') true Q) :
    Calls Tryd.prog 6 #[.string s] w fun e w' => e = .returned (.tuple #[ptnV false false none 0 0, .int .i64 4, .int .i64 0]) ∧ Below w.heap.size w w' := by
  have h0 := newReader w s hT hs
  have H0 : Hid (St ((w.alloc zero3).alloc (rdObj s)) (w.heap.size + 1) s s.data.toList 0 0) := h0
  clear h0
  go_enter Tryd.func6, Tryd.ntmps6
  go_wp2_with (go_at_call 11; refine (hp _ H0.out).mono ?_; rintro e w1 ⟨y, rfl, ⟨f, kb, g0, n0, c0, hq, rfl⟩, g1, hr1⟩; obtain ⟨d0, d1, d2, dz⟩ := (new3 w).of_heap (w' := w1) ((hr1.block w.heap.size (by simp; omega) (by omega)).trans (Below.heap_alloc _ _ _ (by simp))); obtain ⟨k2, k3, kf⟩ := g1.cells; have hz1 : w.heap.size + 1 < w1.heap.size := (by have := hr1.size; simp at this; omega); have hz0 : w.heap.size < w1.heap.size := (by omega))
  refine bodyPost_ret (v := .tuple #[ptnV false false none 0 0, .int .i64 4, .int .i64 0]) ?_ rfl ⟨rfl, ?_⟩
  · simp [results, Tryd.results6, go_sem, d0, d1, d2, hz0]
  · have hb := below_of_rd hr1
    exact (by (repeat first | (with_reducible refine Below.setCell ?_ (by first | exact Nat.le_refl _ | (simp; done) | (simp; omega)) _) | (with_reducible refine Below.alloc ?_ (by first | omega | (simp; done) | (simp; omega)) _) | (with_reducible refine Below.drew ?_)); exact hb)

set_option maxHeartbeats 1000000 in
theorem read_ok (w : World) (s : ByteArray) (hT : Tabs w) (hs : s.size ≤ 200) (r' : List UInt8) (x' : Int) (Q : World → World → Bool → Bool → Value → Prop) (hx : ¬ 20 < x')
    (hp : PtC (w.heap.size + 1) s s.data.toList r' 0 0 (fun y => y = x') true Q) :
    Calls Tryd.prog 6 #[.string s] w fun e w' => (∃ f k g0 n0 c0 w1 w2, Q w1 w2 f k (.slice g0 n0 c0) ∧ w1.heap.size = w.heap.size + 2 ∧ w2.heap.size ≤ w'.heap.size ∧ (∀ g, w.heap.size + 2 ≤ g → g < w2.heap.size → w'.heap[g]? = w2.heap[g]?) ∧ e = .returned (.tuple #[ptnV f k g0 n0 c0, .int .i64 0, .int .i64 0])) ∧ Below w.heap.size w w' := by
  have h0 := newReader w s hT hs
  have H0 : Hid (St ((w.alloc zero3).alloc (rdObj s)) (w.heap.size + 1) s s.data.toList 0 0) := h0
  clear h0
  go_enter Tryd.func6, Tryd.ntmps6
  go_wp2_with (go_at_call 11; refine (hp _ H0.out).mono ?_; rintro e w1 ⟨y, rfl, ⟨f, kb, g0, n0, c0, hq, rfl⟩, g1, hr1⟩; obtain ⟨d0, d1, d2, dz⟩ := (new3 w).of_heap (w' := w1) ((hr1.block w.heap.size (by simp; omega) (by omega)).trans (Below.heap_alloc _ _ _ (by simp))); obtain ⟨k2, k3, kf⟩ := g1.cells; have hz1 : w.heap.size + 1 < w1.heap.size := (by have := hr1.size; simp at this; omega); have hz0 : w.heap.size < w1.heap.size := (by omega))
  refine bodyPost_ret (v := .tuple #[ptnV f kb g0 n0 c0, .int .i64 0, .int .i64 0]) ?_ rfl ⟨⟨f, kb, g0, n0, c0, _, w1, hq, by simp, ?_, ?_, rfl⟩, ?_⟩
  · simp [results, Tryd.results6, go_sem, d0, d1, d2, hz0]
  · simp [World.setCell]
  · intro g hg hg2
    repeat (first | rw [Below.heap_alloc _ _ _ (by simp; omega)] | rw [Below.heap_setCell _ _ _ _ (by simp; omega)])
  · have hb := below_of_rd hr1
    exact (by (repeat first | (with_reducible refine Below.setCell ?_ (by first | exact Nat.le_refl _ | (simp; done) | (simp; omega)) _) | (with_reducible refine Below.alloc ?_ (by first | omega | (simp; done) | (simp; omega)) _) | (with_reducible refine Below.drew ?_)); exact hb)

/-- What Read answers. -/
def ReadRes (w w' : World) (s : ByteArray) (e : Ending) : Prop :=
  (200 < s.size ∧ e = .returned (.tuple #[ptnV false false none 0 0, .int .i64 4, .int .i64 0])) ∨
  (s.size ≤ 200 ∧ (∃ r', readP s.data.toList = .bad r' ∧ e = .returned (.tuple #[ptnV false false none 0 0, .int .i64 3, .int .i64 ((s.size - r'.length : Nat) : Int)]))) ∨
  (s.size ≤ 200 ∧ ∃ p, readP s.data.toList = .ok p [] ∧ 20 < nestCs p.choices ∧ e = .returned (.tuple #[ptnV false false none 0 0, .int .i64 4, .int .i64 0])) ∨
  (s.size ≤ 200 ∧ ∃ p, readP s.data.toList = .ok p [] ∧ nestCs p.choices ≤ 20 ∧ ∃ g0 n0 c0, RepCs w' (From w.heap.size w') p.choices (.slice g0 n0 c0) ∧ e = .returned (.tuple #[ptnV p.front p.back g0 n0 c0, .int .i64 0, .int .i64 0]))

theorem readP_rest {l : List UInt8} {p : Ptn} {r : List UInt8} (h : readP l = .ok p r) : r = [] := by
  unfold readP at h
  split at h
  · simp at h
  · split at h
    · injection h with _ e; exact e.symm
    · simp at h

theorem read_any (w : World) (s : ByteArray) (hT : Tabs w) (hs : s.size ≤ maxLen) :
    Calls Tryd.prog 6 #[.string s] w fun e w' => ReadRes w w' s e ∧ Below w.heap.size w w' := by
  by_cases h2 : 200 < s.size
  · exact (read_long w s hs h2).mono fun e w' g => ⟨.inl ⟨h2, g.1⟩, g.2⟩
  · have h2' : s.size ≤ 200 := by omega
    have hl : Lim 0 0 s.data.toList := ⟨by omega, by simp; omega, by omega, by omega⟩
    have hp := fun w' hw => pattern_any w' (w.heap.size + 1) s s.data.toList 0 0 hw hl
    cases hR : readP s.data.toList with
    | bad r' =>
      refine (read_bad w s hT h2' r' (fun _ => True) (fun _ _ _ _ _ => True) (fun w' hw => (hp w' hw).mono fun e w'' g => ?_)).mono fun e w' g => ⟨.inr (.inl ⟨h2', r', hR, g.1⟩), g.2⟩
      rw [hR] at g; obtain ⟨x', ⟨f, k, g0, n0, c0, he⟩, g⟩ := g; exact ⟨x', trivial, ⟨f, k, g0, n0, c0, trivial, he⟩, g⟩
    | ok p r' =>
      obtain rfl := readP_rest hR
      have hu : up 0 0 (nestCs p.choices) = nestCs p.choices := by unfold up; omega
      have hpc : PtC (w.heap.size + 1) s s.data.toList [] 0 0 (fun y => y = ((nestCs p.choices : Nat) : Int)) true (fun w w' f k v => f = p.front ∧ k = p.back ∧ RepCs w' (From w.heap.size w') p.choices v) := fun w' hw => (hp w' hw).mono fun e w'' g => by
        rw [hR] at g
        obtain ⟨⟨g0, n0, c0, hq, he⟩, g⟩ := g
        exact ⟨_, hu, ⟨_, _, g0, n0, c0, ⟨rfl, rfl, hq⟩, he⟩, g⟩
      by_cases hx : 20 < nestCs p.choices
      · exact (read_deep w s hT h2' [] _ _ (by omega) hpc).mono fun e w' g => ⟨.inr (.inr (.inl ⟨h2', p, hR, hx, g.1⟩)), g.2⟩
      · refine (read_ok w s hT h2' [] _ _ (by omega) hpc).mono fun e w' g => ⟨.inr (.inr (.inr ⟨h2', p, hR, by omega, ?_⟩)), g.2⟩
        obtain ⟨⟨f, k, g0, n0, c0, w1, w2, ⟨rfl, rfl, hq⟩, hz1, hz2, hh, he⟩, -⟩ := g
        refine ⟨g0, n0, c0, hq.of_heap (fun j hj hlt' => ?_), he⟩
        have := hj.1
        exact ⟨⟨by omega, by omega⟩, hh j (by omega) hlt'⟩

end Go.Proofs.YtbjabpodkaokjaaDoor
