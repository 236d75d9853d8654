import Derived.Test.YtbjabpodkaokjaaJ21
import Derived.Test.YtbjabpodkaokjaaJ17
set_option linter.unusedVariables false
set_option linter.unusedSimpArgs false
namespace Go.Proofs.Ytbjabpodkaokjaa
open Go.RowKit

/-- A table's machine in block m. -/
def Mch (w : World) (m : Nat) (t : Tb) (c : Nat) : Prop := ∃ g, w.cell? ⟨m, 0, none⟩ = some (.pointer (some ⟨g, 0, none⟩)) ∧ AuIn w g t ∧ TbOk t c
theorem Mch.below {w w' : World} {m : Nat} {t : Tb} {c : Nat} (h : Mch w m t c) (hb : Below w.heap.size w w') : Mch w' m t c := by
  obtain ⟨g, h1, h2, h3⟩ := h
  exact ⟨g, cell_below hb h1, h2.below hb, h3⟩
theorem Mch.new {w : World} {g : Nat} {t : Tb} {c : Nat} (h : AuIn w g t) (hok : TbOk t c) : Mch (w.alloc (.cells #[.pointer (some ⟨g, 0, none⟩)] 53)) w.heap.size t c :=
  ⟨g, by simp [go_sem], h.below ((Below.refl _ _).alloc (Nat.le_refl _) _), hok⟩
theorem tbOk_is {t : Tb} {c : Nat} (h : TbOk t c) : isTb t = true := by
  unfold isTb
  simp only [Bool.and_eq_true, decide_eq_true_eq]
  refine ⟨h.a1, h.a2, h.n, ?_, ?_⟩
  · simp [isSt]; exact ⟨h.s1, h.s2⟩
  · rw [h.cc]
    simp only [List.all_eq_true]
    intro r hr
    simp only [rowOk, Bool.and_eq_true, beq_iff_eq, List.all_eq_true]
    exact ⟨(h.r r hr).1, fun z hz => by simpa [isSt] using (h.r r hr).2 z hz⟩
theorem TbOk.wok {t : Tb} {c : Nat} (h : TbOk t c) : Wok t := by
  have h2 := h.c256
  have f := h.fits
  have := h.n
  have := h.a1
  have := h.a2
  exact ⟨h.a2, by omega, by omega, f.st, fun r hr => ⟨by have := (h.r r hr).1; omega, (f.r r hr).2⟩, by omega⟩

set_option maxHeartbeats 1000000 in
theorem build_yes (w : World) (t : Tb) (va vn : Value) (h : TabIn w t va vn) (hs : Small t) (hf : isTb t = true) :
    Calls Try.prog 16 #[tv t va vn] w fun e w' => ∃ m c, e = .returned (.tuple #[.pointer (some ⟨m, 0, none⟩), .int .i64 0]) ∧ Mch w' m t c ∧ w.heap.size ≤ m ∧ Below w.heap.size w w' := by
  obtain ⟨c, hok⟩ := tbOk_of hf
  have hB : Below w.heap.size w (w.alloc (.cells #[.bool t.front, .bool t.back, .int .i64 t.start, .string (ba t.cls), va, vn] 30)) := (Below.refl _ _).alloc (Nat.le_refl _) _
  have hn := new_yes _ t va vn (h.below hB) hs hf
  have HB : Hid (Below w.heap.size w (w.alloc (.cells #[.bool t.front, .bool t.back, .int .i64 t.start, .string (ba t.cls), va, vn] 30))) := hB
  have HOK : Hid (TbOk t c) := hok
  clear hB h hs hf hok
  go_enter Try.func16, Try.ntmps16
  go_wp2_with (go_at_call 18; refine hn.mono ?_; rintro e w1 ⟨g, rfl, hg, hau, hb⟩; have HA : Hid (AuIn w1 g t) := hau; have HB1 : Hid (Below w.heap.size w w1) := HB.out.trans (hb.mono (by simp)); clear hau hb)
  go_ret2
  exact ⟨_, c, rfl, Mch.new HA.out HOK.out, HB1.out.size, HB1.out.alloc HB1.out.size _⟩
set_option maxHeartbeats 1000000 in
theorem build_no (w : World) (t : Tb) (va vn : Value) (h : TabIn w t va vn) (hs : Small t) (hf : isTb t = false) :
    Calls Try.prog 16 #[tv t va vn] w fun e w' => e = .returned (.tuple #[.pointer none, .int .i64 5]) ∧ Below w.heap.size w w' := by
  have hB : Below w.heap.size w (w.alloc (.cells #[.bool t.front, .bool t.back, .int .i64 t.start, .string (ba t.cls), va, vn] 30)) := (Below.refl _ _).alloc (Nat.le_refl _) _
  have hn := new_no _ t va vn (h.below hB) hs hf
  have HB : Hid (Below w.heap.size w (w.alloc (.cells #[.bool t.front, .bool t.back, .int .i64 t.start, .string (ba t.cls), va, vn] 30))) := hB
  clear hB h hs hf
  go_enter Try.func16, Try.ntmps16
  go_wp2_with (go_at_call 18; refine hn.mono ?_; rintro e w1 ⟨rfl, hb⟩; have HB1 : Hid (Below w.heap.size w w1) := HB.out.trans (hb.mono (by simp)); clear hb)
  go_ret2
  exact ⟨rfl, HB1.out⟩
set_option maxHeartbeats 1000000 in
theorem longest_any (w : World) (m : Nat) (t : Tb) (c : Nat) (h : Mch w m t c) (tx : List UInt8) (htx : tx.length ≤ maxLen) :
    Calls Try.prog 15 #[.pointer (some ⟨m, 0, none⟩), .string (ba tx)] w fun e w' => e = .returned (.tuple #[.int .i64 (lastI (endsL t tx)), .int .i64 0]) ∧ Below w.heap.size w w' := by
  obtain ⟨g, h1, h2, h3⟩ := h
  have hl := last_any w g t c h2 h3 tx htx
  clear h2 h3 htx
  go_enter Try.func15, Try.ntmps15
  go_wp2_with (go_at_call 28; refine hl.mono ?_; rintro e w1 ⟨rfl, hb⟩)
  go_ret2
  exact ⟨rfl, hb⟩
set_option maxHeartbeats 1000000 in
theorem shortest_any (w : World) (m : Nat) (t : Tb) (c : Nat) (h : Mch w m t c) (tx : List UInt8) (htx : tx.length ≤ maxLen) :
    Calls Try.prog 14 #[.pointer (some ⟨m, 0, none⟩), .string (ba tx)] w fun e w' => e = .returned (.tuple #[.int .i64 (firstI (endsL t tx)), .int .i64 0]) ∧ Below w.heap.size w w' := by
  obtain ⟨g, h1, h2, h3⟩ := h
  have hl := first_any w g t c h2 h3 tx htx
  clear h2 h3 htx
  go_enter Try.func14, Try.ntmps14
  go_wp2_with (go_at_call 27; refine hl.mono ?_; rintro e w1 ⟨rfl, hb⟩)
  go_ret2
  exact ⟨rfl, hb⟩
theorem firstI_ge (l : List Nat) : decide (0 ≤ firstI l) = !l.isEmpty := by
  cases l <;> simp [firstI]
set_option maxHeartbeats 1000000 in
theorem ismatch_any (w : World) (m : Nat) (t : Tb) (c : Nat) (h : Mch w m t c) (tx : List UInt8) (htx : tx.length ≤ maxLen) :
    Calls Try.prog 13 #[.pointer (some ⟨m, 0, none⟩), .string (ba tx)] w fun e w' => e = .returned (.tuple #[.bool (!(endsL t tx).isEmpty), .int .i64 0]) ∧ Below w.heap.size w w' := by
  obtain ⟨g, h1, h2, h3⟩ := h
  have hl := first_any w g t c h2 h3 tx htx
  have hq := firstI_ge (endsL t tx)
  generalize firstI (endsL t tx) = z at hl hq
  have HQ : Hid (decide (0 ≤ z) = !(endsL t tx).isEmpty) := hq
  clear h2 h3 htx hq
  go_enter Try.func13, Try.ntmps13
  go_wp2_with (go_at_call 27; refine hl.mono ?_; rintro e w1 ⟨rfl, hb⟩)
  go_ret2
  rw [← HQ.out]
  exact ⟨rfl, hb⟩
set_option maxHeartbeats 1000000 in
theorem mtable_any (w : World) (m : Nat) (t : Tb) (c : Nat) (h : Mch w m t c) :
    Calls Try.prog 8 #[.pointer (some ⟨m, 0, none⟩)] w fun e w' => ∃ tA tB gs, e = .returned (.tuple #[tv t (.slice (some ⟨tA, 0, none⟩) t.acc.length t.acc.length) (.slice (some ⟨tB, 0, none⟩) t.next.length t.next.length), .int .i64 0]) ∧ TabN w.heap.size w' t tA tB gs ∧ Below w.heap.size w w' := by
  obtain ⟨g, h1, h2, h3⟩ := h
  have hB : Below w.heap.size w (w.alloc (.cells tc0 30)) := (Below.refl _ _).alloc (Nat.le_refl _) _
  have hl := table_any (w.alloc (.cells tc0 30)) g t c (h2.below hB) h3
  have h1' := cell_below hB h1
  have HB : Hid (Below w.heap.size w (w.alloc (.cells tc0 30))) := hB
  rw [World.size_alloc] at hl
  clear h2 h3 hB
  go_enter Try.func8, Try.ntmps8
  go_wp2_with (go_at_call 23; refine hl.mono ?_; rintro e w1 ⟨tA, tB, gs, rfl, hn, hb⟩; obtain ⟨r0, r1, r2, r3, r4, r5⟩ := box6 ((hb.block w.heap.size (by omega)).trans (heap_alloc_new w _)); have rf := boxfz ((hb.block w.heap.size (by omega)).trans (heap_alloc_new w (.cells tc0 30))); have HN : Hid (TabN (w.heap.size + 1) w1 t tA tB gs) := hn; have HB1 : Hid (Below w.heap.size w w1) := HB.out.trans (hb.mono (by omega)); clear hb hn)
  refine bodyPost_ret (v := .tuple #[tv t (.slice (some ⟨tA, 0, none⟩) t.acc.length t.acc.length) (.slice (some ⟨tB, 0, none⟩) t.next.length t.next.length), .int .i64 0]) (by simp [results, Try.results8, go_sem, r0, r1, r2, r3, r4, r5]) rfl ?_
  refine ⟨tA, tB, gs, rfl, ?_, ?_⟩
  · exact ((((((HN.out.set (by omega) _ _).set (by omega) _ _).set (by omega) _ _).set (by omega) _ _).set (by omega) _ _).set (by omega) _ _).weak (by omega)
  · exact (by (repeat first | (with_reducible refine Below.setCell ?_ (by first | exact Nat.le_refl _ | (simp; done) | (simp; omega)) _) | (with_reducible refine Below.alloc ?_ (by first | omega | (simp; done) | (simp; omega)) _) | (with_reducible refine Below.drew ?_)); exact HB1.out)
set_option maxHeartbeats 1000000 in
theorem encode_any (w : World) (m : Nat) (t : Tb) (c : Nat) (h : Mch w m t c) (kind : Nat) (hk : kind ≤ 1) (big : Bool) :
    Calls Try.prog 9 #[.pointer (some ⟨m, 0, none⟩), .int .i64 kind, .bool big] w fun e w' => e = .returned (.tuple #[.string (ba (enc t kind big)), .int .i64 0]) ∧ Below w.heap.size w w' := by
  obtain ⟨g, h1, h2, h3⟩ := h
  have hl := table_any w g t c h2 h3
  have HW : Hid (Wok t) := h3.wok
  clear h2 h3
  rcases (show kind = 0 ∨ kind = 1 by omega) with rfl | rfl
  · go_enter Try.func9, Try.ntmps9
    go_wp2_with (first | (go_at_call 24; refine (write_any w1 t _ _ 0 big (by omega) HN.out.tab HW.out).mono ?_; rintro e w2 ⟨rfl, hb2⟩) | (go_at_call 23; refine hl.mono ?_; rintro e w1 ⟨tA, tB, gs, rfl, hn, hb⟩; have HN : Hid (TabN w.heap.size w1 t tA tB gs) := hn; clear hn))
    go_ret2
    exact ⟨rfl, hb.trans (hb2.mono hb.size)⟩
  · go_enter Try.func9, Try.ntmps9
    go_wp2_with (first | (go_at_call 24; refine (write_any w1 t _ _ 1 big (by omega) HN.out.tab HW.out).mono ?_; rintro e w2 ⟨rfl, hb2⟩) | (go_at_call 23; refine hl.mono ?_; rintro e w1 ⟨tA, tB, gs, rfl, hn, hb⟩; have HN : Hid (TabN w.heap.size w1 t tA tB gs) := hn; clear hn))
    go_ret2
    exact ⟨rfl, hb.trans (hb2.mono hb.size)⟩
end Go.Proofs.Ytbjabpodkaokjaa

namespace Go.Proofs.Ytbjabpodkaokjaa
open Go.RowKit

theorem rdT_small {b : List UInt8} {t : Tb} {k : Nat} {g : Bool} (h : rdT b = some (t, k, g)) : Small t := by
  obtain ⟨kd, l6, en, l7, bg, l8, big, s, l10, c, l12, st, l14, hh⟩ := hdr_ex b
  rw [hh.rdT] at h
  split at h
  · simp at h
  · rename_i hc
    simp only [Option.some.injEq, Prod.mk.injEq] at h
    obtain ⟨rfl, _, _⟩ := h
    refine ⟨?_, ?_, fun r hr => ?_, ?_⟩
    · simp only [rdA_len]; unfold maxLen; omega
    · simp only [rdRs_len]; unfold maxLen; omega
    · have := (rdRs_ok _ _ _ _ _ r hr).1; unfold maxLen; omega
    · simp only [List.length_take]; unfold maxLen; omega
theorem read_bad (w : World) (b : List UInt8) (hb : b.length ≤ maxLen) (hn : ∀ t k g, rdT b = some (t, k, g) → enc t k g ≠ b) :
    Calls Try.prog 17 #[.string (ba b)] w fun e w' => e = .returned (.tuple #[tv0, .bool false]) ∧ Below w.heap.size w w' := by
  cases h : rdT b with
  | none => exact read_none w b hb h
  | some x =>
    obtain ⟨t, k, g⟩ := x
    refine (read_t w b hb t k g h).mono ?_
    rintro e w' ⟨⟨he, _⟩ | ⟨_, rfl⟩, hbl⟩
    · exact absurd he (hn t k g h)
    · exact ⟨rfl, hbl⟩
theorem read_good (w : World) (b : List UInt8) (hb : b.length ≤ maxLen) (t : Tb) (k : Nat) (g : Bool) (h : rdT b = some (t, k, g)) (he : enc t k g = b) :
    Calls Try.prog 17 #[.string (ba b)] w fun e w' => (∃ va vn, e = .returned (.tuple #[tv t va vn, .bool true]) ∧ TabIn w' t va vn) ∧ Below w.heap.size w w' := by
  refine (read_t w b hb t k g h).mono ?_
  rintro e w' ⟨⟨_, h⟩ | ⟨hne, _⟩, hbl⟩
  · exact ⟨h, hbl⟩
  · exact absurd he hne
set_option maxHeartbeats 1000000 in
theorem load_bad (w : World) (b : List UInt8) (hb : b.length ≤ maxLen) (hn : ∀ t k g, rdT b = some (t, k, g) → enc t k g ≠ b) :
    Calls Try.prog 6 #[.string (ba b)] w fun e w' => e = .returned (.tuple #[.pointer none, .int .i64 6]) ∧ Below w.heap.size w w' := by
  have hr := read_bad w b hb hn
  clear hn hb
  go_enter Try.func6, Try.ntmps6
  go_wp2_with (go_at_call 17; refine hr.mono ?_; rintro e w1 ⟨rfl, hb⟩)
  go_ret2
  exact ⟨rfl, hb.alloc hb.size _⟩
theorem TabIn.shapes {w : World} {t : Tb} {va vn : Value} (h : TabIn w t va vn) : ∃ a c a2 n2 c2, va = .slice a t.acc.length c ∧ vn = .slice a2 n2 c2 := by
  obtain ⟨a, c, rfl⟩ := h.acc.form
  obtain ⟨us, _, hu, _⟩ := h.next
  obtain ⟨a2, c2, rfl⟩ := hu.form
  exact ⟨_, _, _, _, _, rfl, rfl⟩
set_option maxRecDepth 4000 in
set_option maxHeartbeats 1000000 in
theorem load_no (w : World) (b : List UInt8) (hb : b.length ≤ maxLen) (t : Tb) (k : Nat) (g : Bool) (h : rdT b = some (t, k, g)) (he : enc t k g = b) (hf : isTb t = false) :
    Calls Try.prog 6 #[.string (ba b)] w fun e w' => e = .returned (.tuple #[.pointer none, .int .i64 6]) ∧ Below w.heap.size w w' := by
  have hr := read_good w b hb t k g h he
  have hs := rdT_small h
  have HNW : Hid (∀ w va vn, TabIn w t va vn → Calls Try.prog 18 #[tv t va vn] w fun e w' => e = .returned (.tuple #[.pointer none, .bool false]) ∧ Below w.heap.size w w') := fun w va vn h => new_no w t va vn h hs hf
  clear h he hb hf hs
  go_enter Try.func6, Try.ntmps6
  go_wp2_with (first | (go_at_call 18; refine (HNW.out _ _ _ HT.out).mono ?_; rintro e w2 ⟨rfl, hb2⟩) | (go_at_call 17; refine hr.mono ?_; rintro e w1 ⟨⟨va, vn, rfl, ht⟩, hb1⟩; obtain ⟨a, c, a2, n2, c2, e1, e2⟩ := ht.shapes; subst e1; subst e2; have HT : Hid (TabIn (w1.alloc (.cells #[.bool t.front, .bool t.back, .int .i64 t.start, .string (ba t.cls), .slice a t.acc.length c, .slice a2 n2 c2] 30)) t (.slice a t.acc.length c) (.slice a2 n2 c2)) := ht.below ((Below.refl _ _).alloc (Nat.le_refl _) _); clear ht))
  go_ret2
  exact ⟨rfl, (hb1.alloc hb1.size _).trans (hb2.mono (by have := hb1.size; simp; omega))⟩
set_option maxRecDepth 4000 in
set_option maxHeartbeats 1000000 in
theorem load_yes (w : World) (b : List UInt8) (hb : b.length ≤ maxLen) (t : Tb) (k : Nat) (g : Bool) (h : rdT b = some (t, k, g)) (he : enc t k g = b) (hf : isTb t = true) :
    Calls Try.prog 6 #[.string (ba b)] w fun e w' => ∃ m c, e = .returned (.tuple #[.pointer (some ⟨m, 0, none⟩), .int .i64 0]) ∧ Mch w' m t c ∧ w.heap.size ≤ m ∧ Below w.heap.size w w' := by
  obtain ⟨c0, hok⟩ := tbOk_of hf
  have HOK : Hid (TbOk t c0) := hok
  have hr := read_good w b hb t k g h he
  have hs := rdT_small h
  have HNW : Hid (∀ w va vn, TabIn w t va vn → Calls Try.prog 18 #[tv t va vn] w fun e w' => ∃ g, e = .returned (.tuple #[.pointer (some ⟨g, 0, none⟩), .bool true]) ∧ w.heap.size ≤ g ∧ AuIn w' g t ∧ Below w.heap.size w w') := fun w va vn h => new_yes w t va vn h hs hf
  clear h he hb hf hs hok
  go_enter Try.func6, Try.ntmps6
  go_wp2_with (first | (go_at_call 18; refine (HNW.out _ _ _ HT.out).mono ?_; rintro e w2 ⟨g2, rfl, hg2, hau, hb2⟩; have HA : Hid (AuIn w2 g2 t) := hau; have HB2 : Hid (Below w.heap.size w w2) := (hb1.alloc hb1.size _).trans (hb2.mono (by have := hb1.size; simp; omega)); clear hau hb2 hg2) | (go_at_call 17; refine hr.mono ?_; rintro e w1 ⟨⟨va, vn, rfl, ht⟩, hb1⟩; obtain ⟨a, c, a2, n2, c2, e1, e2⟩ := ht.shapes; subst e1; subst e2; have HT : Hid (TabIn (w1.alloc (.cells #[.bool t.front, .bool t.back, .int .i64 t.start, .string (ba t.cls), .slice a t.acc.length c, .slice a2 n2 c2] 30)) t (.slice a t.acc.length c) (.slice a2 n2 c2)) := ht.below ((Below.refl _ _).alloc (Nat.le_refl _) _); clear ht))
  go_ret2
  exact ⟨_, c0, rfl, Mch.new HA.out HOK.out, HB2.out.size, HB2.out.alloc HB2.out.size _⟩
theorem load_none (w : World) (b : List UInt8) (hb : b.length ≤ maxLen) (h : loadM isTb b = none) :
    Calls Try.prog 6 #[.string (ba b)] w fun e w' => e = .returned (.tuple #[.pointer none, .int .i64 6]) ∧ Below w.heap.size w w' := by
  cases hr : rdT b with
  | none => exact load_bad w b hb (fun t k g e => by rw [hr] at e; simp at e)
  | some x =>
    obtain ⟨t, k, g⟩ := x
    by_cases he : enc t k g = b
    · refine load_no w b hb t k g hr he ?_
      unfold loadM at h
      rw [hr] at h
      simp only at h
      rw [if_pos he] at h
      cases hi : isTb t with
      | false => rfl
      | true => rw [hi] at h; simp at h
    · exact load_bad w b hb (fun t' k' g' e => by rw [hr] at e; simp at e; obtain ⟨rfl, rfl, rfl⟩ := e; exact he)
theorem load_some (w : World) (b : List UInt8) (hb : b.length ≤ maxLen) (t : Tb) (h : loadM isTb b = some t) :
    Calls Try.prog 6 #[.string (ba b)] w fun e w' => ∃ m c, e = .returned (.tuple #[.pointer (some ⟨m, 0, none⟩), .int .i64 0]) ∧ Mch w' m t c ∧ w.heap.size ≤ m ∧ Below w.heap.size w w' := by
  unfold loadM at h
  split at h
  · simp at h
  · rename_i t' k g hr
    split at h
    · rename_i he
      split at h
      · rename_i hp
        simp only [Option.some.injEq] at h
        subst h
        exact load_yes w b hb _ k g hr he hp
      · simp at h
    · simp at h
end Go.Proofs.Ytbjabpodkaokjaa
