import Derived.Test.YtbjabpodkaokjaaJ15
set_option linter.unusedVariables false
set_option linter.unusedSimpArgs false
namespace Go.Proofs.Ytbjabpodkaokjaa
open Go.RowKit

/-- An empty table as a value. -/
abbrev tv0 : Value := .agg #[.bool false, .bool false, .int .i64 0, .string ⟨#[]⟩, .slice none 0 0, .slice none 0 0]
abbrev tc0 : Array Value := #[.bool false, .bool false, .int .i64 0, .string ⟨#[]⟩, .slice none 0 0, .slice none 0 0]
/-- The head of what is read. -/
structure Hdr (b : List UInt8) (kd : Nat) (l6 : List UInt8) (en : Nat) (l7 : List UInt8) (bg : Nat) (l8 : List UInt8) (big : Bool) (s : Nat) (l10 : List UInt8) (c : Nat) (l12 : List UInt8) (st : Nat) (l14 : List UInt8) : Prop where
  h1 : rdS (b.drop 5) = (kd, l6)
  h2 : rdS l6 = (en, l7)
  h3 : rdS l7 = (bg, l8)
  h4 : (bg == 1) = big
  h5 : rdP big l8 = (s, l10)
  h6 : rdP big l10 = (c, l12)
  h7 : rdP big l12 = (st, l14)
theorem hdr_ex (b : List UInt8) : ∃ kd l6 en l7 bg l8 big s l10 c l12 st l14, Hdr b kd l6 en l7 bg l8 big s l10 c l12 st l14 := ⟨_, _, _, _, _, _, _, _, _, _, _, _, _, ⟨rfl, rfl, rfl, rfl, rfl, rfl, rfl⟩⟩
theorem Hdr.rdT {b : List UInt8} {kd : Nat} {l6 : List UInt8} {en : Nat} {l7 : List UInt8} {bg : Nat} {l8 : List UInt8} {big : Bool} {s : Nat} {l10 : List UInt8} {c : Nat} {l12 : List UInt8} {st : Nat} {l14 : List UInt8} (h : Hdr b kd l6 en l7 bg l8 big s l10 c l12 st l14) :
    rdT b = if 1 < kd ∨ s < 1 ∨ 200 < s ∨ 256 < c then none else some (⟨en % 2 == 1, en / 2 % 2 == 1, st, l14.take 256, (rdA s (l14.drop 256)).1, (rdRs kd big c s (rdA s (l14.drop 256)).2).1⟩, kd, big) := by
  obtain ⟨h1, h2, h3, h4, h5, h6, h7⟩ := h
  unfold Go.Proofs.Ytbjabpodkaokjaa.rdT
  simp only [h1, h2, h3, h4, h5, h6, h7]
/-- The three steps of the reader's, as contracts at whatever world. -/
theorem small_at {l l' : List UInt8} {x : Nat} (h : rdS l = (x, l')) (w : World) (g : Nat) (big : Bool) (hr : Rdr w g big l) :
    Calls Try.prog 30 #[.pointer (some ⟨g, 0, none⟩)] w fun e w' => e = .returned (.int .u8 x) ∧ RdOut g big w l' w' := by
  have := small_r w g big l hr
  rw [h] at this
  exact this
theorem pair_at {big : Bool} {l l' : List UInt8} {x : Nat} (h : rdP big l = (x, l')) (w : World) (g : Nat) (hr : Rdr w g big l) :
    Calls Try.prog 31 #[.pointer (some ⟨g, 0, none⟩)] w fun e w' => e = .returned (.int .i64 x) ∧ RdOut g big w l' w' := by
  have := pair_r w g big l hr
  rw [h] at this
  exact this
theorem boxfz {w : World} {b : Nat} {cs : Array Value} {T : TypeId} (h : w.heap[b]? = some (.cells cs T)) (o : Nat) : w.frozen? ⟨b, o, none⟩ = false := by simp [World.frozen?, h]
set_option maxRecDepth 4000 in
set_option maxHeartbeats 4000000 in
theorem read_none (w : World) (b : List UInt8) (hb : b.length ≤ maxLen) (hn : rdT b = none) :
    Calls Try.prog 17 #[.string (ba b)] w fun e w' => e = .returned (.tuple #[tv0, .bool false]) ∧ Below w.heap.size w w' := by
  obtain ⟨kd, l6, en, l7, bg, l8, big, s, l10, c, l12, st, l14, hh⟩ := hdr_ex b
  rw [hh.rdT] at hn
  have hcond : 1 < kd ∨ s < 1 ∨ 200 < s ∨ 256 < c := by
    rcases Classical.em (1 < kd ∨ s < 1 ∨ 200 < s ∨ 256 < c) with q | q
    · exact q
    · rw [if_neg q] at hn; simp at hn
  have bk : kd < 256 := by have := rdS_lt (b.drop 5); rw [hh.h1] at this; exact this
  have bs : s < 65536 := by have := rdP_lt big l8; rw [hh.h5] at this; exact this
  have bc : c < 65536 := by have := rdP_lt big l10; rw [hh.h6] at this; exact this
  have hbig : ((bg : Int) == 1) = big := by rw [← hh.h4, Bool.eq_iff_iff]; simp; omega
  obtain ⟨w1, hw1⟩ : ∃ w1, w1 = (w.alloc (.cells tc0 30)).alloc (.cells #[.bool false, .string (ba b)] 66) := ⟨_, rfl⟩
  obtain ⟨g, hg⟩ : ∃ g, g = w.heap.size + 1 := ⟨_, rfl⟩
  have HR1 : Hid (Rdr w1 g false b) := by
    have := Rdr.new (w.alloc (.cells tc0 30)) b hb
    rw [← hw1, World.size_alloc, ← hg] at this
    exact this
  have hgw : g ≤ w1.heap.size := Nat.le_of_lt HR1.out.lt
  have HH : Hid (Hdr b kd l6 en l7 bg l8 big s l10 c l12 st l14) := hh
  have HW1 : Hid (w1 = (w.alloc (.cells tc0 30)).alloc (.cells #[.bool false, .string (ba b)] 66)) := hw1
  have HG : Hid (g = w.heap.size + 1) := hg
  have HRB : Hid (Stb g w1 fun w' => w'.heap[w.heap.size]? = some (.cells tc0 30)) := fun w' hb => by
    show w'.heap[w.heap.size]? = _
    rw [hb.block _ (by omega), hw1, Below.heap_alloc _ _ _ (by simp)]
    exact heap_alloc_new _ _
  have HBW : Hid (Below w.heap.size w w1) := by rw [hw1]; exact ((Below.refl _ _).alloc (Nat.le_refl _) _).alloc (by simp) _
  clear hh hw1 hg hn hb
  by_cases c1 : (1 : Int) < kd
  · clear hcond
    go_enter Try.func17, Try.ntmps17
    go_wp2_with (first | (go_at_call 31; refine (pair_at HH.out.h7 _ g HO6.out.1).mono ?_; rintro e w7 ⟨rfl, ho7⟩; have HO7 : Hid (RdOut g big w5 l14 w7) := HO6.out.trans ho7; have HB7 : Hid (Below g w1 w7) := HOB.out.grown HO7.out.2 (Nat.le_of_lt HOP.out.1.lt) (fun k e => by injection e with e; omega); obtain ⟨r0, r1, r2, r3, r4, r5⟩ := box6 (HRB.out w7 HB7.out); have rf := boxfz (HRB.out w7 HB7.out); clear ho7) | (go_at_call 31; refine (pair_at HH.out.h6 _ g HOP.out.1).mono ?_; rintro e w6 ⟨rfl, ho6⟩; have HO6 : Hid (RdOut g big w5 l12 w6) := HOP.out.trans ho6; clear ho6) | (go_at_call 31; refine (pair_at HH.out.h5 _ g (HO4.out.1.setBig big)).mono ?_; rintro e w5 ⟨rfl, ho5⟩; have HOB : Hid (Below g w1 w5) := (((Below.refl g w1).grown HO4.out.2 hgw (fun k e => by injection e with e; omega)).setCell (p := ⟨g, 0, none⟩) (Nat.le_refl _) _).grown ho5.2 (by have := HO4.out.1.lt; simp [World.setCell]; omega) (fun k e => by injection e with e; omega); have HOP : Hid (RdOut g big w5 l10 w5) := ⟨ho5.1, grown_refl _ _⟩; clear ho5) | (go_at_call 30; refine (small_at HH.out.h3 _ g _ HO3.out.1).mono ?_; rintro e w4 ⟨rfl, ho4⟩; have HO4 : Hid (RdOut g false w1 l8 w4) := HO3.out.trans ho4; have hf4 := ho4.1.fz 0; have hc4 := ho4.1.c0; clear ho4) | (go_at_call 30; refine (small_at HH.out.h2 _ g _ HO2.out.1).mono ?_; rintro e w3 ⟨rfl, ho3⟩; have HO3 : Hid (RdOut g false w1 l7 w3) := HO2.out.trans ho3; clear ho3) | (go_at_call 30; refine (small_at HH.out.h1 _ g _ HOT.out.1).mono ?_; rintro e w2 ⟨rfl, ho2⟩; have HO2 : Hid (RdOut g false w1 l6 w2) := HOT.out.trans ho2; clear ho2) | (go_at_call 29; rw [← HW1.out, ← HG.out]; refine (text_r _ g false b 5 (by omega) HR1.out).mono ?_; rintro e wt ⟨rfl, hot⟩; have HOT : Hid (RdOut g false w1 (b.drop 5) wt) := hot; clear hot))
    refine bodyPost_ret (v := .tuple #[tv0, .bool false]) (by simp [results, Try.results17, go_sem, r0, r1, r2, r3, r4, r5]) rfl ⟨rfl, ?_⟩
    exact (by (repeat first | (with_reducible refine Below.setCell ?_ (by first | exact Nat.le_refl _ | (simp; done) | (simp; omega)) _) | (with_reducible refine Below.alloc ?_ (by first | omega | (simp; done) | (simp; omega)) _) | (with_reducible refine Below.drew ?_)); exact (HBW.out.trans (HB7.out.mono (by rw [HG.out]; omega))))
  by_cases c2 : (s : Int) < 1
  · clear hcond
    go_enter Try.func17, Try.ntmps17
    go_wp2_with (first | (go_at_call 31; refine (pair_at HH.out.h7 _ g HO6.out.1).mono ?_; rintro e w7 ⟨rfl, ho7⟩; have HO7 : Hid (RdOut g big w5 l14 w7) := HO6.out.trans ho7; have HB7 : Hid (Below g w1 w7) := HOB.out.grown HO7.out.2 (Nat.le_of_lt HOP.out.1.lt) (fun k e => by injection e with e; omega); obtain ⟨r0, r1, r2, r3, r4, r5⟩ := box6 (HRB.out w7 HB7.out); have rf := boxfz (HRB.out w7 HB7.out); clear ho7) | (go_at_call 31; refine (pair_at HH.out.h6 _ g HOP.out.1).mono ?_; rintro e w6 ⟨rfl, ho6⟩; have HO6 : Hid (RdOut g big w5 l12 w6) := HOP.out.trans ho6; clear ho6) | (go_at_call 31; refine (pair_at HH.out.h5 _ g (HO4.out.1.setBig big)).mono ?_; rintro e w5 ⟨rfl, ho5⟩; have HOB : Hid (Below g w1 w5) := (((Below.refl g w1).grown HO4.out.2 hgw (fun k e => by injection e with e; omega)).setCell (p := ⟨g, 0, none⟩) (Nat.le_refl _) _).grown ho5.2 (by have := HO4.out.1.lt; simp [World.setCell]; omega) (fun k e => by injection e with e; omega); have HOP : Hid (RdOut g big w5 l10 w5) := ⟨ho5.1, grown_refl _ _⟩; clear ho5) | (go_at_call 30; refine (small_at HH.out.h3 _ g _ HO3.out.1).mono ?_; rintro e w4 ⟨rfl, ho4⟩; have HO4 : Hid (RdOut g false w1 l8 w4) := HO3.out.trans ho4; have hf4 := ho4.1.fz 0; have hc4 := ho4.1.c0; clear ho4) | (go_at_call 30; refine (small_at HH.out.h2 _ g _ HO2.out.1).mono ?_; rintro e w3 ⟨rfl, ho3⟩; have HO3 : Hid (RdOut g false w1 l7 w3) := HO2.out.trans ho3; clear ho3) | (go_at_call 30; refine (small_at HH.out.h1 _ g _ HOT.out.1).mono ?_; rintro e w2 ⟨rfl, ho2⟩; have HO2 : Hid (RdOut g false w1 l6 w2) := HOT.out.trans ho2; clear ho2) | (go_at_call 29; rw [← HW1.out, ← HG.out]; refine (text_r _ g false b 5 (by omega) HR1.out).mono ?_; rintro e wt ⟨rfl, hot⟩; have HOT : Hid (RdOut g false w1 (b.drop 5) wt) := hot; clear hot))
    refine bodyPost_ret (v := .tuple #[tv0, .bool false]) (by simp [results, Try.results17, go_sem, r0, r1, r2, r3, r4, r5]) rfl ⟨rfl, ?_⟩
    exact (by (repeat first | (with_reducible refine Below.setCell ?_ (by first | exact Nat.le_refl _ | (simp; done) | (simp; omega)) _) | (with_reducible refine Below.alloc ?_ (by first | omega | (simp; done) | (simp; omega)) _) | (with_reducible refine Below.drew ?_)); exact (HBW.out.trans (HB7.out.mono (by rw [HG.out]; omega))))
  by_cases c3 : (200 : Int) < s
  · clear hcond
    go_enter Try.func17, Try.ntmps17
    go_wp2_with (first | (go_at_call 31; refine (pair_at HH.out.h7 _ g HO6.out.1).mono ?_; rintro e w7 ⟨rfl, ho7⟩; have HO7 : Hid (RdOut g big w5 l14 w7) := HO6.out.trans ho7; have HB7 : Hid (Below g w1 w7) := HOB.out.grown HO7.out.2 (Nat.le_of_lt HOP.out.1.lt) (fun k e => by injection e with e; omega); obtain ⟨r0, r1, r2, r3, r4, r5⟩ := box6 (HRB.out w7 HB7.out); have rf := boxfz (HRB.out w7 HB7.out); clear ho7) | (go_at_call 31; refine (pair_at HH.out.h6 _ g HOP.out.1).mono ?_; rintro e w6 ⟨rfl, ho6⟩; have HO6 : Hid (RdOut g big w5 l12 w6) := HOP.out.trans ho6; clear ho6) | (go_at_call 31; refine (pair_at HH.out.h5 _ g (HO4.out.1.setBig big)).mono ?_; rintro e w5 ⟨rfl, ho5⟩; have HOB : Hid (Below g w1 w5) := (((Below.refl g w1).grown HO4.out.2 hgw (fun k e => by injection e with e; omega)).setCell (p := ⟨g, 0, none⟩) (Nat.le_refl _) _).grown ho5.2 (by have := HO4.out.1.lt; simp [World.setCell]; omega) (fun k e => by injection e with e; omega); have HOP : Hid (RdOut g big w5 l10 w5) := ⟨ho5.1, grown_refl _ _⟩; clear ho5) | (go_at_call 30; refine (small_at HH.out.h3 _ g _ HO3.out.1).mono ?_; rintro e w4 ⟨rfl, ho4⟩; have HO4 : Hid (RdOut g false w1 l8 w4) := HO3.out.trans ho4; have hf4 := ho4.1.fz 0; have hc4 := ho4.1.c0; clear ho4) | (go_at_call 30; refine (small_at HH.out.h2 _ g _ HO2.out.1).mono ?_; rintro e w3 ⟨rfl, ho3⟩; have HO3 : Hid (RdOut g false w1 l7 w3) := HO2.out.trans ho3; clear ho3) | (go_at_call 30; refine (small_at HH.out.h1 _ g _ HOT.out.1).mono ?_; rintro e w2 ⟨rfl, ho2⟩; have HO2 : Hid (RdOut g false w1 l6 w2) := HOT.out.trans ho2; clear ho2) | (go_at_call 29; rw [← HW1.out, ← HG.out]; refine (text_r _ g false b 5 (by omega) HR1.out).mono ?_; rintro e wt ⟨rfl, hot⟩; have HOT : Hid (RdOut g false w1 (b.drop 5) wt) := hot; clear hot))
    refine bodyPost_ret (v := .tuple #[tv0, .bool false]) (by simp [results, Try.results17, go_sem, r0, r1, r2, r3, r4, r5]) rfl ⟨rfl, ?_⟩
    exact (by (repeat first | (with_reducible refine Below.setCell ?_ (by first | exact Nat.le_refl _ | (simp; done) | (simp; omega)) _) | (with_reducible refine Below.alloc ?_ (by first | omega | (simp; done) | (simp; omega)) _) | (with_reducible refine Below.drew ?_)); exact (HBW.out.trans (HB7.out.mono (by rw [HG.out]; omega))))
  have c4 : (256 : Int) < c := by omega
  clear hcond
  go_enter Try.func17, Try.ntmps17
  go_wp2_with (first | (go_at_call 31; refine (pair_at HH.out.h7 _ g HO6.out.1).mono ?_; rintro e w7 ⟨rfl, ho7⟩; have HO7 : Hid (RdOut g big w5 l14 w7) := HO6.out.trans ho7; have HB7 : Hid (Below g w1 w7) := HOB.out.grown HO7.out.2 (Nat.le_of_lt HOP.out.1.lt) (fun k e => by injection e with e; omega); obtain ⟨r0, r1, r2, r3, r4, r5⟩ := box6 (HRB.out w7 HB7.out); have rf := boxfz (HRB.out w7 HB7.out); clear ho7) | (go_at_call 31; refine (pair_at HH.out.h6 _ g HOP.out.1).mono ?_; rintro e w6 ⟨rfl, ho6⟩; have HO6 : Hid (RdOut g big w5 l12 w6) := HOP.out.trans ho6; clear ho6) | (go_at_call 31; refine (pair_at HH.out.h5 _ g (HO4.out.1.setBig big)).mono ?_; rintro e w5 ⟨rfl, ho5⟩; have HOB : Hid (Below g w1 w5) := (((Below.refl g w1).grown HO4.out.2 hgw (fun k e => by injection e with e; omega)).setCell (p := ⟨g, 0, none⟩) (Nat.le_refl _) _).grown ho5.2 (by have := HO4.out.1.lt; simp [World.setCell]; omega) (fun k e => by injection e with e; omega); have HOP : Hid (RdOut g big w5 l10 w5) := ⟨ho5.1, grown_refl _ _⟩; clear ho5) | (go_at_call 30; refine (small_at HH.out.h3 _ g _ HO3.out.1).mono ?_; rintro e w4 ⟨rfl, ho4⟩; have HO4 : Hid (RdOut g false w1 l8 w4) := HO3.out.trans ho4; have hf4 := ho4.1.fz 0; have hc4 := ho4.1.c0; clear ho4) | (go_at_call 30; refine (small_at HH.out.h2 _ g _ HO2.out.1).mono ?_; rintro e w3 ⟨rfl, ho3⟩; have HO3 : Hid (RdOut g false w1 l7 w3) := HO2.out.trans ho3; clear ho3) | (go_at_call 30; refine (small_at HH.out.h1 _ g _ HOT.out.1).mono ?_; rintro e w2 ⟨rfl, ho2⟩; have HO2 : Hid (RdOut g false w1 l6 w2) := HOT.out.trans ho2; clear ho2) | (go_at_call 29; rw [← HW1.out, ← HG.out]; refine (text_r _ g false b 5 (by omega) HR1.out).mono ?_; rintro e wt ⟨rfl, hot⟩; have HOT : Hid (RdOut g false w1 (b.drop 5) wt) := hot; clear hot))
  refine bodyPost_ret (v := .tuple #[tv0, .bool false]) (by simp [results, Try.results17, go_sem, r0, r1, r2, r3, r4, r5]) rfl ⟨rfl, ?_⟩
  exact (by (repeat first | (with_reducible refine Below.setCell ?_ (by first | exact Nat.le_refl _ | (simp; done) | (simp; omega)) _) | (with_reducible refine Below.alloc ?_ (by first | omega | (simp; done) | (simp; omega)) _) | (with_reducible refine Below.drew ?_)); exact (HBW.out.trans (HB7.out.mono (by rw [HG.out]; omega))))
end Go.Proofs.Ytbjabpodkaokjaa
