import Derived.Test.YtbjabpodkaokjaaGreatDoorJ10
import Derived.Test.YtbjabpodkaokjaaGreatDoorJ08
import Derived.Test.YtbjabpodkaokjaaGreatDoorJ09
import Derived.Deep.RegionHeld3
import Derived.Deep.CutRange
set_option linter.unusedVariables false
set_option linter.unusedSimpArgs false
namespace Go.Proofs.YtbjabpodkaokjaaGreatDoor
open Go.RowKit

/-- An empty table as a value. -/
abbrev tv0 : Value := .agg #[.bool false, .bool false, .int .i64 0, .string ⟨#[]⟩, .slice none 0 0, .slice none 0 0]
abbrev tc0 : Array Value := #[.bool false, .bool false, .int .i64 0, .string ⟨#[]⟩, .slice none 0 0, .slice none 0 0]
/-- The head of what is read. -/
structure Hdr (b : List UInt8) (kd : Nat) (l6 : List UInt8) (en : Nat) (l7 : List UInt8) (bg : Nat) (l8 : List UInt8) (big : Bool) (s : Nat) (l10 : List UInt8) (c : Nat) (l12 : List UInt8) (st : Nat) (l14 : List UInt8) : Prop where
  h1 : rdS (b.drop 5) = (kd, l6)
  h2 : rdS l6 = (en, l7)
  h3 : rdS l7 = (bg, l8)
  h4 : (bg == 1) = big
  h5 : rdP big l8 = (s, l10)
  h6 : rdP big l10 = (c, l12)
  h7 : rdP big l12 = (st, l14)
theorem hdr_ex (b : List UInt8) : ∃ kd l6 en l7 bg l8 big s l10 c l12 st l14, Hdr b kd l6 en l7 bg l8 big s l10 c l12 st l14 := ⟨_, _, _, _, _, _, _, _, _, _, _, _, _, ⟨rfl, rfl, rfl, rfl, rfl, rfl, rfl⟩⟩
theorem Hdr.rdT {b : List UInt8} {kd : Nat} {l6 : List UInt8} {en : Nat} {l7 : List UInt8} {bg : Nat} {l8 : List UInt8} {big : Bool} {s : Nat} {l10 : List UInt8} {c : Nat} {l12 : List UInt8} {st : Nat} {l14 : List UInt8} (h : Hdr b kd l6 en l7 bg l8 big s l10 c l12 st l14) :
    rdT b = if 1 < kd ∨ s < 1 ∨ 200 < s ∨ 256 < c then none else some (⟨en % 2 == 1, en / 2 % 2 == 1, st, l14.take 256, (rdA s (l14.drop 256)).1, (rdRs kd big c s (rdA s (l14.drop 256)).2).1⟩, kd, big) := by
  obtain ⟨h1, h2, h3, h4, h5, h6, h7⟩ := h
  unfold Go.Proofs.YtbjabpodkaokjaaGreatDoor.rdT
  simp only [h1, h2, h3, h4, h5, h6, h7]
/-- The three steps of the reader's, as contracts at whatever world. -/
theorem small_at {l l' : List UInt8} {x : Nat} (h : rdS l = (x, l')) (w : World) (g : Nat) (big : Bool) (hr : Rdr w g big l) :
    Calls Tryz.prog 107 #[.pointer (some ⟨g, 0, none⟩)] w fun e w' => e = .returned (.int .u8 x) ∧ RdOut g big w l' w' := by
  have := small_r w g big l hr
  rw [h] at this
  exact this
theorem pair_at {big : Bool} {l l' : List UInt8} {x : Nat} (h : rdP big l = (x, l')) (w : World) (g : Nat) (hr : Rdr w g big l) :
    Calls Tryz.prog 108 #[.pointer (some ⟨g, 0, none⟩)] w fun e w' => e = .returned (.int .i64 x) ∧ RdOut g big w l' w' := by
  have := pair_r w g big l hr
  rw [h] at this
  exact this
theorem boxfz {w : World} {b : Nat} {cs : Array Value} {T : TypeId} (h : w.heap[b]? = some (.cells cs T)) (o : Nat) : w.frozen? ⟨b, o, none⟩ = false := by simp [World.frozen?, h]
set_option maxRecDepth 4000 in
set_option maxHeartbeats 4000000 in
theorem read_none (w : World) (b : List UInt8) (hb : b.length ≤ maxLen) (hn : rdT b = none) :
    Calls Tryz.prog 60 #[.string (ba b)] w fun e w' => e = .returned (.tuple #[tv0, .bool false]) ∧ Below w.heap.size w w' := by
  obtain ⟨kd, l6, en, l7, bg, l8, big, s, l10, c, l12, st, l14, hh⟩ := hdr_ex b
  rw [hh.rdT] at hn
  have hcond : 1 < kd ∨ s < 1 ∨ 200 < s ∨ 256 < c := by
    rcases Classical.em (1 < kd ∨ s < 1 ∨ 200 < s ∨ 256 < c) with q | q
    · exact q
    · rw [if_neg q] at hn; simp at hn
  have bk : kd < 256 := by have := rdS_lt (b.drop 5); rw [hh.h1] at this; exact this
  have bs : s < 65536 := by have := rdP_lt big l8; rw [hh.h5] at this; exact this
  have bc : c < 65536 := by have := rdP_lt big l10; rw [hh.h6] at this; exact this
  have hbig : ((bg : Int) == 1) = big := by rw [← hh.h4, Bool.eq_iff_iff]; simp; omega
  obtain ⟨w1, hw1⟩ : ∃ w1, w1 = (w.alloc (.cells tc0 33)).alloc (.cells #[.bool false, .string (ba b)] 211) := ⟨_, rfl⟩
  obtain ⟨g, hg⟩ : ∃ g, g = w.heap.size + 1 := ⟨_, rfl⟩
  have HR1 : Hid (Rdr w1 g false b) := by
    have := Rdr.new (w.alloc (.cells tc0 33)) b hb
    rw [← hw1, World.size_alloc, ← hg] at this
    exact this
  have hgw : g ≤ w1.heap.size := Nat.le_of_lt HR1.out.lt
  have HH : Hid (Hdr b kd l6 en l7 bg l8 big s l10 c l12 st l14) := hh
  have HW1 : Hid (w1 = (w.alloc (.cells tc0 33)).alloc (.cells #[.bool false, .string (ba b)] 211)) := hw1
  have HG : Hid (g = w.heap.size + 1) := hg
  have HRB : Hid (Stb g w1 fun w' => w'.heap[w.heap.size]? = some (.cells tc0 33)) := fun w' hb => by
    show w'.heap[w.heap.size]? = _
    rw [hb.block _ (by omega), hw1, Below.heap_alloc _ _ _ (by simp)]
    exact heap_alloc_new _ _
  have HBW : Hid (Below w.heap.size w w1) := by rw [hw1]; exact ((Below.refl _ _).alloc (Nat.le_refl _) _).alloc (by simp) _
  clear hh hw1 hg hn hb
  by_cases c1 : (1 : Int) < kd
  · clear hcond
    go_enter Tryz.func60, Tryz.ntmps60
    go_wp2_with (first | (go_at_call 108; refine (pair_at HH.out.h7 _ g HO6.out.1).mono ?_; rintro e w7 ⟨rfl, ho7⟩; have HO7 : Hid (RdOut g big w5 l14 w7) := HO6.out.trans ho7; have HB7 : Hid (Below g w1 w7) := HOB.out.grown HO7.out.2 (Nat.le_of_lt HOP.out.1.lt) (fun k e => by injection e with e; omega); obtain ⟨r0, r1, r2, r3, r4, r5⟩ := box6 (HRB.out w7 HB7.out); have rf := boxfz (HRB.out w7 HB7.out); clear ho7) | (go_at_call 108; refine (pair_at HH.out.h6 _ g HOP.out.1).mono ?_; rintro e w6 ⟨rfl, ho6⟩; have HO6 : Hid (RdOut g big w5 l12 w6) := HOP.out.trans ho6; clear ho6) | (go_at_call 108; refine (pair_at HH.out.h5 _ g (HO4.out.1.setBig big)).mono ?_; rintro e w5 ⟨rfl, ho5⟩; have HOB : Hid (Below g w1 w5) := (((Below.refl g w1).grown HO4.out.2 hgw (fun k e => by injection e with e; omega)).setCell (p := ⟨g, 0, none⟩) (Nat.le_refl _) _).grown ho5.2 (by have := HO4.out.1.lt; simp [World.setCell]; omega) (fun k e => by injection e with e; omega); have HOP : Hid (RdOut g big w5 l10 w5) := ⟨ho5.1, grown_refl _ _⟩; clear ho5) | (go_at_call 107; refine (small_at HH.out.h3 _ g _ HO3.out.1).mono ?_; rintro e w4 ⟨rfl, ho4⟩; have HO4 : Hid (RdOut g false w1 l8 w4) := HO3.out.trans ho4; have hf4 := ho4.1.fz 0; have hc4 := ho4.1.c0; clear ho4) | (go_at_call 107; refine (small_at HH.out.h2 _ g _ HO2.out.1).mono ?_; rintro e w3 ⟨rfl, ho3⟩; have HO3 : Hid (RdOut g false w1 l7 w3) := HO2.out.trans ho3; clear ho3) | (go_at_call 107; refine (small_at HH.out.h1 _ g _ HOT.out.1).mono ?_; rintro e w2 ⟨rfl, ho2⟩; have HO2 : Hid (RdOut g false w1 l6 w2) := HOT.out.trans ho2; clear ho2) | (go_at_call 106; rw [← HW1.out, ← HG.out]; refine (text_r _ g false b 5 (by omega) HR1.out).mono ?_; rintro e wt ⟨rfl, hot⟩; have HOT : Hid (RdOut g false w1 (b.drop 5) wt) := hot; clear hot))
    refine bodyPost_ret (v := .tuple #[tv0, .bool false]) (by simp [results, Tryz.results60, go_sem, r0, r1, r2, r3, r4, r5]) rfl ⟨rfl, ?_⟩
    exact (by (repeat first | (with_reducible refine Below.setCell ?_ (by first | exact Nat.le_refl _ | (simp; done) | (simp; omega)) _) | (with_reducible refine Below.alloc ?_ (by first | omega | (simp; done) | (simp; omega)) _) | (with_reducible refine Below.drew ?_)); exact (HBW.out.trans (HB7.out.mono (by rw [HG.out]; omega))))
  by_cases c2 : (s : Int) < 1
  · clear hcond
    go_enter Tryz.func60, Tryz.ntmps60
    go_wp2_with (first | (go_at_call 108; refine (pair_at HH.out.h7 _ g HO6.out.1).mono ?_; rintro e w7 ⟨rfl, ho7⟩; have HO7 : Hid (RdOut g big w5 l14 w7) := HO6.out.trans ho7; have HB7 : Hid (Below g w1 w7) := HOB.out.grown HO7.out.2 (Nat.le_of_lt HOP.out.1.lt) (fun k e => by injection e with e; omega); obtain ⟨r0, r1, r2, r3, r4, r5⟩ := box6 (HRB.out w7 HB7.out); have rf := boxfz (HRB.out w7 HB7.out); clear ho7) | (go_at_call 108; refine (pair_at HH.out.h6 _ g HOP.out.1).mono ?_; rintro e w6 ⟨rfl, ho6⟩; have HO6 : Hid (RdOut g big w5 l12 w6) := HOP.out.trans ho6; clear ho6) | (go_at_call 108; refine (pair_at HH.out.h5 _ g (HO4.out.1.setBig big)).mono ?_; rintro e w5 ⟨rfl, ho5⟩; have HOB : Hid (Below g w1 w5) := (((Below.refl g w1).grown HO4.out.2 hgw (fun k e => by injection e with e; omega)).setCell (p := ⟨g, 0, none⟩) (Nat.le_refl _) _).grown ho5.2 (by have := HO4.out.1.lt; simp [World.setCell]; omega) (fun k e => by injection e with e; omega); have HOP : Hid (RdOut g big w5 l10 w5) := ⟨ho5.1, grown_refl _ _⟩; clear ho5) | (go_at_call 107; refine (small_at HH.out.h3 _ g _ HO3.out.1).mono ?_; rintro e w4 ⟨rfl, ho4⟩; have HO4 : Hid (RdOut g false w1 l8 w4) := HO3.out.trans ho4; have hf4 := ho4.1.fz 0; have hc4 := ho4.1.c0; clear ho4) | (go_at_call 107; refine (small_at HH.out.h2 _ g _ HO2.out.1).mono ?_; rintro e w3 ⟨rfl, ho3⟩; have HO3 : Hid (RdOut g false w1 l7 w3) := HO2.out.trans ho3; clear ho3) | (go_at_call 107; refine (small_at HH.out.h1 _ g _ HOT.out.1).mono ?_; rintro e w2 ⟨rfl, ho2⟩; have HO2 : Hid (RdOut g false w1 l6 w2) := HOT.out.trans ho2; clear ho2) | (go_at_call 106; rw [← HW1.out, ← HG.out]; refine (text_r _ g false b 5 (by omega) HR1.out).mono ?_; rintro e wt ⟨rfl, hot⟩; have HOT : Hid (RdOut g false w1 (b.drop 5) wt) := hot; clear hot))
    refine bodyPost_ret (v := .tuple #[tv0, .bool false]) (by simp [results, Tryz.results60, go_sem, r0, r1, r2, r3, r4, r5]) rfl ⟨rfl, ?_⟩
    exact (by (repeat first | (with_reducible refine Below.setCell ?_ (by first | exact Nat.le_refl _ | (simp; done) | (simp; omega)) _) | (with_reducible refine Below.alloc ?_ (by first | omega | (simp; done) | (simp; omega)) _) | (with_reducible refine Below.drew ?_)); exact (HBW.out.trans (HB7.out.mono (by rw [HG.out]; omega))))
  by_cases c3 : (200 : Int) < s
  · clear hcond
    go_enter Tryz.func60, Tryz.ntmps60
    go_wp2_with (first | (go_at_call 108; refine (pair_at HH.out.h7 _ g HO6.out.1).mono ?_; rintro e w7 ⟨rfl, ho7⟩; have HO7 : Hid (RdOut g big w5 l14 w7) := HO6.out.trans ho7; have HB7 : Hid (Below g w1 w7) := HOB.out.grown HO7.out.2 (Nat.le_of_lt HOP.out.1.lt) (fun k e => by injection e with e; omega); obtain ⟨r0, r1, r2, r3, r4, r5⟩ := box6 (HRB.out w7 HB7.out); have rf := boxfz (HRB.out w7 HB7.out); clear ho7) | (go_at_call 108; refine (pair_at HH.out.h6 _ g HOP.out.1).mono ?_; rintro e w6 ⟨rfl, ho6⟩; have HO6 : Hid (RdOut g big w5 l12 w6) := HOP.out.trans ho6; clear ho6) | (go_at_call 108; refine (pair_at HH.out.h5 _ g (HO4.out.1.setBig big)).mono ?_; rintro e w5 ⟨rfl, ho5⟩; have HOB : Hid (Below g w1 w5) := (((Below.refl g w1).grown HO4.out.2 hgw (fun k e => by injection e with e; omega)).setCell (p := ⟨g, 0, none⟩) (Nat.le_refl _) _).grown ho5.2 (by have := HO4.out.1.lt; simp [World.setCell]; omega) (fun k e => by injection e with e; omega); have HOP : Hid (RdOut g big w5 l10 w5) := ⟨ho5.1, grown_refl _ _⟩; clear ho5) | (go_at_call 107; refine (small_at HH.out.h3 _ g _ HO3.out.1).mono ?_; rintro e w4 ⟨rfl, ho4⟩; have HO4 : Hid (RdOut g false w1 l8 w4) := HO3.out.trans ho4; have hf4 := ho4.1.fz 0; have hc4 := ho4.1.c0; clear ho4) | (go_at_call 107; refine (small_at HH.out.h2 _ g _ HO2.out.1).mono ?_; rintro e w3 ⟨rfl, ho3⟩; have HO3 : Hid (RdOut g false w1 l7 w3) := HO2.out.trans ho3; clear ho3) | (go_at_call 107; refine (small_at HH.out.h1 _ g _ HOT.out.1).mono ?_; rintro e w2 ⟨rfl, ho2⟩; have HO2 : Hid (RdOut g false w1 l6 w2) := HOT.out.trans ho2; clear ho2) | (go_at_call 106; rw [← HW1.out, ← HG.out]; refine (text_r _ g false b 5 (by omega) HR1.out).mono ?_; rintro e wt ⟨rfl, hot⟩; have HOT : Hid (RdOut g false w1 (b.drop 5) wt) := hot; clear hot))
    refine bodyPost_ret (v := .tuple #[tv0, .bool false]) (by simp [results, Tryz.results60, go_sem, r0, r1, r2, r3, r4, r5]) rfl ⟨rfl, ?_⟩
    exact (by (repeat first | (with_reducible refine Below.setCell ?_ (by first | exact Nat.le_refl _ | (simp; done) | (simp; omega)) _) | (with_reducible refine Below.alloc ?_ (by first | omega | (simp; done) | (simp; omega)) _) | (with_reducible refine Below.drew ?_)); exact (HBW.out.trans (HB7.out.mono (by rw [HG.out]; omega))))
  have c4 : (256 : Int) < c := by omega
  clear hcond
  go_enter Tryz.func60, Tryz.ntmps60
  go_wp2_with (first | (go_at_call 108; refine (pair_at HH.out.h7 _ g HO6.out.1).mono ?_; rintro e w7 ⟨rfl, ho7⟩; have HO7 : Hid (RdOut g big w5 l14 w7) := HO6.out.trans ho7; have HB7 : Hid (Below g w1 w7) := HOB.out.grown HO7.out.2 (Nat.le_of_lt HOP.out.1.lt) (fun k e => by injection e with e; omega); obtain ⟨r0, r1, r2, r3, r4, r5⟩ := box6 (HRB.out w7 HB7.out); have rf := boxfz (HRB.out w7 HB7.out); clear ho7) | (go_at_call 108; refine (pair_at HH.out.h6 _ g HOP.out.1).mono ?_; rintro e w6 ⟨rfl, ho6⟩; have HO6 : Hid (RdOut g big w5 l12 w6) := HOP.out.trans ho6; clear ho6) | (go_at_call 108; refine (pair_at HH.out.h5 _ g (HO4.out.1.setBig big)).mono ?_; rintro e w5 ⟨rfl, ho5⟩; have HOB : Hid (Below g w1 w5) := (((Below.refl g w1).grown HO4.out.2 hgw (fun k e => by injection e with e; omega)).setCell (p := ⟨g, 0, none⟩) (Nat.le_refl _) _).grown ho5.2 (by have := HO4.out.1.lt; simp [World.setCell]; omega) (fun k e => by injection e with e; omega); have HOP : Hid (RdOut g big w5 l10 w5) := ⟨ho5.1, grown_refl _ _⟩; clear ho5) | (go_at_call 107; refine (small_at HH.out.h3 _ g _ HO3.out.1).mono ?_; rintro e w4 ⟨rfl, ho4⟩; have HO4 : Hid (RdOut g false w1 l8 w4) := HO3.out.trans ho4; have hf4 := ho4.1.fz 0; have hc4 := ho4.1.c0; clear ho4) | (go_at_call 107; refine (small_at HH.out.h2 _ g _ HO2.out.1).mono ?_; rintro e w3 ⟨rfl, ho3⟩; have HO3 : Hid (RdOut g false w1 l7 w3) := HO2.out.trans ho3; clear ho3) | (go_at_call 107; refine (small_at HH.out.h1 _ g _ HOT.out.1).mono ?_; rintro e w2 ⟨rfl, ho2⟩; have HO2 : Hid (RdOut g false w1 l6 w2) := HOT.out.trans ho2; clear ho2) | (go_at_call 106; rw [← HW1.out, ← HG.out]; refine (text_r _ g false b 5 (by omega) HR1.out).mono ?_; rintro e wt ⟨rfl, hot⟩; have HOT : Hid (RdOut g false w1 (b.drop 5) wt) := hot; clear hot))
  refine bodyPost_ret (v := .tuple #[tv0, .bool false]) (by simp [results, Tryz.results60, go_sem, r0, r1, r2, r3, r4, r5]) rfl ⟨rfl, ?_⟩
  exact (by (repeat first | (with_reducible refine Below.setCell ?_ (by first | exact Nat.le_refl _ | (simp; done) | (simp; omega)) _) | (with_reducible refine Below.alloc ?_ (by first | omega | (simp; done) | (simp; omega)) _) | (with_reducible refine Below.drew ?_)); exact (HBW.out.trans (HB7.out.mono (by rw [HG.out]; omega))))
end Go.Proofs.YtbjabpodkaokjaaGreatDoor

namespace Go.Proofs.YtbjabpodkaokjaaGreatDoor
open Go.RowKit

theorem au_conv {w : World} {g : Nat} {f b : Bool} {s : Int} {l : List UInt8} {S : Nat → Bool} {v : Value} (h : Au w g f b s (fun j => ((l[j]?.getD 0).toNat : Int)) S v) (hl : l.length = 256) : (convert 73 9 (.slice (some ⟨g, 3, none⟩) 256 256)).run Tryz.prog w = .ok (.string (ba l)) w := by
  have := run_convert_bytes_back (P := Tryz.prog) w 73 9 5 ⟨g, 3, none⟩ 256 l Tryz.underlying73 und_byte und_str (by
    intro j hj
    have := h.cl j (by omega)
    have e : (⟨g, 3, none⟩ : Addr).add j = ⟨g, 3 + j, none⟩ := by unfold Addr.add; split <;> simp_all
    rw [e]
    simpa [hj] using this)
  rw [hl] at this
  exact this
def rowAt (gs : List Nat) (next : List (List Int)) (j : Nat) : Value :=
  match gs[j]? with
  | some q => .slice (some ⟨q, 0, none⟩) (next[j]?.getD []).length (next[j]?.getD []).length
  | none => .slice none 0 0
/-- Between Table's steps: the table in block tT, its lists in blocks of their own. -/
structure TI (w wr : World) (f b : Bool) (st : Int) (cls : List UInt8) (n tT tA tB lo : Nat) (acc : List Bool) (next : List (List Int)) (gs : List Nat) (ka k : Nat) : Prop where
  bl : Below w.heap.size w wr
  rb : wr.heap[w.heap.size]? = some (.cells tc0 33)
  b0 : wr.cell? ⟨tT, 0, none⟩ = some (.bool f)
  b1 : wr.cell? ⟨tT, 1, none⟩ = some (.bool b)
  b2 : wr.cell? ⟨tT, 2, none⟩ = some (.int .i64 st)
  b3 : wr.cell? ⟨tT, 3, none⟩ = some (.string (ba cls))
  b4 : wr.cell? ⟨tT, 4, none⟩ = some (.slice (some ⟨tA, 0, none⟩) n n)
  b5 : wr.cell? ⟨tT, 5, none⟩ = some (.slice (some ⟨tB, 0, none⟩) n n)
  na : Nw wr tA n (fun j => eB (decide (j < ka) && (acc[j]?.getD false)))
  nb : Nw wr tB n (rowAt gs next)
  gl : gs.length = k
  rows : ∀ j (h : j < gs.length), Nw wr gs[j] (next[j]?.getD []).length (fun i => eI ((next[j]?.getD [])[i]?.getD 0)) ∧ lo ≤ gs[j] ∧ gs[j] < wr.heap.size
  mono : gs.Pairwise (· < ·)
  o : w.heap.size < tT ∧ w.heap.size < tA ∧ w.heap.size < tB ∧ tT < lo ∧ tA < lo ∧ tB < lo ∧ tT ≠ tA ∧ tT ≠ tB ∧ tA ≠ tB ∧ lo ≤ wr.heap.size
section
variable {w wr w2 : World} {f b : Bool} {st : Int} {cls : List UInt8} {n tT tA tB lo : Nat} {acc : List Bool} {next : List (List Int)} {gs : List Nat} {ka k : Nat}
theorem TI.below (h : TI w wr f b st cls n tT tA tB lo acc next gs ka k) (hb : Below wr.heap.size wr w2) : TI w w2 f b st cls n tT tA tB lo acc next gs ka k := by
  obtain ⟨o1, o2, o3, o4, o5, o6, o7, o8, o9, o10⟩ := h.o
  have hs := hb.size
  have hT := hb.block tT (by omega)
  have hc := fun o => cell_of_block hT o
  exact ⟨h.bl.trans (hb.mono h.bl.size), (hb.block _ (by omega)).trans h.rb, (hc 0).trans h.b0, (hc 1).trans h.b1, (hc 2).trans h.b2, (hc 3).trans h.b3, (hc 4).trans h.b4, (hc 5).trans h.b5, h.na.of_block (hb.block tA (by omega)), h.nb.of_block (hb.block tB (by omega)), h.gl, fun j hj => ⟨(h.rows j hj).1.of_block (hb.block _ (h.rows j hj).2.2), (h.rows j hj).2.1, by have := (h.rows j hj).2.2; omega⟩, h.mono, ⟨o1, o2, o3, o4, o5, o6, o7, o8, o9, by omega⟩⟩
theorem TI.accs (h : TI w wr f b st cls n tT tA tB lo acc next gs ka k) (hk : ka < n) {s : Bool} (hs : s = (acc[ka]?.getD false)) :
    TI w (wr.setCell ⟨tA, ka, none⟩ (eB s)) f b st cls n tT tA tB lo acc next gs (ka + 1) k := by
  obtain ⟨o1, o2, o3, o4, o5, o6, o7, o8, o9, o10⟩ := h.o
  have e : ∀ q, q ≠ tA → (wr.setCell ⟨tA, ka, none⟩ (eB s)).heap[q]? = wr.heap[q]? := fun q hq => Below.heap_setCell _ _ _ _ (by simpa using hq)
  have hc := fun o => cell_of_block (e tT o7) o
  have hz : (wr.setCell ⟨tA, ka, none⟩ (eB s)).heap.size = wr.heap.size := by simp [World.setCell]
  refine ⟨h.bl.setCell (p := ⟨tA, ka, none⟩) (by simp only; omega) _, (e _ (by omega)).trans h.rb, (hc 0).trans h.b0, (hc 1).trans h.b1, (hc 2).trans h.b2, (hc 3).trans h.b3, (hc 4).trans h.b4, (hc 5).trans h.b5, (h.na.set ka hk _).congr (fun j hj => ?_), h.nb.of_block (e tB (by omega)), h.gl, fun j hj => ⟨(h.rows j hj).1.of_block (e _ (by have := (h.rows j hj).2.1; omega)), (h.rows j hj).2.1, by rw [hz]; exact (h.rows j hj).2.2⟩, h.mono, ⟨o1, o2, o3, o4, o5, o6, o7, o8, o9, by omega⟩⟩
  by_cases q : j = ka
  · subst q; simp [hs]
  · have e2 : (j < ka + 1) = (j < ka) := by rw [eq_iff_iff]; omega
    simp only [q, if_false, e2]
theorem TI.row (h : TI w wr f b st cls n tT tA tB lo acc next gs ka k) (hk : k < n) {q : Nat} {r : List Int} (hr : next[k]? = some r) (hb : Below wr.heap.size wr w2) (hq : wr.heap.size ≤ q) (hq2 : q < w2.heap.size) (hn : Nw w2 q r.length fun i => eI (r[i]?.getD 0)) :
    TI w (w2.setCell ⟨tB, k, none⟩ (.slice (some ⟨q, 0, none⟩) r.length r.length)) f b st cls n tT tA tB lo acc next (gs ++ [q]) ka (k + 1) := by
  have h2 := h.below hb
  have hold := h.rows
  obtain ⟨o1, o2, o3, o4, o5, o6, o7, o8, o9, o10⟩ := h2.o
  have o11 := h.o.2.2.2.2.2.2.2.2.2
  have e : ∀ p, p ≠ tB → (w2.setCell ⟨tB, k, none⟩ (.slice (some ⟨q, 0, none⟩) r.length r.length)).heap[p]? = w2.heap[p]? := fun p hp => Below.heap_setCell _ _ _ _ (by simpa using hp)
  have hc := fun o => cell_of_block (e tT o8) o
  have hz : (w2.setCell ⟨tB, k, none⟩ (.slice (some ⟨q, 0, none⟩) r.length r.length)).heap.size = w2.heap.size := by simp [World.setCell]
  have hgl := h.gl
  refine ⟨h2.bl.setCell (p := ⟨tB, k, none⟩) (by simp only; omega) _, (e _ (by omega)).trans h2.rb, (hc 0).trans h2.b0, (hc 1).trans h2.b1, (hc 2).trans h2.b2, (hc 3).trans h2.b3, (hc 4).trans h2.b4, (hc 5).trans h2.b5, h2.na.of_block (e tA o9), (h2.nb.set k hk _).congr (fun j hj => ?_), by simp [hgl], fun j hj => ?_, ?_, ⟨o1, o2, o3, o4, o5, o6, o7, o8, o9, by omega⟩⟩
  · unfold rowAt
    by_cases p : j = k
    · subst p
      rw [if_pos rfl, List.getElem?_append_right (by omega), hgl]
      simp [hr]
    · rw [if_neg p]
      by_cases hjk : j < k
      · rw [List.getElem?_append_left (by omega)]
      · rw [show gs[j]? = none from List.getElem?_eq_none (by omega), show (gs ++ [q])[j]? = none from List.getElem?_eq_none (by simp; omega)]
  · by_cases hj2 : j < gs.length
    · rw [List.getElem_append_left hj2]
      exact ⟨(h2.rows j hj2).1.of_block (e _ (by have := (h2.rows j hj2).2.1; omega)), (h2.rows j hj2).2.1, by rw [hz]; exact (h2.rows j hj2).2.2⟩
    · have hjk : j = k := by simp at hj; omega
      subst hjk
      have e1 : (gs ++ [q])[j] = q := by rw [List.getElem_append_right (by omega)]; simp
      rw [e1, hr]
      exact ⟨(hn.of_block (e _ (by omega))).congr (fun _ _ => rfl), by omega, by rw [hz]; exact hq2⟩
  · rw [List.pairwise_append]
    refine ⟨h.mono, by simp, fun x hx y hy => ?_⟩
    simp only [List.mem_singleton] at hy
    subst hy
    obtain ⟨i, hi, rfl⟩ := List.mem_iff_getElem.1 hx
    have := (hold i hi).2.2
    omega
end
end Go.Proofs.YtbjabpodkaokjaaGreatDoor

namespace Go.Proofs.YtbjabpodkaokjaaGreatDoor
open Go.RowKit

/-- A table whose lists lie each in a block of its own, from lo on. -/
structure TabN (lo : Nat) (w : World) (t : Tb) (tA tB : Nat) (gs : List Nat) : Prop where
  na : Nw w tA t.acc.length (fun j => eB (t.acc[j]?.getD false))
  nb : Nw w tB t.next.length (rowAt gs t.next)
  gl : gs.length = t.next.length
  rows : ∀ j (h : j < gs.length), Nw w gs[j] (t.next[j]?.getD []).length (fun i => eI ((t.next[j]?.getD [])[i]?.getD 0)) ∧ lo ≤ gs[j] ∧ gs[j] < w.heap.size
  mono : gs.Pairwise (· < ·)
  o : lo ≤ tA ∧ lo ≤ tB ∧ tA ≠ tB ∧ tA < w.heap.size ∧ tB < w.heap.size ∧ ∀ q ∈ gs, tA < q ∧ tB < q
theorem TabN.set {lo : Nat} {w : World} {t : Tb} {tA tB : Nat} {gs : List Nat} (h : TabN lo w t tA tB gs) {b : Nat} (hb : b < lo) (o : Nat) (v : Value) : TabN lo (w.setCell ⟨b, o, none⟩ v) t tA tB gs := by
  have e : ∀ q, lo ≤ q → (w.setCell ⟨b, o, none⟩ v).heap[q]? = w.heap[q]? := fun q hq => Below.heap_setCell _ _ _ _ (by simp only; omega)
  have hz : (w.setCell ⟨b, o, none⟩ v).heap.size = w.heap.size := by simp [World.setCell]
  obtain ⟨o1, o2, o3, o4, o5, o6⟩ := h.o
  exact ⟨h.na.of_block (e _ o1), h.nb.of_block (e _ o2), h.gl, fun j hj => ⟨(h.rows j hj).1.of_block (e _ (h.rows j hj).2.1), (h.rows j hj).2.1, by rw [hz]; exact (h.rows j hj).2.2⟩, h.mono, ⟨o1, o2, o3, by omega, by omega, o6⟩⟩
theorem TabN.below {lo : Nat} {w w' : World} {t : Tb} {tA tB : Nat} {gs : List Nat} (h : TabN lo w t tA tB gs) (hb : Below w.heap.size w w') : TabN lo w' t tA tB gs := by
  have hz := hb.size
  obtain ⟨o1, o2, o3, o4, o5, o6⟩ := h.o
  exact ⟨h.na.of_block (hb.block _ o4), h.nb.of_block (hb.block _ o5), h.gl, fun j hj => ⟨(h.rows j hj).1.of_block (hb.block _ (h.rows j hj).2.2), (h.rows j hj).2.1, by have := (h.rows j hj).2.2; omega⟩, h.mono, ⟨o1, o2, o3, by omega, by omega, o6⟩⟩
theorem TabN.weak {lo lo' : Nat} {w : World} {t : Tb} {tA tB : Nat} {gs : List Nat} (h : TabN lo w t tA tB gs) (hl : lo' ≤ lo) : TabN lo' w t tA tB gs := by
  obtain ⟨o1, o2, o3, o4, o5, o6⟩ := h.o
  exact ⟨h.na, h.nb, h.gl, fun j hj => ⟨(h.rows j hj).1, by have := (h.rows j hj).2.1; omega, (h.rows j hj).2.2⟩, h.mono, ⟨by omega, by omega, o3, o4, o5, o6⟩⟩
/-- Such a table as one in memory. -/
theorem TabN.tab {lo : Nat} {w : World} {t : Tb} {tA tB : Nat} {gs : List Nat} (h : TabN lo w t tA tB gs) : TabIn w t (.slice (some ⟨tA, 0, none⟩) t.acc.length t.acc.length) (.slice (some ⟨tB, 0, none⟩) t.next.length t.next.length) := by
  refine ⟨h.na.row (fun j hj => by simp [hj]), gs.zipIdx.map (fun p => rowAt gs t.next p.2), by simp [h.gl], ?_, fun j h1 h2 => ?_⟩
  · have e : (gs.zipIdx.map (fun p => rowAt gs t.next p.2)).length = t.next.length := by simp [h.gl]
    have := Nw.row (α := Value) (l := gs.zipIdx.map (fun p => rowAt gs t.next p.2)) (enc := id) (c := t.next.length) (w := w) (g := tB) (f := rowAt gs t.next) (by rw [e]; exact h.nb) (fun j hj => by simp)
    rw [e] at this
    exact this
  · have hj : j < gs.length := by simpa using h1
    have e : (gs.zipIdx.map (fun p => rowAt gs t.next p.2))[j] = .slice (some ⟨gs[j], 0, none⟩) t.next[j].length t.next[j].length := by simp [rowAt, hj, h2]
    rw [e]
    have hr := (h.rows j hj).1
    rw [List.getElem?_eq_getElem h2] at hr
    exact hr.row (fun i hi => by have hi' : i < t.next[j].length := hi; simp [hi'])
theorem TI.done {w wr : World} {f b : Bool} {st : Int} {cls : List UInt8} {n tT tA tB lo : Nat} {acc : List Bool} {next : List (List Int)} {gs : List Nat} (h : TI w wr f b st cls n tT tA tB lo acc next gs n n) (h1 : n = acc.length) (h2 : n = next.length) : TabN (w.heap.size + 1) wr ⟨f, b, st, cls, acc, next⟩ tA tB gs := by
  obtain ⟨o1, o2, o3, o4, o5, o6, o7, o8, o9, o10⟩ := h.o
  refine ⟨?_, ?_, ?_, fun j hj => ⟨(h.rows j hj).1, by have := (h.rows j hj).2.1; omega, (h.rows j hj).2.2⟩, h.mono, ⟨by omega, by omega, o9, by omega, by omega, fun q hq => ?_⟩⟩
  · show Nw _ _ acc.length _
    rw [← h1]
    exact h.na.congr (fun j hj => by simp [hj])
  · show Nw _ _ next.length _
    rw [← h2]
    exact h.nb
  · show gs.length = next.length
    rw [← h2]; exact h.gl
  · obtain ⟨i, hi, rfl⟩ := List.mem_iff_getElem.1 hq
    have := (h.rows i hi).2.1
    omega
theorem nw_new (w : World) (n : Nat) (z : Value) (hz : z.cells = #[z]) (e : TypeId) {w' : World} (hb : Below (w.heap.size + 1) (w.alloc (.cells (mkA n z) e)) w') : Nw w' w.heap.size n (fun _ => z) := (Nw.new w n z hz e).of_block (hb.block _ (by omega))
theorem TI.start {w1 w' w : World} {f b : Bool} {st : Int} {cls : List UInt8} {n tT tA tB : Nat} {acc : List Bool} {next : List (List Int)} (hw1 : w1 = w.alloc (.cells tc0 33)) (hb : Below w1.heap.size w1 w')
    (hT : w'.heap[tT]? = some (.cells #[.bool f, .bool b, .int .i64 st, .string (ba cls), .slice (some ⟨tA, 0, none⟩) n n, .slice (some ⟨tB, 0, none⟩) n n] 33)) (hA : w'.heap[tA]? = some (.cells (mkA n (.bool false)) 4)) (hB : w'.heap[tB]? = some (.cells (mkA n (.slice none 0 0)) 40))
    (o : w1.heap.size ≤ tT ∧ w1.heap.size ≤ tA ∧ w1.heap.size ≤ tB ∧ tT ≠ tA ∧ tT ≠ tB ∧ tA ≠ tB) : TI w w' f b st cls n tT tA tB w'.heap.size acc next [] 0 0 := by
  obtain ⟨p0, p1, p2, p3, p4, p5⟩ := box6 hT
  have hs : w1.heap.size = w.heap.size + 1 := by rw [hw1]; simp
  have key : ∀ {q : Nat} {z : Value} {e : TypeId}, w'.heap[q]? = some (.cells (mkA n z) e) → z.cells = #[z] → Nw w' q n (fun _ => z) := fun h hz => ⟨fun j hj => by simp only [World.cell?, h]; exact made_one hz n j hj, fun o => by simp [World.frozen?, h]⟩
  have l1 := (Array.getElem?_eq_some_iff.1 hT).1
  have l2 := (Array.getElem?_eq_some_iff.1 hA).1
  have l3 := (Array.getElem?_eq_some_iff.1 hB).1
  have hB1 : Below w.heap.size w w1 := by rw [hw1]; exact (Below.refl _ _).alloc (Nat.le_refl _) _
  refine ⟨hB1.trans (hb.mono (by omega)), ?_, p0, p1, p2, p3, p4, p5, (key hA rfl).congr (fun j _ => by simp), (key hB rfl).congr (fun j _ => by simp [rowAt]), rfl, fun j h => by simp at h, List.Pairwise.nil, ⟨by omega, by omega, by omega, l1, l2, l3, o.2.2.2.1, o.2.2.2.2.1, o.2.2.2.2.2, Nat.le_refl _⟩⟩
  rw [hb.block _ (by omega), hw1]
  exact heap_alloc_new _ _
theorem al0 (w : World) (X Y Z : Obj) : (((w.alloc X).alloc Y).alloc Z).drew.heap[w.heap.size]? = some X :=
  (Below.heap_alloc ((w.alloc X).alloc Y) Z _ (by simp; omega)).trans ((Below.heap_alloc (w.alloc X) Y _ (by simp)).trans (heap_alloc_new w X))
theorem al1 (w : World) (X Y Z : Obj) : (((w.alloc X).alloc Y).alloc Z).drew.heap[w.heap.size + 1]? = some Y := by
  have := (Below.heap_alloc ((w.alloc X).alloc Y) Z (w.alloc X).heap.size (by simp)).trans (heap_alloc_new (w.alloc X) Y)
  rw [World.size_alloc] at this
  exact this
theorem al2 (w : World) (X Y Z : Obj) : (((w.alloc X).alloc Y).alloc Z).drew.heap[w.heap.size + 1 + 1]? = some Z := by
  have := heap_alloc_new ((w.alloc X).alloc Y) Z
  rw [World.size_alloc, World.size_alloc] at this
  exact this
theorem al3 (w : World) (X Y Z : Obj) : Below w.heap.size w (((w.alloc X).alloc Y).alloc Z).drew := ((((Below.refl _ _).alloc (Nat.le_refl _) _).alloc (by simp) _).alloc (by simp; omega) _).drew
set_option maxRecDepth 8000 in
set_option maxHeartbeats 4000000 in
theorem table_any (w : World) (g : Nat) (t : Tb) (c : Nat) (h : AuIn w g t) (hok : TbOk t c) :
    Calls Tryz.prog 50 #[.pointer (some ⟨g, 0, none⟩)] w fun e w' => ∃ tA tB gs, e = .returned (tv t (.slice (some ⟨tA, 0, none⟩) t.acc.length t.acc.length) (.slice (some ⟨tB, 0, none⟩) t.next.length t.next.length)) ∧ TabN w.heap.size w' t tA tB gs ∧ Below w.heap.size w w' := by
  obtain ⟨S, v, hau, hS, hrows⟩ := h.au
  obtain ⟨us, hul, hu, hr⟩ := hrows
  have h256 := hok.c256.2
  have hc256 := hok.c256.1
  have a1 := hok.a1
  have a2 := hok.a2
  have hn := hok.n
  have hrr := hok.r
  obtain ⟨bn, on, cn, hv, hcell⟩ := hu.nonnil (by omega)
  subst hv
  rw [hul, hn] at hau
  obtain ⟨n, hnn⟩ : ∃ n, n = t.acc.length := ⟨_, rfl⟩
  have HN : Hid (n = t.acc.length ∧ n = t.next.length ∧ n = us.length) := ⟨hnn, by rw [hn, hnn], by rw [hul, hn, hnn]⟩
  rw [← hnn] at hau a1 a2
  obtain ⟨w1, hw1⟩ : ∃ w1, w1 = w.alloc (.cells tc0 33) := ⟨_, rfl⟩
  have hB1 : Below w.heap.size w w1 := by rw [hw1]; exact (Below.refl _ _).alloc (Nat.le_refl _) _
  have hau1 : Au w1 g t.front t.back t.start (fun j => ((t.cls[j]?.getD 0).toNat : Int)) S (.slice (some ⟨bn, on, none⟩) n cn) := hau.of_block (hB1.block g hau.lt)
  have hglt := hau.lt
  have hglt1 := hau1.lt
  have HCV : Hid (∀ w', w'.heap[g]? = w1.heap[g]? → (convert 73 9 (.slice (some ⟨g, 3, none⟩) 256 256)).run Tryz.prog w' = .ok (.string (ba t.cls)) w') := fun w' e => au_conv (hau1.of_block e) h256
  have hcv : (convert 73 9 (.slice (some ⟨g, 3, none⟩) 256 256)).run Tryz.prog w1.drew = .ok (.string (ba t.cls)) w1.drew := HCV.out _ rfl
  have k0 := hau1.c0
  have k1 := hau1.c1
  have k2 := hau1.c2
  have k5 := hau1.cn
  have n0 := World.new_ne w1 ⟨g, 0, none⟩ k0
  have hs1 := hok.s1
  have hs2 := hok.s2
  have hst : IntKind.i64.wrap t.start = t.start := by rw [IntKind.wrap_i64]; omega
  obtain ⟨ib, hib, hzb0, hzb1, hzb2⟩ := info_parts Tryz.infoB
  obtain ⟨il, hil, hzl0, hzl1, hzl2⟩ := info_parts Tryz.infoLI
  have hmkb := fun w => make_eq Tryz.underlying30 hib hzb0 hzb1 hzb2 n (by omega) (by unfold maxLen; omega) w
  have hmkl := fun w => make_eq Tryz.underlying31 hil hzl0 hzl1 hzl2 n (by omega) (by unfold maxLen; omega) w
  have HW1 : Hid (w1 = w.alloc (.cells tc0 33)) := hw1
  have HAU : Hid (Au w g t.front t.back t.start (fun j => ((t.cls[j]?.getD 0).toNat : Int)) S (.slice (some ⟨bn, on, none⟩) n cn)) := hau
  have HS : Hid (∀ j, j < 256 → S j = (t.acc[j]?.getD false)) := hS
  have HUC : Hid (∀ j (hj : j < us.length), w.cell? ⟨bn, on + j, none⟩ = some us[j]) := hcell
  have HRW : Hid (∀ j (h1 : j < us.length) (h2 : j < t.next.length), RowE e8 w us[j] t.next[j]) := hr
  have HRR : Hid (∀ r ∈ t.next, r.length = c ∧ ∀ z ∈ r, 0 ≤ z ∧ z < t.acc.length) := hrr
  clear hw1 hB1 hau hnn hau1 hS hcell hr hrr hn hul hu
  obtain ⟨f, b, st, cls, acc, next⟩ := t
  simp only at *
  have hkd1 : ∀ (o : Obj), (w1.alloc o).drew.heap[g]? = w1.heap[g]? := fun o => Below.heap_alloc w1 o g hglt1
  have hkd2 : ∀ (o p : Obj), ((w1.alloc o).alloc p).drew.heap[g]? = w1.heap[g]? := fun o p => (Below.heap_alloc (w1.alloc o) p g (by simp; omega)).trans (Below.heap_alloc w1 o g hglt1)
  have hkd3 : ∀ (o p q : Obj), (((w1.alloc o).alloc p).alloc q).drew.heap[g]? = w1.heap[g]? := fun o p q => (Below.heap_alloc ((w1.alloc o).alloc p) q g (by simp; omega)).trans ((Below.heap_alloc (w1.alloc o) p g (by simp; omega)).trans (Below.heap_alloc w1 o g hglt1))
  have HK1 : Hid (∀ (o : Obj), (w1.alloc o).drew.heap[g]? = w1.heap[g]?) := hkd1
  have HK2 : Hid (∀ (o p : Obj), ((w1.alloc o).alloc p).drew.heap[g]? = w1.heap[g]?) := hkd2
  have HK3 : Hid (∀ (o p q : Obj), (((w1.alloc o).alloc p).alloc q).drew.heap[g]? = w1.heap[g]?) := hkd3
  clear hkd1 hkd2 hkd3
  have HALL : Hid (∀ w', w'.heap[g]? = w1.heap[g]? → (w'.cell? ⟨g, 0, none⟩ = some (.bool f) ∧ w'.cell? ⟨g, 1, none⟩ = some (.bool b) ∧ w'.cell? ⟨g, 2, none⟩ = some (.int .u8 st) ∧ w'.cell? ⟨g, 263, none⟩ = some (.slice (some ⟨bn, on, none⟩) n cn) ∧ (convert 73 9 (.slice (some ⟨g, 3, none⟩) 256 256)).run Tryz.prog w' = .ok (.string (ba cls)) w')) := fun w' e => ⟨(cell_of_block e 0).trans k0, (cell_of_block e 1).trans k1, (cell_of_block e 2).trans k2, (cell_of_block e 263).trans k5, HCV.out _ e⟩
  go_enter Tryz.func50, Tryz.ntmps50
  go_wp2
  rw [← HW1.out]
  go_cut [3] from 6 to 36 (fun s wc => ∃ tT tA tB, s = .pointer (some ⟨tT, 0, none⟩) ∧ TI w wc f b st cls n tT tA tB wc.heap.size acc next [] 0 0)
  case first =>
    go_region_held3 (fun w' => w'.cell? ⟨g, 0, none⟩ = some (.bool f) ∧ w'.cell? ⟨g, 1, none⟩ = some (.bool b) ∧ w'.cell? ⟨g, 2, none⟩ = some (.int .u8 st) ∧ w'.cell? ⟨g, 263, none⟩ = some (.slice (some ⟨bn, on, none⟩) n cn) ∧ (convert 73 9 (.slice (some ⟨g, 3, none⟩) 256 256)).run Tryz.prog w' = .ok (.string (ba cls)) w') (first | exact HALL.out _ rfl | exact HALL.out _ (HK1.out _) | exact HALL.out _ (HK2.out _ _) | exact HALL.out _ (HK3.out _ _ _)) (fail)
    all_goals
      go_wp2
      go_meet
      refine ⟨_, _, _, rfl, TI.start HW1.out (al3 _ _ _ _) (by first | exact al0 _ _ _ _ | exact al1 _ _ _ _ | exact al2 _ _ _ _) (by first | exact al0 _ _ _ _ | exact al1 _ _ _ _ | exact al2 _ _ _ _) (by first | exact al0 _ _ _ _ | exact al1 _ _ _ _ | exact al2 _ _ _ _) (by refine ⟨?_, ?_, ?_, ?_, ?_, ?_⟩ <;> omega)⟩
  case rest =>
    obtain ⟨tT, tA, tB, rfl, hti⟩ := hcut
    obtain ⟨lo, hlo⟩ : ∃ lo, lo = wc.heap.size := ⟨_, rfl⟩
    rw [← hlo] at hti
    clear hlo hcv k0 k1 k2 k5 n0 hmkb hmkl HALL HK1 HK2 HK3 HCV HW1 hst hzb0 hzb1 hzb2 hzl0 hzl1 hzl2 hib hil hglt1
    have c5 : wc.cell? ⟨g, 263, none⟩ = some (.slice (some ⟨bn, on, none⟩) n cn) := cell_below hti.bl HAU.out.cn
    have HTI : Hid (TI w wc f b st cls n tT tA tB lo acc next [] 0 0) := hti
    clear hti
    go_wp2
    go_loopw [42] (fun i wr => ∃ k : Nat, ∃ gs, i = .int .i64 k ∧ k ≤ n ∧ TI w wr f b st cls n tT tA tB lo acc next gs k k) (fun i _ => n - (intOf i).toNat)
    case atStart => exact ⟨0, [], rfl, Nat.zero_le _, HTI.out⟩
    case round =>
      obtain ⟨k, gs, rfl, hk, hti⟩ := hrel
      clear HTI c5
      have HTI : Hid (TI w wr f b st cls n tT tA tB lo acc next gs k k) := hti
      by_cases hlt : k < n
      · have hltI : (k : Int) < n := by omega
        have h0I : (0 : Int) ≤ (k : Int) := by omega
        have hk1 : k < us.length := by have := HN.out.2.2; omega
        have hk2 : k < next.length := by have := HN.out.2.1; omega
        have hck := cell_below hti.bl (HUC.out k hk1)
        have hrk := HRW.out k hk1 hk2
        have hrr := HRR.out next[k] (List.getElem_mem hk2)
        obtain ⟨u, hu⟩ : ∃ u, u = us[k] := ⟨_, rfl⟩
        obtain ⟨r, hre⟩ : ∃ r, r = next[k] := ⟨_, rfl⟩
        rw [← hu] at hck hrk
        rw [← hre] at hrk hrr
        have HRE : Hid (next[k]? = some r) := by show _ = _; rw [hre]; exact List.getElem?_eq_getElem hk2
        have HRK : Hid (RowE e8 w u r) := hrk
        have HRB : Hid (r.length ≤ 65536 ∧ ∀ z ∈ r, 0 ≤ z ∧ z < 256) := ⟨by have := hrr.1; omega, fun z hz => by have := hrr.2 z hz; have := HN.out.1; omega⟩
        obtain ⟨x0, x1, x2, x3, hset⟩ := (HAU.out.of_block (hti.bl.block g hglt)).st
        have q0 := hset.c0
        have q1 := hset.c1
        have q2 := hset.c2
        have q3 := hset.c3
        have b4 := hti.b4
        have hSk : S k = (acc[k]?.getD false) := HS.out k (by omega)
        have HSK : Hid (S k = (acc[k]?.getD false)) := hSk
        have hw8k := wrap8 (k : Int) (by omega)
        have hhas := has_any wr.drew x0 x1 x2 x3 k S (by omega) hset.wd
        obtain ⟨sk, hsk⟩ : ∃ s, s = S k := ⟨_, rfl⟩
        rw [← hsk] at hhas HSK
        obtain ⟨o1, o2, o3, o4, o5, o6, o7, o8, o9, o10⟩ := hti.o
        have m1 : tA ≠ tT := fun e => o7 e.symm
        have m2 : tB ≠ tT := fun e => o8 e.symm
        have m3 : tA ≠ g := by omega
        have m4 : g ≠ tA := by omega
        clear hu hre hrk hrr hset hSk hsk hti
        go_wp2
        go_region_held3 (fun w' => w'.cell? ⟨tT, 4, none⟩ = some (.slice (some ⟨tA, 0, none⟩) n n) ∧ w'.cell? ⟨g, 259, none⟩ = some (.int .u64 x0) ∧ w'.cell? ⟨g, 260, none⟩ = some (.int .u64 x1) ∧ w'.cell? ⟨g, 261, none⟩ = some (.int .u64 x2) ∧ w'.cell? ⟨g, 262, none⟩ = some (.int .u64 x3)) (go_keep) ((go_at_call 95; refine hhas.mono ?_; rintro e w2 ⟨rfl, hb2⟩; have HT2 : Hid (TI w w2 f b st cls n tT tA tB lo acc next gs k k) := (HTI.out.below ((Below.refl _ _).drew)).below hb2; have d4 := HT2.out.b4; have e0 := cell_below hb2 q0; have e1 := cell_below hb2 q1; have e2 := cell_below hb2 q2; have e3 := cell_below hb2 q3; have da := HT2.out.na.c k hlt; have df := HT2.out.na.fz k; clear hb2))
        rename_i hheld
        clear hheld
        have HT3 : Hid (TI w (w2.setCell ⟨tA, k, none⟩ (.bool sk)) f b st cls n tT tA tB lo acc next gs (k + 1) k) := HT2.out.accs hlt HSK.out
        generalize (w2.setCell ⟨tA, k, none⟩ (.bool sk)) = w3 at HT3 ⊢
        clear HT2 d4 e0 e1 e2 e3 da df q0 q1 q2 q3 b4
        have b5 := HT3.out.b5
        have hcv := convI_any w3.drew u r (HRK.out.below (HT3.out.bl.drew)) HRB.out.1 HRB.out.2
        go_wp2
        go_region_held3 (fun w' => w'.cell? ⟨tT, 5, none⟩ = some (.slice (some ⟨tB, 0, none⟩) n n)) (go_keep) ((go_at_call 96; refine hcv.mono ?_; rintro e w4 ⟨g4, rfl, hg4, hl4, hn4, hb4⟩; have HT4 : Hid (TI w w4 f b st cls n tT tA tB lo acc next gs (k + 1) k) := (HT3.out.below ((Below.refl _ _).drew)).below hb4; have HT5 : Hid (TI w (w4.setCell ⟨tB, k, none⟩ (.slice (some ⟨g4, 0, none⟩) r.length r.length)) f b st cls n tT tA tB lo acc next (gs ++ [g4]) (k + 1) (k + 1)) := (HT3.out.below ((Below.refl _ _).drew)).row hlt HRE.out hb4 hg4 hl4 hn4; have d5 := HT4.out.b5; have da := HT4.out.nb.c k hlt; have df := HT4.out.nb.fz k; clear hb4 hn4 hl4 hg4))
        rename_i hheld
        clear hheld
        go_wp2
        go_roundw
        case rel => exact ⟨k + 1, gs ++ [g4], by go_num, by omega, HT5.out⟩
        case measure => simp [intOf] <;> omega
      · have hkI : ¬ (k : Int) < n := by omega
        have hkn : k = n := by omega
        obtain ⟨o1, o2, o3, o4, o5, o6, o7, o8, o9, o10⟩ := hti.o
        have b0 := hti.b0
        have b1 := hti.b1
        have b2 := hti.b2
        have b3 := hti.b3
        have b4 := hti.b4
        have b5 := hti.b5
        obtain ⟨r0, r1, r2, r3, r4, r5⟩ := box6 hti.rb
        have rf := boxfz hti.rb
        have m1 : tT ≠ w.heap.size := by omega
        have m2 : w.heap.size ≠ tT := by omega
        have HTN : Hid (TabN (w.heap.size + 1) wr ⟨f, b, st, cls, acc, next⟩ tA tB gs) := by
          rw [hkn] at hti
          exact hti.done HN.out.1 HN.out.2.1
        have HBL : Hid (Below w.heap.size w wr) := hti.bl
        clear hti
        go_wp2
        refine bodyPost_ret (v := tv ⟨f, b, st, cls, acc, next⟩ (.slice (some ⟨tA, 0, none⟩) n n) (.slice (some ⟨tB, 0, none⟩) n n)) (by simp [results, Tryz.results50, go_sem, r0, r1, r2, r3, r4, r5]) rfl ?_
        refine ⟨tA, tB, ?_, ⟨gs, ?_⟩, ?_⟩
        · rw [← HN.out.1, ← HN.out.2.1]
        · exact ((((((HTN.out.set (by omega) _ _).set (by omega) _ _).set (by omega) _ _).set (by omega) _ _).set (by omega) _ _).set (by omega) _ _).weak (by omega)
        · exact (by (repeat first | (with_reducible refine Below.setCell ?_ (by first | exact Nat.le_refl _ | (simp; done) | (simp; omega)) _) | (with_reducible refine Below.alloc ?_ (by first | omega | (simp; done) | (simp; omega)) _) | (with_reducible refine Below.drew ?_)); exact HBL.out)
end Go.Proofs.YtbjabpodkaokjaaGreatDoor

namespace Go.Proofs.YtbjabpodkaokjaaGreatDoor
open Go.RowKit Go.Shelf
attribute [local go_sem] Oper.semAt_some

theorem ends_stops (n : Nat) (hn : 2 ≤ n) (H g : Nat) (t : Tb) (c : Nat) (hok : TbOk t c) (tx : List UInt8) (htx : tx.length ≤ maxLen) (w0 : World)
    (hau : ∀ W', Below H w0 W' → AuIn W' g t) (hsz : w0.heap.size = H + 3)
    (hB1 : w0.cell? ⟨H + 1, 0, none⟩ = some (.pointer (some ⟨g, 0, none⟩))) (hB2 : w0.cell? ⟨H + 2, 0, none⟩ = some (.string (ba tx))) :
    SeqStopsK Fence.wide n Tryz.prog 171 #[.pointer (some ⟨H + 1, 0, none⟩), .pointer (some ⟨H + 2, 0, none⟩)] (fun x : Nat => #[Value.int .i64 (x : Int)]) (Kq H) (fun xs => xs = endsL t tx) (fun pre => pre <+: endsL t tx) (tx.length + 1) w0 := fun l J Jx W hW hJ hJx hY h0 => by
  have hs := hW.size
  exact iter_in n hn l H g t c hok tx htx J Jx W hJ hJx hY (fun W' hb => hau W' ((hW.mono (by omega)).trans hb)) (by omega) ((cell_of_block (hW.block _ (by omega)) 0).trans hB1) ((cell_of_block (hW.block _ (by omega)) 0).trans hB2) h0
def lastI (l : List Nat) : Int := match l.getLast? with | some x => x | none => -1
theorem lastI_snoc (l : List Nat) (x : Nat) : lastI (l ++ [x]) = x := by simp [lastI]
def firstI (l : List Nat) : Int := match l with | x :: _ => x | [] => -1
theorem kq_b {H : Nat} {w : World} (hw : H + 3 ≤ w.heap.size) (W : World) (l : Nat) (o o' : Obj) (h1 : w.heap.size ≤ l) (h2 : W.heap[l]? = some o) (h3 : o.isCells = false) (h4 : o.isWalk = false) : Kq H W (W.putObj l o') := by
  have hb : Below (H + 3) W (W.putObj l o') := belowK_b hw W l o o' h1 h2 h3 h4
  exact ⟨hb.mono (by omega), hb.block _ (by omega), hb.block _ (by omega)⟩
theorem kq_set (H : Nat) (W : World) (v : Value) : Kq H W (W.setCell ⟨H, 0, none⟩ v) :=
  ⟨(Below.refl H W).setCell (p := ⟨H, 0, none⟩) (Nat.le_refl _) _, Below.heap_setCell _ _ _ _ (by simp), Below.heap_setCell _ _ _ _ (by simp)⟩
set_option maxRecDepth 100000 in
set_option maxHeartbeats 4000000 in
theorem last_in (w : World) (g : Nat) (t : Tb) (c : Nat) (h : AuIn w g t) (hok : TbOk t c) (tx : List UInt8) (htx : tx.length ≤ maxLen) :
    CallsIn Fence.wide 8 Tryz.prog 97 #[.pointer (some ⟨g, 0, none⟩), .string (ba tx)] w fun e w' => e = .returned (.int .i64 (lastI (endsL t tx))) ∧ Below w.heap.size w w' := by
  have HH : Hid (AuIn w g t) := h
  clear h
  refine callsIn_of_wp_marks Tryz.func97 rfl trivial ?_ rfl
  simp only [Tryz.ntmps97, List.size_toArray, List.length_cons, List.length_nil, Nat.reduceAdd, Nat.reduceSub, Array.replicate_succ, Array.replicate_zero, List.push_toArray, List.append_toArray, List.nil_append, List.cons_append]
  gi_wp2_with (refine ⟨trivial, ?_⟩; gi_at_call 120; refine (ends_in _ g (ba tx) _).mono ?_; rintro e w' ⟨rfl, hw'⟩; subst hw')
  obtain ⟨w0, hw0⟩ : ∃ w0, w0 = ((w.alloc (.cells #[.int .i64 (-1)] 3)).alloc (.cells #[.pointer (some ⟨g, 0, none⟩)] 92)).alloc (.cells #[.string (ba tx)] 9) := ⟨_, rfl⟩
  have hB0 : Below w.heap.size w w0 := by rw [hw0]; exact (((Below.refl _ w).alloc (Nat.le_refl _) _).alloc (by simp) _).alloc (by simp; omega) _
  have hz0 : w0.heap.size = w.heap.size + 3 := by rw [hw0]; simp
  have j0 : w0.heap[w.heap.size]? = some (.cells #[.int .i64 (-1)] 3) := by rw [hw0]; exact al0 w _ _ _
  have j1 : w0.heap[w.heap.size + 1]? = some (.cells #[.pointer (some ⟨g, 0, none⟩)] 92) := by rw [hw0]; exact al1 w _ _ _
  have j2 : w0.heap[w.heap.size + 2]? = some (.cells #[.string (ba tx)] 9) := by rw [hw0]; exact al2 w _ _ _
  have k0 : w0.cell? ⟨w.heap.size, 0, none⟩ = some (.int .i64 (-1)) := by simp [World.cell?, j0]
  have kf : w0.frozen? ⟨w.heap.size, 0, none⟩ = false := by simp [World.frozen?, j0]
  have k1 : w0.cell? ⟨w.heap.size + 1, 0, none⟩ = some (.pointer (some ⟨g, 0, none⟩)) := by simp [World.cell?, j1]
  have k2 : w0.cell? ⟨w.heap.size + 2, 0, none⟩ = some (.string (ba tx)) := by simp [World.cell?, j2]
  rw [← hw0]
  refine wpIn_rangeFunc_ownF (α := Nat) rfl (by omega) (gf := 171) (lb := #[.pointer (some ⟨w.heap.size + 1, 0, none⟩), .pointer (some ⟨w.heap.size + 2, 0, none⟩)]) rfl trivial (enters_of Tryz.func171 (by kernel_rfl) rfl)
    (ends_stops (8 - 1) (by omega) w.heap.size g t c hok tx htx w0 (fun W' hb => HH.out.below (hB0.trans hb)) hz0 k1 k2) (fun h k => h.trans k) (kq_b (by omega)) (Below.refl _ _) (fun _ => rfl)
    (fun pre W => (W.cell? ⟨w.heap.size, 0, none⟩ = some (.int .i64 (lastI pre)) ∧ W.frozen? ⟨w.heap.size, 0, none⟩ = false) ∧ Below w.heap.size w W)
    (fun _ _ _ => False)
    (OwnFrom.and (Own.from (fun s A B row hs hg hr => ⟨cell_kept hs.1 hg hr, (frozen_kept hs.1 hg hr).trans hs.2⟩) _) (ownFrom_below (Nat.le_refl _) (by omega)))
    (fun _ _ _ _ _ hs _ _ => hs)
    ⟨⟨k0, kf⟩, hB0⟩
    (fun x => { tmps := #[.pointer (some ⟨g, 0, none⟩), .string (ba tx), undef, undef, .int .i64 0, .pointer (some ⟨w.heap.size, 0, none⟩), .int .i64 (x : Int), .pointer (some ⟨g, 0, none⟩), .string (ba tx), .func (.func 171) #[] #[.pointer (some ⟨w.heap.size + 1, 0, none⟩), .pointer (some ⟨w.heap.size + 2, 0, none⟩)], .int .i64 (x : Int), undef, undef], defers := [] }) ?assign ?body ?done ?stop
  case assign =>
    intro l x W K hK
    gi_wp2
    exact hK
  case body =>
    rintro l pre x W ⟨⟨hc, hf⟩, hB⟩ _
    gi_wp2
    exact ⟨KeepsOthers.setCell _ _ _, kq_set _ _ _, ⟨by rw [lastI_snoc]; exact World.cell?_setCell_same' _ _ _ (by rw [hc]; rfl), by rw [World.frozen?_setCell]; exact hf⟩, hB.setCell (p := ⟨w.heap.size, 0, none⟩) (Nat.le_refl _) _⟩
  case done =>
    rintro D ys W hD rfl ⟨⟨hc, _⟩, hB⟩ hK
    gi_wp2
    refine ⟨by simp, .inl ⟨_, _, rfl, run_takeDeferred hK, ?_⟩⟩
    exact ⟨_, results_tmp rfl _ _ _, rfl, hB.trans (belowK_b (w := w) (Nat.le_refl _) W D _ _ (by omega) hK rfl rfl)⟩
  case stop =>
    rintro D c pre W _ _ h _
    exact h.elim
theorem last_any (w : World) (g : Nat) (t : Tb) (c : Nat) (h : AuIn w g t) (hok : TbOk t c) (tx : List UInt8) (htx : tx.length ≤ maxLen) :
    Calls Tryz.prog 97 #[.pointer (some ⟨g, 0, none⟩), .string (ba tx)] w fun e w' => e = .returned (.int .i64 (lastI (endsL t tx))) ∧ Below w.heap.size w w' := callsIn_wide.1 (last_in w g t c h hok tx htx)
set_option maxRecDepth 100000 in
set_option maxHeartbeats 4000000 in
theorem first_in (w : World) (g : Nat) (t : Tb) (c : Nat) (h : AuIn w g t) (hok : TbOk t c) (tx : List UInt8) (htx : tx.length ≤ maxLen) :
    CallsIn Fence.wide 8 Tryz.prog 70 #[.pointer (some ⟨g, 0, none⟩), .string (ba tx)] w fun e w' => e = .returned (.int .i64 (firstI (endsL t tx))) ∧ Below w.heap.size w w' := by
  have HH : Hid (AuIn w g t) := h
  clear h
  refine callsIn_of_wp_marks Tryz.func70 rfl trivial ?_ rfl
  simp only [Tryz.ntmps70, List.size_toArray, List.length_cons, List.length_nil, Nat.reduceAdd, Nat.reduceSub, Array.replicate_succ, Array.replicate_zero, List.push_toArray, List.append_toArray, List.nil_append, List.cons_append]
  gi_wp2_with (refine ⟨trivial, ?_⟩; gi_at_call 120; refine (ends_in _ g (ba tx) _).mono ?_; rintro e w' ⟨rfl, hw'⟩; subst hw')
  obtain ⟨w0, hw0⟩ : ∃ w0, w0 = ((w.alloc (.cells #[.int .i64 0] 3)).alloc (.cells #[.pointer (some ⟨g, 0, none⟩)] 92)).alloc (.cells #[.string (ba tx)] 9) := ⟨_, rfl⟩
  have hB0 : Below w.heap.size w w0 := by rw [hw0]; exact (((Below.refl _ w).alloc (Nat.le_refl _) _).alloc (by simp) _).alloc (by simp; omega) _
  have hz0 : w0.heap.size = w.heap.size + 3 := by rw [hw0]; simp
  have j0 : w0.heap[w.heap.size]? = some (.cells #[.int .i64 0] 3) := by rw [hw0]; exact al0 w _ _ _
  have j1 : w0.heap[w.heap.size + 1]? = some (.cells #[.pointer (some ⟨g, 0, none⟩)] 92) := by rw [hw0]; exact al1 w _ _ _
  have j2 : w0.heap[w.heap.size + 2]? = some (.cells #[.string (ba tx)] 9) := by rw [hw0]; exact al2 w _ _ _
  have k0 : w0.cell? ⟨w.heap.size, 0, none⟩ = some (.int .i64 0) := by simp [World.cell?, j0]
  have kf : w0.frozen? ⟨w.heap.size, 0, none⟩ = false := by simp [World.frozen?, j0]
  have k1 : w0.cell? ⟨w.heap.size + 1, 0, none⟩ = some (.pointer (some ⟨g, 0, none⟩)) := by simp [World.cell?, j1]
  have k2 : w0.cell? ⟨w.heap.size + 2, 0, none⟩ = some (.string (ba tx)) := by simp [World.cell?, j2]
  rw [← hw0]
  refine wpIn_rangeFunc_ownF (α := Nat) rfl (by omega) (gf := 171) (lb := #[.pointer (some ⟨w.heap.size + 1, 0, none⟩), .pointer (some ⟨w.heap.size + 2, 0, none⟩)]) rfl trivial (enters_of Tryz.func171 (by kernel_rfl) rfl)
    (ends_stops (8 - 1) (by omega) w.heap.size g t c hok tx htx w0 (fun W' hb => HH.out.below (hB0.trans hb)) hz0 k1 k2) (fun h k => h.trans k) (kq_b (by omega)) (Below.refl _ _) (fun _ => rfl)
    (fun pre W => (pre = [] ∧ W.cell? ⟨w.heap.size, 0, none⟩ = some (.int .i64 0) ∧ W.frozen? ⟨w.heap.size, 0, none⟩ = false) ∧ Below w.heap.size w W)
    (fun c pre W => (c = .ret ∧ (∃ x : Nat, pre = [x] ∧ W.cell? ⟨w.heap.size, 0, none⟩ = some (.int .i64 (x : Int)))) ∧ Below w.heap.size w W)
    (OwnFrom.and (Own.from (fun s A B row hs hg hr => ⟨hs.1, cell_kept hs.2.1 hg hr, (frozen_kept hs.2.1 hg hr).trans hs.2.2⟩) _) (ownFrom_below (Nat.le_refl _) (by omega)))
    (fun c => OwnFrom.and (Own.from (fun s A B row hs hg hr => ⟨hs.1, let ⟨x, h1, h2⟩ := hs.2; ⟨x, h1, cell_kept h2 hg hr⟩⟩) _) (ownFrom_below (Nat.le_refl _) (by omega)))
    ⟨⟨rfl, k0, kf⟩, hB0⟩
    (fun x => { tmps := #[.pointer (some ⟨g, 0, none⟩), .string (ba tx), undef, undef, .pointer (some ⟨w.heap.size, 0, none⟩), .int .i64 (x : Int), .pointer (some ⟨g, 0, none⟩), .string (ba tx), .func (.func 171) #[] #[.pointer (some ⟨w.heap.size + 1, 0, none⟩), .pointer (some ⟨w.heap.size + 2, 0, none⟩)], .int .i64 (x : Int), undef], defers := [] }) ?assign ?body ?done ?stop
  case assign =>
    intro l x W K hK
    gi_wp2
    exact hK
  case body =>
    rintro l pre x W ⟨⟨hp, hc, hf⟩, hB⟩ _
    subst hp
    gi_wp2
    exact ⟨KeepsOthers.setCell _ _ _, ⟨rfl, x, rfl, World.cell?_setCell_same' _ _ _ (by rw [hc]; rfl)⟩, hB.setCell (p := ⟨w.heap.size, 0, none⟩) (Nat.le_refl _) _⟩
  case done =>
    rintro D ys W hD hys ⟨⟨hp, hc, hf⟩, hB⟩ hK
    have hys2 : endsL t tx = [] := by rw [← hys, hp]
    gi_wp2
    have hK' := (KeepsOthers.setCell W ⟨w.heap.size, 0, none⟩ (.int .i64 (-1))).same D _ hK rfl
    refine ⟨by simp, .inl ⟨_, _, rfl, run_takeDeferred hK', ?_⟩⟩
    have hc5 := cell_kept (World.cell?_setCell_same' W ⟨w.heap.size, 0, none⟩ (.int .i64 (-1)) (by rw [hc]; rfl)) (grownBy_putObj' _ D (.deferred none)) (fun r e => by cases e; exact ⟨_, hK', rfl⟩)
    refine ⟨.int .i64 (-1), ?_, by rw [hys2]; rfl, (hB.setCell (p := ⟨w.heap.size, 0, none⟩) (Nat.le_refl _) _).trans (belowK_b (w := w) (Nat.le_refl _) _ D _ _ (by omega) hK' rfl rfl)⟩
    simp [results, Tryz.f70, go_sem, hc5]
  case stop =>
    rintro D c pre W hD hpre ⟨⟨rfl, x, rfl, hcr⟩, hB⟩ hK
    gi_wp2
    refine ⟨by simp, .inl ⟨_, _, rfl, run_takeDeferred hK, ?_⟩⟩
    have hc5 := cell_kept hcr (grownBy_putObj' _ D (.deferred none)) (fun r e => by cases e; exact ⟨_, hK, rfl⟩)
    refine ⟨.int .i64 (x : Int), ?_, ?_, hB.trans (belowK_b (w := w) (Nat.le_refl _) W D _ _ (by omega) hK rfl rfl)⟩
    · simp [results, Tryz.f70, go_sem, hc5]
    · obtain ⟨r, hr⟩ := hpre
      rw [← hr]; rfl
theorem first_any (w : World) (g : Nat) (t : Tb) (c : Nat) (h : AuIn w g t) (hok : TbOk t c) (tx : List UInt8) (htx : tx.length ≤ maxLen) :
    Calls Tryz.prog 70 #[.pointer (some ⟨g, 0, none⟩), .string (ba tx)] w fun e w' => e = .returned (.int .i64 (firstI (endsL t tx))) ∧ Below w.heap.size w w' := callsIn_wide.1 (first_in w g t c h hok tx htx)
end Go.Proofs.YtbjabpodkaokjaaGreatDoor
