import Derived.Test.YtbjabpodkaokjaaJ39
import Derived.Test.YtbjabpodkaokjaaJ38
import Derived.Deep.RegionHeld3
import Derived.Deep.CutRange
import Derived.BigQuiet
import Derived.Deep.QuietTactic
set_option linter.unusedVariables false
set_option linter.unusedSimpArgs false
namespace Go.Proofs.Ytbjabpodkaokjaa
open Go.RowKit

theorem getD_by (b : List UInt8) (i : Nat) : (b.getD i 0).toNat = byA b i := by simp [byA]
set_option maxRecDepth 4000 in
set_option maxHeartbeats 2000000 in
theorem rload_short (w : World) (b : List UInt8) (hb : b.length ≤ maxLen) (hs : b.length < 270) :
    Calls Try.prog 7 #[.string (ba b)] w fun e w' => e = .returned (.tuple #[tv0, .int .i64 6]) ∧ Below w.heap.size w w' := by
  have hbs := ba_size b
  have hsI : (b.length : Int) < 270 := by omega
  have hsd : decide ((b.length : Int) < 270) = true := by simpa using hsI
  have hB : Below w.heap.size w (w.alloc (.cells tc0 30)) := (Below.refl _ _).alloc (Nat.le_refl _) _
  have HB : Hid (Below w.heap.size w (w.alloc (.cells tc0 30))) := hB
  clear hB
  unfold maxLen at hb
  go_enter Try.func7, Try.ntmps7
  go_wp2
  refine bodyPost_ret (v := .tuple #[tv0, .int .i64 6]) (by simp [results, Try.results7, go_sem]) rfl ⟨rfl, ?_⟩
  exact (by (repeat first | (with_reducible refine Below.setCell ?_ (by first | exact Nat.le_refl _ | (simp; done) | (simp; omega)) _) | (with_reducible refine Below.alloc ?_ (by first | omega | (simp; done) | (simp; omega)) _) | (with_reducible refine Below.drew ?_)); exact Below.refl _ _)
set_option maxRecDepth 4000 in
set_option maxHeartbeats 2000000 in
theorem rload_kind (w : World) (b : List UInt8) (hb : b.length ≤ maxLen) (hs : ¬ b.length < 270) (hk : 1 < byA b 5) :
    Calls Try.prog 7 #[.string (ba b)] w fun e w' => e = .returned (.tuple #[tv0, .int .i64 6]) ∧ Below w.heap.size w w' := by
  have hbs := ba_size b
  have hsI : ¬ (b.length : Int) < 270 := by omega
  have hsd : decide ((b.length : Int) < 270) = false := by simpa using hsI
  have hB : Below w.heap.size w (w.alloc (.cells tc0 30)) := (Below.refl _ _).alloc (Nat.le_refl _) _
  have HB : Hid (Below w.heap.size w (w.alloc (.cells tc0 30))) := hB
  have h5 := byA_at b 5 (by omega)
  have hb8 := byA_lt b 5
  obtain ⟨x, hx⟩ : ∃ x, x = byA b 5 := ⟨_, rfl⟩
  rw [← hx] at hk h5 hb8
  have hbz : ∀ h : 5 < (ba b).size, ((ba b)[5]'h).toNat = x := fun h => by rw [h5]; rfl
  have n0 : ((x : Int) != 0) = true := by rw [bne_iff_ne]; omega
  have n1 : ((x : Int) != 1) = true := by rw [bne_iff_ne]; omega
  clear hB hx h5
  unfold maxLen at hb
  go_enter Try.func7, Try.ntmps7
  go_wp2
  refine bodyPost_ret (v := .tuple #[tv0, .int .i64 6]) (by simp [results, Try.results7, go_sem]) rfl ⟨rfl, ?_⟩
  exact (by (repeat first | (with_reducible refine Below.setCell ?_ (by first | exact Nat.le_refl _ | (simp; done) | (simp; omega)) _) | (with_reducible refine Below.alloc ?_ (by first | omega | (simp; done) | (simp; omega)) _) | (with_reducible refine Below.drew ?_)); exact Below.refl _ _)
end Go.Proofs.Ytbjabpodkaokjaa

namespace Go.Proofs.Ytbjabpodkaokjaa
open Go.RowKit

/-- The head of what the document reads. -/
structure Hdf (b : List UInt8) (big : Bool) (s : Nat) (l2 : List UInt8) (c : Nat) (l3 : List UInt8) (st : Nat) (l4 : List UInt8) : Prop where
  h5 : rdP big ((b.drop 8).take 6) = (s, l2)
  h6 : rdP big l2 = (c, l3)
  h7 : rdP big l3 = (st, l4)
theorem hdf_ex (b : List UInt8) (big : Bool) : ∃ s l2 c l3 st l4, Hdf b big s l2 c l3 st l4 := ⟨_, _, _, _, _, _, ⟨rfl, rfl, rfl⟩⟩
theorem Hdf.rfT {b : List UInt8} {s : Nat} {l2 : List UInt8} {c : Nat} {l3 : List UInt8} {st : Nat} {l4 : List UInt8} (h : Hdf b (byA b 7 == 1) s l2 c l3 st l4) (h1 : ¬ b.length < 270) (h2 : ¬ 1 < byA b 5) :
    rfT b = if 200 < s ∨ 256 < c then none else some (⟨byA b 6 % 2 == 1, byA b 6 / 2 % 2 == 1, st, (b.drop 14).take 256, (rdA s (b.drop 270)).1, (rfRs (byA b 5) (byA b 7 == 1) c s (rdA s (b.drop 270)).2).1⟩, byA b 5, (byA b 7 == 1)) := by
  obtain ⟨h5, h6, h7⟩ := h
  unfold Go.Proofs.Ytbjabpodkaokjaa.rfT
  rw [getD_by, getD_by, getD_by, if_neg (by omega)]
  simp only [h5, h6, h7]
theorem number_at2 {big : Bool} {l l' : List UInt8} {x : Nat} (h : rdP big l = (x, l')) (w : World) (g : Nat) (hr : Rdf w g big l) :
    Calls Try.prog 19 #[.pointer (some ⟨g, 0, none⟩), .int .i64 2] w fun e w' => e = .returned (.int .i64 x) ∧ RfOut g big w l' w' := by
  have := number_r2 w g big l hr
  rw [h] at this
  exact this
theorem number_at1 {big : Bool} {l l' : List UInt8} {x : Nat} (h : rdS l = (x, l')) (w : World) (g : Nat) (hr : Rdf w g big l) :
    Calls Try.prog 19 #[.pointer (some ⟨g, 0, none⟩), .int .i64 1] w fun e w' => e = .returned (.int .i64 x) ∧ RfOut g big w l' w' := by
  have := number_r1 w g big l hr
  rw [h] at this
  exact this
/-- What the document's Load answers. -/
def RefRes (b : List UInt8) (e : Ending) (w' : World) : Prop :=
  match refM isTb b with
  | some t => ∃ va vn, e = .returned (.tuple #[tv t va vn, .int .i64 0]) ∧ TabIn w' t va vn
  | none => e = .returned (.tuple #[tv0, .int .i64 6])
theorem refRes_no {b : List UInt8} {w' : World} (h : refM isTb b = none) : RefRes b (.returned (.tuple #[tv0, .int .i64 6])) w' := by
  unfold RefRes; rw [h]
theorem refRes_yes {b : List UInt8} {w' : World} {t : Tb} {va vn : Value} (h : refM isTb b = some t) (ht : TabIn w' t va vn) : RefRes b (.returned (.tuple #[tv t va vn, .int .i64 0])) w' := by
  unfold RefRes; rw [h]; exact ⟨va, vn, rfl, ht⟩
set_option maxRecDepth 4000 in
set_option maxHeartbeats 4000000 in
theorem rload_main (w : World) (b : List UInt8) (hb : b.length ≤ maxLen) (hs : ¬ b.length < 270) (hk : ¬ 1 < byA b 5) :
    Calls Try.prog 7 #[.string (ba b)] w fun e w' => RefRes b e w' ∧ Below w.heap.size w w' := by
  obtain ⟨big, hbig⟩ : ∃ big, big = (byA b 7 == 1) := ⟨_, rfl⟩
  obtain ⟨s, l2, c, l3, st, l4, hh⟩ := hdf_ex b big
  have hrf := Hdf.rfT (hbig ▸ hh) hs hk
  rw [← hbig] at hrf
  have HRF : Hid (rfT b = if 200 < s ∨ 256 < c then none else some (⟨byA b 6 % 2 == 1, byA b 6 / 2 % 2 == 1, st, (b.drop 14).take 256, (rdA s (b.drop 270)).1, (rfRs (byA b 5) big c s (rdA s (b.drop 270)).2).1⟩, byA b 5, big)) := hrf
  have HH : Hid (Hdf b big s l2 c l3 st l4) := hh
  have bs : s < 65536 := by have := rdP_lt big ((b.drop 8).take 6); rw [hh.h5] at this; exact this
  have bc : c < 65536 := by have := rdP_lt big l2; rw [hh.h6] at this; exact this
  have bst : st < 65536 := by have := rdP_lt big l3; rw [hh.h7] at this; exact this
  have a5 := byA_at b 5 (by omega)
  have a6 := byA_at b 6 (by omega)
  have a7 := byA_at b 7 (by omega)
  have b5 := byA_lt b 5
  have b6 := byA_lt b 6
  have b7 := byA_lt b 7
  obtain ⟨x5, hx5⟩ : ∃ x, x = byA b 5 := ⟨_, rfl⟩
  obtain ⟨x6, hx6⟩ : ∃ x, x = byA b 6 := ⟨_, rfl⟩
  obtain ⟨x7, hx7⟩ : ∃ x, x = byA b 7 := ⟨_, rfl⟩
  rw [← hx5] at HRF a5 b5 hk
  rw [← hx6] at HRF a6 b6
  rw [← hx7] at hbig a7 b7
  have z5 : ∀ h : 5 < (ba b).size, ((ba b)[5]'h).toNat = x5 := fun h => by rw [a5]; rfl
  have z6 : ∀ h : 6 < (ba b).size, ((ba b)[6]'h).toNat = x6 := fun h => by rw [a6]; rfl
  have z7 : ∀ h : 7 < (ba b).size, ((ba b)[7]'h).toNat = x7 := fun h => by rw [a7]; rfl
  have hbs := ba_size b
  obtain ⟨N, hN⟩ : ∃ N, N = b.length := ⟨_, rfl⟩
  rw [← hN] at hbs hs hb
  have HN : Hid (N = b.length) := hN
  have hsI : ¬ (N : Int) < 270 := by omega
  have hsd : decide ((N : Int) < 270) = false := by simpa using hsI
  have hbigI : ((x7 : Int) == 1) = big := by rw [hbig, Bool.eq_iff_iff]; simp; omega
  obtain ⟨f, hf⟩ : ∃ f, f = (x6 % 2 == 1) := ⟨_, rfl⟩
  obtain ⟨fb, hfb⟩ : ∃ f, f = (x6 / 2 % 2 == 1) := ⟨_, rfl⟩
  rw [← hf, ← hfb] at HRF
  have hfI : (((x6 : Int)).tmod 2 == 1) = f := by rw [Int.tmod_eq_emod_of_nonneg (by omega), hf, Bool.eq_iff_iff]; simp; omega
  have hfbI : ((IntKind.u8.wrap ((x6 : Int) / 2)).tmod 2 == 1) = fb := by rw [IntKind.wrap_u8, Int.tmod_eq_emod_of_nonneg (by omega), hfb, Bool.eq_iff_iff]; simp; omega
  have i5 : (5 : Int) < N := by omega
  have i6 : (6 : Int) < N := by omega
  have i7 : (7 : Int) < N := by omega
  have i14 : (14 : Int) ≤ N := by omega
  have i270 : (270 : Int) ≤ N := by omega
  obtain ⟨cls, hcls⟩ : ∃ x, x = (b.drop 14).take 256 := ⟨_, rfl⟩
  have e14 : (ba b).extract 14 270 = ba cls := by rw [ba_extract, hcls, List.drop_take]
  have e8 : (ba b).extract 8 14 = ba ((b.drop 8).take 6) := by rw [ba_extract, List.drop_take]
  have e270 : (ba b).extract 270 N = ba (b.drop 270) := by rw [hN, ba_drop]
  rw [← hcls] at HRF
  have hcl : cls.length ≤ 256 := by rw [hcls]; simp; omega
  have HL6 : Hid (((b.drop 8).take 6).length ≤ maxLen ∧ (b.drop 270).length ≤ maxLen) := ⟨by simp; unfold maxLen; omega, by have := HN.out; simp; omega⟩
  clear hh hrf a5 a6 a7 hx5 hx6 hx7 hbig hf hfb hcls hN
  unfold maxLen at hb
  obtain ⟨ib, hib, hzb0, hzb1, hzb2⟩ := info_parts Try.infoB
  obtain ⟨il, hil, hzl0, hzl1, hzl2⟩ := info_parts Try.infoLI
  go_enter Try.func7, Try.ntmps7
  go_upto_region 1 with fail
  go_cut [26] from 14 to 26 (fun s wc => s = .bool false ∧ wc = w.alloc (.cells tc0 30))
  case first =>
    rcases (show x5 = 0 ∨ x5 = 1 by omega) with rfl | rfl
    all_goals
      go_wp2
      go_meet
      exact ⟨rfl, rfl⟩
  case rest =>
    obtain ⟨rfl, rfl⟩ := hcut
    go_wp2
    go_cut [5] from 31 to 42 (fun s wc => s = .pointer (some ⟨w.heap.size + 1, 0, none⟩) ∧ wc = ((w.alloc (.cells tc0 30)).alloc (.cells #[.bool f, .bool fb, .int .i64 0, .string (ba cls), .slice none 0 0, .slice none 0 0] 30)).drew)
    case first =>
      go_region_held3 (fun w' => True) (trivial) (fail)
      all_goals
        go_wp2
        go_meet
        exact ⟨rfl, rfl⟩
    case rest =>
      obtain ⟨rfl, hwc⟩ := hcut
      obtain ⟨tb, htb⟩ : ∃ tb, tb = w.heap.size + 1 := ⟨_, rfl⟩
      obtain ⟨g, hg⟩ : ∃ g, g = w.heap.size + 1 + 1 := ⟨_, rfl⟩
      have hwz : wc.heap.size = g := by rw [hwc, hg]; simp
      obtain ⟨w5, hw5⟩ : ∃ w5, w5 = (wc.alloc (.cells #[.string (ba ((b.drop 8).take 6)), .bool big] 56)).drew := ⟨_, rfl⟩
      have hB4 : Below w.heap.size w wc := by rw [hwc]; exact (((Below.refl _ _).alloc (Nat.le_refl _) _).alloc (by simp) _).drew
      have hB5 : Below wc.heap.size wc w5 := by rw [hw5]; exact ((Below.refl _ _).alloc (Nat.le_refl _) _).drew
      have hz5 : w5.heap.size = g + 1 := by rw [hw5, ← hwz]; simp
      have hrd : Rdf w5 g big ((b.drop 8).take 6) := by
        have hbk : w5.heap[g]? = some (.cells #[.string (ba ((b.drop 8).take 6)), .bool big] 56) := by rw [hw5, ← hwz]; exact heap_alloc_new wc _
        exact ⟨by simp [World.cell?, hbk], by simp [World.cell?, hbk], fun o => by simp [World.frozen?, hbk], HL6.out.1⟩
      have htk : w5.heap[tb]? = some (.cells #[.bool f, .bool fb, .int .i64 0, .string (ba cls), .slice none 0 0, .slice none 0 0] 30) := by
        rw [hB5.block tb (by omega), hwc, htb]
        have := heap_alloc_new (w.alloc (.cells tc0 30)) (.cells #[.bool f, .bool fb, .int .i64 0, .string (ba cls), .slice none 0 0, .slice none 0 0] 30)
        rw [World.size_alloc] at this
        exact this
      have hrb : w5.heap[w.heap.size]? = some (.cells tc0 30) := by
        rw [hB5.block _ (by omega), hwc]
        exact (Below.heap_alloc (w.alloc (.cells tc0 30)) _ _ (by simp)).trans (heap_alloc_new w _)
      have HBW : Hid (Below w.heap.size w w5) := hB4.trans (hB5.mono (by rw [hwz, hg]; omega))
      have HW5 : Hid (w5 = (wc.alloc (.cells #[.string (ba ((b.drop 8).take 6)), .bool big] 56)).drew) := hw5
      have HG : Hid (tb = w.heap.size + 1 ∧ g = w.heap.size + 1 + 1 ∧ wc.heap.size = g) := ⟨htb, hg, hwz⟩
      have hgt : tb < g := by omega
      have HRD : Hid (Rdf w5 g big ((b.drop 8).take 6)) := hrd
      have HTK : Hid (w5.heap[tb]? = some (.cells #[.bool f, .bool fb, .int .i64 0, .string (ba cls), .slice none 0 0, .slice none 0 0] 30)) := htk
      have HRBK : Hid (∀ w', Below tb w5 w' → w'.heap[w.heap.size]? = some (.cells tc0 30)) := fun w' hb => by rw [hb.block _ (by omega)]; exact hrb
      rw [← htb]
      clear hwc hw5 hB4 hB5 hrd htk hrb hwz htb hg
      go_wp2
      go_region_held3 (fun w' => True) (trivial) (fail)
      rename_i hheld
      clear hheld
      rw [HG.out.2.2, ← HW5.out]
      go_upto_region 10 with (first | (go_at_call 19; refine (number_at2 HH.out.h7 _ g HO7.out.1).mono ?_; rintro e w8 ⟨rfl, ho8⟩; have HO8 : Hid (RfOut g big w5 l4 w8) := HO7.out.trans ho8; obtain ⟨t0, t1, t2, t3, t4, t5⟩ := box6 ((HO8.out.2.block tb (by omega) (by simp; omega)).trans HTK.out); have tf := boxfz ((HO8.out.2.block tb (by omega) (by simp; omega)).trans HTK.out); have g0 := ho8.1.c0; have gf := ho8.1.fz 0; clear ho8) | (go_at_call 19; refine (number_at2 HH.out.h6 _ g HO6.out.1).mono ?_; rintro e w7 ⟨rfl, ho7⟩; have HO7 : Hid (RfOut g big w5 l3 w7) := HO6.out.trans ho7; clear ho7) | (go_at_call 19; refine (number_at2 HH.out.h5 _ g HRD.out).mono ?_; rintro e w6 ⟨rfl, ho6⟩; have HO6 : Hid (RfOut g big w5 l2 w6) := ho6; clear ho6))
      have HI : Hid (RJ w5 ((w8.setCell ⟨tb, 2, none⟩ (.int .i64 st)).setCell ⟨g, 0, none⟩ (.string (ba (b.drop 270)))) g tb big (b.drop 270) f fb st cls (.slice none 0 0) (.slice none 0 0) [] [] []) := by
        have hr8 : Rdf (w8.setCell ⟨tb, 2, none⟩ (.int .i64 st)) g big l4 := HO8.out.1.set (by omega) _ _
        have hb8 : Below tb w5 w8 := (Below.refl tb w5).grown HO8.out.2 (by omega) (fun k e => by injection e with e; omega)
        refine RJ.start (w5 := w8) f fb st cls (hr8.put HL6.out.2).1 ?_ ((HO8.out.2.block tb (by omega) (by simp; omega)).trans HTK.out) hgt (Below.heap_setCell _ _ _ _ (by simp; omega))
        exact (hb8.setCell (p := ⟨tb, 2, none⟩) (Nat.le_refl _) _).setCell (p := ⟨g, 0, none⟩) (Nat.le_of_lt hgt) _
      generalize ((w8.setCell ⟨tb, 2, none⟩ (.int .i64 st)).setCell ⟨g, 0, none⟩ (.string (ba (b.drop 270)))) = w9 at HI ⊢
      clear HO8 HO7 HO6 t0 t1 t2 t3 t4 t5 tf g0 gf HRD HTK HW5 HH z5 z6 e14 e8 e270 hfI hfbI
      have HIX := HI
      by_cases c1 : (200 : Int) < s
      · have c1d : decide ((200 : Int) < s) = true := by simpa using c1
        have HNO : Hid (refM isTb b = none) := by show _ = _; unfold refM; rw [HRF.out, if_pos (by omega)]
        obtain ⟨r0, r1, r2, r3, r4, r5⟩ := box6 (HRBK.out w9 HI.out.bl)
        have rf := boxfz (HRBK.out w9 HI.out.bl)
        go_wp2
        refine bodyPost_ret (v := .tuple #[tv0, .int .i64 6]) (by simp [results, Try.results7, go_sem, r0, r1, r2, r3, r4, r5]) rfl ⟨refRes_no HNO.out, ?_⟩
        exact (by (repeat first | (with_reducible refine Below.setCell ?_ (by first | exact Nat.le_refl _ | (simp; done) | (simp; omega)) _) | (with_reducible refine Below.alloc ?_ (by first | omega | (simp; done) | (simp; omega)) _) | (with_reducible refine Below.drew ?_)); exact (HBW.out.trans (HIX.out.bl.mono (by rw [HG.out.1]; omega))))
      have c1d : decide ((200 : Int) < s) = false := by simpa using c1
      by_cases c2 : (256 : Int) < c
      · have HNO : Hid (refM isTb b = none) := by show _ = _; unfold refM; rw [HRF.out, if_pos (by omega)]
        obtain ⟨r0, r1, r2, r3, r4, r5⟩ := box6 (HRBK.out w9 HI.out.bl)
        have rf := boxfz (HRBK.out w9 HI.out.bl)
        go_wp2
        refine bodyPost_ret (v := .tuple #[tv0, .int .i64 6]) (by simp [results, Try.results7, go_sem, r0, r1, r2, r3, r4, r5]) rfl ⟨refRes_no HNO.out, ?_⟩
        exact (by (repeat first | (with_reducible refine Below.setCell ?_ (by first | exact Nat.le_refl _ | (simp; done) | (simp; omega)) _) | (with_reducible refine Below.alloc ?_ (by first | omega | (simp; done) | (simp; omega)) _) | (with_reducible refine Below.drew ?_)); exact (HBW.out.trans (HIX.out.bl.mono (by rw [HG.out.1]; omega))))
      have HRF2 : Hid (rfT b = some (⟨f, fb, st, cls, (rdA s (b.drop 270)).1, (rfRs x5 big c s (rdA s (b.drop 270)).2).1⟩, x5, big)) := by show _ = _; rw [HRF.out, if_neg (by omega)]
      obtain ⟨l16, hl16⟩ : ∃ l, l = b.drop 270 := ⟨_, rfl⟩
      rw [← hl16] at HI HRF2
      clear HIX hl16 HRF
      go_wp2
      go_loopw [9, 10] (fun i _ wr => ∃ k : Nat, ∃ va, i = .int .i64 k ∧ k ≤ s ∧ RJ w5 wr g tb big (rdA k l16).2 f fb st cls va (.slice none 0 0) (rdA k l16).1 [] []) (fun i _ _ => s - (intOf i).toNat)
      case atStart => exact ⟨0, _, rfl, Nat.zero_le _, HI.out⟩
      case round =>
        obtain ⟨k, va, rfl, hk, hri⟩ := hrel
        clear HI
        have HI : Hid (RJ w5 wr g tb big (rdA k l16).2 f fb st cls va (.slice none 0 0) (rdA k l16).1 [] []) := hri
        clear hri
        by_cases hlt : k < s
        · have hltI : (k : Int) < s := by omega
          obtain ⟨x, hx⟩ : ∃ x, x = (rdS (rdA k l16).2).1 := ⟨_, rfl⟩
          obtain ⟨l', hl'⟩ : ∃ x, x = (rdS (rdA k l16).2).2 := ⟨_, rfl⟩
          have HS : Hid (rdS (rdA k l16).2 = (x, l')) := by show _ = _; rw [hx, hl']
          have HA : Hid (rdA (k + 1) l16 = ((rdA k l16).1 ++ [x == 1], l')) := by show _ = _; rw [rdA, ← hx, ← hl']
          have hxb : ((x : Int) == 1) = (x == 1) := by rw [Bool.eq_iff_iff]; simp; omega
          clear hx hl'
          obtain ⟨xb, hxe⟩ : ∃ xb, xb = (x == 1) := ⟨_, rfl⟩
          rw [← hxe] at HA hxb
          clear hxe
          have HAL : Hid ((rdA k l16).1.length = k) := rdA_len _ _
          go_wp2_with (first | (at_builtin; refine wpList_append_lies _ rfl (.tmp 77) (.tmp 80) 27 rfl (g + 1) 4 ib (.bool false) 1 1 Try.underlying27 hib hzb0 hzb1 hzb2 rfl (by decide) va k ((rdA k l16).1.map eB) rfl HW2.out ⟨w2.heap.size, 0, none⟩ 1 1 [.bool xb] rfl rfl (one_cell_new _ _ _) (by simp [Value.oneCell']) (by omega) (by unfold maxLen; omega) (by omega) (by have := HI2.out.rd.lt; simp; omega) _ rfl ?_) | (go_at_call 19; refine (number_at1 HS.out _ g HI.out.rd).mono ?_; rintro e w2 ⟨rfl, ho2⟩; have HI2 : Hid (RJ w5 w2 g tb big l' f fb st cls va (.slice none 0 0) (rdA k l16).1 [] []) := HI.out.read ho2; have d4 := HI2.out.b4; have HW2 : Hid ((w2.alloc (.cells #[.bool xb] 4)).ownsRow (g + 1) 4 1 va k ((rdA k l16).1.map eB)) := (by have := HI2.out.ac; rw [HAL.out] at this; exact this.alloc _); clear ho2))
          intro g4 cap4 w4 hown4 hgr4 hat4 hlt4
          obtain ⟨hri4, d5, d6⟩ := RJ.accs (HI2.out.below ((Below.refl _ _).alloc (Nat.le_refl _) _)) (acc' := (rdA k l16).1 ++ [xb]) hgr4 (ow_snoc (enc := eB) hown4 HAL.out)
          have HR4 : Hid (RJ w5 (w4.setCell ⟨tb, 4, none⟩ (.slice (some ⟨g4, 0, none⟩) (k + 1) cap4)) g tb big l' f fb st cls (.slice (some ⟨g4, 0, none⟩) (k + 1) cap4) (.slice none 0 0) ((rdA k l16).1 ++ [xb]) [] []) := hri4
          clear hri4 hown4 hgr4 hat4
          go_wp2
          go_roundw
          case rel =>
            refine ⟨k + 1, .slice (some ⟨g4, 0, none⟩) (k + 1) cap4, by go_num, by omega, ?_⟩
            rw [HA.out]
            exact HR4.out
          case measure => simp [intOf] <;> omega
        · have hkI : ¬ (k : Int) < s := by omega
          have hks : k = s := by omega
          obtain ⟨acc, hacc⟩ : ∃ x, x = (rdA s l16).1 := ⟨_, rfl⟩
          obtain ⟨l17, hl17⟩ : ∃ x, x = (rdA s l16).2 := ⟨_, rfl⟩
          have HAL : Hid (acc.length = s) := by show _ = _; rw [hacc, rdA_len]
          have HI2 : Hid (RJ w5 wr g tb big l17 f fb st cls va (.slice none 0 0) acc [] []) := by
            have h := HI.out
            rw [hks, ← hacc, ← hl17] at h
            exact h
          rw [← hacc, ← hl17] at HRF2
          clear hacc hl17 HI hks
          go_wp2
          go_loopw [11, 12] (fun i _ wr => ∃ k : Nat, ∃ vn us, i = .int .i64 k ∧ k ≤ s ∧ RJ w5 wr g tb big (rfRs x5 big c k l17).2 f fb st cls va vn acc us (rfRs x5 big c k l17).1) (fun i _ _ => s - (intOf i).toNat)
          case atStart => exact ⟨0, _, _, rfl, Nat.zero_le _, HI2.out⟩
          case round =>
            obtain ⟨k, vn, us, rfl, hk, hri⟩ := hrel
            clear HI2
            have HI : Hid (RJ w5 wr g tb big (rfRs x5 big c k l17).2 f fb st cls va vn acc us (rfRs x5 big c k l17).1) := hri
            clear hri
            by_cases hlt : k < s
            · have hltI : (k : Int) < s := by omega
              obtain ⟨r, hr⟩ : ∃ x, x = (rfRow x5 big c (rfRs x5 big c k l17).2).1 := ⟨_, rfl⟩
              obtain ⟨l', hl'⟩ : ∃ x, x = (rfRow x5 big c (rfRs x5 big c k l17).2).2 := ⟨_, rfl⟩
              have HA : Hid (rfRs x5 big c (k + 1) l17 = ((rfRs x5 big c k l17).1 ++ [r], l')) := by show _ = _; rw [rfRs, ← hr, ← hl']
              have HRW : Hid (∀ w, Rdf w g big (rfRs x5 big c k l17).2 → Calls Try.prog 20 #[.pointer (some ⟨g, 0, none⟩), .int .i64 x5, .int .i64 c] w fun e w' => ∃ v, e = .returned v ∧ IRow w' w.heap.size v r ∧ RfOut g big w l' w') := fun w h => by
                rw [hr, hl']; exact row_rf w g big _ x5 c _ rfl (by omega) (by omega) h
              clear hr hl'
              have HUL : Hid (us.length = k) := by show _ = _; rw [HI.out.ul, rfRs_len]
              have hwb := HI.out.rd.lt
              go_wp2_with (first | (at_builtin; refine wpList_append_lies _ rfl (.tmp 93) (.tmp 95) 28 rfl (g + 1) 39 il (.slice none 0 0) 1 24 Try.underlying28 hil hzl0 hzl1 hzl2 rfl (by decide) vn k us rfl HW2.out ⟨w2.heap.size, 0, none⟩ 1 1 [.slice a2 r.length c2] rfl rfl (one_cell_new _ _ _) (by simp [Value.oneCell']) (by omega) (by unfold maxLen; omega) (by omega) (by have := HI2.out.rd.lt; simp; omega) _ rfl ?_) | (go_at_call 20; refine (HRW.out _ HI.out.rd).mono ?_; rintro e w2 ⟨v2, rfl, hir2, ho2⟩; obtain ⟨a2, c2, hform⟩ := ownsRow_shape hir2; subst hform; have HI2 : Hid (RJ w5 w2 g tb big l' f fb st cls va vn acc us (rfRs x5 big c k l17).1) := HI.out.read ho2; have HU2 : Hid (IRow (w2.alloc (.cells #[.slice a2 r.length c2] 39)) (g + 1) (.slice a2 r.length c2) r) := (ow_mono hir2 hwb).alloc _; have d4 := HI2.out.b5; have HW2 : Hid ((w2.alloc (.cells #[.slice a2 r.length c2] 39)).ownsRow (g + 1) 39 1 vn k us) := (by have := HI2.out.nx; rw [HUL.out] at this; exact this.alloc _); clear ho2 hir2))
              intro g4 cap4 w4 hown4 hgr4 hat4 hlt4
              obtain ⟨hri4, d5, d6⟩ := RJ.nexts (HI2.out.below ((Below.refl _ _).alloc (Nat.le_refl _) _)) HU2.out hgr4 (ow_snoc' hown4 HUL.out)
              have HR4 : Hid (RJ w5 (w4.setCell ⟨tb, 5, none⟩ (.slice (some ⟨g4, 0, none⟩) (k + 1) cap4)) g tb big l' f fb st cls va (.slice (some ⟨g4, 0, none⟩) (k + 1) cap4) acc (us ++ [.slice a2 r.length c2]) ((rfRs x5 big c k l17).1 ++ [r])) := hri4
              clear hri4 hown4 hgr4 hat4
              go_wp2
              go_roundw
              case rel =>
                refine ⟨k + 1, .slice (some ⟨g4, 0, none⟩) (k + 1) cap4, us ++ [.slice a2 r.length c2], by go_num, by omega, ?_⟩
                rw [HA.out]
                exact HR4.out
              case measure => simp [intOf] <;> omega
            · have hkI : ¬ (k : Int) < s := by omega
              have hks : k = s := by omega
              obtain ⟨next, hnext⟩ : ∃ x, x = (rfRs x5 big c s l17).1 := ⟨_, rfl⟩
              obtain ⟨l18, hl18⟩ : ∃ x, x = (rfRs x5 big c s l17).2 := ⟨_, rfl⟩
              have HSM : Hid (Small ⟨f, fb, st, cls, acc, next⟩) := by
                have h1 := HAL.out
                refine ⟨by unfold maxLen; simp only; omega, by simp only [hnext, rfRs_len]; unfold maxLen; omega, fun r hr => ?_, by unfold maxLen; simp only; omega⟩
                simp only [hnext] at hr
                have := (rfRs_ok x5 big c l17 s r hr).1
                unfold maxLen; omega
              have HI2 : Hid (RJ w5 wr g tb big l18 f fb st cls va vn acc us next) := by
                have h := HI.out
                rw [hks, ← hnext, ← hl18] at h
                exact h
              rw [← hnext] at HRF2
              clear hnext hl18 HI hks
              obtain ⟨a4, c4v, hf4⟩ := ownsRow_shape HI2.out.ac
              obtain ⟨a5, c5v, hf5⟩ := ownsRow_shape HI2.out.nx
              subst hf4
              subst hf5
              have b0 := HI2.out.b0
              have b1 := HI2.out.b1
              have b2 := HI2.out.b2
              have b3 := HI2.out.b3
              have b4 := HI2.out.b4
              have b5 := HI2.out.b5
              have hist := isTable_ref wr ⟨f, fb, st, cls, acc, next⟩ _ _ HI2.out.tab HSM.out
              clear HAL
              cases hit : isTb ⟨f, fb, st, cls, acc, next⟩ with
              | false =>
                rw [hit] at hist
                have HNO : Hid (refM isTb b = none) := by show _ = _; unfold refM; rw [HRF2.out]; simp only; rw [hit]; simp
                clear hit
                go_wp2_with (go_at_call 21; refine hist.mono ?_; rintro e w2 ⟨rfl, hb2⟩; have HI3 : Hid (RJ w5 w2 g tb big l18 f fb st cls (.slice a4 acc.length c4v) (.slice a5 us.length c5v) acc us next) := HI2.out.below hb2; obtain ⟨r0, r1, r2, r3, r4, r5⟩ := box6 (HRBK.out w2 HI3.out.bl); have rf := boxfz (HRBK.out w2 HI3.out.bl); clear hb2)
                clear b0 b1 b2 b3 b4 b5
                go_quiet (fail)
                have HIX : Hid (RJ w5 (w2.drewN nq) g tb big l18 f fb st cls (.slice a4 acc.length c4v) (.slice a5 us.length c5v) acc us next) := HI3.out.below (belowN2 (Below.refl _ _) nq)
                obtain ⟨r0, r1, r2, r3, r4, r5⟩ := box6 (HRBK.out _ HIX.out.bl)
                have rf := boxfz (HRBK.out _ HIX.out.bl)
                go_wp2
                refine bodyPost_ret (v := .tuple #[tv0, .int .i64 6]) (by simp [results, Try.results7, go_sem, r0, r1, r2, r3, r4, r5]) rfl ⟨refRes_no HNO.out, ?_⟩
                exact (by (repeat first | (with_reducible refine Below.setCell ?_ (by first | exact Nat.le_refl _ | (simp; done) | (simp; omega)) _) | (with_reducible refine Below.alloc ?_ (by first | omega | (simp; done) | (simp; omega)) _) | (with_reducible refine Below.drew ?_)); exact (HBW.out.trans (HIX.out.bl.mono (by rw [HG.out.1]; omega))))
              | true =>
                rw [hit] at hist
                obtain ⟨co, hok⟩ := tbOk_of hit
                have HOK : Hid (TbOk ⟨f, fb, st, cls, acc, next⟩ co) := hok
                have HIT : Hid (isTb ⟨f, fb, st, cls, acc, next⟩ = true) := hit
                clear hok hit
                by_cases hen : enc ⟨f, fb, st, cls, acc, next⟩ x5 big = b
                · have HYES : Hid (refM isTb b = some ⟨f, fb, st, cls, acc, next⟩) := by show _ = _; unfold refM; rw [HRF2.out]; simp only; rw [if_pos HIT.out, if_pos hen]
                  have HEQ : Hid (b = enc ⟨f, fb, st, cls, acc, next⟩ x5 big) := hen.symm
                  clear hen
                  go_wp2_with (go_at_call 21; refine hist.mono ?_; rintro e w2 ⟨rfl, hb2⟩; have HI3 : Hid (RJ w5 w2 g tb big l18 f fb st cls (.slice a4 acc.length c4v) (.slice a5 us.length c5v) acc us next) := HI2.out.below hb2; clear hb2)
                  clear b0 b1 b2 b3 b4 b5
                  have e0 := HI3.out.b0
                  have e1 := HI3.out.b1
                  have e2 := HI3.out.b2
                  have e3 := HI3.out.b3
                  have e4 := HI3.out.b4
                  have e5 := HI3.out.b5
                  have HEN2 : Hid (Calls Try.prog 22 #[tv ⟨f, fb, st, cls, acc, next⟩ (.slice a4 acc.length c4v) (.slice a5 us.length c5v), .int .i64 x5, .bool big] w2.drew fun e w' => e = .returned (.string (ba b)) ∧ Below w2.drew.heap.size w2.drew w') := by
                    show Calls _ _ _ _ _
                    conv in (ba b) => rw [HEQ.out]
                    exact encode_ref w2.drew _ co _ _ x5 big (by omega) (HI3.out.tab.below ((Below.refl _ _).drew)) HOK.out
                  go_region_held3 (fun w' => w'.cell? ⟨tb, 0, none⟩ = some (.bool f) ∧ w'.cell? ⟨tb, 1, none⟩ = some (.bool fb) ∧ w'.cell? ⟨tb, 2, none⟩ = some (.int .i64 st) ∧ w'.cell? ⟨tb, 3, none⟩ = some (.string (ba cls)) ∧ w'.cell? ⟨tb, 4, none⟩ = some (.slice a4 acc.length c4v) ∧ w'.cell? ⟨tb, 5, none⟩ = some (.slice a5 us.length c5v)) (go_keep) ((go_at_call 22; refine HEN2.out.mono ?_; rintro e w6 ⟨rfl, hb6⟩; have HI6 : Hid (RJ w5 w6 g tb big l18 f fb st cls (.slice a4 acc.length c4v) (.slice a5 us.length c5v) acc us next) := (HI3.out.below ((Below.refl _ _).drew)).below hb6; have k0 := HI6.out.b0; have k1 := HI6.out.b1; have k2 := HI6.out.b2; have k3 := HI6.out.b3; have k4 := HI6.out.b4; have k5 := HI6.out.b5; clear hb6))
                  rename_i hheld
                  clear hheld e0 e1 e2 e3 e4 e5
                  obtain ⟨r0, r1, r2, r3, r4, r5⟩ := box6 (HRBK.out w6 HI6.out.bl)
                  have rf := boxfz (HRBK.out w6 HI6.out.bl)
                  have n1 : tb ≠ w.heap.size := by have := HG.out.1; omega
                  have n2 : w.heap.size ≠ tb := fun e => n1 e.symm
                  go_wp2
                  refine bodyPost_ret (v := .tuple #[tv ⟨f, fb, st, cls, acc, next⟩ (.slice a4 acc.length c4v) (.slice a5 us.length c5v), .int .i64 0]) (by simp [results, Try.results7, go_sem, r0, r1, r2, r3, r4, r5]) rfl ⟨refRes_yes HYES.out ?_, ?_⟩
                  · have hgt2 : w.heap.size < g := by have := HG.out.1; omega
                    exact ((((((HI6.out.tri.set hgt2 _ _).set hgt2 _ _).set hgt2 _ _).set hgt2 _ _).set hgt2 _ _).set hgt2 _ _).tab f fb st cls
                  · exact (by (repeat first | (with_reducible refine Below.setCell ?_ (by first | exact Nat.le_refl _ | (simp; done) | (simp; omega)) _) | (with_reducible refine Below.alloc ?_ (by first | omega | (simp; done) | (simp; omega)) _) | (with_reducible refine Below.drew ?_)); exact (HBW.out.trans (HI6.out.bl.mono (by rw [HG.out.1]; omega))))
                · obtain ⟨E, hE⟩ : ∃ E, E = enc ⟨f, fb, st, cls, acc, next⟩ x5 big := ⟨_, rfl⟩
                  have HNO : Hid (refM isTb b = none) := by show _ = _; unfold refM; rw [HRF2.out]; simp only; rw [if_pos HIT.out, if_neg hen]
                  rw [← hE] at hen
                  have hbne : (E == b) = false := by simpa using hen
                  have hbne2 : ((ba E).toList == (ba b).toList) = false := by rw [ByteArray.toList_mk, ByteArray.toList_mk]; exact hbne
                  have HEQ : Hid (E = enc ⟨f, fb, st, cls, acc, next⟩ x5 big) := hE
                  clear hE hen
                  go_wp2_with (go_at_call 21; refine hist.mono ?_; rintro e w2 ⟨rfl, hb2⟩; have HI3 : Hid (RJ w5 w2 g tb big l18 f fb st cls (.slice a4 acc.length c4v) (.slice a5 us.length c5v) acc us next) := HI2.out.below hb2; clear hb2)
                  clear b0 b1 b2 b3 b4 b5
                  have e0 := HI3.out.b0
                  have e1 := HI3.out.b1
                  have e2 := HI3.out.b2
                  have e3 := HI3.out.b3
                  have e4 := HI3.out.b4
                  have e5 := HI3.out.b5
                  have HEN2 : Hid (Calls Try.prog 22 #[tv ⟨f, fb, st, cls, acc, next⟩ (.slice a4 acc.length c4v) (.slice a5 us.length c5v), .int .i64 x5, .bool big] w2.drew fun e w' => e = .returned (.string (ba E)) ∧ Below w2.drew.heap.size w2.drew w') := by
                    show Calls _ _ _ _ _
                    rw [HEQ.out]
                    exact encode_ref w2.drew _ co _ _ x5 big (by omega) (HI3.out.tab.below ((Below.refl _ _).drew)) HOK.out
                  go_region_held3 (fun w' => w'.cell? ⟨tb, 0, none⟩ = some (.bool f) ∧ w'.cell? ⟨tb, 1, none⟩ = some (.bool fb) ∧ w'.cell? ⟨tb, 2, none⟩ = some (.int .i64 st) ∧ w'.cell? ⟨tb, 3, none⟩ = some (.string (ba cls)) ∧ w'.cell? ⟨tb, 4, none⟩ = some (.slice a4 acc.length c4v) ∧ w'.cell? ⟨tb, 5, none⟩ = some (.slice a5 us.length c5v)) (go_keep) ((go_at_call 22; refine HEN2.out.mono ?_; rintro e w6 ⟨rfl, hb6⟩; have HI6 : Hid (RJ w5 w6 g tb big l18 f fb st cls (.slice a4 acc.length c4v) (.slice a5 us.length c5v) acc us next) := (HI3.out.below ((Below.refl _ _).drew)).below hb6; have k0 := HI6.out.b0; have k1 := HI6.out.b1; have k2 := HI6.out.b2; have k3 := HI6.out.b3; have k4 := HI6.out.b4; have k5 := HI6.out.b5; clear hb6))
                  rename_i hheld
                  clear hheld e0 e1 e2 e3 e4 e5
                  obtain ⟨r0, r1, r2, r3, r4, r5⟩ := box6 (HRBK.out w6 HI6.out.bl)
                  have rf := boxfz (HRBK.out w6 HI6.out.bl)
                  have n1 : tb ≠ w.heap.size := by have := HG.out.1; omega
                  have n2 : w.heap.size ≠ tb := fun e => n1 e.symm
                  go_wp2
                  refine bodyPost_ret (v := .tuple #[tv0, .int .i64 6]) (by simp [results, Try.results7, go_sem, r0, r1, r2, r3, r4, r5]) rfl ⟨refRes_no HNO.out, ?_⟩
                  exact (by (repeat first | (with_reducible refine Below.setCell ?_ (by first | exact Nat.le_refl _ | (simp; done) | (simp; omega)) _) | (with_reducible refine Below.alloc ?_ (by first | omega | (simp; done) | (simp; omega)) _) | (with_reducible refine Below.drew ?_)); exact (HBW.out.trans (HI6.out.bl.mono (by rw [HG.out.1]; omega))))
theorem rload_any (w : World) (b : List UInt8) (hb : b.length ≤ maxLen) :
    Calls Try.prog 7 #[.string (ba b)] w fun e w' => RefRes b e w' ∧ Below w.heap.size w w' := by
  by_cases h1 : b.length < 270
  · refine (rload_short w b hb h1).mono ?_
    rintro e w' ⟨rfl, hbl⟩
    exact ⟨refRes_no (by unfold refM rfT; rw [if_pos (.inl h1)]), hbl⟩
  · by_cases h2 : 1 < byA b 5
    · refine (rload_kind w b hb h1 h2).mono ?_
      rintro e w' ⟨rfl, hbl⟩
      exact ⟨refRes_no (by unfold refM rfT; rw [if_pos (.inr (by rw [getD_by]; exact h2))]), hbl⟩
    · exact rload_main w b hb h1 h2
end Go.Proofs.Ytbjabpodkaokjaa
