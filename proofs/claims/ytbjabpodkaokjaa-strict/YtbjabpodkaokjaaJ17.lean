import Derived.Test.YtbjabpodkaokjaaJ16
import Derived.Deep.RegionHeld3
import Derived.Deep.AppendLies
set_option linter.unusedVariables false
set_option linter.unusedSimpArgs false
namespace Go.Proofs.Ytbjabpodkaokjaa
open Go.RowKit

theorem RI.start {w1 w8 : World} {g : Nat} {big : Bool} {l : List UInt8} (f bk : Bool) (st : Int) (cls : List UInt8) (hr : Rdr w8 g big l) (hb : Below g w1 w8) :
    RI w1 (w8.alloc (.cells #[.bool f, .bool bk, .int .i64 st, .string (ba cls), .slice none 0 0, .slice none 0 0] 30)) g w8.heap.size big l f bk st cls (.slice none 0 0) (.slice none 0 0) [] [] [] := by
  have hlt := hr.lt
  have hB : Below w8.heap.size w8 (w8.alloc (.cells #[.bool f, .bool bk, .int .i64 st, .string (ba cls), .slice none 0 0, .slice none 0 0] 30)) := (Below.refl _ _).alloc (Nat.le_refl _) _
  obtain ⟨p0, p1, p2, p3, p4, p5⟩ := box6 (heap_alloc_new w8 (.cells #[.bool f, .bool bk, .int .i64 st, .string (ba cls), .slice none 0 0, .slice none 0 0] 30))
  exact ⟨hr.below hB, hb.trans (hB.mono (Nat.le_of_lt hlt)), p0, p1, p2, p3, p4, p5, boxfz (heap_alloc_new w8 _), World.ownsRow_nil _ _ _ _, World.ownsRow_nil _ _ _ _, rfl, fun j h1 _ => by simp at h1, hlt⟩
theorem Try.infoBo : (Try.prog.info? 4).map (fun i => (i.zero, i.size, i.bytes)) = some (some (.bool false), 1, 1) := by kernel_rfl
/-- A table's lists from block tb on. -/
structure Tri (w : World) (tb : Nat) (va vn : Value) (acc : List Bool) (us : List Value) (rows : List (List Int)) : Prop where
  ac : w.ownsRow (tb + 1) 4 1 va acc.length (acc.map eB)
  nx : w.ownsRow (tb + 1) 39 1 vn us.length us
  ul : us.length = rows.length
  rw : ∀ j (h1 : j < us.length) (h2 : j < rows.length), IRow w (tb + 1) us[j] rows[j]
theorem Tri.set {w : World} {tb : Nat} {va vn : Value} {acc : List Bool} {us : List Value} {rows : List (List Int)} (h : Tri w tb va vn acc us rows) {b : Nat} (hb : b < tb) (o : Nat) (v : Value) : Tri (w.setCell ⟨b, o, none⟩ v) tb va vn acc us rows :=
  ⟨set_keep h.ac (by omega), set_keep h.nx (by omega), h.ul, fun j h1 h2 => set_keep (h.rw j h1 h2) (by omega)⟩
theorem owns_row {α : Type} {enc : α → Value} {w : World} {b : Nat} {e : TypeId} {v : Value} {xs : List α} (h : w.ownsRow b e 1 v xs.length (xs.map enc)) : RowE enc w v xs := by
  rcases h.2 with ⟨rfl, hn⟩ | ⟨k, cap, cur, rfl, _⟩
  · exact .inl ⟨List.length_eq_zero_iff.1 hn, _, _, rfl⟩
  · refine .inr ⟨k, 0, cap, rfl, fun j hj => ?_⟩
    rw [Nat.zero_add, h.cellAt j (by omega)]
    simp [hj]
theorem Tri.tab {w : World} {tb : Nat} {va vn : Value} {acc : List Bool} {us : List Value} {rows : List (List Int)} (h : Tri w tb va vn acc us rows) (f bk : Bool) (st : Int) (cls : List UInt8) : TabIn w ⟨f, bk, st, cls, acc, rows⟩ va vn :=
  ⟨owns_row h.ac, us, h.ul, owns_row (enc := id) (by simpa using h.nx), fun j h1 h2 => owns_row (h.rw j h1 h2)⟩
theorem ow_snoc {α : Type} {enc : α → Value} {w : World} {b n : Nat} {e : TypeId} {v : Value} {xs : List α} {x : α} (h : w.ownsRow b e 1 v (n + 1) (xs.map enc ++ [enc x])) (hn : xs.length = n) : w.ownsRow b e 1 v (xs ++ [x]).length ((xs ++ [x]).map enc) := by
  simpa [hn] using h
theorem ow_snoc' {w : World} {b n : Nat} {e : TypeId} {v : Value} {xs : List Value} {x : Value} (h : w.ownsRow b e 1 v (n + 1) (xs ++ [x])) (hn : xs.length = n) : w.ownsRow b e 1 v (xs ++ [x]).length (xs ++ [x]) := by
  rw [show (xs ++ [x]).length = n + 1 by simp [hn]]
  exact h
theorem ow_mono {w : World} {b b' n s : Nat} {e : TypeId} {v : Value} {xs : List Value} (h : w.ownsRow b e s v n xs) (hb : b' ≤ b) : w.ownsRow b' e s v n xs := by
  refine ⟨h.1, ?_⟩
  rcases h.2 with q | ⟨g, cap, cur, rfl, h1, r⟩
  · exact .inl q
  · exact .inr ⟨g, cap, cur, rfl, by omega, r⟩
set_option maxRecDepth 4000 in
set_option maxHeartbeats 4000000 in
theorem read_t (w : World) (b : List UInt8) (hb : b.length ≤ maxLen) (t : Tb) (kk : Nat) (gg : Bool) (hn : rdT b = some (t, kk, gg)) :
    Calls Try.prog 17 #[.string (ba b)] w fun e w' => ((enc t kk gg = b ∧ ∃ va vn, e = .returned (.tuple #[tv t va vn, .bool true]) ∧ TabIn w' t va vn) ∨ (enc t kk gg ≠ b ∧ e = .returned (.tuple #[tv0, .bool false]))) ∧ Below w.heap.size w w' := by
  obtain ⟨kd, l6, en, l7, bg, l8, big, s, l10, c, l12, st, l14, hh⟩ := hdr_ex b
  rw [hh.rdT] at hn
  have hcond : ¬ (1 < kd ∨ s < 1 ∨ 200 < s ∨ 256 < c) := by
    intro q
    rw [if_pos q] at hn; simp at hn
  rw [if_neg hcond] at hn
  have bk : kd < 256 := by have := rdS_lt (b.drop 5); rw [hh.h1] at this; exact this
  have be : en < 256 := by have := rdS_lt l6; rw [hh.h2] at this; exact this
  have bs : s < 65536 := by have := rdP_lt big l8; rw [hh.h5] at this; exact this
  have bc : c < 65536 := by have := rdP_lt big l10; rw [hh.h6] at this; exact this
  have bst : st < 65536 := by have := rdP_lt big l12; rw [hh.h7] at this; exact this
  have hbig : ((bg : Int) == 1) = big := by rw [← hh.h4, Bool.eq_iff_iff]; simp; omega
  obtain ⟨f, hf⟩ : ∃ f, f = (en % 2 == 1) := ⟨_, rfl⟩
  obtain ⟨fb, hfb⟩ : ∃ f, f = (en / 2 % 2 == 1) := ⟨_, rfl⟩
  have hf1 := and_u8_1 en be
  have hf2 := and_u8_2 en be
  rw [← hf] at hf1 hn
  rw [← hfb] at hf2 hn
  obtain ⟨cls, hcls⟩ : ∃ x, x = l14.take 256 := ⟨_, rfl⟩
  obtain ⟨l16, hl16⟩ : ∃ x, x = l14.drop 256 := ⟨_, rfl⟩
  have hcl : cls.length ≤ 256 := by rw [hcls]; simp; omega
  rw [← hcls, ← hl16] at hn
  have HCL : Hid (cls = l14.take 256) := hcls
  have HLS : Hid (l16 = l14.drop 256) := hl16
  have HT : Hid (t = ⟨f, fb, st, cls, (rdA s l16).1, (rdRs kd big c s (rdA s l16).2).1⟩ ∧ kk = kd ∧ gg = big) := by
    simp only [Option.some.injEq, Prod.mk.injEq] at hn
    exact ⟨hn.1.symm, hn.2.1.symm, hn.2.2.symm⟩
  obtain ⟨w1, hw1⟩ : ∃ w1, w1 = (w.alloc (.cells tc0 30)).alloc (.cells #[.bool false, .string (ba b)] 66) := ⟨_, rfl⟩
  obtain ⟨g, hg⟩ : ∃ g, g = w.heap.size + 1 := ⟨_, rfl⟩
  have HR1 : Hid (Rdr w1 g false b) := by
    have := Rdr.new (w.alloc (.cells tc0 30)) b hb
    rw [← hw1, World.size_alloc, ← hg] at this
    exact this
  have hgw : g ≤ w1.heap.size := Nat.le_of_lt HR1.out.lt
  have HH : Hid (Hdr b kd l6 en l7 bg l8 big s l10 c l12 st l14) := hh
  have HW1 : Hid (w1 = (w.alloc (.cells tc0 30)).alloc (.cells #[.bool false, .string (ba b)] 66)) := hw1
  have HG : Hid (g = w.heap.size + 1) := hg
  have HRB : Hid (Stb g w1 fun w' => w'.heap[w.heap.size]? = some (.cells tc0 30)) := fun w' hb => by
    show w'.heap[w.heap.size]? = _
    rw [hb.block _ (by omega), hw1, Below.heap_alloc _ _ _ (by simp)]
    exact heap_alloc_new _ _
  have HBW : Hid (Below w.heap.size w w1) := by rw [hw1]; exact ((Below.refl _ _).alloc (Nat.le_refl _) _).alloc (by simp) _
  have c1 : ¬ (1 : Int) < kd := by omega
  have c2 : ¬ (s : Int) < 1 := by omega
  have c3 : ¬ (200 : Int) < s := by omega
  have c4 : ¬ (256 : Int) < c := by omega
  clear hh hw1 hg hn hb hcond hf hfb hcls hl16
  obtain ⟨ib, hib, hzb0, hzb1, hzb2⟩ := info_parts Try.infoBo
  obtain ⟨il, hil, hzl0, hzl1, hzl2⟩ := info_parts Try.infoLI
  go_enter Try.func17, Try.ntmps17
  go_wp2_with (first | (go_at_call 29; refine (text_r _ g big l14 256 (by omega) HO7.out.1).mono ?_; rintro e w8 ⟨rfl, ho8⟩; have HB8 : Hid (Below g w1 w8) := HB7.out.grown ho8.2 (Nat.le_of_lt HO7.out.1.lt) (fun k e => by injection e with e; omega); have HO8 : Hid (Rdr w8 g big (l14.drop 256)) := ho8.1; clear ho8) | (go_at_call 31; refine (pair_at HH.out.h7 _ g HO6.out.1).mono ?_; rintro e w7 ⟨rfl, ho7⟩; have HO7 : Hid (RdOut g big w5 l14 w7) := HO6.out.trans ho7; have HB7 : Hid (Below g w1 w7) := HOB.out.grown HO7.out.2 (Nat.le_of_lt HOP.out.1.lt) (fun k e => by injection e with e; omega); clear ho7) | (go_at_call 31; refine (pair_at HH.out.h6 _ g HOP.out.1).mono ?_; rintro e w6 ⟨rfl, ho6⟩; have HO6 : Hid (RdOut g big w5 l12 w6) := HOP.out.trans ho6; clear ho6) | (go_at_call 31; refine (pair_at HH.out.h5 _ g (HO4.out.1.setBig big)).mono ?_; rintro e w5 ⟨rfl, ho5⟩; have HOB : Hid (Below g w1 w5) := (((Below.refl g w1).grown HO4.out.2 hgw (fun k e => by injection e with e; omega)).setCell (p := ⟨g, 0, none⟩) (Nat.le_refl _) _).grown ho5.2 (by have := HO4.out.1.lt; simp [World.setCell]; omega) (fun k e => by injection e with e; omega); have HOP : Hid (RdOut g big w5 l10 w5) := ⟨ho5.1, grown_refl _ _⟩; clear ho5) | (go_at_call 30; refine (small_at HH.out.h3 _ g _ HO3.out.1).mono ?_; rintro e w4 ⟨rfl, ho4⟩; have HO4 : Hid (RdOut g false w1 l8 w4) := HO3.out.trans ho4; have hf4 := ho4.1.fz 0; have hc4 := ho4.1.c0; clear ho4) | (go_at_call 30; refine (small_at HH.out.h2 _ g _ HO2.out.1).mono ?_; rintro e w3 ⟨rfl, ho3⟩; have HO3 : Hid (RdOut g false w1 l7 w3) := HO2.out.trans ho3; clear ho3) | (go_at_call 30; refine (small_at HH.out.h1 _ g _ HOT.out.1).mono ?_; rintro e w2 ⟨rfl, ho2⟩; have HO2 : Hid (RdOut g false w1 l6 w2) := HOT.out.trans ho2; clear ho2) | (go_at_call 29; rw [← HW1.out, ← HG.out]; refine (text_r _ g false b 5 (by omega) HR1.out).mono ?_; rintro e wt ⟨rfl, hot⟩; have HOT : Hid (RdOut g false w1 (b.drop 5) wt) := hot; clear hot))
  rw [← HCL.out]
  have HI : Hid (RI w1 (w8.alloc (.cells #[.bool f, .bool fb, .int .i64 st, .string (ba cls), .slice none 0 0, .slice none 0 0] 30)) g w8.heap.size big l16 f fb st cls (.slice none 0 0) (.slice none 0 0) [] [] []) := by
    show RI _ _ _ _ _ _ _ _ _ _ _ _ _ _ _
    rw [HLS.out]; exact RI.start f fb st cls HO8.out HB8.out
  generalize (w8.alloc (.cells #[.bool f, .bool fb, .int .i64 st, .string (ba cls), .slice none 0 0, .slice none 0 0] 30)) = w9 at HI ⊢
  generalize w8.heap.size = tb at HI ⊢
  clear HO8 HB8 HO7 HB7 HO6 HOP HOB HO4 HO3 HO2 HOT HR1 HW1 hf4 hc4 hf1 hf2 HCL HLS HH
  go_loopw [59] (fun i wr => ∃ k : Nat, ∃ va, i = .int .i64 k ∧ k ≤ s ∧ RI w1 wr g tb big (rdA k l16).2 f fb st cls va (.slice none 0 0) (rdA k l16).1 [] []) (fun i _ => s - (intOf i).toNat)
  case atStart => exact ⟨0, _, rfl, Nat.zero_le _, HI.out⟩
  case round =>
    obtain ⟨k, va, rfl, hk, hri⟩ := hrel
    clear HI
    have HI : Hid (RI w1 wr g tb big (rdA k l16).2 f fb st cls va (.slice none 0 0) (rdA k l16).1 [] []) := hri
    clear hri
    by_cases hlt : k < s
    · have hltI : (k : Int) < s := by omega
      obtain ⟨x, hx⟩ : ∃ x, x = (rdS (rdA k l16).2).1 := ⟨_, rfl⟩
      obtain ⟨l', hl'⟩ : ∃ x, x = (rdS (rdA k l16).2).2 := ⟨_, rfl⟩
      have HS : Hid (rdS (rdA k l16).2 = (x, l')) := by show _ = _; rw [hx, hl']
      have HA : Hid (rdA (k + 1) l16 = ((rdA k l16).1 ++ [x == 1], l')) := by show _ = _; rw [rdA, ← hx, ← hl']
      have hxb : ((x : Int) == 1) = (x == 1) := by rw [Bool.eq_iff_iff]; simp; omega
      clear hx hl'
      obtain ⟨xb, hxe⟩ : ∃ xb, xb = (x == 1) := ⟨_, rfl⟩
      rw [← hxe] at HA hxb
      clear hxe
      have b4 := HI.out.b4
      have hal : (rdA k l16).1.length = k := rdA_len _ _
      have HAC : Hid (wr.ownsRow (tb + 1) 4 1 va k ((rdA k l16).1.map eB)) := by
        show World.ownsRow _ _ _ _ _ _ _
        have := HI.out.ac
        rw [hal] at this
        exact this
      have hwb := HI.out.lt
      have HAL : Hid ((rdA k l16).1.length = k) := hal
      clear hal
      go_wp2
      go_region_law (first | ((refine step_append_lies _ (by rfl) (.tmp 62) (.tmp 66) 27 (by rfl) (tb + 1) 4 ib (.bool false) 1 1 Try.underlying27 hib hzb0 hzb1 hzb2 (by rfl) (by decide) va k ((rdA k l16).1.map eB) (by rfl) HW2.out ⟨w2.heap.size, 0, none⟩ 1 1 [.bool xb] (by rfl) (by rfl) (one_cell_new _ _ _) (by simp [Value.oneCell']) (by omega) (by unfold maxLen; omega) (by omega) (by have := HI2.out.lt; simp; omega) _ (by rfl) ?_; intro g4 cap4 w4 hown4 hgr4 hat4 hlt4; obtain ⟨hri4, d5, d6⟩ := RI.accs (HI2.out.below ((Below.refl _ _).alloc (Nat.le_refl _) _)) (acc' := (rdA k l16).1 ++ [xb]) hgr4 (ow_snoc (enc := eB) hown4 HAL.out); have HR4 : Hid (RI w1 (w4.setCell ⟨tb, 4, none⟩ (.slice (some ⟨g4, 0, none⟩) (k + 1) cap4)) g tb big l' f fb st cls (.slice (some ⟨g4, 0, none⟩) (k + 1) cap4) (.slice none 0 0) ((rdA k l16).1 ++ [xb]) [] []) := hri4; clear hri4 hown4 hgr4 hat4)) | (go_simp; go_at_call 30; refine (small_at HS.out _ g _ (HI.out.rd.below ((Below.refl _ _).drew))).mono ?_; rintro e w2 ⟨rfl, ho2⟩; have HI2 : Hid (RI w1 w2 g tb big l' f fb st cls va (.slice none 0 0) (rdA k l16).1 [] []) := (HI.out.below ((Below.refl _ _).drew)).read ho2; have d4 := HI2.out.b4; have d4n : (w2.alloc (.cells #[.bool xb] 4)).cell? ⟨tb, 4, none⟩ = some va := (cell_below ((Below.refl _ _).alloc (Nat.le_refl _) _) d4); have dlt := HI2.out.lt; have dne := World.new_ne w2 ⟨tb, 4, none⟩ d4; have HW2 : Hid ((w2.alloc (.cells #[.bool xb] 4)).ownsRow (tb + 1) 4 1 va k ((rdA k l16).1.map eB)) := (by have := HI2.out.ac; rw [HAL.out] at this; exact this.alloc _); clear ho2; dsimp only))
      all_goals
        go_wp2
        go_roundw
        case rel =>
          refine ⟨k + 1, .slice (some ⟨g4, 0, none⟩) (k + 1) cap4, by go_num, by omega, ?_⟩
          rw [HA.out]
          exact HR4.out
        case measure => simp [intOf] <;> omega
    · have hkI : ¬ (k : Int) < s := by omega
      have hks : k = s := by omega
      obtain ⟨acc, hacc⟩ : ∃ x, x = (rdA s l16).1 := ⟨_, rfl⟩
      obtain ⟨l17, hl17⟩ : ∃ x, x = (rdA s l16).2 := ⟨_, rfl⟩
      have hal : acc.length = s := by rw [hacc, rdA_len]
      have HI2 : Hid (RI w1 wr g tb big l17 f fb st cls va (.slice none 0 0) acc [] []) := by
        have h := HI.out
        rw [hks, ← hacc, ← hl17] at h
        exact h
      have HT2 : Hid (t = ⟨f, fb, st, cls, acc, (rdRs kd big c s l17).1⟩ ∧ kk = kd ∧ gg = big) := by rw [hacc, hl17]; exact HT.out
      clear hacc hl17 HI HT hks
      go_wp2
      go_loopw [71] (fun i wr => ∃ k : Nat, ∃ vn us, i = .int .i64 k ∧ k ≤ s ∧ RI w1 wr g tb big (rdRs kd big c k l17).2 f fb st cls va vn acc us (rdRs kd big c k l17).1) (fun i _ => s - (intOf i).toNat)
      case atStart => exact ⟨0, _, _, rfl, Nat.zero_le _, HI2.out⟩
      case round =>
        obtain ⟨k, vn, us, rfl, hk, hri⟩ := hrel
        clear HI2
        have HI : Hid (RI w1 wr g tb big (rdRs kd big c k l17).2 f fb st cls va vn acc us (rdRs kd big c k l17).1) := hri
        clear hri
        by_cases hlt : k < s
        · have hltI : (k : Int) < s := by omega
          obtain ⟨r, hr⟩ : ∃ x, x = (rdRow kd big c (rdRs kd big c k l17).2).1 := ⟨_, rfl⟩
          obtain ⟨l', hl'⟩ : ∃ x, x = (rdRow kd big c (rdRs kd big c k l17).2).2 := ⟨_, rfl⟩
          have HA : Hid (rdRs kd big c (k + 1) l17 = ((rdRs kd big c k l17).1 ++ [r], l')) := by show _ = _; rw [rdRs, ← hr, ← hl']
          have HRW : Hid (∀ w, Rdr w g big (rdRs kd big c k l17).2 → Calls Try.prog 32 #[.pointer (some ⟨g, 0, none⟩), .int .i64 kd, .int .i64 c] w fun e w' => ∃ v, e = .returned v ∧ IRow w' w.heap.size v r ∧ RdOut g big w l' w') := fun w h => by
            rw [hr, hl']; exact row_r w g big _ kd c _ rfl (by omega) (by omega) h
          clear hr hl'
          have hul : us.length = k := by rw [HI.out.ul, rdRs_len]
          have HUL : Hid (us.length = k) := hul
          have b5 := HI.out.b5
          have hwb := HI.out.lt
          clear hul
          go_wp2
          go_region_law (first | ((refine step_append_lies _ (by rfl) (.tmp 74) (.tmp 79) 28 (by rfl) (tb + 1) 39 il (.slice none 0 0) 1 24 Try.underlying28 hil hzl0 hzl1 hzl2 (by rfl) (by decide) vn k us (by rfl) HW2.out ⟨w2.heap.size, 0, none⟩ 1 1 [.slice a2 r.length c2] (by rfl) (by rfl) (one_cell_new _ _ _) (by simp [Value.oneCell']) (by omega) (by unfold maxLen; omega) (by omega) (by have := HI2.out.lt; simp; omega) _ (by rfl) ?_; intro g4 cap4 w4 hown4 hgr4 hat4 hlt4; obtain ⟨hri4, d5, d6⟩ := RI.nexts (HI2.out.below ((Below.refl _ _).alloc (Nat.le_refl _) _)) HU2.out hgr4 (ow_snoc' hown4 HUL.out); have HR4 : Hid (RI w1 (w4.setCell ⟨tb, 5, none⟩ (.slice (some ⟨g4, 0, none⟩) (k + 1) cap4)) g tb big l' f fb st cls va (.slice (some ⟨g4, 0, none⟩) (k + 1) cap4) acc (us ++ [.slice a2 r.length c2]) ((rdRs kd big c k l17).1 ++ [r])) := hri4; clear hri4 hown4 hgr4 hat4)) | (go_simp; go_at_call 32; refine (HRW.out _ (HI.out.rd.below ((Below.refl _ _).drew))).mono ?_; rintro e w2 ⟨v2, rfl, hir2, ho2⟩; obtain ⟨a2, c2, hform⟩ := ownsRow_shape hir2; subst hform; have HI2 : Hid (RI w1 w2 g tb big l' f fb st cls va vn acc us (rdRs kd big c k l17).1) := (HI.out.below ((Below.refl _ _).drew)).read ho2; have HU2 : Hid (IRow (w2.alloc (.cells #[.slice a2 r.length c2] 39)) (tb + 1) (.slice a2 r.length c2) r) := (ow_mono hir2 hwb).alloc _; have d4 := HI2.out.b5; have d4n : (w2.alloc (.cells #[.slice a2 r.length c2] 39)).cell? ⟨tb, 5, none⟩ = some vn := (cell_below ((Below.refl _ _).alloc (Nat.le_refl _) _) d4); have dlt := HI2.out.lt; have dne := World.new_ne w2 ⟨tb, 5, none⟩ d4; have HW2 : Hid ((w2.alloc (.cells #[.slice a2 r.length c2] 39)).ownsRow (tb + 1) 39 1 vn k us) := (by have := HI2.out.nx; rw [HUL.out] at this; exact this.alloc _); clear ho2 hir2; dsimp only))
          all_goals
            go_wp2
            go_roundw
            case rel =>
              refine ⟨k + 1, .slice (some ⟨g4, 0, none⟩) (k + 1) cap4, us ++ [.slice a2 r.length c2], by go_num, by omega, ?_⟩
              rw [HA.out]
              exact HR4.out
            case measure => simp [intOf] <;> omega
        · have hkI : ¬ (k : Int) < s := by omega
          have hks : k = s := by omega
          obtain ⟨next, hnext⟩ : ∃ x, x = (rdRs kd big c s l17).1 := ⟨_, rfl⟩
          obtain ⟨l18, hl18⟩ : ∃ x, x = (rdRs kd big c s l17).2 := ⟨_, rfl⟩
          have hnl : next.length = s := by rw [hnext, rdRs_len]
          have hno : ∀ r ∈ next, r.length ≤ 256 ∧ ∀ z ∈ r, okZ z := fun r hr => by
            rw [hnext] at hr
            have := rdRs_ok kd big c l17 s r hr
            exact ⟨by omega, this.2⟩
          have HI2 : Hid (RI w1 wr g tb big l18 f fb st cls va vn acc us next) := by
            have h := HI.out
            rw [hks, ← hnext, ← hl18] at h
            exact h
          have HT3 : Hid (t = ⟨f, fb, st, cls, acc, next⟩ ∧ kk = kd ∧ gg = big) := by rw [hnext]; exact HT2.out
          have HWK : Hid (Wok ⟨f, fb, st, cls, acc, next⟩) := ⟨by simp only; omega, by simp only; omega, by simp only; omega, ⟨by simp only; omega, by simp only; omega⟩, hno, hcl⟩
          clear hnext hl18 HI HT2 hks hno hal hnl
          obtain ⟨a4, c4v, hf4⟩ := ownsRow_shape HI2.out.ac
          obtain ⟨a5, c5v, hf5⟩ := ownsRow_shape HI2.out.nx
          subst hf4
          subst hf5
          have ha := HI2.out
          have b0 := ha.b0
          have b1 := ha.b1
          have b2 := ha.b2
          have b3 := ha.b3
          have b4 := ha.b4
          have b5 := ha.b5
          have g0 := ha.rd.c0
          have HWR : Hid (Calls Try.prog 24 #[tv ⟨f, fb, st, cls, acc, next⟩ (.slice a4 acc.length c4v) (.slice a5 us.length c5v), .int .i64 kd, .bool big] wr.drew fun e w' => e = .returned (.string (ba (enc ⟨f, fb, st, cls, acc, next⟩ kd big))) ∧ Below wr.drew.heap.size wr.drew w') := write_any wr.drew _ _ _ kd big (by omega) (ha.tab.below ((Below.refl _ _).drew)) HWK.out
          clear ha
          by_cases hen : enc ⟨f, fb, st, cls, acc, next⟩ kd big = b
          · rw [hen] at HWR
            go_wp2
            go_region_held3 (fun w' => w'.cell? ⟨tb, 0, none⟩ = some (.bool f) ∧ w'.cell? ⟨tb, 1, none⟩ = some (.bool fb) ∧ w'.cell? ⟨tb, 2, none⟩ = some (.int .i64 st) ∧ w'.cell? ⟨tb, 3, none⟩ = some (.string (ba cls)) ∧ w'.cell? ⟨tb, 4, none⟩ = some (.slice a4 acc.length c4v) ∧ w'.cell? ⟨tb, 5, none⟩ = some (.slice a5 us.length c5v) ∧ w'.cell? ⟨g, 0, none⟩ = some (.bool big)) (go_keep) ((go_at_call 24; refine HWR.out.mono ?_; rintro e w2 ⟨rfl, hb2⟩; have HI3 : Hid (RI w1 w2 g tb big l18 f fb st cls (.slice a4 acc.length c4v) (.slice a5 us.length c5v) acc us next) := (HI2.out.below ((Below.refl _ _).drew)).below hb2; have e0 := HI3.out.b0; have e1 := HI3.out.b1; have e2 := HI3.out.b2; have e3 := HI3.out.b3; have e4 := HI3.out.b4; have e5 := HI3.out.b5; have eg := HI3.out.rd.c0; clear hb2))
            rename_i hheld
            clear hheld b0 b1 b2 b3 b4 b5 g0
            obtain ⟨r0, r1, r2, r3, r4, r5⟩ := box6 (HRB.out w2 HI3.out.bl)
            have rf := boxfz (HRB.out w2 HI3.out.bl)
            have hne : tb ≠ w.heap.size := by have := HI3.out.gt; have := HG.out; omega
            have hne' : w.heap.size ≠ tb := fun e => hne e.symm
            go_wp2
            refine bodyPost_ret (v := .tuple #[tv ⟨f, fb, st, cls, acc, next⟩ (.slice a4 acc.length c4v) (.slice a5 us.length c5v), .bool true]) ?_ rfl ?_
            · simp [results, Try.results17, go_sem, r0, r1, r2, r3, r4, r5]
            · have hgt : w.heap.size < tb := by have := HI3.out.gt; have := HG.out; omega
              refine ⟨.inl ⟨?_, .slice a4 acc.length c4v, .slice a5 us.length c5v, ?_, ?_⟩, ?_⟩
              · rw [HT3.out.1, HT3.out.2.1, HT3.out.2.2]; exact hen
              · rw [HT3.out.1]
              · rw [HT3.out.1]
                exact ((((((Tri.mk HI3.out.ac HI3.out.nx HI3.out.ul HI3.out.rw).set hgt _ _).set hgt _ _).set hgt _ _).set hgt _ _).set hgt _ _).set hgt _ _ |>.tab f fb st cls
              · exact (by (repeat first | (with_reducible refine Below.setCell ?_ (by first | exact Nat.le_refl _ | (simp; done) | (simp; omega)) _) | (with_reducible refine Below.alloc ?_ (by first | omega | (simp; done) | (simp; omega)) _) | (with_reducible refine Below.drew ?_)); exact (HBW.out.trans (HI3.out.bl.mono (by rw [HG.out]; omega))))
          · obtain ⟨E, hE⟩ : ∃ E, E = enc ⟨f, fb, st, cls, acc, next⟩ kd big := ⟨_, rfl⟩
            rw [← hE] at HWR hen
            have hbne : (E == b) = false := by simpa using hen
            have hbne2 : ((ba E).toList == (ba b).toList) = false := by rw [ByteArray.toList_mk, ByteArray.toList_mk]; exact hbne
            have HEE : Hid (E = enc ⟨f, fb, st, cls, acc, next⟩ kd big) := hE
            have HEN : Hid (E ≠ b) := hen
            clear hE hen
            go_wp2
            go_region_held3 (fun w' => w'.cell? ⟨tb, 0, none⟩ = some (.bool f) ∧ w'.cell? ⟨tb, 1, none⟩ = some (.bool fb) ∧ w'.cell? ⟨tb, 2, none⟩ = some (.int .i64 st) ∧ w'.cell? ⟨tb, 3, none⟩ = some (.string (ba cls)) ∧ w'.cell? ⟨tb, 4, none⟩ = some (.slice a4 acc.length c4v) ∧ w'.cell? ⟨tb, 5, none⟩ = some (.slice a5 us.length c5v) ∧ w'.cell? ⟨g, 0, none⟩ = some (.bool big)) (go_keep) ((go_at_call 24; refine HWR.out.mono ?_; rintro e w2 ⟨rfl, hb2⟩; have HI3 : Hid (RI w1 w2 g tb big l18 f fb st cls (.slice a4 acc.length c4v) (.slice a5 us.length c5v) acc us next) := (HI2.out.below ((Below.refl _ _).drew)).below hb2; have e0 := HI3.out.b0; have e1 := HI3.out.b1; have e2 := HI3.out.b2; have e3 := HI3.out.b3; have e4 := HI3.out.b4; have e5 := HI3.out.b5; have eg := HI3.out.rd.c0; clear hb2))
            rename_i hheld
            clear hheld b0 b1 b2 b3 b4 b5 g0
            obtain ⟨r0, r1, r2, r3, r4, r5⟩ := box6 (HRB.out w2 HI3.out.bl)
            have rf := boxfz (HRB.out w2 HI3.out.bl)
            go_wp2
            refine bodyPost_ret (v := .tuple #[tv0, .bool false]) (by simp [results, Try.results17, go_sem, r0, r1, r2, r3, r4, r5]) rfl ⟨.inr ⟨?_, rfl⟩, ?_⟩
            · rw [HT3.out.1, HT3.out.2.1, HT3.out.2.2, ← HEE.out]; exact HEN.out
            · exact (by (repeat first | (with_reducible refine Below.setCell ?_ (by first | exact Nat.le_refl _ | (simp; done) | (simp; omega)) _) | (with_reducible refine Below.alloc ?_ (by first | omega | (simp; done) | (simp; omega)) _) | (with_reducible refine Below.drew ?_)); exact (HBW.out.trans (HI3.out.bl.mono (by rw [HG.out]; omega))))
end Go.Proofs.Ytbjabpodkaokjaa
