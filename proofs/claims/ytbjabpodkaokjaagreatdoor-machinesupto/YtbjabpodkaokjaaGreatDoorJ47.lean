import Derived.Test.YtbjabpodkaokjaaGreatDoorJ46
set_option linter.unusedVariables false
set_option linter.unusedSimpArgs false
namespace Go.Proofs.YtbjabpodkaokjaaGreatDoor
open Go.RowKit

/-- What the answer of a step on a twin is. -/
def Ans (X : World → Prop) (B : Nat) (w0 : World) (g s : Nat) (e : Ending) (w' : World) : Prop := e = .returned (.bool true) ∧ Gm X B w' g (s + 1) ∧ Below B w0 w'
theorem flat_at (tw : List Tw) (i : Nat) (hi : i < tw.length) (j : Nat) (hj : j < 8) : (tw.flatMap Tw.cells)[i * 8 + j]? = tw[i].cells[j]? := by
  induction tw generalizing i with
  | nil => simp at hi
  | cons t r ih =>
    rw [List.flatMap_cons]
    cases i with
    | zero => rw [Nat.zero_mul, Nat.zero_add, List.getElem?_append_left (by rw [Tw.cells_len]; exact hj)]; rfl
    | succ i =>
      rw [List.getElem?_append_right (by rw [Tw.cells_len]; omega), Tw.cells_len, show (i + 1) * 8 + j - 8 = i * 8 + j by omega]
      exact ih i (by simpa using hi)
set_option maxRecDepth 4000 in
set_option maxHeartbeats 8000000 in
theorem does_empty (X : World → Prop) (B : Nat) (w : World) (g s : Nat) (hg : Gm X B w g s) (hs : s ≤ 1048576) (k wh a : Int) (big : Bool) (tx : List UInt8) (o : Tb) (oa oca on ocn : _) (k1 : (k == 1) = false) (k2 : (k == 2) = false) (k7 : (k == 7) = false) (k10 : (k == 10) = false) (k11 : (k == 11) = false) (hz : ∃ ρ N vs d, Gs X B w g s ρ N vs d []) :
    Calls Tryz.prog 38 #[.pointer (some ⟨g, 0, none⟩), opV k wh a big tx o (.slice oa o.acc.length oca) (.slice on o.next.length ocn)] w fun e w' => e = .returned (.bool true) ∧ Gm X B w' g (s + 1) ∧ Below B w w' := by
  obtain ⟨w1, hw1⟩ : ∃ w1, w1 = w.alloc (.cells (opC k wh a big tx o (.slice oa o.acc.length oca) (.slice on o.next.length ocn)) 80) := ⟨_, rfl⟩
  have hb1 : Below w.heap.size w w1 := by rw [hw1]; exact (Below.refl _ _).alloc (Nat.le_refl _) _
  have hs1 : w1.heap.size = w.heap.size + 1 := by rw [hw1]; simp
  have HOB : Hid (∀ w', Below w1.heap.size w1 w' → w'.heap[w.heap.size]? = some (.cells (opC k wh a big tx o (.slice oa o.acc.length oca) (.slice on o.next.length ocn)) 80)) := fun w' hb => by
    rw [hb.block _ (by omega), hw1]; exact heap_alloc_new w _
  have HOP : Hid (∀ w', Below w1.heap.size w1 w' → (w'.cell? ⟨w.heap.size, 0, none⟩ = some (.int .i64 k) ∧ w'.cell? ⟨w.heap.size, 1, none⟩ = some (.int .i64 wh) ∧ w'.cell? ⟨w.heap.size, 2, none⟩ = some (.int .i64 a) ∧ w'.cell? ⟨w.heap.size, 3, none⟩ = some (.bool big) ∧ w'.cell? ⟨w.heap.size, 4, none⟩ = some (.string (ba tx))) ∧ w'.cell? ⟨w.heap.size, 5, none⟩ = some (.bool o.front) ∧ w'.cell? ⟨w.heap.size, 6, none⟩ = some (.bool o.back) ∧ w'.cell? ⟨w.heap.size, 7, none⟩ = some (.int .i64 o.start) ∧ w'.cell? ⟨w.heap.size, 8, none⟩ = some (.string (ba o.cls)) ∧ w'.cell? ⟨w.heap.size, 9, none⟩ = some (.slice oa o.acc.length oca) ∧ w'.cell? ⟨w.heap.size, 10, none⟩ = some (.slice on o.next.length ocn)) := fun w' hb => by
    have e0 := HOB.out w' hb
    exact ⟨⟨by simp [World.cell?, e0], by simp [World.cell?, e0], by simp [World.cell?, e0], by simp [World.cell?, e0], by simp [World.cell?, e0]⟩, by simp [World.cell?, e0], by simp [World.cell?, e0], by simp [World.cell?, e0], by simp [World.cell?, e0], by simp [World.cell?, e0], by simp [World.cell?, e0]⟩
  have HW : Hid (w1 = w.alloc (.cells (opC k wh a big tx o (.slice oa o.acc.length oca) (.slice on o.next.length ocn)) 80)) := hw1
  have HBW : Hid (∀ w', Below w1.heap.size w1 w' → Below w.heap.size w w') := fun w' hb => hb1.trans (hb.mono (by omega))
  obtain ⟨ρ, N, vs, d, hgs⟩ := hz
  have hg1 := hgs.below hb1
  obtain ⟨sp, cp, hv⟩ := owns_form (hg1.bk.own 0 (by omega))
  have c0 := hg1.bk.cl 0 (by omega)
  rw [hv] at c0
  simp only [spO, spN, List.length_nil] at c0
  have HG2 : Hid (Gm X B w1 g (s + 1) ∧ Below B w w1) := ⟨Gm.more ⟨_, _, _, _, _, hg1⟩, hb1.mono hgs.bk.B_le⟩
  obtain ⟨⟨x0, x1, x2, x3, x4⟩, x5, x6, x7, x8, x9, x10⟩ := HOP.out w1 (Below.refl _ _)
  clear hw1 hb1 hs1 hg hgs hg1 hv
  go_enter Tryz.func38, Tryz.ntmps38
  go_upto_region 1 with (fail)
  rw [← HW.out]
  go_wp2
  go_ret
  exact ⟨rfl, HG2.out⟩
set_option maxRecDepth 4000 in
set_option maxHeartbeats 8000000 in
theorem does_twin (X : World → Prop) (B : Nat) (w : World) (g s : Nat) (hg : Gm X B w g s) (hs : s ≤ 1048576) (k wh a : Int) (big : Bool) (tx : List UInt8) (o : Tb) (oa oca on ocn : _) (hwh1 : -9223372036854775808 ≤ wh) (hwh2 : wh ≤ 9223372036854775807) (k1 : (k == 1) = false) (k2 : (k == 2) = false) (k7 : (k == 7) = false) (k10 : (k == 10) = false) (k11 : (k == 11) = false) (ρ : Nat → Nat) (N : Int) (vs : Nat → Value) (d : Bd) (tw : List Tw) (hgs : Gs X B w g s ρ N vs d tw) (hne : 0 < tw.length) (hno : tw[pickN wh tw.length]'(pickN_lt _ _ hne) = .none) :
    Calls Tryz.prog 38 #[.pointer (some ⟨g, 0, none⟩), opV k wh a big tx o (.slice oa o.acc.length oca) (.slice on o.next.length ocn)] w fun e w' => e = .returned (.bool true) ∧ Gm X B w' g (s + 1) ∧ Below B w w' := by
  obtain ⟨w1, hw1⟩ : ∃ w1, w1 = w.alloc (.cells (opC k wh a big tx o (.slice oa o.acc.length oca) (.slice on o.next.length ocn)) 80) := ⟨_, rfl⟩
  have hb1 : Below w.heap.size w w1 := by rw [hw1]; exact (Below.refl _ _).alloc (Nat.le_refl _) _
  have hs1 : w1.heap.size = w.heap.size + 1 := by rw [hw1]; simp
  have HOB : Hid (∀ w', Below w1.heap.size w1 w' → w'.heap[w.heap.size]? = some (.cells (opC k wh a big tx o (.slice oa o.acc.length oca) (.slice on o.next.length ocn)) 80)) := fun w' hb => by
    rw [hb.block _ (by omega), hw1]; exact heap_alloc_new w _
  have HOP : Hid (∀ w', Below w1.heap.size w1 w' → (w'.cell? ⟨w.heap.size, 0, none⟩ = some (.int .i64 k) ∧ w'.cell? ⟨w.heap.size, 1, none⟩ = some (.int .i64 wh) ∧ w'.cell? ⟨w.heap.size, 2, none⟩ = some (.int .i64 a) ∧ w'.cell? ⟨w.heap.size, 3, none⟩ = some (.bool big) ∧ w'.cell? ⟨w.heap.size, 4, none⟩ = some (.string (ba tx))) ∧ w'.cell? ⟨w.heap.size, 5, none⟩ = some (.bool o.front) ∧ w'.cell? ⟨w.heap.size, 6, none⟩ = some (.bool o.back) ∧ w'.cell? ⟨w.heap.size, 7, none⟩ = some (.int .i64 o.start) ∧ w'.cell? ⟨w.heap.size, 8, none⟩ = some (.string (ba o.cls)) ∧ w'.cell? ⟨w.heap.size, 9, none⟩ = some (.slice oa o.acc.length oca) ∧ w'.cell? ⟨w.heap.size, 10, none⟩ = some (.slice on o.next.length ocn)) := fun w' hb => by
    have e0 := HOB.out w' hb
    exact ⟨⟨by simp [World.cell?, e0], by simp [World.cell?, e0], by simp [World.cell?, e0], by simp [World.cell?, e0], by simp [World.cell?, e0]⟩, by simp [World.cell?, e0], by simp [World.cell?, e0], by simp [World.cell?, e0], by simp [World.cell?, e0], by simp [World.cell?, e0], by simp [World.cell?, e0]⟩
  have HW : Hid (w1 = w.alloc (.cells (opC k wh a big tx o (.slice oa o.acc.length oca) (.slice on o.next.length ocn)) 80)) := hw1
  have HBW : Hid (∀ w', Below w1.heap.size w1 w' → Below w.heap.size w w') := fun w' hb => hb1.trans (hb.mono (by omega))
  have hg1 := hgs.below hb1
  obtain ⟨n, hn⟩ : ∃ n, n = tw.length := ⟨_, rfl⟩
  obtain ⟨i, hi⟩ : ∃ i, i = pickN wh tw.length := ⟨_, rfl⟩
  have hin : i < n := by rw [hi, hn]; exact pickN_lt _ _ hne
  obtain ⟨A, cA, hv, _, hAl⟩ := (hg1.bk.own 0 (by omega)).form hne
  have hown := hg1.bk.own 0 (by omega)
  have c0 := hg1.bk.cl 0 (by omega)
  rw [hv] at c0 hown
  simp only [spO, spN] at c0 hown
  rw [← hn] at c0
  have HCE : Hid (∀ j, j < 8 → w1.cell? ⟨A, i * 8 + j, none⟩ = (Tw.cells .none)[j]?) := fun j hj => by
    have h1 := flat_at tw i (by omega) j hj
    rw [show tw[i]'(by omega) = .none by simp only [hi]; exact hno] at h1
    have h2 : (Tw.cells Tw.none)[j]? = some ((Tw.cells Tw.none)[j]'(by rw [Tw.cells_len]; exact hj)) := List.getElem?_eq_getElem _
    rw [h2] at h1 ⊢
    have := hown.cells (g := A) rfl _ _ (by simpa [spX] using h1)
    rwa [add_at] at this
  have e0 := HCE.out 0 (by omega)
  have e1 := HCE.out 1 (by omega)
  have e2 := HCE.out 2 (by omega)
  have e3 := HCE.out 3 (by omega)
  have e4 := HCE.out 4 (by omega)
  have e5 := HCE.out 5 (by omega)
  have e6 := HCE.out 6 (by omega)
  have e7 := HCE.out 7 (by omega)
  simp only [Tw.cells, twC, Tn, List.getElem?_cons_zero, List.getElem?_cons_succ, Nat.add_zero] at e0 e1 e2 e3 e4 e5 e6 e7
  have HPK : Hid (∀ w, Calls Tryz.prog 65 #[.int .i64 wh, .int .i64 (n : Int)] w fun e w' => e = .returned (.int .i64 (i : Int)) ∧ w' = w) := fun w => by
    rw [hi, hn]; exact pick_any w wh tw.length hwh1 hwh2 hne (by have := hgs.l4; omega)
  have HNB : Hid (∀ w', Below w.heap.size w w' → Calls Tryz.prog 66 #[.pointer (some ⟨g, 0, none⟩), .pointer none, opV k wh a big tx o (.slice oa o.acc.length oca) (.slice on o.next.length ocn)] w' fun e w'' => e = .returned (.bool true) ∧ Gm X B w'' g (s + 1) ∧ Below B w w'') := fun w' hb => by
    refine (nobody_yes w' _ k wh a big tx o oa oca on ocn).mono ?_
    rintro e w'' ⟨rfl, hb'⟩
    have hb2 := hb.trans (hb'.mono hb.size)
    exact ⟨rfl, Gm.more ⟨_, _, _, _, _, hgs.below hb2⟩, hb2.mono hgs.bk.B_le⟩
  have hn2 : n ≤ 1048576 := by have := hgs.l4; omega
  have hinI : (i : Int) < n := by omega
  have hnz : ((n : Int) == 0) = false := by simp; omega
  obtain ⟨⟨x0, x1, x2, x3, x4⟩, x5, x6, x7, x8, x9, x10⟩ := HOP.out w1 (Below.refl _ _)
  clear hw1 hb1 hs1 hg hg1 hown hno hi hn hv hgs hne
  go_enter Tryz.func38, Tryz.ntmps38
  go_upto_region 1 with (fail)
  rw [← HW.out]
  go_upto_region 10 with (fail)
  go_region_held3 (fun w' => w'.cell? ⟨g, 0, none⟩ = some (.slice (some ⟨A, 0, none⟩) n cA) ∧ w'.cell? ⟨w.heap.size, 1, none⟩ = some (.int .i64 wh) ∧ w'.cell? ⟨A, i * 8, none⟩ = some (.pointer none) ∧ w'.cell? ⟨A, i * 8 + 1, none⟩ = some (.bool false) ∧ w'.cell? ⟨A, i * 8 + 2, none⟩ = some (.bool false) ∧ w'.cell? ⟨A, i * 8 + 3, none⟩ = some (.int .i64 0) ∧ w'.cell? ⟨A, i * 8 + 4, none⟩ = some (.string (ba [])) ∧ w'.cell? ⟨A, i * 8 + 5, none⟩ = some (.slice none 0 0) ∧ w'.cell? ⟨A, i * 8 + 6, none⟩ = some (.slice none 0 0) ∧ w'.cell? ⟨A, i * 8 + 7, none⟩ = some (.bool true)) (go_keep) ((go_at_call 65; refine (HPK.out _).mono ?_; rintro e w' ⟨rfl, hw'⟩; obtain rfl := hw'.symm))
  all_goals
    obtain ⟨w2, hw2⟩ : ∃ w2, w2 = (w1.alloc (.cells #[.pointer none, .bool false, .bool false, .int .i64 0, .string (ba []), .slice none 0 0, .slice none 0 0, .bool true] 133)).drew := ⟨_, rfl⟩
    rw [← hw2]
    have hb2 : Below w1.heap.size w1 w2 := by rw [hw2]; exact ((Below.refl _ _).alloc (Nat.le_refl _) _).drew
    have he2 : w2.heap[w1.heap.size]? = some (.cells #[.pointer none, .bool false, .bool false, .int .i64 0, .string (ba []), .slice none 0 0, .slice none 0 0, .bool true] 133) := by rw [hw2]; exact heap_alloc_new w1 _
    have t0 : w2.cell? ⟨w1.heap.size, 0, none⟩ = some (.pointer none) := by simp [World.cell?, he2]
    have t1 : w2.cell? ⟨w1.heap.size, 1, none⟩ = some (.bool false) := by simp [World.cell?, he2]
    have t2 : w2.cell? ⟨w1.heap.size, 2, none⟩ = some (.bool false) := by simp [World.cell?, he2]
    have t3 : w2.cell? ⟨w1.heap.size, 3, none⟩ = some (.int .i64 0) := by simp [World.cell?, he2]
    have t4 : w2.cell? ⟨w1.heap.size, 4, none⟩ = some (.string (ba [])) := by simp [World.cell?, he2]
    have t5 : w2.cell? ⟨w1.heap.size, 5, none⟩ = some (.slice none 0 0) := by simp [World.cell?, he2]
    have t6 : w2.cell? ⟨w1.heap.size, 6, none⟩ = some (.slice none 0 0) := by simp [World.cell?, he2]
    have t7 : w2.cell? ⟨w1.heap.size, 7, none⟩ = some (.bool true) := by simp [World.cell?, he2]
    obtain ⟨⟨z0, z1, z2, z3, z4⟩, z5, z6, z7, z8, z9, z10⟩ := HOP.out w2 hb2
    have HB2 : Hid (Below w.heap.size w w2) := HBW.out w2 hb2
    clear x0 x1 x2 x3 x4 x5 x6 x7 x8 x9 x10 e0 e1 e2 e3 e4 e5 e6 e7 c0 hw2 hb2 he2
    go_wp2_with (go_at_call 66; refine (HNB.out _ HB2.out).mono ?_; rintro e w4 ⟨rfl, hg4⟩; have HG4 : Hid (Gm X B w4 g (s + 1) ∧ Below B w w4) := hg4; clear hg4)
    go_ret
    exact ⟨rfl, HG4.out⟩
set_option maxRecDepth 4000 in
set_option maxHeartbeats 8000000 in
theorem does_one (X : World → Prop) (B : Nat) (w : World) (g s : Nat) (hg : Gm X B w g s) (hs : s ≤ 1048576) (k wh a : Int) (big : Bool) (tx : List UInt8) (o : Tb) (oa oca on ocn : _) (hwh1 : -9223372036854775808 ≤ wh) (hwh2 : wh ≤ 9223372036854775807) (k1 : (k == 1) = false) (k2 : (k == 2) = false) (k7 : (k == 7) = false) (k10 : (k == 10) = false) (k11 : (k == 11) = false) (ρ : Nat → Nat) (N : Int) (vs : Nat → Value) (d : Bd) (tw : List Tw) (hgs : Gs X B w g s ρ N vs d tw) (hne : 0 < tw.length) (m : Nat) (t : Tb) (c : Nat) (aa ca an cn : _) (hno : tw[pickN wh tw.length]'(pickN_lt _ _ hne) = .one m t c aa ca an cn) (ha1 : -9223372036854775808 ≤ a) (ha2 : a ≤ 9223372036854775807) (htx : tx.length ≤ 1048576) :
    Calls Tryz.prog 38 #[.pointer (some ⟨g, 0, none⟩), opV k wh a big tx o (.slice oa o.acc.length oca) (.slice on o.next.length ocn)] w fun e w' => e = .returned (.bool true) ∧ Gm X B w' g (s + 1) ∧ Below B w w' := by
  obtain ⟨w1, hw1⟩ : ∃ w1, w1 = w.alloc (.cells (opC k wh a big tx o (.slice oa o.acc.length oca) (.slice on o.next.length ocn)) 80) := ⟨_, rfl⟩
  have hb1 : Below w.heap.size w w1 := by rw [hw1]; exact (Below.refl _ _).alloc (Nat.le_refl _) _
  have hs1 : w1.heap.size = w.heap.size + 1 := by rw [hw1]; simp
  have HOB : Hid (∀ w', Below w1.heap.size w1 w' → w'.heap[w.heap.size]? = some (.cells (opC k wh a big tx o (.slice oa o.acc.length oca) (.slice on o.next.length ocn)) 80)) := fun w' hb => by
    rw [hb.block _ (by omega), hw1]; exact heap_alloc_new w _
  have HOP : Hid (∀ w', Below w1.heap.size w1 w' → (w'.cell? ⟨w.heap.size, 0, none⟩ = some (.int .i64 k) ∧ w'.cell? ⟨w.heap.size, 1, none⟩ = some (.int .i64 wh) ∧ w'.cell? ⟨w.heap.size, 2, none⟩ = some (.int .i64 a) ∧ w'.cell? ⟨w.heap.size, 3, none⟩ = some (.bool big) ∧ w'.cell? ⟨w.heap.size, 4, none⟩ = some (.string (ba tx))) ∧ w'.cell? ⟨w.heap.size, 5, none⟩ = some (.bool o.front) ∧ w'.cell? ⟨w.heap.size, 6, none⟩ = some (.bool o.back) ∧ w'.cell? ⟨w.heap.size, 7, none⟩ = some (.int .i64 o.start) ∧ w'.cell? ⟨w.heap.size, 8, none⟩ = some (.string (ba o.cls)) ∧ w'.cell? ⟨w.heap.size, 9, none⟩ = some (.slice oa o.acc.length oca) ∧ w'.cell? ⟨w.heap.size, 10, none⟩ = some (.slice on o.next.length ocn)) := fun w' hb => by
    have e0 := HOB.out w' hb
    exact ⟨⟨by simp [World.cell?, e0], by simp [World.cell?, e0], by simp [World.cell?, e0], by simp [World.cell?, e0], by simp [World.cell?, e0]⟩, by simp [World.cell?, e0], by simp [World.cell?, e0], by simp [World.cell?, e0], by simp [World.cell?, e0], by simp [World.cell?, e0], by simp [World.cell?, e0]⟩
  have HW : Hid (w1 = w.alloc (.cells (opC k wh a big tx o (.slice oa o.acc.length oca) (.slice on o.next.length ocn)) 80)) := hw1
  have HBW : Hid (∀ w', Below w1.heap.size w1 w' → Below w.heap.size w w') := fun w' hb => hb1.trans (hb.mono (by omega))
  have hg1 := hgs.below hb1
  obtain ⟨n, hn⟩ : ∃ n, n = tw.length := ⟨_, rfl⟩
  obtain ⟨i, hi⟩ : ∃ i, i = pickN wh tw.length := ⟨_, rfl⟩
  have hin : i < n := by rw [hi, hn]; exact pickN_lt _ _ hne
  obtain ⟨A, cA, hv, _, hAl⟩ := (hg1.bk.own 0 (by omega)).form hne
  have hown := hg1.bk.own 0 (by omega)
  have c0 := hg1.bk.cl 0 (by omega)
  rw [hv] at c0 hown
  simp only [spO, spN] at c0 hown
  rw [← hn] at c0
  have HCE : Hid (∀ j, j < 8 → w1.cell? ⟨A, i * 8 + j, none⟩ = (Tw.cells (.one m t c aa ca an cn))[j]?) := fun j hj => by
    have h1 := flat_at tw i (by omega) j hj
    rw [show tw[i]'(by omega) = .one m t c aa ca an cn by simp only [hi]; exact hno] at h1
    have h2 : (Tw.cells (.one m t c aa ca an cn))[j]? = some ((Tw.cells (.one m t c aa ca an cn))[j]'(by rw [Tw.cells_len]; exact hj)) := List.getElem?_eq_getElem _
    rw [h2] at h1 ⊢
    have := hown.cells (g := A) rfl _ _ (by simpa [spX] using h1)
    rwa [add_at] at this
  have e0 := HCE.out 0 (by omega)
  have e1 := HCE.out 1 (by omega)
  have e2 := HCE.out 2 (by omega)
  have e3 := HCE.out 3 (by omega)
  have e4 := HCE.out 4 (by omega)
  have e5 := HCE.out 5 (by omega)
  have e6 := HCE.out 6 (by omega)
  have e7 := HCE.out 7 (by omega)
  simp only [Tw.cells, twC, Tn, List.getElem?_cons_zero, List.getElem?_cons_succ, Nat.add_zero] at e0 e1 e2 e3 e4 e5 e6 e7
  have HPK : Hid (∀ w, Calls Tryz.prog 65 #[.int .i64 wh, .int .i64 (n : Int)] w fun e w' => e = .returned (.int .i64 (i : Int)) ∧ w' = w) := fun w => by
    rw [hi, hn]; exact pick_any w wh tw.length hwh1 hwh2 hne (by have := hgs.l4; omega)
  have hmt : Mch w m t c ∧ TabIn w t (.slice aa t.acc.length ca) (.slice an t.next.length cn) := by
    have := (hgs.fc.fT _ (List.getElem_mem (pickN_lt wh tw.length hne))).now
    rw [hno] at this
    exact this
  have HFN : Hid (∀ {e : Ending} {w' w'' : World}, Below w.heap.size w w' → e = .returned (.bool true) ∧ Below w'.heap.size w' w'' → e = .returned (.bool true) ∧ Gm X B w'' g (s + 1) ∧ Below B w w'') := fun hb h => by
    have hb2 := hb.trans (h.2.mono hb.size)
    exact ⟨h.1, Gm.more ⟨_, _, _, _, _, hgs.below hb2⟩, hb2.mono hgs.bk.B_le⟩
  have HAS : Hid (∀ w', Below w.heap.size w w' → Calls Tryz.prog 67 #[.pointer (some ⟨g, 0, none⟩), twV (.pointer (some ⟨m, 0, none⟩)) t (.slice aa t.acc.length ca) (.slice an t.next.length cn) false, opV k wh a big tx o (.slice oa o.acc.length oca) (.slice on o.next.length ocn)] w' fun e w'' => e = .returned (.bool true) ∧ Gm X B w'' g (s + 1) ∧ Below B w w'') := fun w' hb => by
    by_cases h3 : k = 3
    · subst h3
      refine (asks_tab X B w' g s ⟨_, _, _, _, _, hgs.below hb⟩ hs m t c aa ca an cn false wh a big tx o oa oca on ocn (hmt.1.below hb) (hmt.2.below hb)).mono ?_
      rintro e w'' ⟨h1, h2, h3⟩
      exact ⟨h1, h2, (hb.mono hgs.bk.B_le).trans h3⟩
    · refine (asks_enc w' _ m t c aa ca an cn false k wh a big tx o oa oca on ocn (hmt.1.below hb) (hmt.2.below hb) h3).mono ?_
      rintro e w'' h
      exact HFN.out hb h
  have HSE : Hid (∀ w', Below w.heap.size w w' → Calls Tryz.prog 68 #[.pointer (some ⟨g, 0, none⟩), twV (.pointer (some ⟨m, 0, none⟩)) t (.slice aa t.acc.length ca) (.slice an t.next.length cn) false, opV k wh a big tx o (.slice oa o.acc.length oca) (.slice on o.next.length ocn)] w' fun e w'' => e = .returned (.bool true) ∧ Gm X B w'' g (s + 1) ∧ Below B w w'') := fun w' hb => by
    refine (searches_yes w' _ m t c aa ca an cn false k wh a big tx o oa oca on ocn (hmt.1.below hb) (hmt.2.below hb) htx).mono ?_
    rintro e w'' h
    exact HFN.out hb h
  have HAG : Hid (∀ w', Below w.heap.size w w' → Calls Tryz.prog 69 #[.pointer (some ⟨g, 0, none⟩), twV (.pointer (some ⟨m, 0, none⟩)) t (.slice aa t.acc.length ca) (.slice an t.next.length cn) false, opV k wh a big tx o (.slice oa o.acc.length oca) (.slice on o.next.length ocn)] w' fun e w'' => e = .returned (.bool true) ∧ Gm X B w'' g (s + 1) ∧ Below B w w'') := fun w' hb => by
    refine (again_yes X B w' g s ⟨_, _, _, _, _, hgs.below hb⟩ hs m t c aa ca an cn false k wh a ha1 ha2 big tx o oa oca on ocn (hmt.1.below hb) (hmt.2.below hb)).mono ?_
    rintro e w'' ⟨h1, h2, h3⟩
    exact ⟨h1, h2, (hb.mono hgs.bk.B_le).trans h3⟩
  have HNO : Hid (∀ w', Below w.heap.size w w' → Gm X B w' g (s + 1) ∧ Below B w w') := fun w' hb => ⟨Gm.more ⟨_, _, _, _, _, hgs.below hb⟩, hb.mono hgs.bk.B_le⟩
  have hn2 : n ≤ 1048576 := by have := hgs.l4; omega
  have hinI : (i : Int) < n := by omega
  have hnz : ((n : Int) == 0) = false := by simp; omega
  obtain ⟨⟨x0, x1, x2, x3, x4⟩, x5, x6, x7, x8, x9, x10⟩ := HOP.out w1 (Below.refl _ _)
  clear hw1 hb1 hs1 hg hg1 hown hno hi hn hv hgs hne hmt
  go_enter Tryz.func38, Tryz.ntmps38
  go_upto_region 1 with (fail)
  rw [← HW.out]
  go_upto_region 10 with (fail)
  go_region_held3 (fun w' => w'.cell? ⟨g, 0, none⟩ = some (.slice (some ⟨A, 0, none⟩) n cA) ∧ w'.cell? ⟨w.heap.size, 1, none⟩ = some (.int .i64 wh) ∧ w'.cell? ⟨A, i * 8, none⟩ = some (.pointer (some ⟨m, 0, none⟩)) ∧ w'.cell? ⟨A, i * 8 + 1, none⟩ = some (.bool t.front) ∧ w'.cell? ⟨A, i * 8 + 2, none⟩ = some (.bool t.back) ∧ w'.cell? ⟨A, i * 8 + 3, none⟩ = some (.int .i64 t.start) ∧ w'.cell? ⟨A, i * 8 + 4, none⟩ = some (.string (ba t.cls)) ∧ w'.cell? ⟨A, i * 8 + 5, none⟩ = some (.slice aa t.acc.length ca) ∧ w'.cell? ⟨A, i * 8 + 6, none⟩ = some (.slice an t.next.length cn) ∧ w'.cell? ⟨A, i * 8 + 7, none⟩ = some (.bool false)) (go_keep) ((go_at_call 65; refine (HPK.out _).mono ?_; rintro e w' ⟨rfl, hw'⟩; obtain rfl := hw'.symm))
  all_goals
    obtain ⟨w2, hw2⟩ : ∃ w2, w2 = (w1.alloc (.cells #[.pointer (some ⟨m, 0, none⟩), .bool t.front, .bool t.back, .int .i64 t.start, .string (ba t.cls), .slice aa t.acc.length ca, .slice an t.next.length cn, .bool false] 133)).drew := ⟨_, rfl⟩
    rw [← hw2]
    have hb2 : Below w1.heap.size w1 w2 := by rw [hw2]; exact ((Below.refl _ _).alloc (Nat.le_refl _) _).drew
    have he2 : w2.heap[w1.heap.size]? = some (.cells #[.pointer (some ⟨m, 0, none⟩), .bool t.front, .bool t.back, .int .i64 t.start, .string (ba t.cls), .slice aa t.acc.length ca, .slice an t.next.length cn, .bool false] 133) := by rw [hw2]; exact heap_alloc_new w1 _
    have t0 : w2.cell? ⟨w1.heap.size, 0, none⟩ = some (.pointer (some ⟨m, 0, none⟩)) := by simp [World.cell?, he2]
    have t1 : w2.cell? ⟨w1.heap.size, 1, none⟩ = some (.bool t.front) := by simp [World.cell?, he2]
    have t2 : w2.cell? ⟨w1.heap.size, 2, none⟩ = some (.bool t.back) := by simp [World.cell?, he2]
    have t3 : w2.cell? ⟨w1.heap.size, 3, none⟩ = some (.int .i64 t.start) := by simp [World.cell?, he2]
    have t4 : w2.cell? ⟨w1.heap.size, 4, none⟩ = some (.string (ba t.cls)) := by simp [World.cell?, he2]
    have t5 : w2.cell? ⟨w1.heap.size, 5, none⟩ = some (.slice aa t.acc.length ca) := by simp [World.cell?, he2]
    have t6 : w2.cell? ⟨w1.heap.size, 6, none⟩ = some (.slice an t.next.length cn) := by simp [World.cell?, he2]
    have t7 : w2.cell? ⟨w1.heap.size, 7, none⟩ = some (.bool false) := by simp [World.cell?, he2]
    obtain ⟨⟨z0, z1, z2, z3, z4⟩, z5, z6, z7, z8, z9, z10⟩ := HOP.out w2 hb2
    have HB2 : Hid (Below w.heap.size w w2) := HBW.out w2 hb2
    clear x0 x1 x2 x3 x4 x5 x6 x7 x8 x9 x10 e0 e1 e2 e3 e4 e5 e6 e7 c0 hw2 hb2 he2
    cases q3 : (k == 3) with
    | true =>
      go_wp2_with (go_at_call 67; refine (HAS.out _ HB2.out).mono ?_; rintro e w4 ⟨rfl, hg4⟩; have HG4 : Hid (Gm X B w4 g (s + 1) ∧ Below B w w4) := hg4; clear hg4)
      go_ret
      exact ⟨rfl, HG4.out⟩
    | false =>
    cases q8 : (k == 8) with
    | true =>
      go_wp2_with (go_at_call 67; refine (HAS.out _ HB2.out).mono ?_; rintro e w4 ⟨rfl, hg4⟩; have HG4 : Hid (Gm X B w4 g (s + 1) ∧ Below B w w4) := hg4; clear hg4)
      go_ret
      exact ⟨rfl, HG4.out⟩
    | false =>
    cases q4 : (k == 4) with
    | true =>
      go_wp2_with (go_at_call 68; refine (HSE.out _ HB2.out).mono ?_; rintro e w4 ⟨rfl, hg4⟩; have HG4 : Hid (Gm X B w4 g (s + 1) ∧ Below B w w4) := hg4; clear hg4)
      go_ret
      exact ⟨rfl, HG4.out⟩
    | false =>
    cases q5 : (k == 5) with
    | true =>
      go_wp2_with (go_at_call 68; refine (HSE.out _ HB2.out).mono ?_; rintro e w4 ⟨rfl, hg4⟩; have HG4 : Hid (Gm X B w4 g (s + 1) ∧ Below B w w4) := hg4; clear hg4)
      go_ret
      exact ⟨rfl, HG4.out⟩
    | false =>
    cases q6 : (k == 6) with
    | true =>
      go_wp2_with (go_at_call 68; refine (HSE.out _ HB2.out).mono ?_; rintro e w4 ⟨rfl, hg4⟩; have HG4 : Hid (Gm X B w4 g (s + 1) ∧ Below B w w4) := hg4; clear hg4)
      go_ret
      exact ⟨rfl, HG4.out⟩
    | false =>
    cases q9 : (k == 9) with
    | true =>
      go_wp2_with (go_at_call 69; refine (HAG.out _ HB2.out).mono ?_; rintro e w4 ⟨rfl, hg4⟩; have HG4 : Hid (Gm X B w4 g (s + 1) ∧ Below B w w4) := hg4; clear hg4)
      go_ret
      exact ⟨rfl, HG4.out⟩
    | false =>
    have hfin := HNO.out w2 HB2.out
    have HG4 : Hid (Gm X B w2 g (s + 1) ∧ Below B w w2) := hfin
    clear hfin
    go_wp2
    go_ret
    exact ⟨rfl, HG4.out⟩
end Go.Proofs.YtbjabpodkaokjaaGreatDoor
