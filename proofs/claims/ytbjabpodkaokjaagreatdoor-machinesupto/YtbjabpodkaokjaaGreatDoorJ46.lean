import Derived.Test.YtbjabpodkaokjaaGreatDoorJ45
set_option linter.unusedVariables false
set_option linter.unusedSimpArgs false
namespace Go.Proofs.YtbjabpodkaokjaaGreatDoor
open Go.RowKit

set_option maxRecDepth 4000 in
set_option maxHeartbeats 8000000 in
theorem does_makes (X : World → Prop) (B : Nat) (w : World) (g s : Nat) (hg : Gm X B w g s) (hs : s ≤ 1048576) (k wh a : Int) (big : Bool) (tx : List UInt8) (o : Tb) (oa oca on ocn : _) (hk : k = 1 ∨ k = 7) (hmk : ∀ w, Gm X B w g s → (TabIn w o (.slice oa o.acc.length oca) (.slice on o.next.length ocn)) → Calls Tryz.prog 64 #[.pointer (some ⟨g, 0, none⟩), opV k wh a big tx o (.slice oa o.acc.length oca) (.slice on o.next.length ocn)] w fun e w' => e = .returned (.bool true) ∧ Gm X B w' g (s + 1) ∧ Below B w w') (ho : TabIn w o (.slice oa o.acc.length oca) (.slice on o.next.length ocn)) :
    Calls Tryz.prog 38 #[.pointer (some ⟨g, 0, none⟩), opV k wh a big tx o (.slice oa o.acc.length oca) (.slice on o.next.length ocn)] w fun e w' => e = .returned (.bool true) ∧ Gm X B w' g (s + 1) ∧ Below B w w' := by
  obtain ⟨w1, hw1⟩ : ∃ w1, w1 = w.alloc (.cells (opC k wh a big tx o (.slice oa o.acc.length oca) (.slice on o.next.length ocn)) 80) := ⟨_, rfl⟩
  have hb1 : Below w.heap.size w w1 := by rw [hw1]; exact (Below.refl _ _).alloc (Nat.le_refl _) _
  have hs1 : w1.heap.size = w.heap.size + 1 := by rw [hw1]; simp
  have HOB : Hid (∀ w', Below w1.heap.size w1 w' → w'.heap[w.heap.size]? = some (.cells (opC k wh a big tx o (.slice oa o.acc.length oca) (.slice on o.next.length ocn)) 80)) := fun w' hb => by
    rw [hb.block _ (by omega), hw1]; exact heap_alloc_new w _
  have HOP : Hid (∀ w', Below w1.heap.size w1 w' → (w'.cell? ⟨w.heap.size, 0, none⟩ = some (.int .i64 k) ∧ w'.cell? ⟨w.heap.size, 1, none⟩ = some (.int .i64 wh) ∧ w'.cell? ⟨w.heap.size, 2, none⟩ = some (.int .i64 a) ∧ w'.cell? ⟨w.heap.size, 3, none⟩ = some (.bool big) ∧ w'.cell? ⟨w.heap.size, 4, none⟩ = some (.string (ba tx))) ∧ w'.cell? ⟨w.heap.size, 5, none⟩ = some (.bool o.front) ∧ w'.cell? ⟨w.heap.size, 6, none⟩ = some (.bool o.back) ∧ w'.cell? ⟨w.heap.size, 7, none⟩ = some (.int .i64 o.start) ∧ w'.cell? ⟨w.heap.size, 8, none⟩ = some (.string (ba o.cls)) ∧ w'.cell? ⟨w.heap.size, 9, none⟩ = some (.slice oa o.acc.length oca) ∧ w'.cell? ⟨w.heap.size, 10, none⟩ = some (.slice on o.next.length ocn)) := fun w' hb => by
    have e0 := HOB.out w' hb
    exact ⟨⟨by simp [World.cell?, e0], by simp [World.cell?, e0], by simp [World.cell?, e0], by simp [World.cell?, e0], by simp [World.cell?, e0]⟩, by simp [World.cell?, e0], by simp [World.cell?, e0], by simp [World.cell?, e0], by simp [World.cell?, e0], by simp [World.cell?, e0], by simp [World.cell?, e0]⟩
  have HW : Hid (w1 = w.alloc (.cells (opC k wh a big tx o (.slice oa o.acc.length oca) (.slice on o.next.length ocn)) 80)) := hw1
  have HBW : Hid (∀ w', Below w1.heap.size w1 w' → Below w.heap.size w w') := fun w' hb => hb1.trans (hb.mono (by omega))
  have HMK : Hid (Calls Tryz.prog 64 #[.pointer (some ⟨g, 0, none⟩), opV k wh a big tx o (.slice oa o.acc.length oca) (.slice on o.next.length ocn)] w1 fun e w' => e = .returned (.bool true) ∧ Gm X B w' g (s + 1) ∧ Below B w1 w') := hmk w1 (hg.below hb1) (ho.below hb1)
  have HBB : Hid (Below B w w1) := hb1.mono hg.B_le
  obtain ⟨⟨x0, x1, x2, x3, x4⟩, x5, x6, x7, x8, x9, x10⟩ := HOP.out w1 (Below.refl _ _)
  clear hw1 hb1 hs1 hmk ho hg
  rcases hk with rfl | rfl
  all_goals
    go_enter Tryz.func38, Tryz.ntmps38
    go_wp2_with (go_at_call 64; rw [← HW.out]; refine HMK.out.mono ?_; rintro e w2 ⟨rfl, hg2, hb2⟩; have HG2 : Hid (Gm X B w2 g (s + 1) ∧ Below B w w2) := ⟨hg2, HBB.out.trans hb2⟩; clear hg2 hb2)
    go_ret
    exact ⟨rfl, HG2.out⟩
set_option maxRecDepth 4000 in
set_option maxHeartbeats 8000000 in
theorem does_nobody (X : World → Prop) (B : Nat) (w : World) (g s : Nat) (hg : Gm X B w g s) (hs : s ≤ 1048576) (k wh a : Int) (big : Bool) (tx : List UInt8) (o : Tb) (oa oca on ocn : _) (hk : k = 2) :
    Calls Tryz.prog 38 #[.pointer (some ⟨g, 0, none⟩), opV k wh a big tx o (.slice oa o.acc.length oca) (.slice on o.next.length ocn)] w fun e w' => e = .returned (.bool true) ∧ Gm X B w' g (s + 1) ∧ Below B w w' := by
  subst hk
  obtain ⟨ρ, N, vs, d, tw, hgs⟩ := hg
  obtain ⟨w1, hw1⟩ : ∃ w1, w1 = w.alloc (.cells (opC 2 wh a big tx o (.slice oa o.acc.length oca) (.slice on o.next.length ocn)) 80) := ⟨_, rfl⟩
  have hb1 : Below w.heap.size w w1 := by rw [hw1]; exact (Below.refl _ _).alloc (Nat.le_refl _) _
  have hs1 : w1.heap.size = w.heap.size + 1 := by rw [hw1]; simp
  have HOB : Hid (∀ w', Below w1.heap.size w1 w' → w'.heap[w.heap.size]? = some (.cells (opC 2 wh a big tx o (.slice oa o.acc.length oca) (.slice on o.next.length ocn)) 80)) := fun w' hb => by
    rw [hb.block _ (by omega), hw1]; exact heap_alloc_new w _
  have HOP : Hid (∀ w', Below w1.heap.size w1 w' → (w'.cell? ⟨w.heap.size, 0, none⟩ = some (.int .i64 2) ∧ w'.cell? ⟨w.heap.size, 1, none⟩ = some (.int .i64 wh) ∧ w'.cell? ⟨w.heap.size, 2, none⟩ = some (.int .i64 a) ∧ w'.cell? ⟨w.heap.size, 3, none⟩ = some (.bool big) ∧ w'.cell? ⟨w.heap.size, 4, none⟩ = some (.string (ba tx))) ∧ w'.cell? ⟨w.heap.size, 5, none⟩ = some (.bool o.front) ∧ w'.cell? ⟨w.heap.size, 6, none⟩ = some (.bool o.back) ∧ w'.cell? ⟨w.heap.size, 7, none⟩ = some (.int .i64 o.start) ∧ w'.cell? ⟨w.heap.size, 8, none⟩ = some (.string (ba o.cls)) ∧ w'.cell? ⟨w.heap.size, 9, none⟩ = some (.slice oa o.acc.length oca) ∧ w'.cell? ⟨w.heap.size, 10, none⟩ = some (.slice on o.next.length ocn)) := fun w' hb => by
    have e0 := HOB.out w' hb
    exact ⟨⟨by simp [World.cell?, e0], by simp [World.cell?, e0], by simp [World.cell?, e0], by simp [World.cell?, e0], by simp [World.cell?, e0]⟩, by simp [World.cell?, e0], by simp [World.cell?, e0], by simp [World.cell?, e0], by simp [World.cell?, e0], by simp [World.cell?, e0], by simp [World.cell?, e0]⟩
  have HW : Hid (w1 = w.alloc (.cells (opC 2 wh a big tx o (.slice oa o.acc.length oca) (.slice on o.next.length ocn)) 80)) := hw1
  have HBW : Hid (∀ w', Below w1.heap.size w1 w' → Below w.heap.size w w') := fun w' hb => hb1.trans (hb.mono (by omega))
  have hg1 := hgs.below hb1
  obtain ⟨vA, hvA⟩ : ∃ v, v = vs 0 := ⟨_, rfl⟩
  obtain ⟨n, hn⟩ : ∃ n, n = tw.length := ⟨_, rfl⟩
  have c0 := hg1.bk.cl 0 (by omega)
  rw [← hvA] at c0
  simp only [spO] at c0
  have HVA : Hid (vA = vs 0) := hvA
  have HN : Hid (n = tw.length) := hn
  have hn2 : n ≤ 1048576 := by have := hgs.l4; omega
  have HO : Hid (w1.ownsRow 0 133 8 vA n (tw.flatMap Tw.cells)) := by
    show World.ownsRow _ _ _ _ _ _ _
    rw [hvA, hn]; exact hg1.bk.own 0 (by omega)
  have HG : Hid (Gs X B w g s ρ N vs d tw) := hgs
  have HB1 : Hid (Below w.heap.size w w1) := hb1
  obtain ⟨i0, hi0, hz0, hz1, hz2⟩ := info_parts Tryz.infoTw
  obtain ⟨⟨x0, x1, x2, x3, x4⟩, x5, x6, x7, x8, x9, x10⟩ := HOP.out w1 (Below.refl _ _)
  clear hw1 hb1 hs1 hg1 hvA hn hgs
  go_enter Tryz.func38, Tryz.ntmps38
  go_upto_region 6 with (fail)
  rw [← HW.out]
  go_wp2_with (at_builtin; (refine wpList_append_str _ rfl (.tmp 38) (.tmp 40) 76 rfl 0 133 i0 _ 8 96 Tryz.underlying76 hi0 hz0 hz1 hz2 rfl (by decide) vA n (tw.flatMap Tw.cells) rfl (World.ownsRow.alloc HO.out _) ⟨w1.heap.size, 0, none⟩ 1 1 (Tw.cells .none) rfl rfl (World.news_of_block (heap_alloc_new w1 _)) (one_cell8 _ _ _ _ _ rfl rfl rfl) (by omega) (by unfold maxLen; omega) (by omega) (Nat.zero_le _) _ rfl ?_; intro g4 k4 w4 ho4 hc4 hl4; rw [HVA.out] at hc4; obtain ⟨hG4, e0, f0, hB4⟩ := HG.out.add (HB1.out.trans (((Below.refl _ _).alloc (Nat.le_refl _) _).mono HB1.out.size)) (t := .none) (fun w2 k => trivial) HN.out ho4 hl4 hc4; rw [← HVA.out] at e0; have HG4 : Hid (Gm X B (w4.setCell ⟨g, 0, none⟩ (.slice (some ⟨g4, 0, none⟩) (n + 1) k4)) g (s + 1) ∧ Below B w (w4.setCell ⟨g, 0, none⟩ (.slice (some ⟨g4, 0, none⟩) (n + 1) k4))) := ⟨hG4, ((HB1.out.trans (((Below.refl _ _).alloc (Nat.le_refl _) _).mono HB1.out.size)).mono HG.out.bk.B_le).trans hB4⟩; clear ho4 hc4 hG4 hB4))
  go_ret
  exact ⟨rfl, HG4.out⟩
end Go.Proofs.YtbjabpodkaokjaaGreatDoor
