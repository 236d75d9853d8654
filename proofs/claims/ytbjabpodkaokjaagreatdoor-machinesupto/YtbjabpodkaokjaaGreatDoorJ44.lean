import Derived.Test.YtbjabpodkaokjaaGreatDoorJ43
import Derived.Test.YtbjabpodkaokjaaGreatDoorJ40
set_option linter.unusedVariables false
set_option linter.unusedSimpArgs false
namespace Go.Proofs.YtbjabpodkaokjaaGreatDoor
open Go.RowKit

set_option maxRecDepth 4000 in
set_option maxHeartbeats 8000000 in
theorem makes_yes (X : World → Prop) (B : Nat) (w : World) (g s : Nat) (hg : Gm X B w g s) (hs : s ≤ 1048576) (wh a : Int) (big : Bool) (tx : List UInt8) (o : Tb) (oa oca on ocn : _) (ho : TabIn w o (.slice oa o.acc.length oca) (.slice on o.next.length ocn)) (ha : o.acc.length ≤ 1048576) (hn : o.next.length ≤ 1048576) (hr : ∀ r ∈ o.next, r.length ≤ 1048576) (hc : o.cls.length ≤ 1048576) (hf : isTb o = true) :
    Calls Tryz.prog 64 #[.pointer (some ⟨g, 0, none⟩), opV 1 wh a big tx o (.slice oa o.acc.length oca) (.slice on o.next.length ocn)] w fun e w' => e = .returned (.bool true) ∧ Gm X B w' g (s + 1) ∧ Below B w w' := by
  obtain ⟨ρ, N, vs, d, tw, hgs⟩ := hg
  have hsm := small_of ha hn hr hc
  obtain ⟨w1, hw1⟩ : ∃ w1, w1 = w.alloc (.cells (opC 1 wh a big tx o (.slice oa o.acc.length oca) (.slice on o.next.length ocn)) 80) := ⟨_, rfl⟩
  have hb1 : Below w.heap.size w w1 := by rw [hw1]; exact (Below.refl _ _).alloc (Nat.le_refl _) _
  have hs1 : w1.heap.size = w.heap.size + 1 := by rw [hw1]; simp
  have HOP : Hid (∀ w', Below w1.heap.size w1 w' → w'.cell? ⟨w.heap.size, 5, none⟩ = some (.bool o.front) ∧ w'.cell? ⟨w.heap.size, 6, none⟩ = some (.bool o.back) ∧ w'.cell? ⟨w.heap.size, 7, none⟩ = some (.int .i64 o.start) ∧ w'.cell? ⟨w.heap.size, 8, none⟩ = some (.string (ba o.cls)) ∧ w'.cell? ⟨w.heap.size, 9, none⟩ = some (.slice oa o.acc.length oca) ∧ w'.cell? ⟨w.heap.size, 10, none⟩ = some (.slice on o.next.length ocn)) := fun w' hb => by
    have e0 : w'.heap[w.heap.size]? = some (.cells (opC 1 wh a big tx o (.slice oa o.acc.length oca) (.slice on o.next.length ocn)) 80) := by
      rw [hb.block _ (by omega), hw1]; exact heap_alloc_new w _
    exact ⟨by simp [World.cell?, e0], by simp [World.cell?, e0], by simp [World.cell?, e0], by simp [World.cell?, e0], by simp [World.cell?, e0], by simp [World.cell?, e0]⟩
  have HW : Hid (w1 = w.alloc (.cells (opC 1 wh a big tx o (.slice oa o.acc.length oca) (.slice on o.next.length ocn)) 80)) := hw1
  have HBW : Hid (∀ w', Below w1.heap.size w1 w' → Below w.heap.size w w') := fun w' hb => hb1.trans (hb.mono (by omega))
  have HGS : Hid (Gs X B w g s ρ N vs d tw) := hgs
  have HO1 : Hid (TabIn w1 o (.slice oa o.acc.length oca) (.slice on o.next.length ocn)) := ho.below hb1
  have HSM : Hid (Small o) := hsm
  have HBD : Hid ((o.acc.length ≤ 1048576 ∧ o.next.length ≤ 1048576) ∧ (∀ r ∈ o.next, r.length ≤ 1048576) ∧ o.cls.length ≤ 1048576) := ⟨⟨ha, hn⟩, hr, hc⟩
  have HLE : Hid (Calls Tryz.prog 112 #[tv o (.slice oa o.acc.length oca) (.slice on o.next.length ocn)] w1 fun e w' => e = .returned (tv o (.slice (some ⟨w1.heap.size + 3, 0, none⟩) o.acc.length (o.acc.length + 8)) (.slice (some ⟨w1.heap.size + 4, 0, none⟩) o.next.length (o.next.length + 8))) ∧ Lnt w1.heap.size w' o ∧ Below w1.heap.size w1 w') := lent_any w1 o _ _ (ho.below hb1) ha hn hr
  have HF : Hid (isTb o = true) := hf
  clear hw1 hb1 hs1 ho hgs hsm hf hr hc ha hn
  go_enter Tryz.func64, Tryz.ntmps64
  go_upto_region 4 with (go_at_call 112; rw [← HW.out]; refine HLE.out.mono ?_; rintro e w2 ⟨rfl, hl2, hb2⟩; have HL2 : Hid (Lnt w1.heap.size w2 o) := hl2; have HB2 : Hid (Below w1.heap.size w1 w2) := hb2; clear hl2 hb2)
  obtain ⟨w3, hw3⟩ : ∃ w3, w3 = w2.alloc (.cells #[.bool o.front, .bool o.back, .int .i64 o.start, .string (ba o.cls), .slice (some ⟨w1.heap.size + 3, 0, none⟩) o.acc.length (o.acc.length + 8), .slice (some ⟨w1.heap.size + 4, 0, none⟩) o.next.length (o.next.length + 8)] 33) := ⟨_, rfl⟩
  rw [← hw3]
  have hb3 : Below w2.heap.size w2 w3 := by rw [hw3]; exact (Below.refl _ _).alloc (Nat.le_refl _) _
  have HY3 : Hid (∀ w', Below w3.heap.size w3 w' → w'.heap[w2.heap.size]? = some (.cells #[.bool o.front, .bool o.back, .int .i64 o.start, .string (ba o.cls), .slice (some ⟨w1.heap.size + 3, 0, none⟩) o.acc.length (o.acc.length + 8), .slice (some ⟨w1.heap.size + 4, 0, none⟩) o.next.length (o.next.length + 8)] 33)) := fun w' hb => by
    rw [hb.block _ (by rw [hw3]; simp), hw3]
    exact heap_alloc_new w2 _
  have HB3 : Hid (Below w1.heap.size w1 w3) := HB2.out.trans (hb3.mono HB2.out.size)
  have HL3 : Hid (Lnt w1.heap.size w3 o) := HL2.out.below hb3
  have HLS : Hid (w1.heap.size + 13 + o.next.length ≤ w3.heap.size) := HL3.out.sz
  have HW3S : Hid (w.heap.size ≤ w3.heap.size) := (HBW.out _ HB3.out).size
  have HBU : Hid (Calls Tryz.prog 62 #[tv o (.slice (some ⟨w1.heap.size + 3, 0, none⟩) o.acc.length (o.acc.length + 8)) (.slice (some ⟨w1.heap.size + 4, 0, none⟩) o.next.length (o.next.length + 8))] w3 fun e w' => ∃ m c, e = .returned (.tuple #[.pointer (some ⟨m, 0, none⟩), .int .i64 0]) ∧ (∀ w2, Hi w3.heap.size w' w2 → Mch w2 m o c) ∧ w3.heap.size ≤ m ∧ Below w3.heap.size w3 w') := build_yesN w3 o _ _ HL3.out.tab HSM.out HF.out
  obtain ⟨y0, y1, y2, y3, y4, y5⟩ := box6 (HY3.out w3 (Below.refl _ _))
  clear hw3 hb3
  go_upto_region 6 with (first | (go_at_call 113; refine (kept_any w1 w4 o _ _ HO1.out HB4.out HL4.out HBD.out.1.1 HBD.out.1.2 HBD.out.2.1 HBD.out.2.2).mono ?_; rintro e w5 ⟨rfl, hk5⟩; have HH45 : Hid (Hi w3.heap.size w4 w5) := ⟨hk5.bl.size, fun k h1 h2 => hk5.far k h2 (by have := HLS.out; omega) (by have := HLS.out; omega)⟩; have HB5 : Hid (Below w1.heap.size w1 w5) := HB4.out.trans hk5.bl; obtain ⟨q0, q1, q2, q3, q4, q5⟩ := HOP.out w5 HB5.out; clear hk5) | (go_at_call 62; refine HBU.out.mono ?_; rintro e w4 ⟨m, c, rfl, hm4, _, hb4⟩; have HM4 : Hid (∀ w2, Hi w3.heap.size w4 w2 → Mch w2 m o c) := hm4; have HB4 : Hid (Below w1.heap.size w1 w4) := HB3.out.trans (hb4.mono HB3.out.size); have HL4 : Hid (Lnt w1.heap.size w4 o) := HL3.out.below hb4; obtain ⟨z0, z1, z2, z3, z4, z5⟩ := box6 (HY3.out w4 hb4); obtain ⟨x0, x1, x2, x3, x4, x5⟩ := HOP.out w4 HB4.out; clear hb4))
  clear x0 x1 x2 x3 x4 x5 y0 y1 y2 y3 y4 y5 z0 z1 z2 z3 z4 z5
  have HIT := isTable_ref w5 o _ _ (HO1.out.below HB5.out) HSM.out
  rw [HF.out] at HIT
  go_wp2_with (first | (go_at_call 115; refine (made_yes X B w w7 g s ρ N vs d tw HGS.out (HBW.out _ HB7.out) hs m o c aa ca an cn (fun w2 k => HM4.out w2 (HH47.out.trans (k.mono HW3S.out))) (fun w2 k => HT7.out w2 (k.mono HW6S.out))).mono ?_; rintro e w8 ⟨rfl, hg8, hb8⟩; have HG8 : Hid (Gm X B w8 g (s + 1) ∧ Below B w w8) := ⟨hg8, ((HBW.out _ HB7.out).mono HGS.out.bk.B_le).trans hb8⟩; clear hg8 hb8) | (go_at_call 116; refine (copied_any w6 o _ _ (HO1.out.below HB6.out) HBD.out.1.1 HBD.out.1.2 HBD.out.2.1).mono ?_; rintro e w7 ⟨aa, ca, an, cn, rfl, ht7, hb7⟩; have HT7 : Hid (∀ w2, Hi w6.heap.size w7 w2 → TabIn w2 o (.slice aa o.acc.length ca) (.slice an o.next.length cn)) := ht7; have HH47 : Hid (Hi w3.heap.size w4 w7) := (HH46.out.trans (Hi.of_below hb7)); have HW6S : Hid (w.heap.size ≤ w6.heap.size) := (HBW.out _ HB6.out).size; have HB7 : Hid (Below w1.heap.size w1 w7) := HB6.out.trans (hb7.mono HB6.out.size); clear ht7 hb7) | (go_at_call 114; refine HIT.mono ?_; rintro e w6 ⟨rfl, hb6⟩; have HH46 : Hid (Hi w3.heap.size w4 w6) := (HH45.out.trans (Hi.of_below hb6)); have HB6 : Hid (Below w1.heap.size w1 w6) := HB5.out.trans (hb6.mono HB5.out.size); clear q0 q1 q2 q3 q4 q5; obtain ⟨q0, q1, q2, q3, q4, q5⟩ := HOP.out w6 HB6.out; clear hb6))
  go_ret
  exact ⟨rfl, HG8.out⟩
set_option maxRecDepth 4000 in
set_option maxHeartbeats 8000000 in
theorem makes_no (X : World → Prop) (B : Nat) (w : World) (g s : Nat) (hg : Gm X B w g s) (hs : s ≤ 1048576) (wh a : Int) (big : Bool) (tx : List UInt8) (o : Tb) (oa oca on ocn : _) (ho : TabIn w o (.slice oa o.acc.length oca) (.slice on o.next.length ocn)) (ha : o.acc.length ≤ 1048576) (hn : o.next.length ≤ 1048576) (hr : ∀ r ∈ o.next, r.length ≤ 1048576) (hc : o.cls.length ≤ 1048576) (hf : isTb o = false) :
    Calls Tryz.prog 64 #[.pointer (some ⟨g, 0, none⟩), opV 1 wh a big tx o (.slice oa o.acc.length oca) (.slice on o.next.length ocn)] w fun e w' => e = .returned (.bool true) ∧ Gm X B w' g (s + 1) ∧ Below B w w' := by
  obtain ⟨ρ, N, vs, d, tw, hgs⟩ := hg
  have hsm := small_of ha hn hr hc
  obtain ⟨w1, hw1⟩ : ∃ w1, w1 = w.alloc (.cells (opC 1 wh a big tx o (.slice oa o.acc.length oca) (.slice on o.next.length ocn)) 80) := ⟨_, rfl⟩
  have hb1 : Below w.heap.size w w1 := by rw [hw1]; exact (Below.refl _ _).alloc (Nat.le_refl _) _
  have hs1 : w1.heap.size = w.heap.size + 1 := by rw [hw1]; simp
  have HOP : Hid (∀ w', Below w1.heap.size w1 w' → w'.cell? ⟨w.heap.size, 5, none⟩ = some (.bool o.front) ∧ w'.cell? ⟨w.heap.size, 6, none⟩ = some (.bool o.back) ∧ w'.cell? ⟨w.heap.size, 7, none⟩ = some (.int .i64 o.start) ∧ w'.cell? ⟨w.heap.size, 8, none⟩ = some (.string (ba o.cls)) ∧ w'.cell? ⟨w.heap.size, 9, none⟩ = some (.slice oa o.acc.length oca) ∧ w'.cell? ⟨w.heap.size, 10, none⟩ = some (.slice on o.next.length ocn)) := fun w' hb => by
    have e0 : w'.heap[w.heap.size]? = some (.cells (opC 1 wh a big tx o (.slice oa o.acc.length oca) (.slice on o.next.length ocn)) 80) := by
      rw [hb.block _ (by omega), hw1]; exact heap_alloc_new w _
    exact ⟨by simp [World.cell?, e0], by simp [World.cell?, e0], by simp [World.cell?, e0], by simp [World.cell?, e0], by simp [World.cell?, e0], by simp [World.cell?, e0]⟩
  have HW : Hid (w1 = w.alloc (.cells (opC 1 wh a big tx o (.slice oa o.acc.length oca) (.slice on o.next.length ocn)) 80)) := hw1
  have HBW : Hid (∀ w', Below w1.heap.size w1 w' → Below w.heap.size w w') := fun w' hb => hb1.trans (hb.mono (by omega))
  have HGS : Hid (Gs X B w g s ρ N vs d tw) := hgs
  have HO1 : Hid (TabIn w1 o (.slice oa o.acc.length oca) (.slice on o.next.length ocn)) := ho.below hb1
  have HSM : Hid (Small o) := hsm
  have HBD : Hid ((o.acc.length ≤ 1048576 ∧ o.next.length ≤ 1048576) ∧ (∀ r ∈ o.next, r.length ≤ 1048576) ∧ o.cls.length ≤ 1048576) := ⟨⟨ha, hn⟩, hr, hc⟩
  have HLE : Hid (Calls Tryz.prog 112 #[tv o (.slice oa o.acc.length oca) (.slice on o.next.length ocn)] w1 fun e w' => e = .returned (tv o (.slice (some ⟨w1.heap.size + 3, 0, none⟩) o.acc.length (o.acc.length + 8)) (.slice (some ⟨w1.heap.size + 4, 0, none⟩) o.next.length (o.next.length + 8))) ∧ Lnt w1.heap.size w' o ∧ Below w1.heap.size w1 w') := lent_any w1 o _ _ (ho.below hb1) ha hn hr
  have HF : Hid (isTb o = false) := hf
  clear hw1 hb1 hs1 ho hgs hsm hf hr hc ha hn
  go_enter Tryz.func64, Tryz.ntmps64
  go_upto_region 4 with (go_at_call 112; rw [← HW.out]; refine HLE.out.mono ?_; rintro e w2 ⟨rfl, hl2, hb2⟩; have HL2 : Hid (Lnt w1.heap.size w2 o) := hl2; have HB2 : Hid (Below w1.heap.size w1 w2) := hb2; clear hl2 hb2)
  obtain ⟨w3, hw3⟩ : ∃ w3, w3 = w2.alloc (.cells #[.bool o.front, .bool o.back, .int .i64 o.start, .string (ba o.cls), .slice (some ⟨w1.heap.size + 3, 0, none⟩) o.acc.length (o.acc.length + 8), .slice (some ⟨w1.heap.size + 4, 0, none⟩) o.next.length (o.next.length + 8)] 33) := ⟨_, rfl⟩
  rw [← hw3]
  have hb3 : Below w2.heap.size w2 w3 := by rw [hw3]; exact (Below.refl _ _).alloc (Nat.le_refl _) _
  have HY3 : Hid (∀ w', Below w3.heap.size w3 w' → w'.heap[w2.heap.size]? = some (.cells #[.bool o.front, .bool o.back, .int .i64 o.start, .string (ba o.cls), .slice (some ⟨w1.heap.size + 3, 0, none⟩) o.acc.length (o.acc.length + 8), .slice (some ⟨w1.heap.size + 4, 0, none⟩) o.next.length (o.next.length + 8)] 33)) := fun w' hb => by
    rw [hb.block _ (by rw [hw3]; simp), hw3]
    exact heap_alloc_new w2 _
  have HB3 : Hid (Below w1.heap.size w1 w3) := HB2.out.trans (hb3.mono HB2.out.size)
  have HL3 : Hid (Lnt w1.heap.size w3 o) := HL2.out.below hb3
  have HLS : Hid (w1.heap.size + 13 + o.next.length ≤ w3.heap.size) := HL3.out.sz
  have HW3S : Hid (w.heap.size ≤ w3.heap.size) := (HBW.out _ HB3.out).size
  have HBU : Hid (Calls Tryz.prog 62 #[tv o (.slice (some ⟨w1.heap.size + 3, 0, none⟩) o.acc.length (o.acc.length + 8)) (.slice (some ⟨w1.heap.size + 4, 0, none⟩) o.next.length (o.next.length + 8))] w3 fun e w' => e = .returned (.tuple #[.pointer none, .int .i64 5]) ∧ Below w3.heap.size w3 w') := build_no w3 o _ _ HL3.out.tab HSM.out HF.out
  obtain ⟨y0, y1, y2, y3, y4, y5⟩ := box6 (HY3.out w3 (Below.refl _ _))
  clear hw3 hb3
  go_upto_region 6 with (first | (go_at_call 113; refine (kept_any w1 w4 o _ _ HO1.out HB4.out HL4.out HBD.out.1.1 HBD.out.1.2 HBD.out.2.1 HBD.out.2.2).mono ?_; rintro e w5 ⟨rfl, hk5⟩; have HB5 : Hid (Below w1.heap.size w1 w5) := HB4.out.trans hk5.bl; obtain ⟨q0, q1, q2, q3, q4, q5⟩ := HOP.out w5 HB5.out; clear hk5) | (go_at_call 62; refine HBU.out.mono ?_; rintro e w4 ⟨rfl, hb4⟩; have HB4 : Hid (Below w1.heap.size w1 w4) := HB3.out.trans (hb4.mono HB3.out.size); have HL4 : Hid (Lnt w1.heap.size w4 o) := HL3.out.below hb4; obtain ⟨z0, z1, z2, z3, z4, z5⟩ := box6 (HY3.out w4 hb4); obtain ⟨x0, x1, x2, x3, x4, x5⟩ := HOP.out w4 HB4.out; clear hb4))
  clear x0 x1 x2 x3 x4 x5 y0 y1 y2 y3 y4 y5 z0 z1 z2 z3 z4 z5
  have HIT := isTable_ref w5 o _ _ (HO1.out.below HB5.out) HSM.out
  rw [HF.out] at HIT
  go_wp2_with (first | (go_at_call 115; refine (made_no w7 _ 5 (by decide) o _ _).mono ?_; rintro e w8 ⟨rfl, hb8⟩; have HG8 : Hid (Gm X B w8 g (s + 1) ∧ Below B w w8) := ⟨(Gm.below ⟨_, _, _, _, _, HGS.out⟩ ((HBW.out _ HB7.out).trans (hb8.mono (HBW.out _ HB7.out).size))).more, ((HBW.out _ HB7.out).trans (hb8.mono (HBW.out _ HB7.out).size)).mono HGS.out.bk.B_le⟩; clear hb8) | (go_at_call 116; refine (copied_any w6 o _ _ (HO1.out.below HB6.out) HBD.out.1.1 HBD.out.1.2 HBD.out.2.1).mono ?_; rintro e w7 ⟨aa, ca, an, cn, rfl, ht7, hb7⟩; have HT7 : Hid (∀ w2, Hi w6.heap.size w7 w2 → TabIn w2 o (.slice aa o.acc.length ca) (.slice an o.next.length cn)) := ht7; have HB7 : Hid (Below w1.heap.size w1 w7) := HB6.out.trans (hb7.mono HB6.out.size); clear ht7 hb7) | (go_at_call 114; refine HIT.mono ?_; rintro e w6 ⟨rfl, hb6⟩; have HB6 : Hid (Below w1.heap.size w1 w6) := HB5.out.trans (hb6.mono HB5.out.size); clear q0 q1 q2 q3 q4 q5; obtain ⟨q0, q1, q2, q3, q4, q5⟩ := HOP.out w6 HB6.out; clear hb6))
  go_ret
  exact ⟨rfl, HG8.out⟩
end Go.Proofs.YtbjabpodkaokjaaGreatDoor
