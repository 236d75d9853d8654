import Derived.Test.YtbjabpodkaokjaaGreatDoorJ44
set_option linter.unusedVariables false
set_option linter.unusedSimpArgs false
namespace Go.Proofs.YtbjabpodkaokjaaGreatDoor
open Go.RowKit

theorem tb_fits : ∀ t, isTb t = true → ∃ c, Fits t c := fun t h => by
  obtain ⟨c, hok⟩ := tbOk_of h
  exact ⟨c, hok.fits⟩
set_option maxRecDepth 4000 in
set_option maxHeartbeats 8000000 in
theorem makes_load_no (X : World → Prop) (B : Nat) (w : World) (g s : Nat) (hg : Gm X B w g s) (wh a : Int) (big : Bool) (tx : List UInt8) (htx : tx.length ≤ 1048576) (o : Tb) (oa oca on ocn : _) (hl : loadM isTb tx = none) :
    Calls Tryz.prog 64 #[.pointer (some ⟨g, 0, none⟩), opV 7 wh a big tx o (.slice oa o.acc.length oca) (.slice on o.next.length ocn)] w fun e w' => e = .returned (.bool true) ∧ Gm X B w' g (s + 1) ∧ Below B w w' := by
  have hmx : tx.length ≤ maxLen := by unfold maxLen; omega
  obtain ⟨w1, hw1⟩ : ∃ w1, w1 = w.alloc (.cells (opC 7 wh a big tx o (.slice oa o.acc.length oca) (.slice on o.next.length ocn)) 80) := ⟨_, rfl⟩
  have hb1 : Below w.heap.size w w1 := by rw [hw1]; exact (Below.refl _ _).alloc (Nat.le_refl _) _
  have hs1 : w1.heap.size = w.heap.size + 1 := by rw [hw1]; simp
  have HOP : Hid (∀ w', Below w1.heap.size w1 w' → w'.cell? ⟨w.heap.size, 4, none⟩ = some (.string (ba tx))) := fun w' hb => by
    have e0 : w'.heap[w.heap.size]? = some (.cells (opC 7 wh a big tx o (.slice oa o.acc.length oca) (.slice on o.next.length ocn)) 80) := by
      rw [hb.block _ (by omega), hw1]; exact heap_alloc_new w _
    simp [World.cell?, e0]
  have HW : Hid (w1 = w.alloc (.cells (opC 7 wh a big tx o (.slice oa o.acc.length oca) (.slice on o.next.length ocn)) 80)) := hw1
  have HBW : Hid (∀ w', Below w1.heap.size w1 w' → Below w.heap.size w w') := fun w' hb => hb1.trans (hb.mono (by omega))
  have HG : Hid (Gm X B w g s) := hg
  have HLD : Hid (Calls Tryz.prog 35 #[.string (ba tx)] w1 fun e w' => e = .returned (.tuple #[.pointer none, .int .i64 6]) ∧ Below w1.heap.size w1 w') := load_none w1 tx hmx hl
  have HRL : Hid (∀ w', Calls Tryz.prog 117 #[.string (ba tx)] w' fun e w'' => e = .returned (.tuple #[tv Tn (.slice none 0 0) (.slice none 0 0), .int .i64 6]) ∧ Below w'.heap.size w' w'') := fun w' => by
    refine (rload_anyN w' tx hmx).mono ?_
    rintro e w'' ⟨h1, h2⟩
    unfold RefResN at h1
    rw [← load_ref tb_fits, hl] at h1
    exact ⟨h1, h2⟩
  clear hw1 hb1 hs1 hg hl
  go_enter Tryz.func64, Tryz.ntmps64
  go_upto_region 15 with (first | (go_at_call 117; refine (HRL.out w2).mono ?_; rintro e w3 ⟨rfl, hb3⟩; have HB3 : Hid (Below w1.heap.size w1 w3) := HB2.out.trans (hb3.mono HB2.out.size); clear hb3) | (go_at_call 35; rw [← HW.out]; refine HLD.out.mono ?_; rintro e w2 ⟨rfl, hb2⟩; have HB2 : Hid (Below w1.heap.size w1 w2) := hb2; have q4 := HOP.out w2 hb2; clear hb2))
  go_wp2_with (go_at_call 115; refine (made_no _ _ 6 (by decide) Tn (.slice none 0 0) (.slice none 0 0)).mono ?_; rintro e w8 ⟨rfl, hb8⟩; have HB8 : Hid (Below w.heap.size w w8) := (((HBW.out _ HB3.out).alloc (HBW.out _ HB3.out).size _).trans (hb8.mono (by have := (HBW.out _ HB3.out).size; simp; omega))); clear hb8)
  go_ret
  exact ⟨rfl, (HG.out.below HB8.out).more, HB8.out.mono HG.out.B_le⟩
set_option maxRecDepth 4000 in
set_option maxHeartbeats 8000000 in
theorem makes_load_yes (X : World → Prop) (B : Nat) (w : World) (g s : Nat) (hg : Gm X B w g s) (hs : s ≤ 1048576) (wh a : Int) (big : Bool) (tx : List UInt8) (htx : tx.length ≤ 1048576) (o : Tb) (oa oca on ocn : _) (t : Tb) (hl : loadM isTb tx = some t) :
    Calls Tryz.prog 64 #[.pointer (some ⟨g, 0, none⟩), opV 7 wh a big tx o (.slice oa o.acc.length oca) (.slice on o.next.length ocn)] w fun e w' => e = .returned (.bool true) ∧ Gm X B w' g (s + 1) ∧ Below B w w' := by
  obtain ⟨ρ, N, vs, d, tw, hgs⟩ := hg
  have hmx : tx.length ≤ maxLen := by unfold maxLen; omega
  obtain ⟨w1, hw1⟩ : ∃ w1, w1 = w.alloc (.cells (opC 7 wh a big tx o (.slice oa o.acc.length oca) (.slice on o.next.length ocn)) 80) := ⟨_, rfl⟩
  have hb1 : Below w.heap.size w w1 := by rw [hw1]; exact (Below.refl _ _).alloc (Nat.le_refl _) _
  have hs1 : w1.heap.size = w.heap.size + 1 := by rw [hw1]; simp
  have HOP : Hid (∀ w', Below w1.heap.size w1 w' → w'.cell? ⟨w.heap.size, 4, none⟩ = some (.string (ba tx))) := fun w' hb => by
    have e0 : w'.heap[w.heap.size]? = some (.cells (opC 7 wh a big tx o (.slice oa o.acc.length oca) (.slice on o.next.length ocn)) 80) := by
      rw [hb.block _ (by omega), hw1]; exact heap_alloc_new w _
    simp [World.cell?, e0]
  have HW : Hid (w1 = w.alloc (.cells (opC 7 wh a big tx o (.slice oa o.acc.length oca) (.slice on o.next.length ocn)) 80)) := hw1
  have HBW : Hid (∀ w', Below w1.heap.size w1 w' → Below w.heap.size w w') := fun w' hb => hb1.trans (hb.mono (by omega))
  have HGS : Hid (Gs X B w g s ρ N vs d tw) := hgs
  have HS1 : Hid (w.heap.size ≤ w1.heap.size) := by show _ ≤ _; omega
  have HLD : Hid (Calls Tryz.prog 35 #[.string (ba tx)] w1 fun e w' => ∃ m c, e = .returned (.tuple #[.pointer (some ⟨m, 0, none⟩), .int .i64 0]) ∧ (∀ w2, Hi w1.heap.size w' w2 → Mch w2 m t c) ∧ w1.heap.size ≤ m ∧ Below w1.heap.size w1 w') := load_someN w1 tx hmx t hl
  have HRL : Hid (∀ w', Calls Tryz.prog 117 #[.string (ba tx)] w' fun e w'' => ∃ aa ca an cn, e = .returned (.tuple #[tv t (.slice aa t.acc.length ca) (.slice an t.next.length cn), .int .i64 0]) ∧ (∀ w2, Hi w'.heap.size w'' w2 → TabIn w2 t (.slice aa t.acc.length ca) (.slice an t.next.length cn)) ∧ Below w'.heap.size w' w'') := fun w' => by
    refine (rload_anyN w' tx hmx).mono ?_
    rintro e w'' ⟨h1, h2⟩
    unfold RefResN at h1
    rw [← load_ref tb_fits, hl] at h1
    obtain ⟨va, vn, rfl, h3⟩ := h1
    have h4 := h3 _ (Hi.refl _ _)
    obtain ⟨aa, ca, e1⟩ := h4.acc.form
    obtain ⟨us, hul, hu, _⟩ := h4.next
    obtain ⟨an, cn, e2⟩ := hu.form
    rw [hul] at e2
    subst e1 e2
    exact ⟨aa, ca, an, cn, rfl, h3, h2⟩
  clear hw1 hb1 hs1 hgs hl
  go_enter Tryz.func64, Tryz.ntmps64
  go_upto_region 15 with (first | (go_at_call 117; refine (HRL.out w2).mono ?_; rintro e w3 ⟨aa, ca, an, cn, rfl, ht3, hb3⟩; have HT3 : Hid (∀ w', Hi w2.heap.size w3 w' → TabIn w' t (.slice aa t.acc.length ca) (.slice an t.next.length cn)) := ht3; have HB3 : Hid (Below w1.heap.size w1 w3) := HB2.out.trans (hb3.mono HB2.out.size); have HM3 : Hid (∀ w', Hi w1.heap.size w3 w' → Mch w' m t c) := (fun w' k => HM2.out w' ((Hi.of_below hb3).trans k)); have HS2 : Hid (w1.heap.size ≤ w2.heap.size) := HB2.out.size; clear ht3 hb3) | (go_at_call 35; rw [← HW.out]; refine HLD.out.mono ?_; rintro e w2 ⟨m, c, rfl, hm2, _, hb2⟩; have HM2 : Hid (∀ w', Hi w1.heap.size w2 w' → Mch w' m t c) := hm2; have HB2 : Hid (Below w1.heap.size w1 w2) := hb2; have q4 := HOP.out w2 hb2; clear hb2 hm2))
  obtain ⟨w4, hw4⟩ : ∃ w4, w4 = w3.alloc (.cells #[.bool t.front, .bool t.back, .int .i64 t.start, .string (ba t.cls), .slice aa t.acc.length ca, .slice an t.next.length cn] 33) := ⟨_, rfl⟩
  rw [← hw4]
  have hb4 : Below w3.heap.size w3 w4 := by rw [hw4]; exact (Below.refl _ _).alloc (Nat.le_refl _) _
  obtain ⟨y0, y1, y2, y3, y4, y5⟩ := box6 (show w4.heap[w3.heap.size]? = some (.cells #[.bool t.front, .bool t.back, .int .i64 t.start, .string (ba t.cls), .slice aa t.acc.length ca, .slice an t.next.length cn] 33) by rw [hw4]; exact heap_alloc_new w3 _)
  have HMD := made_yes X B w w4 g s ρ N vs d tw HGS.out (HBW.out _ (HB3.out.trans (hb4.mono HB3.out.size))) hs m t c aa ca an cn (fun w2 k => HM3.out w2 ((Hi.of_below hb4).trans (k.mono HS1.out))) (fun w2' k => HT3.out w2' ((Hi.of_below hb4).trans (k.mono (by have := HS1.out; have := HS2.out; omega))))
  have HBB : Hid (Below B w w4) := (HBW.out _ (HB3.out.trans (hb4.mono HB3.out.size))).mono HGS.out.bk.B_le
  clear hw4 hb4
  go_wp2_with (go_at_call 115; refine HMD.mono ?_; rintro e w8 ⟨rfl, hg8, hb8⟩; have HG8 : Hid (Gm X B w8 g (s + 1) ∧ Below B w w8) := ⟨hg8, HBB.out.trans hb8⟩; clear hg8 hb8)
  go_ret
  exact ⟨rfl, HG8.out⟩
end Go.Proofs.YtbjabpodkaokjaaGreatDoor

namespace Go.Proofs.YtbjabpodkaokjaaGreatDoor
open Go.RowKit

theorem pr_len2 (big : Bool) (n : Nat) : (pr big n).length = 2 := by unfold pr; split <;> rfl
theorem num4_len4 (big : Bool) (n : Nat) : (num4 big n).length = 4 := by unfold num4; split <;> rfl
theorem enc_small {t : Tb} {c : Nat} (h : TbOk t c) (k : Nat) (g : Bool) : (enc t k g).length ≤ maxLen := by
  have hw := h.wok
  have h1 := rowsW_len k g t.next (fun r hr => (hw.r r hr).1)
  have h2 := hw.n2
  have h3 := hw.a2
  have h4 := hw.cl
  have h5 : (hd t k g).length ≤ 300 := by
    unfold hd
    have h6 : mk5.length = 5 := rfl
    simp only [List.length_append, List.length_cons, List.length_nil, pr_len2]
    omega
  unfold enc body
  rw [List.length_append, num4_len4, List.length_append, List.length_append, List.length_map]
  unfold maxLen
  omega
set_option maxRecDepth 4000 in
set_option maxHeartbeats 8000000 in
theorem again_yes (X : World → Prop) (B : Nat) (w : World) (g s : Nat) (hg : Gm X B w g s) (hs : s ≤ 1048576) (m : Nat) (t : Tb) (c : Nat) (aa ca an cn : _) (nb : Bool) (k wh a : Int) (ha1 : -9223372036854775808 ≤ a) (ha2 : a ≤ 9223372036854775807) (big : Bool) (tx : List UInt8) (o : Tb) (oa oca on ocn : _)
    (hm : Mch w m t c) (ht : TabIn w t (.slice aa t.acc.length ca) (.slice an t.next.length cn)) :
    Calls Tryz.prog 69 #[.pointer (some ⟨g, 0, none⟩), twV (.pointer (some ⟨m, 0, none⟩)) t (.slice aa t.acc.length ca) (.slice an t.next.length cn) nb, opV k wh a big tx o (.slice oa o.acc.length oca) (.slice on o.next.length ocn)] w fun e w' => e = .returned (.bool true) ∧ Gm X B w' g (s + 1) ∧ Below B w w' := by
  obtain ⟨_, _, _, hok⟩ := id hm
  obtain ⟨ρ, N, vs, d, tw, hgs⟩ := hg
  obtain ⟨w1, hw1⟩ : ∃ w1, w1 = (w.alloc (.cells (twC (.pointer (some ⟨m, 0, none⟩)) t (.slice aa t.acc.length ca) (.slice an t.next.length cn) nb) 133)).alloc (.cells (opC k wh a big tx o (.slice oa o.acc.length oca) (.slice on o.next.length ocn)) 80) := ⟨_, rfl⟩
  have hb1 : Below w.heap.size w w1 := by rw [hw1]; exact ((Below.refl _ _).alloc (Nat.le_refl _) _).alloc (by simp) _
  have hs1 : w1.heap.size = w.heap.size + 2 := by rw [hw1]; simp
  have HX1 : Hid (∀ w', Below w1.heap.size w1 w' → (w'.cell? ⟨w.heap.size, 0, none⟩ = some (.pointer (some ⟨m, 0, none⟩)) ∧ w'.cell? ⟨w.heap.size + 1, 2, none⟩ = some (.int .i64 a) ∧ w'.cell? ⟨w.heap.size + 1, 3, none⟩ = some (.bool big)) ∧ w'.cell? ⟨w.heap.size, 1, none⟩ = some (.bool t.front) ∧ w'.cell? ⟨w.heap.size, 2, none⟩ = some (.bool t.back) ∧ w'.cell? ⟨w.heap.size, 3, none⟩ = some (.int .i64 t.start) ∧ w'.cell? ⟨w.heap.size, 4, none⟩ = some (.string (ba t.cls)) ∧ w'.cell? ⟨w.heap.size, 5, none⟩ = some (.slice aa t.acc.length ca) ∧ w'.cell? ⟨w.heap.size, 6, none⟩ = some (.slice an t.next.length cn)) := fun w' hb => by
    have e0 : w'.heap[w.heap.size]? = some (.cells (twC (.pointer (some ⟨m, 0, none⟩)) t (.slice aa t.acc.length ca) (.slice an t.next.length cn) nb) 133) := by
      rw [hb.block _ (by omega), hw1]
      exact (Below.heap_alloc (w.alloc _) _ _ (by simp)).trans (heap_alloc_new w _)
    have e1 : w'.heap[w.heap.size + 1]? = some (.cells (opC k wh a big tx o (.slice oa o.acc.length oca) (.slice on o.next.length ocn)) 80) := by
      rw [hb.block _ (by omega), hw1]
      have := heap_alloc_new (w.alloc (.cells (twC (.pointer (some ⟨m, 0, none⟩)) t (.slice aa t.acc.length ca) (.slice an t.next.length cn) nb) 133)) (.cells (opC k wh a big tx o (.slice oa o.acc.length oca) (.slice on o.next.length ocn)) 80)
      rw [World.size_alloc] at this
      exact this
    exact ⟨⟨by simp [World.cell?, e0], by simp [World.cell?, e1], by simp [World.cell?, e1]⟩, by simp [World.cell?, e0], by simp [World.cell?, e0], by simp [World.cell?, e0], by simp [World.cell?, e0], by simp [World.cell?, e0], by simp [World.cell?, e0]⟩
  have HW : Hid (w1 = (w.alloc (.cells (twC (.pointer (some ⟨m, 0, none⟩)) t (.slice aa t.acc.length ca) (.slice an t.next.length cn) nb) 133)).alloc (.cells (opC k wh a big tx o (.slice oa o.acc.length oca) (.slice on o.next.length ocn)) 80)) := hw1
  have HBW : Hid (∀ w', Below w1.heap.size w1 w' → Below w.heap.size w w') := fun w' hb => hb1.trans (hb.mono (by omega))
  have HGS : Hid (Gs X B w g s ρ N vs d tw) := hgs
  have HM1 : Hid (Mch w1 m t c) := hm.below hb1
  have HT1 : Hid (TabIn w1 t (.slice aa t.acc.length ca) (.slice an t.next.length cn)) := ht.below hb1
  have HOK : Hid (TbOk t c) := hok
  have hkd : pickN a 2 ≤ 1 := by have := pickN_lt a 2 (by omega); omega
  obtain ⟨kd, hkde⟩ : ∃ kd, kd = pickN a 2 := ⟨_, rfl⟩
  have HPK : Hid (∀ w, Calls Tryz.prog 65 #[.int .i64 a, .int .i64 2] w fun e w' => e = .returned (.int .i64 (kd : Int)) ∧ w' = w) := fun w => by rw [hkde]; exact pick_any w a 2 ha1 ha2 (by omega) (by omega)
  have HEN : Hid (∀ w', Below w1.heap.size w1 w' → Calls Tryz.prog 34 #[.pointer (some ⟨m, 0, none⟩), .int .i64 (kd : Int), .bool big] w' fun e w'' => e = .returned (.tuple #[.string (ba (enc t kd big)), .int .i64 0]) ∧ Below w'.heap.size w' w'') := fun w' hb => encode_any w' m t c (HM1.out.below hb) kd (by omega) big
  have HLD : Hid (∀ w', Calls Tryz.prog 35 #[.string (ba (enc t kd big))] w' fun e w'' => ∃ m' c', e = .returned (.tuple #[.pointer (some ⟨m', 0, none⟩), .int .i64 0]) ∧ (∀ w2, Hi w'.heap.size w'' w2 → Mch w2 m' t c') ∧ w'.heap.size ≤ m' ∧ Below w'.heap.size w' w'') := fun w' => load_someN w' _ (enc_small hok _ _) t ((loadM_some tb_fits).2 ⟨kd, big, by omega, tbOk_is hok, rfl⟩)
  have HTS : Hid ((t.acc.length ≤ 1048576 ∧ t.next.length ≤ 1048576) ∧ ∀ r ∈ t.next, r.length ≤ 1048576) := by
    have h1 := hok.a2
    have h2 := hok.n
    exact ⟨⟨by omega, by omega⟩, fun r hr => by have h3 := (hok.r r hr).1; have h4 := hok.c256; omega⟩
  obtain ⟨E, hE⟩ : ∃ E, E = enc t kd big := ⟨_, rfl⟩
  rw [← hE] at HEN HLD
  obtain ⟨⟨x0, x1, x2⟩, x3, x4, x5, x6, x7, x8⟩ := HX1.out w1 (Below.refl _ _)
  clear hw1 hb1 hs1 hm ht hok hgs hkd hkde hE
  go_enter Tryz.func69, Tryz.ntmps69
  go_wp2
  rw [← HW.out]
  go_region_held3 (fun w' => w'.cell? ⟨w.heap.size, 0, none⟩ = some (.pointer (some ⟨m, 0, none⟩)) ∧ w'.cell? ⟨w.heap.size + 1, 2, none⟩ = some (.int .i64 a) ∧ w'.cell? ⟨w.heap.size + 1, 3, none⟩ = some (.bool big)) (go_keep) (first | (go_at_call 34; refine (HEN.out w1.drew ((Below.refl _ _).drew)).mono ?_; rintro e w2 ⟨rfl, hb2⟩; have HB2 : Hid (Below w1.heap.size w1 w2) := ((Below.refl w1.heap.size w1).drew.trans hb2); obtain ⟨⟨y0, y1, y2⟩, y3, y4, y5, y6, y7, y8⟩ := HX1.out w2 HB2.out; clear hb2) | (go_at_call 65; refine (HPK.out _).mono ?_; rintro e w' ⟨rfl, hw'⟩; obtain rfl := hw'.symm))
  all_goals go_wp2_with (first | (go_at_call 115; refine (made_yes X B w w4 g s ρ N vs d tw HGS.out (HBW.out _ HB4.out) hs m' t c' a4 c4 n4 k4 (fun w2 k => HM3.out w2 ((Hi.of_below HB34.out).trans (k.mono (HBW.out _ HB2.out).size))) (fun w2 k => HT4.out w2 (k.mono (HBW.out _ HB3.out).size))).mono ?_; rintro e w8 ⟨rfl, hg8, hb8⟩; have HG8 : Hid (Gm X B w8 g (s + 1) ∧ Below B w w8) := ⟨hg8, ((HBW.out _ HB4.out).mono HGS.out.bk.B_le).trans hb8⟩; clear hg8 hb8) | (go_at_call 116; refine (copied_any w3 t _ _ (HT1.out.below HB3.out) HTS.out.1.1 HTS.out.1.2 HTS.out.2).mono ?_; rintro e w4 ⟨a4, c4, n4, k4, rfl, ht4, hb4⟩; have HT4 : Hid (∀ w2, Hi w3.heap.size w4 w2 → TabIn w2 t (.slice a4 t.acc.length c4) (.slice n4 t.next.length k4)) := ht4; have HB34 : Hid (Below w3.heap.size w3 w4) := hb4; have HB4 : Hid (Below w1.heap.size w1 w4) := HB3.out.trans (hb4.mono HB3.out.size); clear ht4 hb4) | (go_at_call 35; refine (HLD.out w2).mono ?_; rintro e w3 ⟨m', c', rfl, hm3, _, hb3⟩; have HM3 : Hid (∀ w', Hi w2.heap.size w3 w' → Mch w' m' t c') := hm3; have HB3 : Hid (Below w1.heap.size w1 w3) := HB2.out.trans (hb3.mono HB2.out.size); obtain ⟨⟨z0, z1, z2⟩, z3, z4, z5, z6, z7, z8⟩ := HX1.out w3 HB3.out; clear hm3 hb3))
  all_goals go_ret
  all_goals exact ⟨rfl, HG8.out⟩
end Go.Proofs.YtbjabpodkaokjaaGreatDoor
