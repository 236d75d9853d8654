import Derived.Test.YtbjabpodkaokjaaGreatDoorJ39
set_option linter.unusedVariables false
set_option linter.unusedSimpArgs false
namespace Go.Proofs.YtbjabpodkaokjaaGreatDoor
open Go.RowKit

/-- The game behind s steps at most. -/
structure Gs (X : World → Prop) (B : Nat) (w : World) (g s : Nat) (ρ : Nat → Nat) (N : Int) (vs : Nat → Value) (d : Bd) (tw : List Tw) : Prop where
  bk : Bk B w g ρ N vs d tw
  fc : Fct X ρ 0 0 w d tw
  n0 : 0 ≤ N
  n1 : N ≤ 201 * s
  l1 : d.ls.length ≤ 800 * s
  l2 : d.bs.length ≤ 4 * s
  l3 : d.rs.length ≤ 4 * s
  l4 : tw.length ≤ s
def Gm (X : World → Prop) (B : Nat) (w : World) (g s : Nat) : Prop := ∃ ρ N vs d tw, Gs X B w g s ρ N vs d tw
theorem Gs.below {X : World → Prop} {B : Nat} {w w' : World} {g s : Nat} {ρ : Nat → Nat} {N : Int} {vs : Nat → Value} {d : Bd} {tw : List Tw} (h : Gs X B w g s ρ N vs d tw) (hb : Below w.heap.size w w') : Gs X B w' g s ρ N vs d tw :=
  ⟨h.bk.below hb, h.fc.below hb, h.n0, h.n1, h.l1, h.l2, h.l3, h.l4⟩
theorem Gs.more {X : World → Prop} {B : Nat} {w : World} {g s : Nat} {ρ : Nat → Nat} {N : Int} {vs : Nat → Value} {d : Bd} {tw : List Tw} (h : Gs X B w g s ρ N vs d tw) : Gs X B w g (s + 1) ρ N vs d tw := by
  obtain ⟨a, b, c1, c2, c3, c4, c5, c6⟩ := h
  exact ⟨a, b, c1, by omega, by omega, by omega, by omega, by omega⟩
theorem Gm.below {X : World → Prop} {B : Nat} {w w' : World} {g s : Nat} (h : Gm X B w g s) (hb : Below w.heap.size w w') : Gm X B w' g s := by
  obtain ⟨ρ, N, vs, d, tw, h⟩ := h
  exact ⟨ρ, N, vs, d, tw, h.below hb⟩
theorem Gm.more {X : World → Prop} {B : Nat} {w : World} {g s : Nat} (h : Gm X B w g s) : Gm X B w g (s + 1) := by
  obtain ⟨ρ, N, vs, d, tw, h⟩ := h
  exact ⟨ρ, N, vs, d, tw, h.more⟩
theorem Gm.B_le {X : World → Prop} {B : Nat} {w : World} {g s : Nat} (h : Gm X B w g s) : B ≤ w.heap.size := by
  obtain ⟨ρ, N, vs, d, tw, h⟩ := h
  exact h.bk.B_le
theorem Gm.still {X : World → Prop} {B : Nat} {w : World} {g s : Nat} (h : Gm X B w g s) (hs : s ≤ 1048577) : Calls Tryz.prog 19 #[.pointer (some ⟨g, 1, none⟩)] w fun e w' => e = .returned (.bool true) ∧ Below w.heap.size w w' := by
  obtain ⟨ρ, N, vs, d, tw, h⟩ := h
  exact still_yes w g _ d (h.bk.stl h.fc (by have := h.l1; omega) (by have := h.l2; omega) (by have := h.l3; omega))
/-- What is new may be written. -/
def nine (ρ : Nat → Nat) (lo hi : Nat) : Nat → Nat := fun b => if lo ≤ b ∧ b < hi then 9 else ρ b
theorem Gs.nine {X : World → Prop} {B : Nat} {w w' : World} {g s : Nat} {ρ : Nat → Nat} {N : Int} {vs : Nat → Value} {d : Bd} {tw : List Tw} (h : Gs X B w g s ρ N vs d tw) (hb : Below w.heap.size w w') {lo hi : Nat} (hl : w.heap.size ≤ lo) (hh : hi ≤ w'.heap.size) :
    Bk B w' g (nine ρ lo hi) N vs d tw ∧ Fct X (nine ρ lo hi) 0 0 w' d tw := by
  have hB := h.bk.B_le
  have hold : ∀ b, b < w.heap.size → Go.Proofs.YtbjabpodkaokjaaGreatDoor.nine ρ lo hi b = ρ b := fun b hb => by
    unfold Go.Proofs.YtbjabpodkaokjaaGreatDoor.nine
    rw [if_neg (by omega)]
  refine ⟨(h.bk.below hb).role (fun b h1 h2 => hold b ?_) (fun b hb' => ?_) (fun b hb' => ?_), h.fc.to fun w'' o => ?_⟩
  · rcases Nat.lt_or_ge b w.heap.size with q | q
    · exact q
    · exact absurd (h.bk.new b q) h1
  · unfold Go.Proofs.YtbjabpodkaokjaaGreatDoor.nine
    rw [if_neg (by omega)]
    exact h.bk.new b (Nat.le_trans hb.size hb')
  · rcases Nat.lt_or_ge b w.heap.size with q | q
    · rw [hold b q] at hb'
      exact h.bk.lo b hb'
    · omega
  · exact Off.comp hb.size (fun b hb' hr => ⟨hb.block b hb', (hold b hb').trans hr⟩) (fun i hi => by omega) o
set_option maxRecDepth 4000 in
set_option maxHeartbeats 4000000 in
theorem asks_tab (X : World → Prop) (B : Nat) (w : World) (g s : Nat) (hg : Gm X B w g s) (hs : s ≤ 1048576) (m : Nat) (t : Tb) (c : Nat) (aa ca an cn : _) (nb : Bool) (wh a : Int) (big : Bool) (tx : List UInt8) (o : Tb) (oa oca on ocn : _)
    (hm : Mch w m t c) (ht : TabIn w t (.slice aa t.acc.length ca) (.slice an t.next.length cn)) :
    Calls Tryz.prog 67 #[.pointer (some ⟨g, 0, none⟩), twV (.pointer (some ⟨m, 0, none⟩)) t (.slice aa t.acc.length ca) (.slice an t.next.length cn) nb, opV 3 wh a big tx o (.slice oa o.acc.length oca) (.slice on o.next.length ocn)] w fun e w' => e = .returned (.bool true) ∧ Gm X B w' g (s + 1) ∧ Below B w w' := by
  obtain ⟨_, _, _, hok⟩ := id hm
  obtain ⟨ρ, N, vs, d, tw, hgs⟩ := hg
  obtain ⟨w1, hw1⟩ : ∃ w1, w1 = (w.alloc (.cells (twC (.pointer (some ⟨m, 0, none⟩)) t (.slice aa t.acc.length ca) (.slice an t.next.length cn) nb) 133)).alloc (.cells (opC 3 wh a big tx o (.slice oa o.acc.length oca) (.slice on o.next.length ocn)) 80) := ⟨_, rfl⟩
  have hb1 : Below w.heap.size w w1 := by rw [hw1]; exact ((Below.refl _ _).alloc (Nat.le_refl _) _).alloc (by simp) _
  have hs1 : w1.heap.size = w.heap.size + 2 := by rw [hw1]; simp
  have HX1 : Hid (∀ w', Below w1.heap.size w1 w' → w'.cell? ⟨w.heap.size, 1, none⟩ = some (.bool t.front) ∧ w'.cell? ⟨w.heap.size, 2, none⟩ = some (.bool t.back) ∧ w'.cell? ⟨w.heap.size, 3, none⟩ = some (.int .i64 t.start) ∧ w'.cell? ⟨w.heap.size, 4, none⟩ = some (.string (ba t.cls)) ∧ w'.cell? ⟨w.heap.size, 5, none⟩ = some (.slice aa t.acc.length ca) ∧ w'.cell? ⟨w.heap.size, 6, none⟩ = some (.slice an t.next.length cn)) := fun w' hb => by
    have e0 : w'.heap[w.heap.size]? = some (.cells (twC (.pointer (some ⟨m, 0, none⟩)) t (.slice aa t.acc.length ca) (.slice an t.next.length cn) nb) 133) := by
      rw [hb.block _ (by omega), hw1]
      exact (Below.heap_alloc (w.alloc _) _ _ (by simp)).trans (heap_alloc_new w _)
    exact ⟨by simp [World.cell?, e0], by simp [World.cell?, e0], by simp [World.cell?, e0], by simp [World.cell?, e0], by simp [World.cell?, e0], by simp [World.cell?, e0]⟩
  have HW : Hid (w1 = (w.alloc (.cells (twC (.pointer (some ⟨m, 0, none⟩)) t (.slice aa t.acc.length ca) (.slice an t.next.length cn) nb) 133)).alloc (.cells (opC 3 wh a big tx o (.slice oa o.acc.length oca) (.slice on o.next.length ocn)) 80)) := hw1
  have HST : Hid (∀ w', Below w1.heap.size w1 w' → Below w.heap.size w w') := fun w' hb => hb1.trans (hb.mono (by omega))
  have HT : Hid (TabIn w1 t (.slice aa t.acc.length ca) (.slice an t.next.length cn)) := ht.below hb1
  have HOK : Hid (TbOk t c) := hok
  have HMT : Hid (Calls Tryz.prog 16 #[.pointer (some ⟨m, 0, none⟩)] w1 fun e w' => ∃ tA tB gs, e = .returned (.tuple #[tv t (.slice (some ⟨tA, 0, none⟩) t.acc.length t.acc.length) (.slice (some ⟨tB, 0, none⟩) t.next.length t.next.length), .int .i64 0]) ∧ TabN w1.heap.size w' t tA tB gs ∧ Below w1.heap.size w1 w') := mtable_any w1 m t c (hm.below hb1)
  have HGS : Hid (Gs X B w g s ρ N vs d tw) := hgs
  have hsm : Small t := by
    have := hok.c256
    have h2 := hok.a2
    have h3 := hok.n
    refine ⟨by unfold maxLen; omega, by unfold maxLen; omega, fun r hr => ?_, by unfold maxLen; omega⟩
    have := (hok.r r hr).1
    unfold maxLen; omega
  have HS : Hid (Small t) := hsm
  have HB1 : Hid (w.heap.size ≤ w1.heap.size) := by show _ ≤ _; omega
  clear hw1 hb1 hs1 hm ht hok hgs hsm
  go_enter Tryz.func67, Tryz.ntmps67
  go_upto_region 3 with (go_at_call 16; rw [← HW.out]; refine HMT.out.mono ?_; rintro e w2 ⟨tA, tB, gs, rfl, hn2, hb2⟩; have HN2 : Hid (TabN w1.heap.size w2 t tA tB gs) := hn2; have HB2 : Hid (Below w1.heap.size w1 w2) := hb2; clear hn2 hb2)
  obtain ⟨w3, hw3⟩ : ∃ w3, w3 = w2.alloc (.cells #[.bool t.front, .bool t.back, .int .i64 t.start, .string (ba t.cls), .slice (some ⟨tA, 0, none⟩) t.acc.length t.acc.length, .slice (some ⟨tB, 0, none⟩) t.next.length t.next.length] 33) := ⟨_, rfl⟩
  rw [← hw3]
  have hb3 : Below w2.heap.size w2 w3 := by rw [hw3]; exact (Below.refl _ _).alloc (Nat.le_refl _) _
  have hb13 : Below w1.heap.size w1 w3 := HB2.out.trans (hb3.mono HB2.out.size)
  have HY3 : Hid (∀ w', Below w3.heap.size w3 w' → w'.heap[w2.heap.size]? = some (.cells #[.bool t.front, .bool t.back, .int .i64 t.start, .string (ba t.cls), .slice (some ⟨tA, 0, none⟩) t.acc.length t.acc.length, .slice (some ⟨tB, 0, none⟩) t.next.length t.next.length] 33)) := fun w' hb => by
    rw [hb.block _ (by rw [hw3]; simp), hw3]
    exact heap_alloc_new w2 _
  obtain ⟨y0, y1, y2, y3, y4, y5⟩ := box6 (HY3.out w3 (Below.refl _ _))
  obtain ⟨x0, x1, x2, x3, x4, x5⟩ := HX1.out w3 hb13
  have HB3 : Hid (Below w1.heap.size w1 w3) := hb13
  have HN3 : Hid (TabN w1.heap.size w3 t tA tB gs) := HN2.out.below hb3
  have HT3 : Hid (TabIn w3 t (.slice aa t.acc.length ca) (.slice an t.next.length cn)) := HT.out.below hb13
  have HS23 : Hid (w2.heap.size ≤ w3.heap.size ∧ tA < w2.heap.size ∧ tB < w2.heap.size ∧ ∀ q ∈ gs, q < w2.heap.size) := ⟨hb3.size, HN2.out.o.2.2.2.1, HN2.out.o.2.2.2.2.1, fun q hq => by
    obtain ⟨i, hi, rfl⟩ := List.mem_iff_getElem.1 hq
    exact (HN2.out.rows i hi).2.2⟩
  clear hw3 hb3 hb13 HN2 HB2
  go_upto_region 5 with (first | (go_at_call 19; refine (((Gm.below ⟨_, _, _, _, _, HGS.out⟩ (HST.out _ HB4.out)).still (by omega))).mono ?_; rintro e w5 ⟨rfl, hb5⟩; have HB5 : Hid (Below w4.heap.size w4 w5) := hb5; clear hb5) | (go_at_call 17; refine (sameT_eq w3 t _ _ _ _ HN3.out.tab HT3.out HS.out).mono ?_; rintro e w4 ⟨rfl, hb4⟩; have HB4 : Hid (Below w1.heap.size w1 w4) := HB3.out.trans (hb4.mono HB3.out.size); have HB34 : Hid (Below w3.heap.size w3 w4) := hb4; clear hb4))
  have HB35 : Hid (Below w3.heap.size w3 w5) := HB34.out.trans (HB5.out.mono HB34.out.size)
  obtain ⟨z0, z1, z2, z3, z4, z5⟩ := box6 (HY3.out w5 HB35.out)
  clear x0 x1 x2 x3 x4 x5 y0 y1 y2 y3 y4 y5
  have hbw5 : Below w.heap.size w w5.drew := (HST.out _ (HB3.out.trans (HB35.out.mono HB3.out.size))).drew
  have h35 := HB35.out.size
  have h23 := HS23.out.1
  obtain ⟨hB9, hF9⟩ := HGS.out.nine hbw5 (lo := w1.heap.size) (hi := w2.heap.size) HB1.out (by show _ ≤ w5.heap.size; omega)
  have HTA : Hid (Calls Tryz.prog 18 #[.pointer (some ⟨g, 1, none⟩), tv t (.slice (some ⟨tA, 0, none⟩) t.acc.length t.acc.length) (.slice (some ⟨tB, 0, none⟩) t.next.length t.next.length)] w5.drew fun e w' => e = .returned (.tuple #[]) ∧ Gm X B w' g (s + 1) ∧ Below B w w' ∧ w'.heap[w2.heap.size]? = some (.cells #[.bool t.front, .bool t.back, .int .i64 t.start, .string (ba t.cls), .slice (some ⟨tA, 0, none⟩) t.acc.length t.acc.length, .slice (some ⟨tB, 0, none⟩) t.next.length t.next.length] 33)) := by
    have hN5 : TabN w1.heap.size w5.drew t tA tB gs := (HN3.out.below HB35.out).below ((Below.refl _ _).drew)
    obtain ⟨q1, q2, q3, q4, q5, q6⟩ := hN5.o
    have hrow : ∀ q, w1.heap.size ≤ q → q < w2.heap.size → nine ρ w1.heap.size w2.heap.size q = 9 := fun q h1 h2 => by unfold nine; rw [if_pos ⟨h1, h2⟩]
    have hG := HGS.out
    have hn0 := hG.n0
    have hn1 := hG.n1
    have hl1 := hG.l1
    have hl2 := hG.l2
    have hl3 := hG.l3
    have hl4 := hG.l4
    have hnn : t.acc.length = t.next.length := HOK.out.n.symm
    have h200 := HOK.out.a2
    have h2lt : w2.heap.size < w5.drew.heap.size := by
      have := HY3.out w5 HB35.out
      exact (Array.getElem?_eq_some_iff.1 this).1
    have hF10 := hF9.more h2lt (by unfold nine; rw [if_neg (by omega)]; exact HGS.out.bk.new _ (by have := HB1.out; have := HS23.out.2.1; omega)) (HY3.out w5 HB35.out)
    have := table_any1 _ B w5.drew g _ N vs d tw t c tA tB gs w1.heap.size t.next.length hB9 hF10 hN5 HOK.out rfl (hrow _ q1 HS23.out.2.1) (hrow _ q2 HS23.out.2.2.1) (fun q hq => hrow q (by obtain ⟨i, hi, rfl⟩ := List.mem_iff_getElem.1 hq; exact (hN5.rows i hi).2.1) (HS23.out.2.2.2 q hq)) hn0 (by omega) (by omega) (by omega) (by omega)
    show Calls _ _ _ _ _
    rw [hnn]
    refine this.mono ?_
    rintro e w' ⟨rfl, ρ', vs', d', b1, b2, b3, b4, b5, b6⟩
    exact ⟨rfl, ⟨ρ', _, vs', d', tw, b1, b2.less (fun _ h => h.1), by omega, by omega, by omega, by omega, by omega, by omega⟩, (hbw5.mono hG.bk.B_le).trans b6, by have := b2.fX.now.2; rw [hnn] at this; exact this⟩
  clear hB9 hF9 hbw5 h35 h23
  go_region_held3 (fun w' => w'.cell? ⟨w2.heap.size, 0, none⟩ = some (.bool t.front) ∧ w'.cell? ⟨w2.heap.size, 1, none⟩ = some (.bool t.back) ∧ w'.cell? ⟨w2.heap.size, 2, none⟩ = some (.int .i64 t.start) ∧ w'.cell? ⟨w2.heap.size, 3, none⟩ = some (.string (ba t.cls)) ∧ w'.cell? ⟨w2.heap.size, 4, none⟩ = some (.slice (some ⟨tA, 0, none⟩) t.acc.length t.acc.length) ∧ w'.cell? ⟨w2.heap.size, 5, none⟩ = some (.slice (some ⟨tB, 0, none⟩) t.next.length t.next.length)) (go_keep) ((go_at_call 18; refine HTA.out.mono ?_; rintro e w6 ⟨rfl, hg6, hb6, hy6⟩; have HG6 : Hid (Gm X B w6 g (s + 1) ∧ Below B w w6) := ⟨hg6, hb6⟩; obtain ⟨k0, k1, k2, k3, k4, k5⟩ := box6 hy6; clear hg6 hb6 hy6))
  all_goals go_wp2
  all_goals go_ret
  all_goals exact ⟨rfl, HG6.out⟩
end Go.Proofs.YtbjabpodkaokjaaGreatDoor

namespace Go.Proofs.YtbjabpodkaokjaaGreatDoor
open Go.RowKit

theorem Gs.add {X : World → Prop} {B : Nat} {w0 wx w4 : World} {g s : Nat} {ρ : Nat → Nat} {N : Int} {vs : Nat → Value} {d : Bd} {tw : List Tw} (hg : Gs X B w0 g s ρ N vs d tw) (hb : Below w0.heap.size w0 wx) {t : Tw} (ht : ∀ w2, Hi w0.heap.size wx w2 → t.ok w2) {g4 c4 n : Nat} (hn : n = tw.length)
    (hown : w4.ownsRow 0 133 8 (.slice (some ⟨g4, 0, none⟩) (n + 1) c4) (n + 1) (tw.flatMap Tw.cells ++ t.cells)) (hlt : g4 < w4.heap.size) (hch : ((vs 0).ownBlock = some g4 ∧ wx.grownBy w4 (some g4)) ∨ (g4 = wx.heap.size ∧ wx.grownBy w4 none)) :
    Gm X B (w4.setCell ⟨g, 0, none⟩ (.slice (some ⟨g4, 0, none⟩) (n + 1) c4)) g (s + 1) ∧ w4.cell? ⟨g, 0, none⟩ = some (vs 0) ∧ w4.frozen? ⟨g, 0, none⟩ = false ∧ Below B wx (w4.setCell ⟨g, 0, none⟩ (.slice (some ⟨g4, 0, none⟩) (n + 1) c4)) := by
  subst hn
  have hx := hg.below hb
  have e1 : spN d (tw ++ [t]) 0 = tw.length + 1 := by simp [spN]
  have e2 : spX d (tw ++ [t]) 0 = tw.flatMap Tw.cells ++ t.cells := by simp [spX]
  obtain ⟨b1, b2, b3, b4, b5, b6, b7⟩ := hx.bk.put (k := 0) (by omega) (d' := d) (tw' := tw ++ [t]) (fun j hj => by
    match j with
    | 0 => exact absurd rfl hj
    | 1 => exact ⟨rfl, rfl⟩
    | 2 => exact ⟨rfl, rfl⟩
    | 3 => exact ⟨rfl, rfl⟩
    | 4 => exact ⟨rfl, rfl⟩
    | 5 => exact ⟨rfl, rfl⟩
    | 6 => exact ⟨rfl, rfl⟩
    | _ + 7 => exact ⟨rfl, rfl⟩) (g4 := g4) (c4 := c4) (w4 := w4) (by rw [e1, e2]; exact hown) hlt hch
  rw [e1] at b1 b2 b3 b6 b7
  simp only [spO] at b1 b2 b3 b4 b5 b6 b7
  refine ⟨⟨_, N, _, d, tw ++ [t], b1, ((hx.fc.to fun w'' o => b2 0 0 w'' (.inl rfl) o).addT fun w'' o => ht w'' ⟨Nat.le_trans b6 o.size, fun k h1 h2 => ?_⟩), hx.n0, by have := hx.n1; omega, by have := hx.l1; omega, by have := hx.l2; omega, by have := hx.l3; omega, by have := hx.l4; simp; omega⟩, b4, b5, b7⟩
  obtain ⟨e3, e4⟩ := b3 k h2 (.inl (hg.bk.new k h1))
  exact (o.block k (Nat.lt_of_lt_of_le h2 b6) (e4.trans (hg.bk.new k h1))).trans e3
theorem Tryz.infoTw : (Tryz.prog.info? 133).map (fun i => (i.zero, i.size, i.bytes)) = some (some (.agg #[.pointer none, .bool false, .bool false, .int .i64 0, .string ⟨#[]⟩, .slice none 0 0, .slice none 0 0, .bool false]), 8, 96) := by kernel_rfl
theorem one_cell8 (m : Value) (t : Tb) (va vn : Value) (nb : Bool) (h1 : m.oneCell' = true) (h2 : va.oneCell' = true) (h3 : vn.oneCell' = true) : ∀ u ∈ (twC m t va vn nb).toList, u.oneCell' = true := by
  intro u hu
  simp at hu
  rcases hu with rfl | rfl | rfl | rfl | rfl | rfl | rfl | rfl <;> first | assumption | rfl
set_option maxRecDepth 4000 in
set_option maxHeartbeats 4000000 in
theorem made_no (w : World) (gp : Value) (e : Int) (he : e ≠ 0) (t : Tb) (va vn : Value) :
    Calls Tryz.prog 115 #[gp, .pointer none, .int .i64 e, tv t va vn, .int .i64 e] w fun e w' => e = .returned (.bool true) ∧ Below w.heap.size w w' := by
  have h1 : (e != 0) = true := by simpa using he
  have HB : Hid (Below w.heap.size w (w.alloc (.cells #[.bool t.front, .bool t.back, .int .i64 t.start, .string (ba t.cls), va, vn] 33))) := (Below.refl _ _).alloc (Nat.le_refl _) _
  go_enter Tryz.func115, Tryz.ntmps115
  go_wp2
  go_ret
  exact ⟨rfl, HB.out⟩
set_option maxRecDepth 4000 in
set_option maxHeartbeats 4000000 in
theorem made_yes (X : World → Prop) (B : Nat) (w0 w : World) (g s : Nat) (ρ : Nat → Nat) (N : Int) (vs : Nat → Value) (d : Bd) (tw : List Tw) (hg : Gs X B w0 g s ρ N vs d tw) (hb : Below w0.heap.size w0 w) (hs : s ≤ 1048576) (m : Nat) (t : Tb) (c : Nat) (aa ca an cn : _)
    (hm : ∀ w2, Hi w0.heap.size w w2 → Mch w2 m t c) (ht : ∀ w2, Hi w0.heap.size w w2 → TabIn w2 t (.slice aa t.acc.length ca) (.slice an t.next.length cn)) :
    Calls Tryz.prog 115 #[.pointer (some ⟨g, 0, none⟩), .pointer (some ⟨m, 0, none⟩), .int .i64 0, tv t (.slice aa t.acc.length ca) (.slice an t.next.length cn), .int .i64 0] w fun e w' => e = .returned (.bool true) ∧ Gm X B w' g (s + 1) ∧ Below B w w' := by
  obtain ⟨w1, hw1⟩ : ∃ w1, w1 = w.alloc (.cells #[.bool t.front, .bool t.back, .int .i64 t.start, .string (ba t.cls), .slice aa t.acc.length ca, .slice an t.next.length cn] 33) := ⟨_, rfl⟩
  have hb1 : Below w.heap.size w w1 := by rw [hw1]; exact (Below.refl _ _).alloc (Nat.le_refl _) _
  obtain ⟨y0, y1, y2, y3, y4, y5⟩ := box6 (show w1.heap[w.heap.size]? = some (.cells #[.bool t.front, .bool t.back, .int .i64 t.start, .string (ba t.cls), .slice aa t.acc.length ca, .slice an t.next.length cn] 33) by rw [hw1]; exact heap_alloc_new w _)
  have HW : Hid (w1 = w.alloc (.cells #[.bool t.front, .bool t.back, .int .i64 t.start, .string (ba t.cls), .slice aa t.acc.length ca, .slice an t.next.length cn] 33)) := hw1
  have hg1 := hg.below (hb.trans (hb1.mono hb.size))
  obtain ⟨vA, hvA⟩ : ∃ v, v = vs 0 := ⟨_, rfl⟩
  obtain ⟨n, hn⟩ : ∃ n, n = tw.length := ⟨_, rfl⟩
  have c0 := hg1.bk.cl 0 (by omega)
  rw [← hvA] at c0
  simp only [spO] at c0
  have HVA : Hid (vA = vs 0) := hvA
  have HN : Hid (n = tw.length) := hn
  have hn2 : n ≤ 1048576 := by have := hg.l4; omega
  have HO : Hid (w1.ownsRow 0 133 8 vA n (tw.flatMap Tw.cells)) := by
    show World.ownsRow _ _ _ _ _ _ _
    rw [hvA, hn]; exact hg1.bk.own 0 (by omega)
  have HG : Hid (Gs X B w0 g s ρ N vs d tw) := hg
  have HB1 : Hid (Below w0.heap.size w0 w1) := hb.trans (hb1.mono hb.size)
  have HB11 : Hid (Below w.heap.size w w1) := hb1
  have HM : Hid (∀ w2, Hi w0.heap.size w w2 → Tw.ok w2 (.one m t c aa ca an cn)) := fun w2 k => ⟨hm w2 k, ht w2 k⟩
  obtain ⟨i0, hi0, hz0, hz1, hz2⟩ := info_parts Tryz.infoTw
  have c0n : (w1.alloc (.cells (twC (.pointer (some ⟨m, 0, none⟩)) t (.slice aa t.acc.length ca) (.slice an t.next.length cn) false) 133)).cell? ⟨g, 0, none⟩ = some vA := cell_below ((Below.refl _ _).alloc (Nat.le_refl _) _) c0
  have c0e := World.new_ne w1 ⟨g, 0, none⟩ c0
  have hbs : w0.heap.size ≤ w.heap.size := hb.size
  clear hw1 hb1 hg1 hvA hn hg hb hm ht
  go_enter Tryz.func115, Tryz.ntmps115
  go_wp2
  rw [← HW.out]
  go_region_law (refine step_append_str _ (by rfl) (.tmp 27) (.tmp 31) 76 (by rfl) 0 133 i0 _ 8 96 Tryz.underlying76 hi0 hz0 hz1 hz2 (by rfl) (by decide) vA n (tw.flatMap Tw.cells) (by rfl) (show World.ownsRow _ _ _ _ _ _ _ from World.ownsRow.alloc HO.out _) ⟨w1.heap.size, 0, none⟩ 1 1 (twC (.pointer (some ⟨m, 0, none⟩)) t (.slice aa t.acc.length ca) (.slice an t.next.length cn) false).toList (by rfl) (by rfl) (World.news_of_block (w := w1.alloc (.cells (twC (.pointer (some ⟨m, 0, none⟩)) t (.slice aa t.acc.length ca) (.slice an t.next.length cn) false) 133)) (heap_alloc_new w1 _)) (one_cell8 _ _ _ _ _ rfl rfl rfl) (by omega) (by unfold maxLen; omega) (by omega) (Nat.zero_le _) _ (by rfl) ?_; intro g4 k4 w4 ho4 hc4 hl4; rw [HVA.out] at hc4; obtain ⟨hG4, e0, f0, hB4⟩ := HG.out.add (wx := (w1.alloc (.cells (twC (.pointer (some ⟨m, 0, none⟩)) t (.slice aa t.acc.length ca) (.slice an t.next.length cn) false) 133)).drew) (HB1.out.trans (((Below.refl _ _).alloc (Nat.le_refl _) _).drew.mono HB1.out.size)) (t := .one m t c aa ca an cn) (fun w2 k => HM.out w2 ((Hi.of_below (HB11.out.trans (((Below.refl _ _).alloc (Nat.le_refl _) _).drew.mono HB11.out.size))).trans k)) HN.out ho4 hl4 hc4; rw [← HVA.out] at e0; have HG4 : Hid (Gm X B (w4.setCell ⟨g, 0, none⟩ (.slice (some ⟨g4, 0, none⟩) (n + 1) k4)) g (s + 1) ∧ Below B w (w4.setCell ⟨g, 0, none⟩ (.slice (some ⟨g4, 0, none⟩) (n + 1) k4))) := ⟨hG4, ((HB11.out.trans (((Below.refl _ _).alloc (Nat.le_refl _) _).drew.mono HB11.out.size)).mono (Nat.le_trans HG.out.bk.B_le hbs)).trans hB4⟩; clear ho4 hc4 hG4 hB4)
  all_goals go_wp2
  all_goals go_ret
  all_goals exact ⟨rfl, HG4.out⟩
end Go.Proofs.YtbjabpodkaokjaaGreatDoor
