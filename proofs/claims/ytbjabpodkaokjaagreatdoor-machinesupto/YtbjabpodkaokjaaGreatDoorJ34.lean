import Derived.Test.YtbjabpodkaokjaaGreatDoorJ33
import Derived.Test.YtbjabpodkaokjaaGreatDoorJ32
set_option linter.unusedVariables false
set_option linter.unusedSimpArgs false
namespace Go.Proofs.YtbjabpodkaokjaaGreatDoor
open Go.RowKit

/-- A twin, a step of a script: as values, as cells. -/
abbrev twC (m : Value) (t : Tb) (va vn : Value) (nb : Bool) : Array Value := #[m, .bool t.front, .bool t.back, .int .i64 t.start, .string (ba t.cls), va, vn, .bool nb]
abbrev opC (k wh a : Int) (big : Bool) (tx : List UInt8) (o : Tb) (oa on : Value) : Array Value := #[.int .i64 k, .int .i64 wh, .int .i64 a, .bool big, .string (ba tx), .bool o.front, .bool o.back, .int .i64 o.start, .string (ba o.cls), oa, on]
abbrev twV (m : Value) (t : Tb) (va vn : Value) (nb : Bool) : Value := .agg (twC m t va vn nb)
abbrev opV (k wh a : Int) (big : Bool) (tx : List UInt8) (o : Tb) (oa on : Value) : Value := .agg (opC k wh a big tx o oa on)
theorem lastI_get (l : List Nat) (h : 0 < l.length) : lastI l = (l[l.length - 1]'(by omega) : Nat) := by
  unfold lastI
  rw [List.getLast?_eq_getElem?, List.getElem?_eq_getElem (by omega)]
theorem firstI_get (l : List Nat) (h : 0 < l.length) : firstI l = (l[0] : Nat) := by
  cases l with
  | nil => simp at h
  | cons x r => rfl
set_option maxRecDepth 4000 in
set_option maxHeartbeats 4000000 in
theorem searches_yes (w : World) (gp : Value) (m : Nat) (t : Tb) (c : Nat) (aa ca an cn : _) (nb : Bool) (k wh a : Int) (big : Bool) (tx : List UInt8) (o : Tb) (oa oca on ocn : _)
    (hm : Mch w m t c) (ht : TabIn w t (.slice aa t.acc.length ca) (.slice an t.next.length cn)) (htx : tx.length ≤ 1048576) :
    Calls Tryz.prog 68 #[gp, twV (.pointer (some ⟨m, 0, none⟩)) t (.slice aa t.acc.length ca) (.slice an t.next.length cn) nb, opV k wh a big tx o (.slice oa o.acc.length oca) (.slice on o.next.length ocn)] w fun e w' => e = .returned (.bool true) ∧ Below w.heap.size w w' := by
  obtain ⟨_, _, _, hok⟩ := id hm
  obtain ⟨w1, hw1⟩ : ∃ w1, w1 = (w.alloc (.cells (twC (.pointer (some ⟨m, 0, none⟩)) t (.slice aa t.acc.length ca) (.slice an t.next.length cn) nb) 133)).alloc (.cells (opC k wh a big tx o (.slice oa o.acc.length oca) (.slice on o.next.length ocn)) 80) := ⟨_, rfl⟩
  have hb1 : Below w.heap.size w w1 := by rw [hw1]; exact ((Below.refl _ _).alloc (Nat.le_refl _) _).alloc (by simp) _
  have hs1 : w1.heap.size = w.heap.size + 2 := by rw [hw1]; simp
  have HX1 : Hid (∀ w', Below w1.heap.size w1 w' → w'.cell? ⟨w.heap.size, 0, none⟩ = some (.pointer (some ⟨m, 0, none⟩)) ∧ w'.cell? ⟨w.heap.size + 1, 0, none⟩ = some (.int .i64 k) ∧ w'.cell? ⟨w.heap.size + 1, 4, none⟩ = some (.string (ba tx))) := fun w' hb => by
    have e0 : w'.heap[w.heap.size]? = some (.cells (twC (.pointer (some ⟨m, 0, none⟩)) t (.slice aa t.acc.length ca) (.slice an t.next.length cn) nb) 133) := by
      rw [hb.block _ (by omega), hw1]
      exact (Below.heap_alloc (w.alloc _) _ _ (by simp)).trans (heap_alloc_new w _)
    have e1 : w'.heap[w.heap.size + 1]? = some (.cells (opC k wh a big tx o (.slice oa o.acc.length oca) (.slice on o.next.length ocn)) 80) := by
      rw [hb.block _ (by omega), hw1]
      have := heap_alloc_new (w.alloc (.cells (twC (.pointer (some ⟨m, 0, none⟩)) t (.slice aa t.acc.length ca) (.slice an t.next.length cn) nb) 133)) (.cells (opC k wh a big tx o (.slice oa o.acc.length oca) (.slice on o.next.length ocn)) 80)
      rw [World.size_alloc] at this
      exact this
    exact ⟨by simp [World.cell?, e0], by simp [World.cell?, e1], by simp [World.cell?, e1]⟩
  have HW : Hid (w1 = (w.alloc (.cells (twC (.pointer (some ⟨m, 0, none⟩)) t (.slice aa t.acc.length ca) (.slice an t.next.length cn) nb) 133)).alloc (.cells (opC k wh a big tx o (.slice oa o.acc.length oca) (.slice on o.next.length ocn)) 80)) := hw1
  have HEN : Hid (Calls Tryz.prog 119 #[tv t (.slice aa t.acc.length ca) (.slice an t.next.length cn), .string (ba tx)] w1 fun e w' => ∃ v, e = .returned v ∧ IRow w' w1.heap.size v (iL (endsL t tx)) ∧ Below w1.heap.size w1 w') := ends_ref w1 t c _ _ (ht.below hb1) hok tx htx
  have HST : Hid (∀ w', Below w1.heap.size w1 w' → Below w.heap.size w w') := fun w' hb => hb1.trans (hb.mono (by omega))
  have hmx : tx.length ≤ maxLen := by unfold maxLen; omega
  have HM : Hid (∀ w', Below w1.heap.size w1 w' → Mch w' m t c) := fun w' hb => (hm.below hb1).below hb
  have HIM : Hid (∀ w', Below w1.heap.size w1 w' → Calls Tryz.prog 39 #[.pointer (some ⟨m, 0, none⟩), .string (ba tx)] w' fun e w'' => e = .returned (.tuple #[.bool (decide (0 < (endsL t tx).length)), .int .i64 0]) ∧ Below w.heap.size w w'') := fun w' hb => by
    refine (ismatch_any w' m t c (HM.out w' hb) tx hmx).mono ?_
    rintro e w'' ⟨rfl, hb'⟩
    refine ⟨?_, HST.out _ (hb.trans (hb'.mono hb.size))⟩
    cases endsL t tx <;> simp
  have HSH : Hid (∀ w', Below w1.heap.size w1 w' → Calls Tryz.prog 55 #[.pointer (some ⟨m, 0, none⟩), .string (ba tx)] w' fun e w'' => e = .returned (.tuple #[.int .i64 (firstI (endsL t tx)), .int .i64 0]) ∧ Below w.heap.size w w'') := fun w' hb => by
    refine (shortest_any w' m t c (HM.out w' hb) tx hmx).mono ?_
    rintro e w'' ⟨rfl, hb'⟩
    exact ⟨rfl, HST.out _ (hb.trans (hb'.mono hb.size))⟩
  have HLN : Hid (∀ w', Below w1.heap.size w1 w' → Calls Tryz.prog 56 #[.pointer (some ⟨m, 0, none⟩), .string (ba tx)] w' fun e w'' => e = .returned (.tuple #[.int .i64 (lastI (endsL t tx)), .int .i64 0]) ∧ Below w.heap.size w w'') := fun w' hb => by
    refine (longest_any w' m t c (HM.out w' hb) tx hmx).mono ?_
    rintro e w'' ⟨rfl, hb'⟩
    exact ⟨rfl, HST.out _ (hb.trans (hb'.mono hb.size))⟩
  clear hw1 hb1 hs1 hm ht hok hmx HM
  go_enter Tryz.func68, Tryz.ntmps68
  go_upto_region 4 with (go_at_call 119; rw [← HW.out]; refine HEN.out.mono ?_; rintro e w2 ⟨v, rfl, hv, hb2⟩; obtain ⟨av, cv, hform⟩ := ownsRow_shape hv; subst hform; have HV : Hid (IRow w2 w1.heap.size (.slice av (iL (endsL t tx)).length cv) (iL (endsL t tx))) := hv; have HB2 : Hid (Below w1.heap.size w1 w2) := hb2; obtain ⟨p0, p1, p2⟩ := HX1.out w2 hb2; clear hv hb2)
  have hlen : (iL (endsL t tx)).length = (endsL t tx).length := by simp [iL]
  have hrow : RowE eI w2 (.slice av (iL (endsL t tx)).length cv) (iL (endsL t tx)) := owns_row HV.out
  rw [hlen] at hrow ⊢
  rw [show (endsL t tx).length = (endsL t tx).length from rfl] at hrow
  have hle : (endsL t tx).length ≤ 1048577 := by
    have := eP_len t tx tx.length
    unfold endsL
    rw [List.length_append]
    split <;> simp <;> omega
  rcases Nat.eq_zero_or_pos (endsL t tx).length with h0 | hp
  · obtain ⟨f1, f2⟩ : firstI (endsL t tx) = -1 ∧ lastI (endsL t tx) = -1 := by
      rw [List.length_eq_zero_iff.1 h0]; exact ⟨rfl, rfl⟩
    rw [f1] at HSH
    rw [f2] at HLN
    rw [h0] at HIM ⊢
    clear f1 f2 h0 hrow hlen hle HV HEN
    by_cases k4 : (k == 4) = true
    · go_wp2_with (go_at_call 39; refine (HIM.out _ HB2.out).mono ?_; rintro e w3 ⟨rfl, hb3⟩; have HB3 : Hid (Below w.heap.size w w3) := hb3; clear hb3)
      go_ret
      exact ⟨rfl, HB3.out⟩
    by_cases k5 : (k == 5) = true
    · go_wp2_with (go_at_call 55; refine (HSH.out _ HB2.out).mono ?_; rintro e w3 ⟨rfl, hb3⟩; have HB3 : Hid (Below w.heap.size w w3) := hb3; clear hb3)
      go_ret
      exact ⟨rfl, HB3.out⟩
    · go_wp2_with (go_at_call 56; refine (HLN.out _ HB2.out).mono ?_; rintro e w3 ⟨rfl, hb3⟩; have HB3 : Hid (Below w.heap.size w w3) := hb3; clear hb3)
      go_ret
      exact ⟨rfl, HB3.out⟩
  · obtain ⟨gb, go, gc, hform, hcell⟩ := hrow.nonnil (by omega)
    injection hform with e1 e2 e3
    subst e1
    have d1 := hcell 0 (by omega)
    have d2 := hcell ((endsL t tx).length - 1) (by omega)
    rw [show (iL (endsL t tx))[0]'(by omega) = firstI (endsL t tx) by rw [firstI_get _ hp]; simp [iL]] at d1
    rw [show (iL (endsL t tx))[(endsL t tx).length - 1]'(by omega) = lastI (endsL t tx) by rw [lastI_get _ hp]; simp [iL]] at d2
    obtain ⟨n, hn⟩ : ∃ n, n = (endsL t tx).length := ⟨_, rfl⟩
    rw [← hn] at d2 hle hp HIM ⊢
    generalize firstI (endsL t tx) = F at *
    generalize lastI (endsL t tx) = L at *
    clear hcell hrow hlen HV HEN hn
    simp only [eI, Nat.add_zero] at d1 d2
    have hpI : 0 < (n : Int) := by omega
    have hpd : decide (0 < (n : Int)) = true := by simpa using hpI
    have hsub : ((n : Int) - 1) = ((n - 1 : Nat) : Int) := by omega
    by_cases k4 : (k == 4) = true
    · go_wp2_with (go_at_call 39; refine (HIM.out _ HB2.out).mono ?_; rintro e w3 ⟨rfl, hb3⟩; have HB3 : Hid (Below w.heap.size w w3) := hb3; clear hb3)
      go_ret
      exact ⟨rfl, HB3.out⟩
    by_cases k5 : (k == 5) = true
    · go_wp2_with (go_at_call 55; refine (HSH.out _ HB2.out).mono ?_; rintro e w3 ⟨rfl, hb3⟩; have HB3 : Hid (Below w.heap.size w w3) := hb3; clear hb3)
      go_ret
      exact ⟨rfl, HB3.out⟩
    · go_wp2_with (go_at_call 56; refine (HLN.out _ HB2.out).mono ?_; rintro e w3 ⟨rfl, hb3⟩; have HB3 : Hid (Below w.heap.size w w3) := hb3; clear hb3)
      go_ret
      exact ⟨rfl, HB3.out⟩
end Go.Proofs.YtbjabpodkaokjaaGreatDoor

namespace Go.Proofs.YtbjabpodkaokjaaGreatDoor
open Go.RowKit

def Tn : Tb := ⟨false, false, 0, [], [], []⟩
theorem Tn_in (w : World) : TabIn w Tn (.slice none 0 0) (.slice none 0 0) := ⟨.inl ⟨rfl, none, 0, rfl⟩, [], rfl, .inl ⟨rfl, none, 0, rfl⟩, fun j h1 _ => by simp at h1⟩
theorem Tn_small : Small Tn := ⟨by decide, by decide, by decide, by decide⟩
set_option maxRecDepth 4000 in
set_option maxHeartbeats 4000000 in
theorem nobody_yes (w : World) (gp : Value) (k wh a : Int) (big : Bool) (tx : List UInt8) (o : Tb) (oa oca on ocn : _) :
    Calls Tryz.prog 66 #[gp, .pointer none, opV k wh a big tx o (.slice oa o.acc.length oca) (.slice on o.next.length ocn)] w fun e w' => e = .returned (.bool true) ∧ Below w.heap.size w w' := by
  obtain ⟨w1, hw1⟩ : ∃ w1, w1 = w.alloc (.cells (opC k wh a big tx o (.slice oa o.acc.length oca) (.slice on o.next.length ocn)) 80) := ⟨_, rfl⟩
  have hb1 : Below w.heap.size w w1 := by rw [hw1]; exact (Below.refl _ _).alloc (Nat.le_refl _) _
  have HB1 : Hid (Below w.heap.size w w1) := hb1
  have HW : Hid (w1 = w.alloc (.cells (opC k wh a big tx o (.slice oa o.acc.length oca) (.slice on o.next.length ocn)) 80)) := hw1
  clear hw1 hb1
  have HMT : Hid (∀ w, Calls Tryz.prog 16 #[.pointer none] w fun e w' => e = .returned (.tuple #[tv0, .int .i64 1]) ∧ Below w.heap.size w w') := mtable_nil
  have HIM : Hid (∀ w x, Calls Tryz.prog 39 #[.pointer none, .string x] w fun e w' => e = .returned (.tuple #[.bool false, .int .i64 1]) ∧ Below w.heap.size w w') := ismatch_nil
  have HSH : Hid (∀ w x, Calls Tryz.prog 55 #[.pointer none, .string x] w fun e w' => e = .returned (.tuple #[.int .i64 0, .int .i64 1]) ∧ Below w.heap.size w w') := shortest_nil
  have HLN : Hid (∀ w x, Calls Tryz.prog 56 #[.pointer none, .string x] w fun e w' => e = .returned (.tuple #[.int .i64 0, .int .i64 1]) ∧ Below w.heap.size w w') := longest_nil
  have HEN : Hid (∀ w k big, Calls Tryz.prog 34 #[.pointer none, .int .i64 k, .bool big] w fun e w' => e = .returned (.tuple #[.string ⟨#[]⟩, .int .i64 1]) ∧ Below w.heap.size w w') := encode_nil
  have HSA : Hid (∀ w, Calls Tryz.prog 17 #[tv0, tv0] w fun e w' => e = .returned (.bool true) ∧ Below w.heap.size w w') := fun w => sameT_eq w Tn _ _ _ _ (Tn_in w) (Tn_in w) Tn_small
  by_cases k3 : (k == 3) = true
  · go_enter Tryz.func66, Tryz.ntmps66
    go_wp2_with (first | (go_at_call 17; refine (HSA.out _).mono ?_; rintro e w3 ⟨rfl, hb3⟩; have HB3 : Hid (Below w.heap.size w w3) := (HB2.out.alloc HB2.out.size _).trans (hb3.mono (by have := HB2.out.size; simp; omega)); clear hb3) | (go_at_call 16; rw [← HW.out]; refine (HMT.out _).mono ?_; rintro e w2 ⟨rfl, hb2⟩; have HB2 : Hid (Below w.heap.size w w2) := HB1.out.trans (hb2.mono HB1.out.size); clear hb2))
    go_ret
    exact ⟨rfl, HB3.out⟩
  by_cases k4 : (k == 4) = true
  · go_enter Tryz.func66, Tryz.ntmps66
    go_wp2_with (go_at_call 39; rw [← HW.out]; refine (HIM.out _ _).mono ?_; rintro e w2 ⟨rfl, hb2⟩; have HB2 : Hid (Below w.heap.size w w2) := HB1.out.trans (hb2.mono HB1.out.size); clear hb2)
    go_ret
    exact ⟨rfl, HB2.out⟩
  by_cases k5 : (k == 5) = true
  · go_enter Tryz.func66, Tryz.ntmps66
    go_wp2_with (go_at_call 55; rw [← HW.out]; refine (HSH.out _ _).mono ?_; rintro e w2 ⟨rfl, hb2⟩; have HB2 : Hid (Below w.heap.size w w2) := HB1.out.trans (hb2.mono HB1.out.size); clear hb2)
    go_ret
    exact ⟨rfl, HB2.out⟩
  by_cases k6 : (k == 6) = true
  · go_enter Tryz.func66, Tryz.ntmps66
    go_wp2_with (go_at_call 56; rw [← HW.out]; refine (HLN.out _ _).mono ?_; rintro e w2 ⟨rfl, hb2⟩; have HB2 : Hid (Below w.heap.size w w2) := HB1.out.trans (hb2.mono HB1.out.size); clear hb2)
    go_ret
    exact ⟨rfl, HB2.out⟩
  by_cases k8 : (k == 8) = true
  · go_enter Tryz.func66, Tryz.ntmps66
    go_wp2_with (go_at_call 34; rw [← HW.out]; refine (HEN.out _ _ _).mono ?_; rintro e w2 ⟨rfl, hb2⟩; have HB2 : Hid (Below w.heap.size w w2) := HB1.out.trans (hb2.mono HB1.out.size); clear hb2)
    go_ret
    exact ⟨rfl, HB2.out⟩
  · go_enter Tryz.func66, Tryz.ntmps66
    go_wp2
    go_ret
    rw [← HW.out]
    exact ⟨rfl, HB1.out⟩
end Go.Proofs.YtbjabpodkaokjaaGreatDoor

namespace Go.Proofs.YtbjabpodkaokjaaGreatDoor
open Go.RowKit

/-- What the books hold. -/
structure Bd where
  ls : List Value
  ms : List Int
  bs : List Value
  ws : List Value
  rs : List Value
  os : List Int
/-- The books' lists as values. -/
structure Bv where
  vI : Value
  vM : Value
  vB : Value
  vW : Value
  vR : Value
  vL : Value
/-- The books lie in block g from cell 1 on, and every list is as its owner made it. -/
structure Stl (w : World) (g : Nat) (v : Bv) (d : Bd) : Prop where
  cI : w.cell? ⟨g, 2, none⟩ = some v.vI
  cM : w.cell? ⟨g, 3, none⟩ = some v.vM
  cB : w.cell? ⟨g, 4, none⟩ = some v.vB
  cW : w.cell? ⟨g, 5, none⟩ = some v.vW
  cR : w.cell? ⟨g, 6, none⟩ = some v.vR
  cL : w.cell? ⟨g, 7, none⟩ = some v.vL
  rI : RowE id w v.vI d.ls
  rM : RowE eI w v.vM d.ms
  rB : RowE id w v.vB d.bs
  rW : RowE id w v.vW d.ws
  rR : RowE id w v.vR d.rs
  rL : RowE eI w v.vL d.os
  lI : d.ms.length = d.ls.length
  lB : d.ws.length = d.bs.length
  lR : d.os.length = d.rs.length
  sI : d.ls.length < 9223372036854775807
  sB : d.bs.length < 9223372036854775807
  sR : d.rs.length < 9223372036854775807
  fI : ∀ i (h1 : i < d.ls.length) (h2 : i < d.ms.length), ∃ n, n < 9223372036854775807 ∧ RowE eI w d.ls[i] (List.replicate n d.ms[i])
  fB : ∀ i (h1 : i < d.bs.length) (h2 : i < d.ws.length), ∃ l : List Bool, l.length ≤ maxLen ∧ RowE eB w d.bs[i] l ∧ RowE eB w d.ws[i] l
  fR : ∀ i (h1 : i < d.rs.length) (h2 : i < d.os.length), ∃ n u, n < 9223372036854775807 ∧ RowE id w d.rs[i] (List.replicate n u) ∧ RowE eI w u [d.os[i]]
theorem Stl.below {w w' : World} {g : Nat} {v : Bv} {d : Bd} (h : Stl w g v d) (hb : Below w.heap.size w w') : Stl w' g v d :=
  ⟨cell_below hb h.cI, cell_below hb h.cM, cell_below hb h.cB, cell_below hb h.cW, cell_below hb h.cR, cell_below hb h.cL,
    h.rI.below hb, h.rM.below hb, h.rB.below hb, h.rW.below hb, h.rR.below hb, h.rL.below hb, h.lI, h.lB, h.lR, h.sI, h.sB, h.sR,
    fun i h1 h2 => by obtain ⟨n, a, b⟩ := h.fI i h1 h2; exact ⟨n, a, b.below hb⟩,
    fun i h1 h2 => by obtain ⟨l, a, b, c⟩ := h.fB i h1 h2; exact ⟨l, a, b.below hb, c.below hb⟩,
    fun i h1 h2 => by obtain ⟨n, u, a, b, c⟩ := h.fR i h1 h2; exact ⟨n, u, a, b.below hb, c.below hb⟩⟩
set_option maxRecDepth 4000 in
set_option maxHeartbeats 4000000 in
theorem still_yes (w : World) (g : Nat) (v : Bv) (d : Bd) (h : Stl w g v d) :
    Calls Tryz.prog 19 #[.pointer (some ⟨g, 1, none⟩)] w fun e w' => e = .returned (.bool true) ∧ Below w.heap.size w w' := by
  obtain ⟨aI, kI, eI'⟩ := h.rI.form
  obtain ⟨aM, kM, eM⟩ := h.rM.form
  obtain ⟨aB, kB, eB'⟩ := h.rB.form
  obtain ⟨aW, kW, eW⟩ := h.rW.form
  obtain ⟨aR, kR, eR⟩ := h.rR.form
  obtain ⟨aL, kL, eL⟩ := h.rL.form
  obtain ⟨nI, hnI⟩ : ∃ n, n = d.ls.length := ⟨_, rfl⟩
  obtain ⟨nB, hnB⟩ : ∃ n, n = d.bs.length := ⟨_, rfl⟩
  obtain ⟨nR, hnR⟩ : ∃ n, n = d.rs.length := ⟨_, rfl⟩
  have HNI : Hid (nI = d.ls.length ∧ nI = d.ms.length) := ⟨hnI, by rw [h.lI]; exact hnI⟩
  have HNB : Hid (nB = d.bs.length ∧ nB = d.ws.length) := ⟨hnB, by rw [h.lB]; exact hnB⟩
  have HNR : Hid (nR = d.rs.length ∧ nR = d.os.length) := ⟨hnR, by rw [h.lR]; exact hnR⟩
  have hsI : nI < 9223372036854775807 := by rw [hnI]; exact h.sI
  have hsB : nB < 9223372036854775807 := by rw [hnB]; exact h.sB
  have hsR : nR < 9223372036854775807 := by rw [hnR]; exact h.sR
  rw [← HNI.out.1] at eI'
  rw [← HNI.out.2] at eM
  rw [← HNB.out.1] at eB'
  rw [← HNB.out.2] at eW
  rw [← HNR.out.1] at eR
  rw [← HNR.out.2] at eL
  have HCI : Hid (∀ w', Below w.heap.size w w' → w'.cell? ⟨g, 2, none⟩ = some (.slice aI nI kI) ∧ w'.cell? ⟨g, 3, none⟩ = some (.slice aM nI kM)) := fun w' hb => by
    rw [← eI', ← eM]; exact ⟨cell_below hb h.cI, cell_below hb h.cM⟩
  have HCB : Hid (∀ w', Below w.heap.size w w' → w'.cell? ⟨g, 4, none⟩ = some (.slice aB nB kB) ∧ w'.cell? ⟨g, 5, none⟩ = some (.slice aW nB kW)) := fun w' hb => by
    rw [← eB', ← eW]; exact ⟨cell_below hb h.cB, cell_below hb h.cW⟩
  have HCR : Hid (∀ w', Below w.heap.size w w' → w'.cell? ⟨g, 6, none⟩ = some (.slice aR nR kR) ∧ w'.cell? ⟨g, 7, none⟩ = some (.slice aL nR kL)) := fun w' hb => by
    rw [← eR, ← eL]; exact ⟨cell_below hb h.cR, cell_below hb h.cL⟩
  have HRI : Hid (RowE id w (.slice aI nI kI) d.ls ∧ RowE eI w (.slice aM nI kM) d.ms) := by rw [← eI', ← eM]; exact ⟨h.rI, h.rM⟩
  have HRB : Hid (RowE id w (.slice aB nB kB) d.bs ∧ RowE id w (.slice aW nB kW) d.ws) := by rw [← eB', ← eW]; exact ⟨h.rB, h.rW⟩
  have HRR : Hid (RowE id w (.slice aR nR kR) d.rs ∧ RowE eI w (.slice aL nR kL) d.os) := by rw [← eR, ← eL]; exact ⟨h.rR, h.rL⟩
  have HFI : Hid (∀ i (h1 : i < d.ls.length) (h2 : i < d.ms.length), ∃ n, n < 9223372036854775807 ∧ RowE eI w d.ls[i] (List.replicate n d.ms[i])) := h.fI
  have HFB : Hid (∀ i (h1 : i < d.bs.length) (h2 : i < d.ws.length), ∃ l : List Bool, l.length ≤ maxLen ∧ RowE eB w d.bs[i] l ∧ RowE eB w d.ws[i] l) := h.fB
  have HFR : Hid (∀ i (h1 : i < d.rs.length) (h2 : i < d.os.length), ∃ n u, n < 9223372036854775807 ∧ RowE id w d.rs[i] (List.replicate n u) ∧ RowE eI w u [d.os[i]]) := h.fR
  clear hnI hnB hnR eI' eM eB' eW eR eL h
  go_enter Tryz.func19, Tryz.ntmps19
  go_wp2
  go_loopw [3, 4] (fun i _ wr => ∃ k : Nat, i = .int .i64 k ∧ k ≤ nI ∧ Below w.heap.size w wr) (fun i _ _ => nI - (intOf i).toNat)
  case atStart => exact ⟨0, rfl, Nat.zero_le _, Below.refl _ _⟩
  case round =>
    obtain ⟨k, rfl, hk, hbl⟩ := hrel
    have HBL : Hid (Below w.heap.size w wr) := hbl
    by_cases hlt : k < nI
    · have hltI : (k : Int) < nI := by omega
      have hl1 : k < d.ls.length := by have := HNI.out; omega
      have hl2 : k < d.ms.length := by have := HNI.out; omega
      obtain ⟨c1, c2⟩ := HCI.out wr hbl
      obtain ⟨n, hn, hrow⟩ := HFI.out k hl1 hl2
      obtain ⟨ar, cr, hfr⟩ := hrow.form
      rw [List.length_replicate] at hfr
      obtain ⟨bI, oI, qI, hfI, _⟩ := HRI.out.1.nonnil (by omega)
      injection hfI with e1 e2 e3
      obtain ⟨bM, oM, qM, hfM, _⟩ := HRI.out.2.nonnil (by omega)
      injection hfM with f1 f2 f3
      subst e1 f1
      have d1' := HRI.out.1.at k hl1
      have d2' := HRI.out.2.at k hl2
      simp only [id] at d1'
      rw [hfr] at d1' hrow
      obtain ⟨mk, hmk⟩ : ∃ mk, mk = d.ms[k] := ⟨_, rfl⟩
      rw [← hmk] at d2' hrow
      have HD : Hid (∀ w', Below w.heap.size w w' → w'.cell? ⟨bI, oI + k, none⟩ = some (.slice ar n cr) ∧ w'.cell? ⟨bM, oM + k, none⟩ = some (.int .i64 mk)) := fun w' hb => ⟨cell_below hb d1', cell_below hb d2'⟩
      have HRW : Hid (RowE eI w (.slice ar n cr) (List.replicate n mk)) := hrow
      obtain ⟨d1, d2⟩ := HD.out wr hbl
      clear hbl hrow hfr hl1 hl2 d1' d2' hmk e2 e3 f2 f3
      go_wp2
      go_loopw [4] (fun q wr => ∃ j : Nat, q = .int .i64 j ∧ j ≤ n ∧ Below w.heap.size w wr) (fun q _ => n - (intOf q).toNat)
      case atStart => exact ⟨0, rfl, Nat.zero_le _, HBL.out⟩
      case round =>
        clear c1 c2 d1 d2 HBL
        obtain ⟨j, rfl, hj, hbl⟩ := hrel
        have HBL : Hid (Below w.heap.size w wr) := hbl
        obtain ⟨c1, c2⟩ := HCI.out wr hbl
        obtain ⟨d1, d2⟩ := HD.out wr hbl
        by_cases hjl : j < n
        · have hjI : (j : Int) < n := by omega
          obtain ⟨rb, ro, rc, hfo, _⟩ := HRW.out.nonnil (by simp; omega)
          injection hfo with e1 e2 e3
          subst e1
          have d3 := (HRW.out.below hbl).at j (by simp; exact hjl)
          rw [List.getElem_replicate] at d3
          simp only [eI] at d3
          clear hbl e2 e3
          go_wp2
          go_quiet (fail)
          go_wp2
          go_roundw
          case rel => exact ⟨j + 1, by go_num, by omega, belowN2 HBL.out nq⟩
          case measure => simp [intOf] <;> omega
        · have hjI : ¬ (j : Int) < n := by omega
          clear hbl
          go_wp2
          go_roundw
          case rel => exact ⟨k + 1, by go_num, by omega, HBL.out⟩
          case measure => simp [intOf] <;> omega
    · have hkI : ¬ (k : Int) < nI := by omega
      obtain ⟨c1, c2⟩ := HCI.out wr hbl
      clear hbl
      go_wp2
      clear c1 c2
      go_loopw [5, 6] (fun i _ wr => ∃ k : Nat, i = .int .i64 k ∧ k ≤ nB ∧ Below w.heap.size w wr) (fun i _ _ => nB - (intOf i).toNat)
      case atStart => exact ⟨0, rfl, Nat.zero_le _, HBL.out⟩
      case round =>
        clear HBL hkI hk
        obtain ⟨k2, rfl, hk2, hbl⟩ := hrel
        have HBL : Hid (Below w.heap.size w wr) := hbl
        obtain ⟨c1, c2⟩ := HCB.out wr hbl
        by_cases hlt : k2 < nB
        · have hltI : (k2 : Int) < nB := by omega
          have hl1 : k2 < d.bs.length := by have := HNB.out; omega
          have hl2 : k2 < d.ws.length := by have := HNB.out; omega
          obtain ⟨l, hll, hr1, hr2⟩ := HFB.out k2 hl1 hl2
          obtain ⟨bI, oI, qI, hfI, _⟩ := HRB.out.1.nonnil (by omega)
          injection hfI with e1 e2 e3
          obtain ⟨bM, oM, qM, hfM, _⟩ := HRB.out.2.nonnil (by omega)
          injection hfM with f1 f2 f3
          subst e1 f1
          have d1 := cell_below hbl (HRB.out.1.at k2 hl1)
          have d2 := cell_below hbl (HRB.out.2.at k2 hl2)
          simp only [id] at d1 d2
          have HSB : Hid (Calls Tryz.prog 51 #[d.bs[k2], d.ws[k2]] wr.drew fun e w' => e = .returned (.bool true) ∧ Below wr.heap.size wr w') := by
            refine (sameB_eq wr.drew _ _ l ((hr1.below hbl).below ((Below.refl _ _).drew)) ((hr2.below hbl).below ((Below.refl _ _).drew)) hll).mono ?_
            rintro e w' ⟨rfl, hb'⟩
            exact ⟨rfl, (Below.refl _ _).drew.trans hb'⟩
          obtain ⟨u1, hu1⟩ : ∃ u, u = d.bs[k2] := ⟨_, rfl⟩
          obtain ⟨u2, hu2⟩ : ∃ u, u = d.ws[k2] := ⟨_, rfl⟩
          rw [← hu1, ← hu2] at HSB
          rw [← hu1] at d1
          rw [← hu2] at d2
          clear hbl hr1 hr2 hll e2 e3 f2 f3 hu1 hu2 hl1 hl2
          go_wp2
          go_region_held3 (fun w' => w'.cell? ⟨g, 4, none⟩ = some (.slice (some ⟨bI, oI, none⟩) nB kB) ∧ w'.cell? ⟨g, 5, none⟩ = some (.slice (some ⟨bM, oM, none⟩) nB kW) ∧ w'.cell? ⟨bI, oI + k2, none⟩ = some u1 ∧ w'.cell? ⟨bM, oM + k2, none⟩ = some u2) (go_keep) ((go_at_call 51; refine HSB.out.mono ?_; rintro e w3 ⟨rfl, hb3⟩; have HB3 : Hid (Below w.heap.size w w3) := HBL.out.trans (hb3.mono HBL.out.size); have c1' := cell_below hb3 c1; have c2' := cell_below hb3 c2; have d1' := cell_below hb3 d1; have d2' := cell_below hb3 d2; clear hb3))
          all_goals
            go_wp2
            go_roundw
            case rel => exact ⟨k2 + 1, by go_num, by omega, HB3.out⟩
            case measure => simp [intOf] <;> omega
        · have hkI : ¬ (k2 : Int) < nB := by omega
          clear hbl
          go_wp2
          clear c1 c2
          go_loopw [7, 8] (fun i _ wr => ∃ k : Nat, i = .int .i64 k ∧ k ≤ nR ∧ Below w.heap.size w wr) (fun i _ _ => nR - (intOf i).toNat)
          case atStart => exact ⟨0, rfl, Nat.zero_le _, HBL.out⟩
          case round =>
            clear HBL hkI hk2
            obtain ⟨k, rfl, hk, hbl⟩ := hrel
            have HBL : Hid (Below w.heap.size w wr) := hbl
            by_cases hlt : k < nR
            · have hltI : (k : Int) < nR := by omega
              have hl1 : k < d.rs.length := by have := HNR.out; omega
              have hl2 : k < d.os.length := by have := HNR.out; omega
              obtain ⟨c1, c2⟩ := HCR.out wr hbl
              obtain ⟨n, u, hn, hrow, hru⟩ := HFR.out k hl1 hl2
              obtain ⟨ar, cr, hfr⟩ := hrow.form
              rw [List.length_replicate] at hfr
              obtain ⟨bI, oI, qI, hfI, _⟩ := HRR.out.1.nonnil (by omega)
              injection hfI with e1 e2 e3
              obtain ⟨bM, oM, qM, hfM, _⟩ := HRR.out.2.nonnil (by omega)
              injection hfM with f1 f2 f3
              subst e1 f1
              have d1' := HRR.out.1.at k hl1
              have d2' := HRR.out.2.at k hl2
              simp only [id] at d1'
              rw [hfr] at d1' hrow
              obtain ⟨mk, hmk⟩ : ∃ mk, mk = d.os[k] := ⟨_, rfl⟩
              rw [← hmk] at d2' hru
              obtain ⟨ub, uo, uc, hfu, huc⟩ := hru.nonnil (by simp)
              simp only [List.length_cons, List.length_nil, Nat.zero_add] at hfu
              subst hfu
              have d4' := huc 0 (by simp)
              simp only [List.getElem_cons_zero, eI, Nat.add_zero] at d4'
              have HD : Hid (∀ w', Below w.heap.size w w' → w'.cell? ⟨bI, oI + k, none⟩ = some (.slice ar n cr) ∧ w'.cell? ⟨bM, oM + k, none⟩ = some (.int .i64 mk) ∧ w'.cell? ⟨ub, uo, none⟩ = some (.int .i64 mk)) := fun w' hb => ⟨cell_below hb d1', cell_below hb d2', cell_below hb d4'⟩
              have HRW : Hid (RowE id w (.slice ar n cr) (List.replicate n (.slice (some ⟨ub, uo, none⟩) 1 uc))) := hrow
              obtain ⟨d1, d2, d4⟩ := HD.out wr hbl
              clear hbl hrow hfr hl1 hl2 d1' d2' d4' hmk e2 e3 f2 f3 hru huc
              go_wp2
              go_loopw [8] (fun q wr => ∃ j : Nat, q = .int .i64 j ∧ j ≤ n ∧ Below w.heap.size w wr) (fun q _ => n - (intOf q).toNat)
              case atStart => exact ⟨0, rfl, Nat.zero_le _, HBL.out⟩
              case round =>
                clear c1 c2 d1 d2 d4 HBL
                obtain ⟨j, rfl, hj, hbl⟩ := hrel
                have HBL : Hid (Below w.heap.size w wr) := hbl
                obtain ⟨c1, c2⟩ := HCR.out wr hbl
                obtain ⟨d1, d2, d4⟩ := HD.out wr hbl
                by_cases hjl : j < n
                · have hjI : (j : Int) < n := by omega
                  obtain ⟨rb, ro, rc, hfo, _⟩ := HRW.out.nonnil (by simp; omega)
                  injection hfo with e1 e2 e3
                  subst e1
                  have d3 := (HRW.out.below hbl).at j (by simp; exact hjl)
                  rw [List.getElem_replicate] at d3
                  simp only [id] at d3
                  clear hbl e2 e3
                  go_wp2
                  go_quiet (fail)
                  go_wp2
                  go_roundw
                  case rel => exact ⟨j + 1, by go_num, by omega, belowN2 HBL.out nq⟩
                  case measure => simp [intOf] <;> omega
                · have hjI : ¬ (j : Int) < n := by omega
                  clear hbl
                  go_wp2
                  go_roundw
                  case rel => exact ⟨k + 1, by go_num, by omega, HBL.out⟩
                  case measure => simp [intOf] <;> omega
            · have hkI : ¬ (k : Int) < nR := by omega
              obtain ⟨c1, c2⟩ := HCR.out wr hbl
              clear hbl
              go_wp2
              go_ret
              exact ⟨rfl, HBL.out⟩
end Go.Proofs.YtbjabpodkaokjaaGreatDoor
