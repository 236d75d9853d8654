import Derived.Test.YtbjabpodkaokjaaGreatDoorJ41
import Derived.Test.YtbjabpodkaokjaaGreatDoorJ38
set_option linter.unusedVariables false
set_option linter.unusedSimpArgs false
namespace Go.Proofs.YtbjabpodkaokjaaGreatDoor
open Go.RowKit

def lntA (acc : List Bool) (j : Nat) : Value := if j < acc.length then eB (acc[j]?.getD false) else .bool ((j : Int) % 2 == 0)
def lntL (H : Nat) (next : List (List Int)) (j : Nat) : Value := if j < next.length then .slice (some ⟨H + 5 + j, 0, none⟩) (next[j]?.getD []).length ((next[j]?.getD []).length + 8) else .slice (some ⟨H + 5 + j, 0, none⟩) 1 1
def lntR (r : List Int) (i : Nat) : Value := if i < r.length then eI (r[i]?.getD 0) else .int .i64 (-77)
/-- A table that was lent, and what stands behind its lists: in blocks from H on. -/
structure Lnt (H : Nat) (w : World) (t : Tb) : Prop where
  sz : H + 13 + t.next.length ≤ w.heap.size
  a : Nw w (H + 3) (t.acc.length + 8) (lntA t.acc)
  l : Nw w (H + 4) (t.next.length + 8) (lntL H t.next)
  r : ∀ j (h : j < t.next.length), Nw w (H + 5 + j) (t.next[j].length + 8) (lntR t.next[j])
  s : ∀ j, j < 8 → w.cell? ⟨H + 5 + t.next.length + j, 0, none⟩ = some (.int .i64 (-78))
theorem Lnt.below {H : Nat} {w w' : World} {t : Tb} (h : Lnt H w t) (hb : Below w.heap.size w w') : Lnt H w' t := by
  have hs := h.sz
  exact ⟨Nat.le_trans hs hb.size, h.a.of_block (hb.block _ (by omega)), h.l.of_block (hb.block _ (by omega)), fun j hj => (h.r j hj).of_block (hb.block _ (by omega)), fun j hj => cell_below hb (h.s j hj)⟩
theorem Lnt.tab {H : Nat} {w : World} {t : Tb} (h : Lnt H w t) : TabIn w t (.slice (some ⟨H + 3, 0, none⟩) t.acc.length (t.acc.length + 8)) (.slice (some ⟨H + 4, 0, none⟩) t.next.length (t.next.length + 8)) := by
  refine ⟨.inr ⟨H + 3, 0, _, rfl, fun j hj => ?_⟩, (List.range t.next.length).map (lntL H t.next), by simp, .inr ⟨H + 4, 0, t.next.length + 8, by simp, fun j hj => ?_⟩, fun j h1 h2 => ?_⟩
  · rw [Nat.zero_add, h.a.c j (by omega)]; simp [lntA, hj]
  · have hj' : j < t.next.length := by simpa using hj
    rw [Nat.zero_add, h.l.c j (by omega)]; simp
  · have hj' : j < t.next.length := h2
    simp only [List.getElem_map, List.getElem_range, lntL, if_pos hj', List.getElem?_eq_getElem hj', Option.getD_some]
    refine .inr ⟨H + 5 + j, 0, _, rfl, fun i hi => ?_⟩
    rw [Nat.zero_add, (h.r j hj').c i (by omega)]; simp [lntR, hi]
/-- Between lent's steps: the blocks from H on, k rows made. -/
structure LN (H : Nat) (w1 wr : World) (acc : List Bool) (next : List (List Int)) (k : Nat) : Prop where
  bl : Below (H + 2) w1 wr
  sz : wr.heap.size = H + 5 + k
  a : Nw wr (H + 3) (acc.length + 8) (lntA acc)
  l : Nw wr (H + 4) (next.length + 8) (fun j => if j < k then lntL H next j else .slice none 0 0)
  r : ∀ j (h : j < next.length), j < k → Nw wr (H + 5 + j) (next[j].length + 8) (lntR next[j])
  s : ∀ j, next.length ≤ j → j < k → wr.cell? ⟨H + 5 + j, 0, none⟩ = some (.int .i64 (-78))
theorem LN.put {H : Nat} {w1 wr w' : World} {acc : List Bool} {next : List (List Int)} {k : Nat} (h : LN H w1 wr acc next k) (hb : Below (H + 5 + k) wr w') (hz : w'.heap.size = H + 6 + k) (hk : k < next.length + 8)
    (hr : ∀ (hk : k < next.length), Nw w' (H + 5 + k) (next[k].length + 8) (lntR next[k])) (hs : next.length ≤ k → w'.cell? ⟨H + 5 + k, 0, none⟩ = some (.int .i64 (-78))) : LN H w1 (w'.setCell ⟨H + 4, k, none⟩ (lntL H next k)) acc next (k + 1) := by
  have hsz := h.sz
  have e : ∀ b, b < H + 5 + k → w'.heap[b]? = wr.heap[b]? := fun b hb' => hb.block b hb'
  have e2 : ∀ b, b ≠ H + 4 → (w'.setCell ⟨H + 4, k, none⟩ (lntL H next k)).heap[b]? = w'.heap[b]? := fun b hb' => heap_set_other hb'
  refine ⟨(h.bl.trans (hb.mono (by omega))).setCell (by simp) _, by rw [size_set]; omega, (h.a.of_block (e _ (by omega))).of_block (e2 _ (by omega)), ((h.l.of_block (e _ (by omega))).set k hk _).congr (fun j hj => ?_), fun j hj hjk => ?_, fun j hj hjk => ?_⟩
  · by_cases e1 : j = k
    · subst e1; rw [if_pos rfl, if_pos (by omega)]
    · rw [if_neg e1]
      by_cases e3 : j < k
      · rw [if_pos e3, if_pos (by omega)]
      · rw [if_neg e3, if_neg (by omega)]
  · by_cases e1 : j = k
    · subst e1; exact (hr hj).of_block (e2 _ (by omega))
    · exact ((h.r j hj (by omega)).of_block (e _ (by omega))).of_block (e2 _ (by omega))
  · by_cases e1 : j = k
    · subst e1; rw [cell_of_block (e2 _ (by omega))]; exact hs hj
    · rw [cell_of_block (e2 _ (by omega)), cell_of_block (e _ (by omega))]; exact h.s j hj (by omega)
theorem LN.lnt {H : Nat} {w1 wr w' : World} {f bk : Bool} {st : Int} {cls : List UInt8} {acc : List Bool} {next : List (List Int)} (h : LN H w1 wr acc next (next.length + 8)) (hz : w'.heap.size = wr.heap.size) (e : ∀ b, H + 3 ≤ b → w'.heap[b]? = wr.heap[b]?) : Lnt H w' ⟨f, bk, st, cls, acc, next⟩ := by
  have hsz := h.sz
  refine ⟨by show H + 13 + next.length ≤ _; omega, h.a.of_block (e _ (by omega)), (h.l.of_block (e _ (by omega))).congr (fun j hj => by rw [if_pos hj]), fun j hj => ?_, fun j hj => ?_⟩
  · have hj' : j < next.length := hj
    exact (h.r j hj' (by omega)).of_block (e _ (by omega))
  · show w'.cell? ⟨H + 5 + next.length + j, 0, none⟩ = _
    rw [cell_of_block (e _ (by omega)), show H + 5 + next.length + j = H + 5 + (next.length + j) by omega]
    exact h.s _ (by omega) (by omega)
theorem copy_nw {α : Type} {enc : α → Value} {w : World} {b n m : Nat} {e : TypeId} {z : Value} {l : List α} (hl : l.length = n) (h : w.heap[b]? = some (.cells (splice (List.replicate (n + m) z) 0 (l.map enc)).toArray e (0, 0))) :
    Nw w b (n + m) (fun j => if j < n then (l[j]?.map enc).getD z else z) := by
  subst hl
  have e1 : splice (List.replicate (l.length + m) z) 0 (l.map enc) = l.map enc ++ List.replicate m z := by
    simp only [splice, List.take_zero, List.nil_append, Nat.zero_add, List.length_map, List.drop_replicate]
    rw [Nat.add_sub_cancel_left]
  rw [e1] at h
  refine ⟨fun j hj => ?_, fun o => by simp [World.frozen?, h]⟩
  simp only [World.cell?, h, List.getElem?_toArray]
  by_cases q : j < l.length
  · rw [List.getElem?_append_left (by rw [List.length_map]; exact q), if_pos q]
    simp [q]
  · rw [List.getElem?_append_right (by rw [List.length_map]; omega), List.getElem?_replicate, if_neg q]
    simp; omega
/-- A copy makes no block. -/
theorem wpList_copy_size {P : Program} {w : World} {ops : Array Oper} {rest : List Oper} {o : Oper} {a : Act} {Q : Exit → Act → World → Prop} (hgd : o.guard = none) (d s : Operand) (dT sT : TypeId)
    (ho : o.op = .call { callee := .builtin .copy, args := #[d, s], argTypes := #[dT, sT] }) (elem : TypeId) (hu : P.underlying dT = some (.slice elem)) (hsz : (P.info? elem).map (·.size) = some 1)
    (sp : Option Addr) (dLen dCap sLen sCap g : Nat) (hd : a.eval d = .slice (some ⟨g, 0, none⟩) dLen dCap) (hs : a.eval s = .slice sp sLen sCap)
    (cur : List Value) (t : TypeId) (hg : w.heap[g]? = some (.cells cur.toArray t (0, 0))) (cs : List Value) (hn : cs.length = Nat.min sLen dLen)
    (hpos : 0 < cs.length → ∃ ad, sp = some ad ∧ ∀ j v, cs[j]? = some v → w.cell? (ad.add j) = some v)
    (hfit : cs.length ≤ cur.length) (h1 : ∀ v ∈ cs, v.oneCell' = true) (B : Nat) (w0 : World) (hb : Below B w0 w) (hBg : B ≤ g)
    (h : ∀ w', Hid (w'.heap[g]? = some (.cells (splice cur 0 cs).toArray t (0, 0))) → Below B w0 w' → w'.heap.size = w.heap.size → wpList P ops Q rest (a.put o.dst (goInt cs.length)) w') :
    wpList P ops Q (o :: rest) a w := by
  rcases Nat.eq_zero_or_pos cs.length with h0 | h0
  · have hc : cs = [] := List.eq_nil_of_length_eq_zero h0
    subst hc
    refine wpList_copy_nothing hgd d s dT sT ho elem hu hsz _ sp dLen dCap sLen sCap hd hs (by simpa using hn.symm) ?_
    exact h w (show _ = _ by simpa [splice] using hg) hb rfl
  · obtain ⟨ad, e, hsrc⟩ := hpos h0
    subst e
    refine wpList_copy_own hgd d s dT sT ho elem hu hsz g 0 dLen dCap ad sLen sCap hd hs cur.toArray t hg cs hn hsrc (by simpa using hfit) h1 ?_
    exact h _ (show _ = _ by simpa [splice] using setRow_heap w g _ _ t _ hg) (below_setRow hb hBg _) (by simp [World.setRow])
theorem make_plus {t e : TypeId} {i : TypeInfo} {z : Value} {b : Nat} (ht : Tryz.prog.underlying t = some (.slice e)) (hi : Tryz.prog.info? e = some i) (hz : i.zero = some z) (h1 : i.size = 1) (h2 : i.bytes = b) (n : Nat) (hn : b * (n + 8) ≤ 281474976710656) (hm : n + 8 ≤ maxLen) (w : World) :
    (Instr.makeSlice t (.int .i64 ((n : Int) + 8)) (.int .i64 ((n : Int) + 8))).run Tryz.prog w = .ok (.slice (some ⟨w.heap.size, 0, none⟩) (n + 8) (n + 8)) (w.alloc (.cells (mkA (n + 8) z) e)) := by
  have := make_eq ht hi hz h1 h2 (n + 8) hn hm w
  rwa [show (((n + 8 : Nat)) : Int) = (n : Int) + 8 by omega] at this
theorem sz_int : (Tryz.prog.info? 3).map (·.size) = some 1 := by
  obtain ⟨i, h1, h2, h3, h4⟩ := info_parts Tryz.infoI
  rw [h1]; simp [h3]
theorem eI_one (L : List Int) : ∀ v ∈ L.map eI, v.oneCell' = true := by
  intro v hv
  obtain ⟨b, _, rfl⟩ := List.mem_map.1 hv
  rfl
theorem row_src {α : Type} {enc : α → Value} {w w' : World} {a : Option Addr} {c n : Nat} {l : List α} (h : RowE enc w (.slice a n c) l) (hb : Below w.heap.size w w') : 0 < (l.map enc).length → ∃ ad, a = some ad ∧ ∀ j v, (l.map enc)[j]? = some v → w'.cell? (ad.add j) = some v := by
  intro hp
  obtain ⟨b, o, c', e, hc⟩ := h.nonnil (by simpa using hp)
  injection e with e
  refine ⟨_, e, fun j v hv => ?_⟩
  obtain ⟨hj, e2⟩ := List.getElem?_eq_some_iff.1 hv
  have hj' : j < l.length := by simpa using hj
  have hadd : (⟨b, o, none⟩ : Addr).add j = ⟨b, o + j, none⟩ := by unfold Addr.add; split <;> simp_all
  rw [hadd, cell_below hb (hc j hj'), ← e2]; simp
set_option maxRecDepth 4000 in
set_option maxHeartbeats 4000000 in
theorem lent_any (w : World) (t : Tb) (va vn : Value) (h : TabIn w t va vn) (ha : t.acc.length ≤ 1048576) (hn : t.next.length ≤ 1048576) (hr : ∀ r ∈ t.next, r.length ≤ 1048576) :
    Calls Tryz.prog 112 #[tv t va vn] w fun e w' => e = .returned (tv t (.slice (some ⟨w.heap.size + 3, 0, none⟩) t.acc.length (t.acc.length + 8)) (.slice (some ⟨w.heap.size + 4, 0, none⟩) t.next.length (t.next.length + 8))) ∧ Lnt w.heap.size w' t ∧ Below w.heap.size w w' := by
  obtain ⟨f, bk, st, cls, acc, next⟩ := t
  obtain ⟨hac, us0, hul, hu, hrw⟩ := h
  simp only at *
  obtain ⟨an0, cn0, hvn⟩ := hu.form
  obtain ⟨n, hnn⟩ : ∃ n, n = us0.length := ⟨_, rfl⟩
  rw [← hnn] at hvn
  obtain ⟨aa0, ca0, hva⟩ := hac.form
  obtain ⟨na, hna⟩ : ∃ n, n = acc.length := ⟨_, rfl⟩
  rw [← hna] at hva
  subst hva hvn
  have HNA : Hid (na = acc.length) := hna
  obtain ⟨H, hH⟩ : ∃ H, H = w.heap.size := ⟨_, rfl⟩
  obtain ⟨w1, hw1⟩ : ∃ w1, w1 = ((w.alloc (.cells #[.bool f, .bool bk, .int .i64 st, .string (ba cls), .slice aa0 na ca0, .slice an0 n cn0] 33)).alloc (.cells tc0 33)).alloc (.cells #[.bool f, .bool bk, .int .i64 st, .string (ba cls), .slice aa0 na ca0, .slice an0 n cn0] 33) := ⟨_, rfl⟩
  have hb1 : Below H w w1 := by rw [hw1, hH]; exact (((Below.refl _ _).alloc (Nat.le_refl _) _).alloc (by simp) _).alloc (by simp; omega) _
  have hs1 : w1.heap.size = H + 3 := by rw [hw1, hH]; simp
  have hT : w1.heap[H]? = some (.cells #[.bool f, .bool bk, .int .i64 st, .string (ba cls), .slice aa0 na ca0, .slice an0 n cn0] 33) := by
    rw [hw1, hH, Below.heap_alloc _ _ _ (by simp; omega), Below.heap_alloc _ _ _ (by simp)]; exact heap_alloc_new w _
  have hX : w1.heap[H + 2]? = some (.cells #[.bool f, .bool bk, .int .i64 st, .string (ba cls), .slice aa0 na ca0, .slice an0 n cn0] 33) := by
    rw [hw1, hH]; have := heap_alloc_new ((w.alloc (.cells #[.bool f, .bool bk, .int .i64 st, .string (ba cls), .slice aa0 na ca0, .slice an0 n cn0] 33)).alloc (.cells tc0 33)) (.cells #[.bool f, .bool bk, .int .i64 st, .string (ba cls), .slice aa0 na ca0, .slice an0 n cn0] 33); simpa using this
  have hR : w1.heap[H + 1]? = some (.cells tc0 33) := by
    rw [hw1, hH, Below.heap_alloc _ _ _ (by simp)]; have := heap_alloc_new (w.alloc (.cells #[.bool f, .bool bk, .int .i64 st, .string (ba cls), .slice aa0 na ca0, .slice an0 n cn0] 33)) (.cells tc0 33); simpa using this
  have HW : Hid (w1 = ((w.alloc (.cells #[.bool f, .bool bk, .int .i64 st, .string (ba cls), .slice aa0 na ca0, .slice an0 n cn0] 33)).alloc (.cells tc0 33)).alloc (.cells #[.bool f, .bool bk, .int .i64 st, .string (ba cls), .slice aa0 na ca0, .slice an0 n cn0] 33)) := hw1
  have HS1 : Hid (w1.heap.size = H + 3) := hs1
  have HKT : Hid (∀ w', Below (H + 2) w1 w' → w'.cell? ⟨H, 4, none⟩ = some (.slice aa0 na ca0) ∧ w'.cell? ⟨H, 5, none⟩ = some (.slice an0 n cn0)) := fun w' hb => by
    obtain ⟨y0, y1, y2, y3, y4, y5⟩ := box6 ((hb.block H (by omega)).trans hT)
    exact ⟨y4, y5⟩
  have HKR : Hid (∀ w', Below (H + 2) w1 w' → w'.heap[H + 1]? = some (.cells tc0 33)) := fun w' hb => (hb.block _ (by omega)).trans hR
  have HKX : Hid (∀ w', Below (H + 3) w1 w' → w'.heap[H + 2]? = some (.cells #[.bool f, .bool bk, .int .i64 st, .string (ba cls), .slice aa0 na ca0, .slice an0 n cn0] 33)) := fun w' hb => (hb.block _ (by omega)).trans hX
  have HKU : Hid (∀ w', Below (H + 2) w1 w' → Below w.heap.size w w') := fun w' hb => by rw [← hH]; exact hb1.trans (hb.mono (by omega))
  have HAC : Hid (RowE eB w1 (.slice aa0 na ca0) acc) := hac.below (hH ▸ hb1)
  have HU : Hid (RowE id w (.slice an0 n cn0) us0) := hu
  have HRW : Hid (∀ j (h1 : j < us0.length) (h2 : j < next.length), RowE eI w us0[j] next[j]) := hrw
  have HNN : Hid (n = us0.length ∧ n = next.length) := ⟨hnn, by omega⟩
  have HR : Hid (∀ r ∈ next, r.length ≤ 1048576) := hr
  have HH : Hid (H = w.heap.size) := hH
  have hn2 : n ≤ 1048576 := by omega
  have ha2 : na ≤ 1048576 := by omega
  obtain ⟨i1, hi1, h10, h11, h12⟩ := info_parts Tryz.infoLI
  obtain ⟨i2, hi2, h20, h21, h22⟩ := info_parts Tryz.infoI
  obtain ⟨i3, hi3, h30, h31, h32⟩ := info_parts Tryz.infoBo
  have hmA := make_plus Tryz.underlying30 hi3 h30 h31 h32 na (by omega) (by unfold maxLen; omega)
  have hmL := make_plus Tryz.underlying31 hi1 h10 h11 h12 n (by omega) (by unfold maxLen; omega)
  have HMR : Hid (∀ m : Nat, m ≤ 1048576 → ∀ w, (Instr.makeSlice 40 (.int .i64 ((m : Int) + 8)) (.int .i64 ((m : Int) + 8))).run Tryz.prog w = .ok (.slice (some ⟨w.heap.size, 0, none⟩) (m + 8) (m + 8)) (w.alloc (.cells (mkA (m + 8) (.int .i64 0)) 3))) := fun m hm => make_plus Tryz.underlying40 hi2 h20 h21 h22 m (by omega) (by unfold maxLen; omega)
  obtain ⟨q4, q5⟩ := HKT.out w1 (Below.refl _ _)
  clear hac hul hu hrw hb1 hs1 hT hX hR hw1 hnn hna hH
  go_enter Tryz.func112, Tryz.ntmps112
  go_upto_region 2 with (fail)
  rw [← HW.out, ← HH.out]
  have HQA : Hid ((w1.alloc (.cells (mkA (na + 8) (.bool false)) 4)).heap[H + 3]? = some (.cells (List.replicate (na + 8) (.bool false)).toArray 4 (0, 0))) := by
    have := heap_alloc_new w1 (.cells (mkA (na + 8) (.bool false)) 4)
    rw [HS1.out, mkA_rep _ _ rfl] at this
    rw [mkA_rep _ _ rfl]
    exact this
  have hs1 := HS1.out
  go_upto_region 4 with (refine wpList_copy_size rfl (.tmp 17) (.tmp 19) 30 30 rfl 4 Tryz.underlying30 sz_bool aa0 (na + 8) (na + 8) na ca0 (H + 3) rfl rfl (List.replicate (na + 8) (.bool false)) 4 HQA.out (acc.map eB) (by rw [List.length_map, ← HNA.out]; exact (Nat.min_eq_left (by omega)).symm) (row_src HAC.out ((Below.refl _ _).alloc (Nat.le_refl _) _)) (by rw [List.length_map, ← HNA.out, List.length_replicate]; omega) (eB_one acc) (H + 3) w1 ((Below.refl _ _).alloc (by rw [HS1.out]; exact Nat.le_refl _) _) (Nat.le_refl _) ?_; intro w2 hg2 hb2 hz2; have HN2 : Hid (Nw w2 (H + 3) (na + 8) (fun j => if j < na then (acc[j]?.map eB).getD (.bool false) else .bool false)) := copy_nw HNA.out.symm hg2.out; have HB2 : Hid (Below (H + 3) w1 w2) := hb2; have HZ2 : Hid (w2.heap.size = H + 4) := (by show _ = _; rw [hz2, World.size_alloc, HS1.out]); clear hg2 hb2 hz2)
  obtain ⟨p4, p5⟩ := HKT.out w2 (HB2.out.mono (by omega))
  clear q4 q5
  go_wp2
  go_loopw [5] (fun i wr => ∃ k : Nat, i = .int .i64 k ∧ na ≤ k ∧ k ≤ na + 8 ∧ Below (H + 3) w1 wr ∧ wr.heap.size = H + 4 ∧ Nw wr (H + 3) (na + 8) (fun j => if j < k then lntA acc j else .bool false)) (fun i _ => na + 8 - (intOf i).toNat)
  case atStart => exact ⟨na, rfl, Nat.le_refl _, by omega, HB2.out, HZ2.out, HN2.out.congr (fun j hj => by
    by_cases q : j < na
    · have q' : j < acc.length := by rw [← HNA.out]; exact q
      simp [q, q', lntA]
    · simp [q])⟩
  case round =>
    clear p4 p5 HN2 HB2 HZ2
    obtain ⟨k, rfl, hk1, hk2, hbl, hsz, hnw⟩ := hrel
    have HB : Hid (Below (H + 3) w1 wr) := hbl
    have HZ : Hid (wr.heap.size = H + 4) := hsz
    have HN : Hid (Nw wr (H + 3) (na + 8) (fun j => if j < k then lntA acc j else .bool false)) := hnw
    clear hbl hsz hnw
    obtain ⟨p4, p5⟩ := HKT.out wr (HB.out.mono (by omega))
    by_cases hlt : k < na + 8
    · have hltI : (k : Int) < na + 8 := by omega
      have c1 := HN.out.c k hlt
      have f1 := HN.out.fz k
      simp only [Nat.lt_irrefl, if_false] at c1
      go_wp2
      go_roundw
      case rel =>
        refine ⟨k + 1, by go_num, by omega, by omega, HB.out.setCell (by simp) _, by rw [size_set]; exact HZ.out, (HN.out.set k hlt _).congr (fun j hj => ?_)⟩
        by_cases e1 : j = k
        · subst e1
          have q' : ¬ j < acc.length := by rw [← HNA.out]; omega
          rw [if_pos rfl, if_pos (by omega)]
          simp [lntA, q']
        · rw [if_neg e1]
          by_cases e2 : j < k
          · rw [if_pos e2, if_pos (by omega)]
          · rw [if_neg e2, if_neg (by omega)]
      case measure => simp [intOf] <;> omega
    · have hkI : ¬ (k : Int) < na + 8 := by omega
      have hke : k = na + 8 := by omega
      have HNA8 : Hid (Nw wr (H + 3) (na + 8) (lntA acc)) := HN.out.congr (fun j hj => by rw [if_pos (by omega)])
      obtain ⟨x0, x1, x2, x3, x4, x5⟩ := box6 (HKX.out wr HB.out)
      have xf := boxfz (HKX.out wr HB.out)
      clear HN hke
      have hHZ := HZ.out
      obtain ⟨w5, hw5⟩ : ∃ w5, w5 = (wr.setCell ⟨H + 2, 4, none⟩ (.slice (some ⟨H + 3, 0, none⟩) na (na + 8))).alloc (.cells (mkA (n + 8) (.slice none 0 0)) 40) := ⟨_, rfl⟩
      have HW5 : Hid (w5 = (wr.setCell ⟨H + 2, 4, none⟩ (.slice (some ⟨H + 3, 0, none⟩) na (na + 8))).alloc (.cells (mkA (n + 8) (.slice none 0 0)) 40)) := hw5
      have HX5 : Hid (w5.cell? ⟨H + 2, 0, none⟩ = some (.bool f) ∧ w5.cell? ⟨H + 2, 1, none⟩ = some (.bool bk) ∧ w5.cell? ⟨H + 2, 2, none⟩ = some (.int .i64 st) ∧ w5.cell? ⟨H + 2, 3, none⟩ = some (.string (ba cls)) ∧ w5.cell? ⟨H + 2, 4, none⟩ = some (.slice (some ⟨H + 3, 0, none⟩) na (na + 8)) ∧ w5.cell? ⟨H + 2, 5, none⟩ = some (.slice an0 n cn0) ∧ ∀ o, w5.frozen? ⟨H + 2, o, none⟩ = false) := by
        have hsz : H + 2 < (wr.setCell ⟨H + 2, 4, none⟩ (.slice (some ⟨H + 3, 0, none⟩) na (na + 8))).heap.size := by rw [size_set]; omega
        have e := Below.heap_alloc (wr.setCell ⟨H + 2, 4, none⟩ (.slice (some ⟨H + 3, 0, none⟩) na (na + 8))) (.cells (mkA (n + 8) (.slice none 0 0)) 40) (H + 2) hsz
        rw [hw5]
        refine ⟨?_, ?_, ?_, ?_, ?_, ?_, fun o => ?_⟩
        · rw [cell_of_block e, World.cell?_setCell_other _ _ _ _ (by simp)]; exact x0
        · rw [cell_of_block e, World.cell?_setCell_other _ _ _ _ (by simp)]; exact x1
        · rw [cell_of_block e, World.cell?_setCell_other _ _ _ _ (by simp)]; exact x2
        · rw [cell_of_block e, World.cell?_setCell_other _ _ _ _ (by simp)]; exact x3
        · rw [cell_of_block e]; exact World.cell?_setCell_same _ _ _ x4
        · rw [cell_of_block e, World.cell?_setCell_other _ _ _ _ (by simp)]; exact x5
        · rw [frozen_of_block e, World.frozen?_setCell]; exact xf o
      have HLN : Hid (LN H w1 w5 acc next 0) := by
        have hb5 : Below (H + 2) w1 w5 := by rw [hw5]; exact (((HB.out.mono (by omega)).setCell (by simp) _).alloc (by rw [size_set]; omega) _)
        have hs5 : w5.heap.size = H + 5 := by rw [hw5]; simp [World.setCell]; omega
        refine ⟨hb5, by omega, ?_, ?_, fun j _ h => by omega, fun j _ h => by omega⟩
        · rw [← HNA.out]
          refine HNA8.out.of_block ?_
          rw [hw5, Below.heap_alloc _ _ _ (by rw [size_set]; omega)]
          exact heap_set_other (by omega)
        · rw [← HNN.out.2]
          have := Nw.new (wr.setCell ⟨H + 2, 4, none⟩ (.slice (some ⟨H + 3, 0, none⟩) na (na + 8))) (n + 8) (.slice none 0 0) rfl 40
          rw [size_set, hHZ] at this
          rw [hw5]
          exact this.congr (fun j _ => by simp)
      clear hw5
      go_upto_region 10 with (fail)
      rw [← HW5.out]
      have HBX : Hid (∀ w', Below (H + 3) w5 w' → w'.cell? ⟨H + 2, 0, none⟩ = some (.bool f) ∧ w'.cell? ⟨H + 2, 1, none⟩ = some (.bool bk) ∧ w'.cell? ⟨H + 2, 2, none⟩ = some (.int .i64 st) ∧ w'.cell? ⟨H + 2, 3, none⟩ = some (.string (ba cls)) ∧ w'.cell? ⟨H + 2, 4, none⟩ = some (.slice (some ⟨H + 3, 0, none⟩) na (na + 8)) ∧ w'.cell? ⟨H + 2, 5, none⟩ = some (.slice an0 n cn0) ∧ ∀ o, w'.frozen? ⟨H + 2, o, none⟩ = false) := fun w' hb => by
        obtain ⟨z0, z1, z2, z3, z4, z5, zf⟩ := HX5.out
        have e := hb.block (H + 2) (by omega)
        exact ⟨(cell_of_block e _).trans z0, (cell_of_block e _).trans z1, (cell_of_block e _).trans z2, (cell_of_block e _).trans z3, (cell_of_block e _).trans z4, (cell_of_block e _).trans z5, fun o => (frozen_of_block e _).trans (zf o)⟩
      clear x0 x1 x2 x3 x4 x5 xf HX5 HW5 HZ hHZ HB HNA8 p4 p5 hkI hmA hmL
      obtain ⟨p4, p5⟩ := HKT.out w5 HLN.out.bl
      go_wp2
      go_loopw [7, 8, 9] (fun i _ _ wr => ∃ k : Nat, i = .int .i64 k ∧ k ≤ n ∧ LN H w1 wr acc next k ∧ Below (H + 3) w5 wr) (fun i _ _ _ => n - (intOf i).toNat)
      case atStart => exact ⟨0, rfl, Nat.zero_le _, HLN.out, Below.refl _ _⟩
      case round =>
        clear p4 p5 HLN hk1 hk2
        rename World => wo
        obtain ⟨k2, rfl, hk2, hln, hbx⟩ := hrel
        have HL : Hid (LN H w1 wo acc next k2) := hln
        have HB : Hid (Below (H + 3) w5 wo) := hbx
        obtain ⟨p4, p5⟩ := HKT.out wo hln.bl
        have hsz := hln.sz
        clear hln hbx
        by_cases hlt : k2 < n
        · have hltI : (k2 : Int) < n := by omega
          have hj1 : k2 < us0.length := by rw [← HNN.out.1]; exact hlt
          have hj2 : k2 < next.length := by rw [← HNN.out.2]; exact hlt
          obtain ⟨bn, on, cn1, hvn, hcell⟩ := HU.out.nonnil (by omega)
          injection hvn with e1 e2 e3
          subst e1
          have uk := cell_below (HKU.out wo HL.out.bl) (hcell k2 hj1)
          simp only [id] at uk
          have hrk := (HRW.out k2 hj1 hj2).below (HKU.out wo HL.out.bl)
          obtain ⟨ar, cr, hform⟩ := hrk.form
          obtain ⟨r, hre⟩ : ∃ r, r = next[k2] := ⟨_, rfl⟩
          obtain ⟨lr, hlr⟩ : ∃ lr, lr = next[k2].length := ⟨_, rfl⟩
          rw [← hlr] at hform
          rw [hform] at uk hrk
          rw [← hre] at hrk
          have HRK : Hid (RowE eI wo (.slice ar lr cr) r) := hrk
          have hlr2 : lr ≤ 1048576 := by rw [hlr]; exact HR.out _ (List.getElem_mem hj2)
          have HLR : Hid (r.length = lr) := by show _ = _; rw [hre, hlr]
          have HRE : Hid (r = next[k2]) := hre
          have hmr := HMR.out lr hlr2
          have HQ : Hid ((wo.alloc (.cells (mkA (lr + 8) (.int .i64 0)) 3)).heap[H + 5 + k2]? = some (.cells (List.replicate (lr + 8) (.int .i64 0)).toArray 3 (0, 0))) := by
            have := heap_alloc_new wo (.cells (mkA (lr + 8) (.int .i64 0)) 3)
            rw [hsz, mkA_rep _ _ rfl] at this
            rw [mkA_rep _ _ rfl]
            exact this
          have hKU : Hid (∀ w', Below (H + 5 + k2) wo w' → w'.cell? ⟨H, 5, none⟩ = some (.slice (some ⟨bn, on, none⟩) n cn0) ∧ w'.cell? ⟨bn, on + k2, none⟩ = some (.slice ar lr cr)) := fun w' hb => by
            have hb' : Below wo.heap.size wo w' := by rw [hsz]; exact hb
            exact ⟨cell_below hb' p5, cell_below hb' uk⟩
          have HA : Hid (Below (H + 5 + k2) wo (wo.alloc (.cells (mkA (lr + 8) (.int .i64 0)) 3))) := (Below.refl _ _).alloc (by rw [hsz]; exact Nat.le_refl _) _
          obtain ⟨a5, a6⟩ := hKU.out _ HA.out
          clear e2 e3 hcell hform hre hlr hrk
          go_upto_region 15 with (refine wpList_copy_size rfl (.tmp 62) (.tmp 67) 40 40 rfl 3 Tryz.underlying40 sz_int ar (lr + 8) (lr + 8) lr cr (H + 5 + k2) rfl rfl (List.replicate (lr + 8) (.int .i64 0)) 3 HQ.out (r.map eI) (by rw [List.length_map, HLR.out]; exact (Nat.min_eq_left (by omega)).symm) (row_src HRK.out ((Below.refl _ _).alloc (Nat.le_refl _) _)) (by rw [List.length_map, HLR.out, List.length_replicate]; omega) (eI_one r) (H + 5 + k2) wo HA.out (Nat.le_refl _) ?_; intro w6 hg6 hb6 hz6; have HN6 : Hid (Nw w6 (H + 5 + k2) (lr + 8) (fun j => if j < lr then (r[j]?.map eI).getD (.int .i64 0) else .int .i64 0)) := copy_nw HLR.out hg6.out; have HB6 : Hid (Below (H + 5 + k2) wo w6) := hb6; have HZ6 : Hid (w6.heap.size = H + 6 + k2) := (by show _ = _; rw [hz6, World.size_alloc, hsz]; omega); obtain ⟨b5, b6⟩ := hKU.out w6 hb6; clear hg6 hb6 hz6)
          go_wp2
          clear a5 a6 b5 b6 hmr
          go_loopw [9] (fun i wr => ∃ q : Nat, i = .int .i64 q ∧ lr ≤ q ∧ q ≤ lr + 8 ∧ Below (H + 5 + k2) wo wr ∧ wr.heap.size = H + 6 + k2 ∧ Nw wr (H + 5 + k2) (lr + 8) (fun j => if j < q then lntR r j else .int .i64 0)) (fun i _ => lr + 8 - (intOf i).toNat)
          case atStart => exact ⟨lr, rfl, Nat.le_refl _, by omega, HB6.out, HZ6.out, HN6.out.congr (fun j hj => by
            by_cases q : j < lr
            · have q' : j < r.length := by rw [HLR.out]; exact q
              simp [q, q', lntR]
            · simp [q])⟩
          case round =>
            clear HN6 HB6 HZ6
            obtain ⟨q, rfl, hq1, hq2, hbl, hsz2, hnw⟩ := hrel
            have HBq : Hid (Below (H + 5 + k2) wo wr) := hbl
            have HZq : Hid (wr.heap.size = H + 6 + k2) := hsz2
            have HNq : Hid (Nw wr (H + 5 + k2) (lr + 8) (fun j => if j < q then lntR r j else .int .i64 0)) := hnw
            clear hbl hsz2 hnw
            by_cases hql : q < lr + 8
            · have hqI : (q : Int) < lr + 8 := by omega
              have c1 := HNq.out.c q hql
              have f1 := HNq.out.fz q
              simp only [Nat.lt_irrefl, if_false] at c1
              go_wp2
              go_roundw
              case rel =>
                refine ⟨q + 1, by go_num, by omega, by omega, HBq.out.setCell (by simp) _, by rw [size_set]; exact HZq.out, (HNq.out.set q hql _).congr (fun j hj => ?_)⟩
                by_cases e1 : j = q
                · subst e1
                  have q' : ¬ j < r.length := by rw [HLR.out]; omega
                  rw [if_pos rfl, if_pos (by omega)]
                  simp [lntR, q']
                · rw [if_neg e1]
                  by_cases e2 : j < q
                  · rw [if_pos e2, if_pos (by omega)]
                  · rw [if_neg e2, if_neg (by omega)]
              case measure => simp [intOf] <;> omega
            · have hqI : ¬ (q : Int) < lr + 8 := by omega
              have HNf : Hid (Nw wr (H + 5 + k2) (lr + 8) (lntR r)) := HNq.out.congr (fun j hj => by rw [if_pos (by omega)])
              obtain ⟨b5, b6⟩ := hKU.out wr HBq.out
              have HL4 : Hid (Nw wr (H + 4) (next.length + 8) (fun j => if j < k2 then lntL H next j else .slice none 0 0)) := HL.out.l.of_block (HBq.out.block _ (by omega))
              have c4 := HL4.out.c k2 (by omega)
              have f4 := HL4.out.fz k2
              simp only [Nat.lt_irrefl, if_false] at c4
              have HNX : Hid (LN H w1 (wr.setCell ⟨H + 4, k2, none⟩ (.slice (some ⟨H + 5 + k2, 0, none⟩) lr (lr + 8))) acc next (k2 + 1)) := by
                have := HL.out.put HBq.out HZq.out (by omega) (fun hk => by have h1 := HNf.out; rw [← HLR.out, HRE.out] at h1; exact h1) (fun h => by omega)
                rw [show lntL H next k2 = .slice (some ⟨H + 5 + k2, 0, none⟩) lr (lr + 8) by simp [lntL, hj2, ← HRE.out, HLR.out]] at this
                exact this
              have HBX2 : Hid (Below (H + 3) w5 (wr.setCell ⟨H + 4, k2, none⟩ (.slice (some ⟨H + 5 + k2, 0, none⟩) lr (lr + 8)))) := (HB.out.trans (HBq.out.mono (by omega))).setCell (by simp) _
              have hn8 : (k2 : Int) < n + 8 := by omega
              go_wp2
              go_roundw
              case rel => exact ⟨k2 + 1, by go_num, by omega, HNX.out, HBX2.out⟩
              case measure => simp [intOf] <;> omega
        · have hkI : ¬ (k2 : Int) < n := by omega
          have hke : k2 = n := by omega
          subst hke
          have HLn : Hid (LN H w1 wo acc next k2) := HL.out
          have HN2 : Hid (k2 = next.length) := HNN.out.2
          clear HL
          go_wp2
          clear hsz p4 p5
          go_loopw [10] (fun i wr => ∃ q : Nat, i = .int .i64 q ∧ k2 ≤ q ∧ q ≤ k2 + 8 ∧ LN H w1 wr acc next q ∧ Below (H + 3) w5 wr) (fun i _ => k2 + 8 - (intOf i).toNat)
          case atStart => exact ⟨k2, rfl, Nat.le_refl _, by omega, HLn.out, HB.out⟩
          case round =>
            clear HLn HB
            obtain ⟨q, rfl, hq1, hq2, hln, hbx⟩ := hrel
            have HL : Hid (LN H w1 wr acc next q) := hln
            have HB : Hid (Below (H + 3) w5 wr) := hbx
            have hsz := hln.sz
            clear hln hbx
            by_cases hql : q < k2 + 8
            · have hqI : (q : Int) < k2 + 8 := by omega
              have hq8 : q < next.length + 8 := by have := HN2.out; omega
              have c4 := HL.out.l.c q hq8
              have f4 := HL.out.l.fz q
              simp only [Nat.lt_irrefl, if_false] at c4
              have HAq : Hid (Below (H + 5 + q) wr (wr.alloc (.cells #[.int .i64 (-78)] 3))) := (Below.refl _ _).alloc (by rw [hsz]; exact Nat.le_refl _) _
              have HNX : Hid (LN H w1 ((wr.alloc (.cells #[.int .i64 (-78)] 3)).setCell ⟨H + 4, q, none⟩ (.slice (some ⟨H + 5 + q, 0, none⟩) 1 1)) acc next (q + 1)) := by
                have := HL.out.put HAq.out (by simp [hsz]; omega) hq8 (fun hk => by have := HN2.out; omega) (fun h => cells_at wr _ _ hsz)
                have hnl : ¬ q < next.length := by have := HN2.out; omega
                rw [show lntL H next q = .slice (some ⟨H + 5 + q, 0, none⟩) 1 1 by simp [lntL, hnl]] at this
                exact this
              have HBX2 : Hid (Below (H + 3) w5 ((wr.alloc (.cells #[.int .i64 (-78)] 3)).setCell ⟨H + 4, q, none⟩ (.slice (some ⟨H + 5 + q, 0, none⟩) 1 1))) := (HB.out.trans (HAq.out.mono (by omega))).setCell (by simp) _
              have c4n : (wr.alloc (.cells #[.int .i64 (-78)] 3)).cell? ⟨H + 4, q, none⟩ = some (.slice none 0 0) := cell_below ((Below.refl _ _).alloc (Nat.le_refl _) _) c4
              have c4e := World.new_ne wr _ c4
              have f4n : (wr.alloc (.cells #[.int .i64 (-78)] 3)).frozen? ⟨H + 4, q, none⟩ = false := by
                rw [frozen_of_block (Below.heap_alloc wr _ (H + 4) (by omega))]
                exact f4
              go_wp2
              go_roundw
              case rel => exact ⟨q + 1, by go_num, by omega, by omega, HNX.out, HBX2.out⟩
              case measure => simp [intOf] <;> omega
            · have hqI : ¬ (q : Int) < k2 + 8 := by omega
              have hqe : q = next.length + 8 := by have := HN2.out; omega
              have HLN2 : Hid (LN H w1 wr acc next (next.length + 8)) := by have h1 := HL.out; rw [hqe] at h1; exact h1
              obtain ⟨p4, p5⟩ := HKT.out wr HL.out.bl
              obtain ⟨x0, x1, x2, x3, x4, x5, xf⟩ := HBX.out wr HB.out
              obtain ⟨r0, r1, r2, r3, r4, r5⟩ := box6 (HKR.out wr HL.out.bl)
              have rf := boxfz (HKR.out wr HL.out.bl)
              have HBW : Hid (Below w.heap.size w wr) := HKU.out wr HL.out.bl
              clear hsz hqe HL
              go_wp2
              refine bodyPost_ret (v := tv ⟨f, bk, st, cls, acc, next⟩ (.slice (some ⟨H + 3, 0, none⟩) na (na + 8)) (.slice (some ⟨H + 4, 0, none⟩) k2 (k2 + 8))) (by simp [results, Tryz.results112, go_sem, r0, r1, r2, r3, r4, r5]) rfl ?_
              refine ⟨by rw [← HH.out, ← HNA.out, ← HN2.out], ?_, ?_⟩
              · rw [← HH.out]
                refine HLN2.out.lnt (by simp only [size_set]) (fun b hb => ?_)
                rw [heap_set_other (by omega), heap_set_other (by omega), heap_set_other (by omega), heap_set_other (by omega), heap_set_other (by omega), heap_set_other (by omega), heap_set_other (by omega)]
              · have hh := HH.out
                exact ((((((HBW.out.setCell (by simp; omega) _).setCell (by simp; omega) _).setCell (by simp; omega) _).setCell (by simp; omega) _).setCell (by simp; omega) _).setCell (by simp; omega) _).setCell (by simp; omega) _
end Go.Proofs.YtbjabpodkaokjaaGreatDoor
