import Derived.Test.YtbjabpodkaokjaaGreatDoorJ34
import Derived.Deep.AppendLies
set_option linter.unusedVariables false
set_option linter.unusedSimpArgs false
namespace Go.Proofs.YtbjabpodkaokjaaGreatDoor
open Go.RowKit

set_option maxRecDepth 4000 in
set_option maxHeartbeats 4000000 in
theorem asks_enc (w : World) (gp : Value) (m : Nat) (t : Tb) (c : Nat) (aa ca an cn : _) (nb : Bool) (k wh a : Int) (big : Bool) (tx : List UInt8) (o : Tb) (oa oca on ocn : _)
    (hm : Mch w m t c) (ht : TabIn w t (.slice aa t.acc.length ca) (.slice an t.next.length cn)) (hk : k ≠ 3) :
    Calls Tryz.prog 67 #[gp, twV (.pointer (some ⟨m, 0, none⟩)) t (.slice aa t.acc.length ca) (.slice an t.next.length cn) nb, opV k wh a big tx o (.slice oa o.acc.length oca) (.slice on o.next.length ocn)] w fun e w' => e = .returned (.bool true) ∧ Below w.heap.size w w' := by
  obtain ⟨_, _, _, hok⟩ := id hm
  have k3 : (k == 3) = false := by simpa using hk
  obtain ⟨w1, hw1⟩ : ∃ w1, w1 = (w.alloc (.cells (twC (.pointer (some ⟨m, 0, none⟩)) t (.slice aa t.acc.length ca) (.slice an t.next.length cn) nb) 133)).alloc (.cells (opC k wh a big tx o (.slice oa o.acc.length oca) (.slice on o.next.length ocn)) 80) := ⟨_, rfl⟩
  have hb1 : Below w.heap.size w w1 := by rw [hw1]; exact ((Below.refl _ _).alloc (Nat.le_refl _) _).alloc (by simp) _
  have hs1 : w1.heap.size = w.heap.size + 2 := by rw [hw1]; simp
  have HX1 : Hid (∀ w', Below w1.heap.size w1 w' → (w'.cell? ⟨w.heap.size + 1, 2, none⟩ = some (.int .i64 a) ∧ w'.cell? ⟨w.heap.size + 1, 3, none⟩ = some (.bool big)) ∧ w'.cell? ⟨w.heap.size, 1, none⟩ = some (.bool t.front) ∧ w'.cell? ⟨w.heap.size, 2, none⟩ = some (.bool t.back) ∧ w'.cell? ⟨w.heap.size, 3, none⟩ = some (.int .i64 t.start) ∧ w'.cell? ⟨w.heap.size, 4, none⟩ = some (.string (ba t.cls)) ∧ w'.cell? ⟨w.heap.size, 5, none⟩ = some (.slice aa t.acc.length ca) ∧ w'.cell? ⟨w.heap.size, 6, none⟩ = some (.slice an t.next.length cn)) := fun w' hb => by
    have e0 : w'.heap[w.heap.size]? = some (.cells (twC (.pointer (some ⟨m, 0, none⟩)) t (.slice aa t.acc.length ca) (.slice an t.next.length cn) nb) 133) := by
      rw [hb.block _ (by omega), hw1]
      exact (Below.heap_alloc (w.alloc _) _ _ (by simp)).trans (heap_alloc_new w _)
    have e1 : w'.heap[w.heap.size + 1]? = some (.cells (opC k wh a big tx o (.slice oa o.acc.length oca) (.slice on o.next.length ocn)) 80) := by
      rw [hb.block _ (by omega), hw1]
      have := heap_alloc_new (w.alloc (.cells (twC (.pointer (some ⟨m, 0, none⟩)) t (.slice aa t.acc.length ca) (.slice an t.next.length cn) nb) 133)) (.cells (opC k wh a big tx o (.slice oa o.acc.length oca) (.slice on o.next.length ocn)) 80)
      rw [World.size_alloc] at this
      exact this
    exact ⟨⟨by simp [World.cell?, e1], by simp [World.cell?, e1]⟩, by simp [World.cell?, e0], by simp [World.cell?, e0], by simp [World.cell?, e0], by simp [World.cell?, e0], by simp [World.cell?, e0], by simp [World.cell?, e0]⟩
  have HW : Hid (w1 = (w.alloc (.cells (twC (.pointer (some ⟨m, 0, none⟩)) t (.slice aa t.acc.length ca) (.slice an t.next.length cn) nb) 133)).alloc (.cells (opC k wh a big tx o (.slice oa o.acc.length oca) (.slice on o.next.length ocn)) 80)) := hw1
  have HST : Hid (∀ w', Below w1.heap.size w1 w' → Below w.heap.size w w') := fun w' hb => hb1.trans (hb.mono (by omega))
  have HM : Hid (Mch w1 m t c) := hm.below hb1
  have HT : Hid (TabIn w1 t (.slice aa t.acc.length ca) (.slice an t.next.length cn)) := ht.below hb1
  have HOK : Hid (TbOk t c) := hok
  clear hw1 hb1 hs1 hm ht hok hk
  by_cases h0 : a = 0
  · subst h0
    have HE1 : Hid (Calls Tryz.prog 34 #[.pointer (some ⟨m, 0, none⟩), .int .i64 0, .bool big] w1 fun e w' => e = .returned (.tuple #[.string (ba (enc t 0 big)), .int .i64 0]) ∧ Below w1.heap.size w1 w') := encode_any w1 m t c HM.out 0 (by omega) big
    have HE2 : Hid (∀ w', Below w1.heap.size w1 w' → Calls Tryz.prog 118 #[tv t (.slice aa t.acc.length ca) (.slice an t.next.length cn), .int .i64 0, .bool big] w' fun e w'' => e = .returned (.string (ba (enc t 0 big))) ∧ Below w1.heap.size w1 w'') := fun w' hb => by
      refine (encode_ref w' t c _ _ 0 big (by omega) (HT.out.below hb) HOK.out).mono ?_
      rintro e w'' ⟨rfl, hb'⟩
      exact ⟨rfl, hb.trans (hb'.mono hb.size)⟩
    obtain ⟨E, hE⟩ : ∃ E, E = enc t 0 big := ⟨_, rfl⟩
    rw [← hE] at HE1 HE2
    have hbeq : (ba E).toList = E := ByteArray.toList_mk E
    clear hE HM HT HOK
    go_enter Tryz.func67, Tryz.ntmps67
    go_wp2_with (first | (go_at_call 118; refine (HE2.out _ HB2.out).mono ?_; rintro e w3 ⟨rfl, hb3⟩; have HB3 : Hid (Below w.heap.size w w3) := HST.out _ hb3; clear hb3) | (go_at_call 34; rw [← HW.out]; refine HE1.out.mono ?_; rintro e w2 ⟨rfl, hb2⟩; have HB2 : Hid (Below w1.heap.size w1 w2) := hb2; obtain ⟨⟨p2, p3⟩, q1, q2, q3, q4, q5, q6⟩ := HX1.out w2 hb2; clear hb2))
    go_ret
    exact ⟨rfl, HB3.out⟩
  by_cases h1 : a = 1
  · subst h1
    have HE1 : Hid (Calls Tryz.prog 34 #[.pointer (some ⟨m, 0, none⟩), .int .i64 1, .bool big] w1 fun e w' => e = .returned (.tuple #[.string (ba (enc t 1 big)), .int .i64 0]) ∧ Below w1.heap.size w1 w') := encode_any w1 m t c HM.out 1 (by omega) big
    have HE2 : Hid (∀ w', Below w1.heap.size w1 w' → Calls Tryz.prog 118 #[tv t (.slice aa t.acc.length ca) (.slice an t.next.length cn), .int .i64 1, .bool big] w' fun e w'' => e = .returned (.string (ba (enc t 1 big))) ∧ Below w1.heap.size w1 w'') := fun w' hb => by
      refine (encode_ref w' t c _ _ 1 big (by omega) (HT.out.below hb) HOK.out).mono ?_
      rintro e w'' ⟨rfl, hb'⟩
      exact ⟨rfl, hb.trans (hb'.mono hb.size)⟩
    obtain ⟨E, hE⟩ : ∃ E, E = enc t 1 big := ⟨_, rfl⟩
    rw [← hE] at HE1 HE2
    have hbeq : (ba E).toList = E := ByteArray.toList_mk E
    clear hE HM HT HOK
    go_enter Tryz.func67, Tryz.ntmps67
    go_wp2_with (first | (go_at_call 118; refine (HE2.out _ HB2.out).mono ?_; rintro e w3 ⟨rfl, hb3⟩; have HB3 : Hid (Below w.heap.size w w3) := HST.out _ hb3; clear hb3) | (go_at_call 34; rw [← HW.out]; refine HE1.out.mono ?_; rintro e w2 ⟨rfl, hb2⟩; have HB2 : Hid (Below w1.heap.size w1 w2) := hb2; obtain ⟨⟨p2, p3⟩, q1, q2, q3, q4, q5, q6⟩ := HX1.out w2 hb2; clear hb2))
    go_ret
    exact ⟨rfl, HB3.out⟩
  · have z0 : (a != 0) = true := by simp; omega
    have z1 : (a != 1) = true := by simp; omega
    have HE1 : Hid (Calls Tryz.prog 34 #[.pointer (some ⟨m, 0, none⟩), .int .i64 a, .bool big] w1 fun e w' => e = .returned (.tuple #[.string ⟨#[]⟩, .int .i64 2]) ∧ Below w1.heap.size w1 w') := encode_arg w1 m a big (by omega) (by omega)
    clear HM HT HOK h0 h1
    go_enter Tryz.func67, Tryz.ntmps67
    go_wp2_with (go_at_call 34; rw [← HW.out]; refine HE1.out.mono ?_; rintro e w2 ⟨rfl, hb2⟩; have HB2 : Hid (Below w1.heap.size w1 w2) := hb2; obtain ⟨⟨p2, p3⟩, q1, q2, q3, q4, q5, q6⟩ := HX1.out w2 hb2; clear hb2)
    go_ret
    exact ⟨rfl, HST.out _ HB2.out⟩
end Go.Proofs.YtbjabpodkaokjaaGreatDoor

namespace Go.Proofs.YtbjabpodkaokjaaGreatDoor

theorem alloc_old' (w : World) (o : Obj) (i : Nat) (h : i < w.heap.size) : (w.alloc o).heap[i]? = w.heap[i]? := by
  show (w.heap.push o)[i]? = _
  rw [Array.getElem?_push_lt h, Array.getElem?_eq_getElem h]

section
variable {P : Program} (w : World)
/-- Append in place, or anew: then nothing older changes. -/
theorem run_append_str (t ty : TypeId) (base : Nat) (e : TypeId) (i : TypeInfo) (z : Value) (size bytes : Nat) (ht : P.underlying t = some (.slice e)) (hi : P.info? e = some i) (hz : i.zero = some z)
    (hsize : i.size = size) (hby : i.bytes = bytes) (hzs : z.cells.size = size) (hsz : 0 < size)
    (v : Value) (n : Nat) (xs : List Value) (hown : w.ownsRow base e size v n xs)
    (ad : Addr) (m c : Nat) (news : List Value) (hl : news.length = m * size) (hnews : ∀ j u, news[j]? = some u → w.cell? (ad.add j) = some u) (h1 : ∀ u ∈ news, u.oneCell' = true)
    (hm : 0 < m) (h63 : n + m ≤ maxLen) (hbytes : (n + m) * bytes ≤ 140737488355328) (hbase : base ≤ w.heap.size) (H : Nat) (hH : w.heap.size = H) :
    ∃ g cap w', (Builtin.append_ #[t, t] ty #[v, .slice (some ad) m c]).run P w = .ok (.slice (some ⟨g, 0, none⟩) (n + m) cap) w' ∧
      w'.ownsRow base e size (.slice (some ⟨g, 0, none⟩) (n + m) cap) (n + m) (xs ++ news) ∧ ((v.ownBlock = some g ∧ w.grownBy w' (some g)) ∨ (g = H ∧ w.grownBy w' none)) ∧ g < w'.heap.size := by
  obtain ⟨g, cap, w', hr, h2, h3, h4, h5⟩ := run_append_lies (P := P) w t ty base e i z size bytes ht hi hz hsize hby hzs hsz v n xs hown ad m c news hl hnews h1 hm h63 hbytes hbase H hH
  refine ⟨g, cap, w', hr, h2, ?_, h5⟩
  rcases h4 with h4 | h4
  · exact .inl ⟨h4, by rw [← h4]; exact h3⟩
  refine .inr ⟨h4, ?_⟩
  rcases hown.2 with ⟨rfl, rfl⟩ | ⟨g0, cap0, cur, rfl, hbg, hg, hnc, hcm, hcs, htake⟩
  · exact h3
  by_cases hroom : n + m ≤ cap0
  · exfalso
    subst hsize
    have hfit : n * i.size + news.length ≤ cur.size := by rw [hl, hcs, ← Nat.add_mul]; exact Nat.mul_le_mul_right _ hroom
    have hr2 := run_append_room (P := P) w t ty e i ht hi g0 n cap0 cur hg ad m c news hl hnews h1 hroom hfit
    rw [hr] at hr2
    injection hr2 with e1 e2
    injection e1 with e3
    injection e3 with e3
    injection e3 with e3
    have := (Array.getElem?_eq_some_iff.1 hg).1
    omega
  · subst hsize
    subst hby
    have hsmall : n + m ≤ 9223372036854775807 := by simp only [maxLen] at h63; omega
    have hr2 := run_append_grow (P := P) w t ty e i z ht hi hz ⟨g0, 0, none⟩ n cap0 xs hown.1 (hown.cells (g := g0) rfl) ad m c news hl hnews (by omega) (by omega) (growslice_fits (by omega) hbytes)
    rw [hr] at hr2
    injection hr2 with e1 e2
    rw [e2]
    exact ⟨rfl, rfl, rfl, by simp, fun k hk _ => alloc_old' w.drew _ k hk⟩
theorem step_append_str {ops : Array Oper} {o : Oper} {a : Act} {K : Act → World → Prop} {Q : Exit → Act → World → Prop} {E : Prop} (hgd : o.guard = none) (s x : Operand) (t : TypeId)
    (ho : o.op = .call { callee := .builtin .append, args := #[s, x], argTypes := #[t, t] })
    (base : Nat) (e : TypeId) (i : TypeInfo) (z : Value) (size bytes : Nat) (ht : P.underlying t = some (.slice e)) (hi : P.info? e = some i) (hz : i.zero = some z)
    (hsize : i.size = size) (hby : i.bytes = bytes) (hzs : z.cells.size = size) (hsz : 0 < size)
    (v : Value) (n : Nat) (xs : List Value) (hs : a.eval s = v) (hown : w.ownsRow base e size v n xs)
    (ad : Addr) (m c : Nat) (news : List Value) (hx : a.eval x = .slice (some ad) m c) (hl : news.length = m * size) (hnews : ∀ j u, news[j]? = some u → w.cell? (ad.add j) = some u) (h1 : ∀ u ∈ news, u.oneCell' = true)
    (hm : 0 < m) (h63 : n + m ≤ maxLen) (hbytes : (n + m) * bytes ≤ 140737488355328) (hbase : base ≤ w.heap.size) (H : Nat) (hH : w.heap.size = H)
    (h : ∀ g cap w', w'.ownsRow base e size (.slice (some ⟨g, 0, none⟩) (n + m) cap) (n + m) (xs ++ news) → ((v.ownBlock = some g ∧ w.grownBy w' (some g)) ∨ (g = H ∧ w.grownBy w' none)) → g < w'.heap.size → K (a.put o.dst (.slice (some ⟨g, 0, none⟩) (n + m) cap)) w') :
    if Region.wanted o (yielded ops a.tmps) = true then Oper.wp P o a w K Q else E := by
  have hw : Region.wanted o (yielded ops a.tmps) = true := by simp [Region.wanted, hgd]
  rw [if_pos hw]
  obtain ⟨g, cap, w', hr, h2, h3, h4⟩ := run_append_str (P := P) w t o.type base e i z size bytes ht hi hz hsize hby hzs hsz v n xs hown ad m c news hl hnews h1 hm h63 hbytes hbase H hH
  unfold Oper.wp execOp
  simp only [ho, resolve, invoke, builtin, Sem.run_bind, Sem.run_pure, Result.andThen_ok, List.map_toArray, List.map_cons, List.map_nil, hs, hx, hr]
  exact h g cap w' h2 h3 h4
theorem wpList_append_str {ops : Array Oper} {rest : List Oper} {o : Oper} {a : Act} {Q : Exit → Act → World → Prop} (hgd : o.guard = none) (s x : Operand) (t : TypeId)
    (ho : o.op = .call { callee := .builtin .append, args := #[s, x], argTypes := #[t, t] })
    (base : Nat) (e : TypeId) (i : TypeInfo) (z : Value) (size bytes : Nat) (ht : P.underlying t = some (.slice e)) (hi : P.info? e = some i) (hz : i.zero = some z)
    (hsize : i.size = size) (hby : i.bytes = bytes) (hzs : z.cells.size = size) (hsz : 0 < size)
    (v : Value) (n : Nat) (xs : List Value) (hs : a.eval s = v) (hown : w.ownsRow base e size v n xs)
    (ad : Addr) (m c : Nat) (news : List Value) (hx : a.eval x = .slice (some ad) m c) (hl : news.length = m * size) (hnews : ∀ j u, news[j]? = some u → w.cell? (ad.add j) = some u) (h1 : ∀ u ∈ news, u.oneCell' = true)
    (hm : 0 < m) (h63 : n + m ≤ maxLen) (hbytes : (n + m) * bytes ≤ 140737488355328) (hbase : base ≤ w.heap.size) (H : Nat) (hH : w.heap.size = H)
    (h : ∀ g cap w', w'.ownsRow base e size (.slice (some ⟨g, 0, none⟩) (n + m) cap) (n + m) (xs ++ news) → ((v.ownBlock = some g ∧ w.grownBy w' (some g)) ∨ (g = H ∧ w.grownBy w' none)) → g < w'.heap.size → wpList P ops Q rest (a.put o.dst (.slice (some ⟨g, 0, none⟩) (n + m) cap)) w') : wpList P ops Q (o :: rest) a w := by
  refine wpList_plain hgd fun K hK => ?_
  obtain ⟨g, cap, w', hr, h2, h3, h4⟩ := run_append_str (P := P) w t o.type base e i z size bytes ht hi hz hsize hby hzs hsz v n xs hown ad m c news hl hnews h1 hm h63 hbytes hbase H hH
  unfold Oper.wp execOp
  simp only [ho, resolve, invoke, builtin, Sem.run_bind, Sem.run_pure, Result.andThen_ok, List.map_toArray, List.map_cons, List.map_nil, hs, hx, hr]
  exact hK _ _ (h g cap w' h2 h3 h4)
/-- A list that is known by its cells; one that is full need not be known whole. -/
def Lst (w : World) (e : TypeId) (q n cap : Nat) (xs : List Value) : Prop := xs.length = n ∧ (∀ j u, xs[j]? = some u → w.cell? ⟨q, j, none⟩ = some u) ∧ (n = cap ∨ w.ownsRow 0 e 1 (.slice (some ⟨q, 0, none⟩) n cap) n xs)
theorem add_at (q j : Nat) : (⟨q, 0, none⟩ : Addr).add j = ⟨q, j, none⟩ := by unfold Addr.add; split <;> simp_all
theorem Lst.of_owns {w : World} {e : TypeId} {q n cap : Nat} {xs : List Value} (h : w.ownsRow 0 e 1 (.slice (some ⟨q, 0, none⟩) n cap) n xs) : Lst w e q n cap xs :=
  ⟨by have := h.1; omega, fun j u hu => by have := h.cells (g := q) rfl j u hu; rwa [add_at] at this, .inr h⟩
theorem run_append_lst (t ty : TypeId) (e : TypeId) (i : TypeInfo) (z : Value) (bytes : Nat) (ht : P.underlying t = some (.slice e)) (hi : P.info? e = some i) (hz : i.zero = some z)
    (hsize : i.size = 1) (hby : i.bytes = bytes) (hzs : z.cells.size = 1) (q n cap : Nat) (xs : List Value) (hl : Lst w e q n cap xs)
    (ad : Addr) (c : Nat) (x : Value) (hx : w.cell? ad = some x) (h1 : x.oneCell' = true)
    (h63 : n + 1 ≤ maxLen) (hbytes : (n + 1) * bytes ≤ 140737488355328) :
    ∃ g cap4 w', (Builtin.append_ #[t, t] ty #[.slice (some ⟨q, 0, none⟩) n cap, .slice (some ad) 1 c]).run P w = .ok (.slice (some ⟨g, 0, none⟩) (n + 1) cap4) w' ∧
      w'.ownsRow 0 e 1 (.slice (some ⟨g, 0, none⟩) (n + 1) cap4) (n + 1) (xs ++ [x]) ∧ ((some q = some g ∧ w.grownBy w' (some g)) ∨ (g = w.heap.size ∧ w.grownBy w' none)) ∧ g < w'.heap.size := by
  have hnews : ∀ j u, [x][j]? = some u → w.cell? (ad.add j) = some u := fun j u hu => by
    cases j with
    | zero =>
      simp at hu
      subst hu
      have : ad.add 0 = ad := by unfold Addr.add; split <;> simp_all
      rw [this]; exact hx
    | succ j => simp at hu
  obtain ⟨hlen, hcell, hor⟩ := hl
  rcases hor with rfl | ho
  · subst hby
    have hr := run_append_grow (P := P) w t ty e i z ht hi hz ⟨q, 0, none⟩ n n xs (by rw [hsize, hlen]; omega) (fun j u hu => by rw [add_at]; exact hcell j u hu) ad 1 c [x] (by rw [hsize]; rfl) hnews (by omega) (by unfold maxLen at h63; omega) (growslice_fits (by omega) hbytes)
    refine ⟨_, _, _, hr, ⟨by simp [hlen], .inr ⟨w.heap.size, _, _, rfl, Nat.zero_le _, heap_alloc_new w.drew _, grownCap_ge w _ _ _, grownCap_le_maxLen w _ _ _ h63, ?_, ?_⟩⟩, .inr ⟨rfl, ⟨rfl, rfl, rfl, by simp, fun k hk _ => alloc_old' w.drew _ k hk⟩⟩, by simp⟩
    · have := grownCap_ge w (n + 1) n e
      simp only [Array.size_append, List.size_toArray, size_zeroCells, hzs, hlen, List.length_singleton]
      omega
    · simp only [Array.toList_append, List.append_assoc]
      rw [← List.append_assoc, show (n + 1) * 1 = (xs ++ [x]).length by simp [hlen]]
      exact List.take_left
  · exact run_append_str w t ty 0 e i z 1 bytes ht hi hz hsize hby hzs (by omega) _ n xs ho ad 1 c [x] rfl hnews (by simpa using h1) (by omega) h63 hbytes (Nat.zero_le _) _ rfl
theorem wpList_append_lst {ops : Array Oper} {rest : List Oper} {o : Oper} {a : Act} {Q : Exit → Act → World → Prop} (hgd : o.guard = none) (s x : Operand) (t : TypeId)
    (ho : o.op = .call { callee := .builtin .append, args := #[s, x], argTypes := #[t, t] })
    (e : TypeId) (i : TypeInfo) (z : Value) (bytes : Nat) (ht : P.underlying t = some (.slice e)) (hi : P.info? e = some i) (hz : i.zero = some z)
    (hsize : i.size = 1) (hby : i.bytes = bytes) (hzs : z.cells.size = 1) (q n cap : Nat) (xs : List Value) (hs : a.eval s = .slice (some ⟨q, 0, none⟩) n cap) (hl : Lst w e q n cap xs)
    (ad : Addr) (c : Nat) (y : Value) (hx : a.eval x = .slice (some ad) 1 c) (hy : w.cell? ad = some y) (h1 : y.oneCell' = true)
    (h63 : n + 1 ≤ maxLen) (hbytes : (n + 1) * bytes ≤ 140737488355328)
    (h : ∀ g cap4 w', w'.ownsRow 0 e 1 (.slice (some ⟨g, 0, none⟩) (n + 1) cap4) (n + 1) (xs ++ [y]) → ((some q = some g ∧ w.grownBy w' (some g)) ∨ (g = w.heap.size ∧ w.grownBy w' none)) → g < w'.heap.size → wpList P ops Q rest (a.put o.dst (.slice (some ⟨g, 0, none⟩) (n + 1) cap4)) w') : wpList P ops Q (o :: rest) a w := by
  refine wpList_plain hgd fun K hK => ?_
  obtain ⟨g, cap4, w', hr, h2, h3, h4⟩ := run_append_lst (P := P) w t o.type e i z bytes ht hi hz hsize hby hzs q n cap xs hl ad c y hy h1 h63 hbytes
  unfold Oper.wp execOp
  simp only [ho, resolve, invoke, builtin, Sem.run_bind, Sem.run_pure, Result.andThen_ok, List.map_toArray, List.map_cons, List.map_nil, hs, hx, hr]
  exact hK _ _ (h g cap4 w' h2 h3 h4)
end

/-- Worlds that agree on the blocks of role 0, and on the first cells of one block. -/
structure Off (ρ : Nat → Nat) (q lim : Nat) (w w' : World) : Prop where
  size : w.heap.size ≤ w'.heap.size
  block : ∀ b, b < w.heap.size → ρ b = 0 → w'.heap[b]? = w.heap[b]?
  part : ∀ o, o < lim → w'.cell? ⟨q, o, none⟩ = w.cell? ⟨q, o, none⟩
theorem Off.refl (ρ : Nat → Nat) (q lim : Nat) (w : World) : Off ρ q lim w w := ⟨Nat.le_refl _, fun _ _ _ => rfl, fun _ _ => rfl⟩
theorem Off.comp {ρ ρ' : Nat → Nat} {q q' lim lim' : Nat} {w w' w'' : World} (h1 : w.heap.size ≤ w'.heap.size) (h2 : ∀ b, b < w.heap.size → ρ b = 0 → w'.heap[b]? = w.heap[b]? ∧ ρ' b = 0)
    (h3 : ∀ o, o < lim → w'.cell? ⟨q, o, none⟩ = w.cell? ⟨q, o, none⟩ ∧ ((q = q' ∧ o < lim') ∨ (ρ' q = 0 ∧ q < w'.heap.size))) (h : Off ρ' q' lim' w' w'') : Off ρ q lim w w'' := by
  refine ⟨Nat.le_trans h1 h.size, fun b hb hr => ?_, fun o ho => ?_⟩
  · obtain ⟨e1, e2⟩ := h2 b hb hr
    exact (h.block b (Nat.lt_of_lt_of_le hb h1) e2).trans e1
  · obtain ⟨e1, e2⟩ := h3 o ho
    rcases e2 with ⟨rfl, e2⟩ | ⟨e2, e3⟩
    · exact (h.part o e2).trans e1
    · refine Eq.trans ?_ e1
      have := h.block q e3 e2
      simp [World.cell?, this]
/-- What holds whatever becomes of the other blocks. -/
def Kp (ρ : Nat → Nat) (q lim : Nat) (w : World) (F : World → Prop) : Prop := ∀ w', Off ρ q lim w w' → F w'
theorem Kp.now {ρ : Nat → Nat} {q lim : Nat} {w : World} {F : World → Prop} (h : Kp ρ q lim w F) : F w := h w (Off.refl _ _ _ _)
theorem Kp.mono {ρ : Nat → Nat} {q lim : Nat} {w : World} {F G : World → Prop} (h : Kp ρ q lim w F) (k : ∀ w', F w' → G w') : Kp ρ q lim w G := fun w' o => k _ (h w' o)
end Go.Proofs.YtbjabpodkaokjaaGreatDoor

namespace Go.Proofs.YtbjabpodkaokjaaGreatDoor
open Go.RowKit

/-- A twin: nobody, or a machine with the document's table. -/
inductive Tw where
  | none
  | one (m : Nat) (t : Tb) (c : Nat) (aa : Option Addr) (ca : Nat) (an : Option Addr) (cn : Nat)
def Tw.cells : Tw → List Value
  | .none => (twC (.pointer Option.none) Tn (.slice Option.none 0 0) (.slice Option.none 0 0) true).toList
  | .one m t _ aa ca an cn => (twC (.pointer (some ⟨m, 0, Option.none⟩)) t (.slice aa t.acc.length ca) (.slice an t.next.length cn) false).toList
def Tw.ok (w : World) : Tw → Prop
  | .none => True
  | .one m t c aa ca an cn => Mch w m t c ∧ TabIn w t (.slice aa t.acc.length ca) (.slice an t.next.length cn)
theorem Tw.cells_len (t : Tw) : t.cells.length = 8 := by cases t <;> rfl
/-- The game's seven lists: 0 the twins, 1 I, 2 Mark, 3 B, 4 Was, 5 R, 6 Long. -/
def spT : Nat → TypeId
  | 0 => 133 | 1 => 40 | 2 => 3 | 3 => 30 | 4 => 30 | 5 => 31 | _ => 3
def spZ : Nat → Nat
  | 0 => 8 | _ => 1
def spN (d : Bd) (tw : List Tw) : Nat → Nat
  | 0 => tw.length | 1 => d.ls.length | 2 => d.ms.length | 3 => d.bs.length | 4 => d.ws.length | 5 => d.rs.length | 6 => d.os.length | _ + 7 => 0
def spX (d : Bd) (tw : List Tw) : Nat → List Value
  | 0 => tw.flatMap Tw.cells | 1 => d.ls | 2 => d.ms.map eI | 3 => d.bs | 4 => d.ws | 5 => d.rs | 6 => d.os.map eI | _ + 7 => []
def spO : Nat → Nat
  | 0 => 0 | k + 1 => k + 2
theorem spO_inj {j k : Nat} (h : spO j = spO k) : j = k := by
  cases j <;> cases k <;> simp [spO] at h <;> omega
theorem spO_ne1 (k : Nat) : spO k ≠ 1 := by cases k <;> simp [spO]
def upd {α : Type} (f : Nat → α) (k : Nat) (x : α) : Nat → α := fun j => if j = k then x else f j
theorem upd_same {α : Type} (f : Nat → α) (k : Nat) (x : α) : upd f k x k = x := by simp [upd]
theorem upd_ne {α : Type} (f : Nat → α) {k j : Nat} (x : α) (h : j ≠ k) : upd f k x j = f j := by simp [upd, h]
structure Bk (B : Nat) (w : World) (g : Nat) (ρ : Nat → Nat) (N : Int) (vs : Nat → Value) (d : Bd) (tw : List Tw) : Prop where
  cl : ∀ k, k < 7 → w.cell? ⟨g, spO k, none⟩ = some (vs k)
  cn : w.cell? ⟨g, 1, none⟩ = some (.int .i64 N)
  fz : ∀ o, w.frozen? ⟨g, o, none⟩ = false
  own : ∀ k, k < 7 → w.ownsRow 0 (spT k) (spZ k) (vs k) (spN d tw k) (spX d tw k)
  rol : ∀ k, k < 7 → ∀ b, (vs k).ownBlock = some b → ρ b = k + 2
  rg : ρ g = 1
  new : ∀ b, w.heap.size ≤ b → ρ b = 0
  lo : ∀ b, ρ b ≠ 0 → B ≤ b
section
variable {B : Nat} {w w' : World} {g : Nat} {ρ : Nat → Nat} {N : Int} {vs : Nat → Value} {d : Bd} {tw : List Tw}
theorem Bk.lt (h : Bk B w g ρ N vs d tw) : g < w.heap.size := cell_lt h.cn
/-- One of the seven lists has grown. -/
theorem Bk.put (h : Bk B w g ρ N vs d tw) {k : Nat} (hk : k < 7) {d' : Bd} {tw' : List Tw} {g4 c4 : Nat} {w4 : World} (hX : ∀ j, j ≠ k → spX d' tw' j = spX d tw j ∧ spN d' tw' j = spN d tw j)
    (hown : w4.ownsRow 0 (spT k) (spZ k) (.slice (some ⟨g4, 0, none⟩) (spN d' tw' k) c4) (spN d' tw' k) (spX d' tw' k)) (hlt : g4 < w4.heap.size)
    (hch : ((vs k).ownBlock = some g4 ∧ w.grownBy w4 (some g4)) ∨ (g4 = w.heap.size ∧ w.grownBy w4 none)) :
    Bk B (w4.setCell ⟨g, spO k, none⟩ (.slice (some ⟨g4, 0, none⟩) (spN d' tw' k) c4)) g (upd ρ g4 (k + 2)) N (upd vs k (.slice (some ⟨g4, 0, none⟩) (spN d' tw' k) c4)) d' tw' ∧
      (∀ q lim w'', (lim = 0 ∨ (q < w.heap.size ∧ 9 ≤ ρ q)) → Off (upd ρ g4 (k + 2)) q lim (w4.setCell ⟨g, spO k, none⟩ (.slice (some ⟨g4, 0, none⟩) (spN d' tw' k) c4)) w'' → Off ρ q lim w w'') ∧
      (∀ b, b < w.heap.size → (ρ b = 0 ∨ 9 ≤ ρ b) → (w4.setCell ⟨g, spO k, none⟩ (.slice (some ⟨g4, 0, none⟩) (spN d' tw' k) c4)).heap[b]? = w.heap[b]? ∧ upd ρ g4 (k + 2) b = ρ b) ∧
      w4.cell? ⟨g, spO k, none⟩ = some (vs k) ∧ w4.frozen? ⟨g, spO k, none⟩ = false ∧ w.heap.size ≤ (w4.setCell ⟨g, spO k, none⟩ (.slice (some ⟨g4, 0, none⟩) (spN d' tw' k) c4)).heap.size ∧
      Below B w (w4.setCell ⟨g, spO k, none⟩ (.slice (some ⟨g4, 0, none⟩) (spN d' tw' k) c4)) := by
  have hg := h.lt
  have hBg : B ≤ g := h.lo g (by have := h.rg; omega)
  obtain ⟨r, hr, hgr⟩ : ∃ r, (r = some g4 ∨ r = none) ∧ w.grownBy w4 r := by
    rcases hch with ⟨_, q⟩ | ⟨_, q⟩
    · exact ⟨_, .inl rfl, q⟩
    · exact ⟨_, .inr rfl, q⟩
  have hrole : ρ g4 = k + 2 ∨ w.heap.size ≤ g4 := by
    rcases hch with ⟨e, _⟩ | ⟨e, _⟩
    · exact .inl (h.rol k hk _ e)
    · exact .inr (by omega)
  have hgne : g4 ≠ g := by
    rintro rfl
    rcases hrole with e | e
    · have := h.rg; omega
    · omega
  have far : ∀ b, b < w.heap.size → b ≠ g4 → w4.heap[b]? = w.heap[b]? := fun b hb hne => hgr.block b hb (by
    rcases hr with rfl | rfl
    · simpa using hne
    · simp)
  have hs4 : (w4.setCell ⟨g, spO k, none⟩ (.slice (some ⟨g4, 0, none⟩) (spN d' tw' k) c4)).heap.size = w4.heap.size := by simp [World.setCell]
  have hblk : ∀ b, b ≠ g → (w4.setCell ⟨g, spO k, none⟩ (.slice (some ⟨g4, 0, none⟩) (spN d' tw' k) c4)).heap[b]? = w4.heap[b]? := fun b hb => Below.heap_setCell _ _ _ _ (fun e => hb e)
  have hcg := far g hg (fun e => hgne e.symm)
  have h1 : ∀ b, b < w.heap.size → (ρ b = 0 ∨ 9 ≤ ρ b) → b ≠ g4 ∧ b ≠ g := fun b hb hρ => by
    refine ⟨?_, ?_⟩
    · rintro rfl
      rcases hrole with e | e
      · rw [e] at hρ; omega
      · omega
    · rintro rfl
      have := h.rg; omega
  have hold : ∀ b, b < w.heap.size → (ρ b = 0 ∨ 9 ≤ ρ b) → (w4.setCell ⟨g, spO k, none⟩ (.slice (some ⟨g4, 0, none⟩) (spN d' tw' k) c4)).heap[b]? = w.heap[b]? ∧ upd ρ g4 (k + 2) b = ρ b := fun b hb hρ => by
    obtain ⟨e1, e2⟩ := h1 b hb hρ
    exact ⟨(hblk b e2).trans (far b hb e1), upd_ne _ _ e1⟩
  refine ⟨⟨fun j hj => ?_, ?_, fun o => ?_, fun j hj => ?_, fun j hj b hb => ?_, ?_, fun b hb => ?_, fun b hb => ?_⟩, ?_, hold, (cell_of_block hcg _).trans (h.cl k hk), (frozen_of_block hcg _).trans (h.fz _), by rw [hs4]; exact hgr.size, ?_⟩
  · by_cases e : j = k
    · subst e
      rw [upd_same]
      exact World.cell?_setCell_same _ _ _ ((cell_of_block hcg _).trans (h.cl j hj))
    · rw [upd_ne _ _ e, World.cell?_setCell_other _ _ _ _ (by simp; exact fun q => e (spO_inj q.symm))]
      exact (cell_of_block hcg _).trans (h.cl j hj)
  · rw [World.cell?_setCell_other _ _ _ _ (by simp; exact fun q => (spO_ne1 k) q)]
    exact (cell_of_block hcg _).trans h.cn
  · rw [World.frozen?_setCell]
    exact (frozen_of_block hcg _).trans (h.fz o)
  · by_cases e : j = k
    · subst e
      rw [upd_same]
      exact hown.kept (row := some g) (grown_set _ _ _ _) (.inr (by simp [Value.ownBlock]; exact hgne))
    · rw [upd_ne _ _ e, (hX j e).1, (hX j e).2]
      refine ((h.own j hj).kept hgr ?_).kept (row := some g) (grown_set _ _ _ _) ?_
      · cases hv : (vs j).ownBlock with
        | none => exact .inl rfl
        | some b =>
          right
          have h2 := h.rol j hj b hv
          have hbl := ((h.own j hj).lt b hv).2
          rcases hr with rfl | rfl
          · intro q
            injection q with q
            subst q
            rcases hrole with q | q <;> omega
          · simp
      · cases hv : (vs j).ownBlock with
        | none => exact .inl rfl
        | some b =>
          right
          intro q
          injection q with q
          subst q
          have := h.rol j hj b hv
          have := h.rg
          omega
  · by_cases e : j = k
    · subst e
      rw [upd_same] at hb
      simp [Value.ownBlock] at hb
      subst hb
      rw [upd_same]
    · rw [upd_ne _ _ e] at hb
      have h2 := h.rol j hj b hb
      have hbl := ((h.own j hj).lt b hb).2
      rw [upd_ne _ _ (by rintro rfl; rcases hrole with q | q <;> omega)]
      exact h2
  · rw [upd_ne _ _ (fun e => hgne e.symm)]
    exact h.rg
  · rw [hs4] at hb
    rw [upd_ne _ _ (by omega)]
    exact h.new b (Nat.le_trans hgr.size hb)
  · by_cases e : b = g4
    · subst e
      rcases hrole with q | q
      · exact h.lo b (by omega)
      · omega
    · rw [upd_ne _ _ e] at hb
      exact h.lo b hb
  · intro q lim w'' hq ho
    refine Off.comp (by rw [hs4]; exact hgr.size) (fun b hb hρ => ?_) (fun o ho' => ?_) ho
    · obtain ⟨e1, e2⟩ := hold b hb (.inl hρ)
      exact ⟨e1, e2.trans hρ⟩
    · rcases hq with rfl | ⟨q1, q2⟩
      · omega
      · exact ⟨cell_of_block (hold q q1 (.inr q2)).1 _, .inl ⟨rfl, ho'⟩⟩
  · refine Below.setCell (Below.grown (Below.refl _ _) hgr (by omega) (fun b hb => ?_)) (by simpa using hBg) _
    rcases hr with rfl | rfl
    · injection hb with hb
      subst hb
      rcases hrole with q | q
      · exact h.lo g4 (by omega)
      · omega
    · simp at hb
/-- Something is written, but none of the game's blocks. -/
theorem Bk.away (h : Bk B w g ρ N vs d tw) {r : Option Nat} (hg : w.grownBy w' r) (hr : ∀ b, r = some b → 9 ≤ ρ b) : Bk B w' g ρ N vs d tw := by
  have e : w'.heap[g]? = w.heap[g]? := hg.block g h.lt (fun q => by have := hr g q.symm; have := h.rg; omega)
  refine ⟨fun k hk => (cell_of_block e _).trans (h.cl k hk), (cell_of_block e _).trans h.cn, fun o => (frozen_of_block e _).trans (h.fz o), fun k hk => (h.own k hk).kept hg ?_, h.rol, h.rg, fun b hb => h.new b (Nat.le_trans hg.size hb), h.lo⟩
  cases hv : (vs k).ownBlock with
  | none => exact .inl rfl
  | some b =>
    right
    intro q
    have := hr b q.symm
    have := h.rol k hk b hv
    omega
theorem grown_below (hb : Below w.heap.size w w') : w.grownBy w' none := ⟨hb.os, hb.tape, hb.output, hb.size, fun k hk _ => hb.block k hk⟩
theorem Bk.below (h : Bk B w g ρ N vs d tw) (hb : Below w.heap.size w w') : Bk B w' g ρ N vs d tw := h.away (grown_below hb) (fun _ e => by simp at e)
/-- Other roles for blocks that are none of the game's. -/
theorem Bk.role (h : Bk B w g ρ N vs d tw) {ρ' : Nat → Nat} (h1 : ∀ b, ρ b ≠ 0 → ρ b < 9 → ρ' b = ρ b) (h2 : ∀ b, w.heap.size ≤ b → ρ' b = 0) (h3 : ∀ b, ρ' b ≠ 0 → B ≤ b) : Bk B w g ρ' N vs d tw :=
  ⟨h.cl, h.cn, h.fz, h.own, fun k hk b hb => by have := h.rol k hk b hb; rw [h1 b (by omega) (by omega)]; exact this, by have := h.rg; rw [h1 g (by omega) (by omega)]; exact this, h2, h3⟩
theorem Bk.num (h : Bk B w g ρ N vs d tw) (M : Int) : Bk B (w.setCell ⟨g, 1, none⟩ (.int .i64 M)) g ρ M vs d tw := by
  have hgr := grown_set w g 1 (.int .i64 M)
  refine ⟨fun k hk => ?_, World.cell?_setCell_same _ _ _ h.cn, fun o => by rw [World.frozen?_setCell]; exact h.fz o, fun k hk => (h.own k hk).kept hgr ?_, h.rol, h.rg, fun b hb => h.new b (Nat.le_trans hgr.size hb), h.lo⟩
  · rw [World.cell?_setCell_other _ _ _ _ (by simp; exact fun q => spO_ne1 k q.symm)]
    exact h.cl k hk
  · cases hv : (vs k).ownBlock with
    | none => exact .inl rfl
    | some b =>
      right
      intro q
      injection q with q
      subst q
      have := h.rol k hk b hv
      have := h.rg
      omega
end
/-- What the books say of the lists, and the machines; whatever becomes of other blocks. -/
structure Fct (X : World → Prop) (ρ : Nat → Nat) (q lim : Nat) (w : World) (d : Bd) (tw : List Tw) : Prop where
  lI : d.ms.length = d.ls.length
  lB : d.ws.length = d.bs.length
  lR : d.os.length = d.rs.length
  fI : ∀ i (h1 : i < d.ls.length) (h2 : i < d.ms.length), Kp ρ q lim w fun w' => ∃ n, n < 9223372036854775807 ∧ RowE eI w' d.ls[i] (List.replicate n d.ms[i])
  fB : ∀ i (h1 : i < d.bs.length) (h2 : i < d.ws.length), Kp ρ q lim w fun w' => ∃ l : List Bool, l.length ≤ maxLen ∧ RowE eB w' d.bs[i] l ∧ RowE eB w' d.ws[i] l
  fR : ∀ i (h1 : i < d.rs.length) (h2 : i < d.os.length), Kp ρ q lim w fun w' => ∃ n u, n < 9223372036854775807 ∧ RowE id w' d.rs[i] (List.replicate n u) ∧ RowE eI w' u [d.os[i]]
  fT : ∀ t ∈ tw, Kp ρ q lim w fun w' => t.ok w'
  fX : Kp ρ q lim w X
theorem Fct.to {X : World → Prop} {ρ ρ' : Nat → Nat} {q lim q' lim' : Nat} {w w' : World} {d : Bd} {tw : List Tw} (h : Fct X ρ q lim w d tw) (k : ∀ w'', Off ρ' q' lim' w' w'' → Off ρ q lim w w'') : Fct X ρ' q' lim' w' d tw :=
  ⟨h.lI, h.lB, h.lR, fun i h1 h2 w'' o => h.fI i h1 h2 w'' (k w'' o), fun i h1 h2 w'' o => h.fB i h1 h2 w'' (k w'' o), fun i h1 h2 w'' o => h.fR i h1 h2 w'' (k w'' o), fun t ht w'' o => h.fT t ht w'' (k w'' o), fun w'' o => h.fX w'' (k w'' o)⟩
theorem Fct.addI {X : World → Prop} {ρ : Nat → Nat} {q lim : Nat} {w : World} {d : Bd} {tw : List Tw} (h : Fct X ρ q lim w d tw) {l : Value} {m : Int} {n : Nat} (hn : n < 9223372036854775807) (k : Kp ρ q lim w fun w' => RowE eI w' l (List.replicate n m)) : Fct X ρ q lim w { d with ls := d.ls ++ [l], ms := d.ms ++ [m] } tw := by
  have e := h.lI
  refine ⟨by simp [e], h.lB, h.lR, fun i h1 h2 w'' o => ?_, h.fB, h.fR, h.fT, h.fX⟩
  simp only at h1 h2 ⊢
  by_cases hi : i < d.ls.length
  · rw [List.getElem_append_left hi, List.getElem_append_left (by omega)]
    exact h.fI i hi (by omega) w'' o
  · have : i = d.ls.length := by simp at h1; omega
    subst this
    refine ⟨n, hn, ?_⟩
    rw [List.getElem_append_right (Nat.le_refl _), List.getElem_append_right (by omega)]
    simpa [e] using k w'' o
theorem Fct.addB {X : World → Prop} {ρ : Nat → Nat} {q lim : Nat} {w : World} {d : Bd} {tw : List Tw} (h : Fct X ρ q lim w d tw) {v u : Value} {l : List Bool} (hn : l.length ≤ maxLen) (k : Kp ρ q lim w fun w' => RowE eB w' v l ∧ RowE eB w' u l) : Fct X ρ q lim w { d with bs := d.bs ++ [v], ws := d.ws ++ [u] } tw := by
  have e := h.lB
  refine ⟨h.lI, by simp [e], h.lR, h.fI, fun i h1 h2 w'' o => ?_, h.fR, h.fT, h.fX⟩
  simp only at h1 h2 ⊢
  by_cases hi : i < d.bs.length
  · rw [List.getElem_append_left hi, List.getElem_append_left (by omega)]
    exact h.fB i hi (by omega) w'' o
  · have : i = d.bs.length := by simp at h1; omega
    subst this
    refine ⟨l, hn, ?_⟩
    rw [List.getElem_append_right (Nat.le_refl _), List.getElem_append_right (by omega)]
    simpa [e] using k w'' o
theorem Fct.addR {X : World → Prop} {ρ : Nat → Nat} {q lim : Nat} {w : World} {d : Bd} {tw : List Tw} (h : Fct X ρ q lim w d tw) {v u : Value} {m : Int} {n : Nat} (hn : n < 9223372036854775807) (k : Kp ρ q lim w fun w' => RowE id w' v (List.replicate n u) ∧ RowE eI w' u [m]) : Fct X ρ q lim w { d with rs := d.rs ++ [v], os := d.os ++ [m] } tw := by
  have e := h.lR
  refine ⟨h.lI, h.lB, by simp [e], h.fI, h.fB, fun i h1 h2 w'' o => ?_, h.fT, h.fX⟩
  simp only at h1 h2 ⊢
  by_cases hi : i < d.rs.length
  · rw [List.getElem_append_left hi, List.getElem_append_left (by omega)]
    exact h.fR i hi (by omega) w'' o
  · have : i = d.rs.length := by simp at h1; omega
    subst this
    refine ⟨n, u, hn, ?_⟩
    rw [List.getElem_append_right (Nat.le_refl _), List.getElem_append_right (by omega)]
    simpa [e] using k w'' o
theorem Fct.addT {X : World → Prop} {ρ : Nat → Nat} {q lim : Nat} {w : World} {d : Bd} {tw : List Tw} (h : Fct X ρ q lim w d tw) {t : Tw} (k : Kp ρ q lim w fun w' => t.ok w') : Fct X ρ q lim w d (tw ++ [t]) := by
  refine ⟨h.lI, h.lB, h.lR, h.fI, h.fB, h.fR, fun t' ht => ?_, h.fX⟩
  rcases List.mem_append.1 ht with q | q
  · exact h.fT t' q
  · simp at q; subst q; exact k
/-- So the books are still. -/
theorem Bk.stl {B : Nat} {w : World} {g : Nat} {ρ : Nat → Nat} {N : Int} {vs : Nat → Value} {d : Bd} {tw : List Tw} {q lim : Nat} {X : World → Prop} (h : Bk B w g ρ N vs d tw) (f : Fct X ρ q lim w d tw) (s1 : d.ls.length < 9223372036854775807) (s2 : d.bs.length < 9223372036854775807) (s3 : d.rs.length < 9223372036854775807) :
    Stl w g ⟨vs 1, vs 2, vs 3, vs 4, vs 5, vs 6⟩ d :=
  ⟨h.cl 1 (by omega), h.cl 2 (by omega), h.cl 3 (by omega), h.cl 4 (by omega), h.cl 5 (by omega), h.cl 6 (by omega),
    owns_row (enc := id) (by have := h.own 1 (by omega); simpa [spT, spZ, spN, spX] using this), owns_row (by have := h.own 2 (by omega); simpa [spT, spZ, spN, spX] using this),
    owns_row (enc := id) (by have := h.own 3 (by omega); simpa [spT, spZ, spN, spX] using this), owns_row (enc := id) (by have := h.own 4 (by omega); simpa [spT, spZ, spN, spX] using this),
    owns_row (enc := id) (by have := h.own 5 (by omega); simpa [spT, spZ, spN, spX] using this), owns_row (by have := h.own 6 (by omega); simpa [spT, spZ, spN, spX] using this),
    f.lI, f.lB, f.lR, s1, s2, s3, fun i h1 h2 => (f.fI i h1 h2).now, fun i h1 h2 => (f.fB i h1 h2).now, fun i h1 h2 => (f.fR i h1 h2).now⟩
end Go.Proofs.YtbjabpodkaokjaaGreatDoor
