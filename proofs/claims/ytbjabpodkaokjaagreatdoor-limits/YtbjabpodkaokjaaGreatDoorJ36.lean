import Derived.Test.YtbjabpodkaokjaaGreatDoorJ07
import Derived.Test.YtbjabpodkaokjaaGreatDoorJ23
import Derived.Test.YtbjabpodkaokjaaGreatDoorJ08
import Derived.BigQuiet
import Derived.Test.YtbjabpodkaokjaaGreatDoorJ17
import Derived.Test.YtbjabpodkaokjaaGreatDoorJ34
set_option linter.unusedVariables false
set_option linter.unusedSimpArgs false
namespace Go.Proofs.YtbjabpodkaokjaaGreatDoor
open Go.RowKit

theorem keyed_str : Go.Maps.Keyed Tryz.prog 9 := Go.Maps.string_keyed (by kernel_rfl)
theorem keyed_u8 : Go.Maps.Keyed Tryz.prog 5 := Go.Maps.int_keyed (q := .u8) (by kernel_rfl)
theorem key_str (s : ByteArray) (hs : s.size ≤ maxLen) : ∃ l, keyOf Tryz.prog 9 (.string s) = some l := by
  have h : Tryz.prog.underlying 9 = some .string := by kernel_rfl
  exact ⟨_, by simp [keyOf, h, mapKey]; exact ⟨hs, rfl⟩⟩
theorem key_sg (l : List UInt8) (hl : l.length ≤ 100000) : ∃ q, keyOf Tryz.prog 9 (.string (ba l)) = some q := key_str _ (by rw [ba_size]; unfold maxLen; omega)
theorem key_u8 (c : UInt8) : ∃ l, keyOf Tryz.prog 5 (.int .u8 (c.toNat : Int)) = some l := by
  have h : Tryz.prog.underlying 5 = some (.int .u8) := by kernel_rfl
  refine ⟨_, Go.Maps.keyOf_int_mk h ?_⟩
  have h1 : IntKind.u8.min = 0 := rfl
  have h2 : IntKind.u8.max = 255 := rfl
  have := c.toNat_lt
  simp [Lit.wf, h1, h2]
  omega
def sgV (l : List UInt8) : Value := .string (ba l)
def byV (c : UInt8) : Value := .int .u8 (c.toNat : Int)
theorem sgV_inj {l m : List UInt8} (h : sgV l = sgV m) : l = m := by
  simp only [sgV, Value.string.injEq] at h
  have := congrArg (fun b : ByteArray => b.data.toList) h
  simpa using this
theorem byV_inj {l m : UInt8} (h : byV l = byV m) : l = m := by
  simp only [byV, Value.int.injEq, true_and] at h
  exact UInt8.toNat_inj.1 (by omega)
section
variable {α : Type} {e : α → Value} (hi : ∀ {a b}, e a = e b → a = b)
include hi
theorem e_old {l : List α} {s : α} {i : Nat} (h : (l.map e)[i]? = some (e s)) : l[i]? = some s := by
  rw [List.getElem?_map] at h
  obtain ⟨y, hy, q⟩ := Option.map_eq_some_iff.1 h
  rw [hy, hi q]
theorem e_mem {l : List α} {s : α} : e s ∈ l.map e ↔ s ∈ l :=
  ⟨fun h => by obtain ⟨y, hy, q⟩ := List.mem_map.1 h; rw [← hi q]; exact hy, fun h => List.mem_map_of_mem h⟩
end
theorem ofSg_any (w : World) (p mb : Nat) (v : Value) (l : List (List UInt8)) (tk : Nat) (s : List UInt8) (h : NumAt 9 1 w p mb v (l.map sgV) tk) (hl : ∀ y ∈ l, y.length ≤ 100000) (hs : s.length ≤ 100000) (hn : l.length ≤ 1048576) (hd : l.Nodup) :
    Calls Tryz.prog 139 #[.pointer (some ⟨p, 0, none⟩), sgV s] w fun e w' => e = .returned (.int .i64 ((@List.idxOf _ instBEqOfDecidableEq s (pushM l s) : Nat) : Int)) ∧
      ∃ v', NumAt 9 1 w' p mb v' ((pushM l s).map sgV) tk ∧ (∀ g, v'.ownBlock = some g → v.ownBlock = some g ∨ w.heap.size ≤ g) ∧ Exc (Foot p mb v) w w' := by
  have hks : ∀ y ∈ l.map sgV, ∃ q, keyOf Tryz.prog 9 y = some q := fun y hy => by
    obtain ⟨z, hz, rfl⟩ := List.mem_map.1 hy
    exact key_sg _ (hl z hz)
  have hk : ∃ q, keyOf Tryz.prog 9 (sgV s) = some q := key_sg _ hs
  by_cases hm : s ∈ l
  · obtain ⟨i, hi⟩ := List.mem_iff_getElem?.1 hm
    have hi' : (l.map sgV)[i]? = some (sgV s) := by rw [List.getElem?_map, hi]; rfl
    refine (ofSg_old w p mb v (l.map sgV) tk (ba s) i h ?_).mono ?_
    · rcases num_look (x := sgV s) keyed_str Tryz.underlying304 (zi0 w) h.mp hks hk with ⟨h1, _⟩ | ⟨j, h1, h2⟩
      · exact absurd ((e_mem sgV_inj).2 hm) h1
      · have e3 := idx_of_get hd (e_old sgV_inj h1)
        rw [idx_of_get hd hi] at e3
        subst e3
        exact h2
    · rintro e w' ⟨rfl, hw⟩
      have e3 := idx_of_get hd hi
      simp only [pushM, if_pos hm, e3, true_and]
      rw [hw]
      exact ⟨v, h, fun g hg => .inl hg, Exc.refl _ _⟩
  · have hm' : sgV s ∉ l.map sgV := fun q => hm ((e_mem sgV_inj).1 q)
    refine (ofSg_new w p mb v (l.map sgV) tk (ba s) h (by simpa using hn) ?_ ?_).mono ?_
    · rcases num_look (x := sgV s) keyed_str Tryz.underlying304 (zi0 w) h.mp hks hk with ⟨_, h1⟩ | ⟨j, h1, h2⟩
      · exact h1
      · exact absurd (List.mem_of_getElem? h1) hm'
    · exact num_put keyed_str Tryz.underlying304 h.mp hks hk hm'
    · rintro e w' ⟨rfl, g, cap, h1, h2, h3⟩
      have e3 : @List.idxOf _ instBEqOfDecidableEq s (l ++ [s]) = l.length := idx_of_get (by have := pushM_nodup hd s; rwa [pushM, if_neg hm] at this) (by simp)
      simp only [pushM, if_neg hm, e3, List.length_map, true_and]
      refine ⟨.slice (some ⟨g, 0, none⟩) ((l.map sgV).length + 1) cap, ?_, ?_, h3⟩
      · rw [List.map_append]; exact h1
      · intro q hq
        simp [Value.ownBlock] at hq
        subst hq
        exact h2
theorem ofBy_any (w : World) (p mb : Nat) (v : Value) (l : List UInt8) (tk : Nat) (s : UInt8) (h : NumAt 5 1 w p mb v (l.map byV) tk) (hn : l.length ≤ 1048576) (hd : l.Nodup) :
    Calls Tryz.prog 82 #[.pointer (some ⟨p, 0, none⟩), byV s] w fun e w' => e = .returned (.int .i64 ((@List.idxOf _ instBEqOfDecidableEq s (pushM l s) : Nat) : Int)) ∧
      ∃ v', NumAt 5 1 w' p mb v' ((pushM l s).map byV) tk ∧ (∀ g, v'.ownBlock = some g → v.ownBlock = some g ∨ w.heap.size ≤ g) ∧ Exc (Foot p mb v) w w' := by
  have hks : ∀ y ∈ l.map byV, ∃ q, keyOf Tryz.prog 5 y = some q := fun y hy => by
    obtain ⟨z, hz, rfl⟩ := List.mem_map.1 hy
    exact key_u8 _
  have hk : ∃ q, keyOf Tryz.prog 5 (byV s) = some q := key_u8 _
  by_cases hm : s ∈ l
  · obtain ⟨i, hi⟩ := List.mem_iff_getElem?.1 hm
    have hi' : (l.map byV)[i]? = some (byV s) := by rw [List.getElem?_map, hi]; rfl
    refine (ofBy_old w p mb v (l.map byV) tk s.toNat i h ?_).mono ?_
    · rcases num_look (x := byV s) keyed_u8 Tryz.underlying258 (zi0 w) h.mp hks hk with ⟨h1, _⟩ | ⟨j, h1, h2⟩
      · exact absurd ((e_mem byV_inj).2 hm) h1
      · have e3 := idx_of_get hd (e_old byV_inj h1)
        rw [idx_of_get hd hi] at e3
        subst e3
        exact h2
    · rintro e w' ⟨rfl, hw⟩
      have e3 := idx_of_get hd hi
      simp only [pushM, if_pos hm, e3, true_and]
      rw [hw]
      exact ⟨v, h, fun g hg => .inl hg, Exc.refl _ _⟩
  · have hm' : byV s ∉ l.map byV := fun q => hm ((e_mem byV_inj).1 q)
    refine (ofBy_new w p mb v (l.map byV) tk s.toNat h (by simpa using hn) ?_ ?_).mono ?_
    · rcases num_look (x := byV s) keyed_u8 Tryz.underlying258 (zi0 w) h.mp hks hk with ⟨_, h1⟩ | ⟨j, h1, h2⟩
      · exact h1
      · exact absurd (List.mem_of_getElem? h1) hm'
    · exact num_put keyed_u8 Tryz.underlying258 h.mp hks hk hm'
    · rintro e w' ⟨rfl, g, cap, h1, h2, h3⟩
      have e3 : @List.idxOf _ instBEqOfDecidableEq s (l ++ [s]) = l.length := idx_of_get (by have := pushM_nodup hd s; rwa [pushM, if_neg hm] at this) (by simp)
      simp only [pushM, if_neg hm, e3, List.length_map, true_and]
      refine ⟨.slice (some ⟨g, 0, none⟩) ((l.map byV).length + 1) cap, ?_, ?_, h3⟩
      · rw [List.map_append]; exact h1
      · intro q hq
        simp [Value.ownBlock] at hq
        subst hq
        exact h2
end Go.Proofs.YtbjabpodkaokjaaGreatDoor

namespace Go.Proofs.YtbjabpodkaokjaaGreatDoor
open Go.RowKit

theorem RowE.at {α : Type} {enc : α → Value} {w : World} {v : Value} {l : List α} (h : RowE enc w v l) {i : Nat} (hi : i < l.length) : ∃ b o c, v = .slice (some ⟨b, o, none⟩) l.length c ∧ w.cell? ⟨b, o + i, none⟩ = some (enc l[i]) := by
  obtain ⟨b, o, c, e, h1⟩ := h.nonnil (by omega)
  exact ⟨b, o, c, e, h1 i hi⟩
/-- The first k blocks. -/
def acF (acc : List Bool) (k j : Nat) : Value := if j < k then byV ((bkOf acc)[j]?.getD 0) else .int .u8 0
theorem bk_len (acc : List Bool) : (bkOf acc).length = acc.length := by simp [bkOf]
set_option maxRecDepth 8000 in
set_option maxHeartbeats 4000000 in
theorem accepting_any (w : World) (t : Tb) (va vn : Value) (h : RowE eB w va t.acc) (hl : t.acc.length ≤ 200) :
    Calls Tryz.prog 137 #[tv t va vn] w fun e w' => ∃ v, e = .returned v ∧ RowE byV w' v (bkOf t.acc) ∧ Below w.heap.size w w' := by
  obtain ⟨f, b, st, cls, acc, next⟩ := t
  simp only at h hl ⊢
  obtain ⟨aa, ca, rfl⟩ := h.form
  obtain ⟨iU, hiU, hzU, hz1U, hz2U⟩ := info_parts Tryz.infoU8
  have HR : Hid (RowE eB w (.slice aa acc.length ca) acc) := h
  obtain ⟨N, hN⟩ : ∃ N, N = acc.length := ⟨_, rfl⟩
  have HN : Hid (N = acc.length) := hN
  rw [← hN] at hl ⊢
  have hmk := fun w0 => make_eq Tryz.underlying73 hiU hzU hz1U hz2U N (by omega) (by unfold maxLen; omega) w0
  clear h hN
  go_enter Tryz.func137, Tryz.ntmps137
  go_wp2
  obtain ⟨w2, hw2⟩ : ∃ w2, w2 = (w.alloc (.cells #[.bool f, .bool b, .int .i64 st, .string (ba cls), .slice aa N ca, vn] 33)).alloc (.cells (mkA N (.int .u8 0)) 5) := ⟨_, rfl⟩
  rw [← hw2]
  have hb2 : Below w.heap.size w w2 := by rw [hw2]; exact ((Below.refl _ _).alloc (Nat.le_refl _) _).alloc (by simp) _
  have hn2 : Nw w2 (w.heap.size + 1) N (acF acc 0) := by
    rw [hw2]
    have := Nw.new (w.alloc (.cells #[.bool f, .bool b, .int .i64 st, .string (ba cls), .slice aa N ca, vn] 33)) N (.int .u8 0) rfl 5
    simp only [World.size_alloc] at this
    exact this.congr (fun j hj => by simp [acF])
  have HI : Hid (Below w.heap.size w w2 ∧ Nw w2 (w.heap.size + 1) N (acF acc 0)) := ⟨hb2, hn2⟩
  clear hw2 hb2 hn2 hmk
  go_loopw [13] (fun i wr => ∃ k : Nat, k ≤ N ∧ i = .int .i64 k ∧ Below w.heap.size w wr ∧ Nw wr (w.heap.size + 1) N (acF acc k)) (fun i _ => N - (intOf i).toNat)
  case atStart => exact ⟨0, by omega, rfl, HI.out.1, HI.out.2⟩
  case round =>
    obtain ⟨k, hk, rfl, hb, hn⟩ := hrel
    have HB : Hid (Below w.heap.size w wr) := hb
    have HNW : Hid (Nw wr (w.heap.size + 1) N (acF acc k)) := hn
    by_cases hlt : k < N
    · have hltI : (k : Int) < N := by omega
      have hka : k < acc.length := by have := HN.out; omega
      obtain ⟨g, o, c, e1, hcell⟩ := (HR.out.below hb).at (i := k) hka
      simp only [Value.slice.injEq] at e1
      obtain ⟨rfl, -, rfl⟩ := e1
      have ac := hn.c k hlt
      have af := hn.fz
      have HF : Hid (∀ j, j < N → (if j = k then byV ((bkOf acc)[k]?.getD 0) else acF acc k j) = acF acc (k + 1) j) := fun j hj => by
        unfold acF
        by_cases e : j = k
        · subst e; rw [if_pos rfl, if_pos (by omega)]
        · rw [if_neg e]
          by_cases e2 : j < k
          · rw [if_pos e2, if_pos (by omega)]
          · rw [if_neg e2, if_neg (by omega)]
      have HV : Hid ((bkOf acc)[k]?.getD 0 = if acc[k] then 1 else 0) := by
        show _ = _
        simp [bkOf, hka]
      obtain ⟨x, hx⟩ : ∃ x, x = acc[k] := ⟨_, rfl⟩
      rw [← hx] at hcell HV
      clear hb hn hx
      cases x with
      | true =>
        go_wp2
        go_roundw
        case rel =>
          refine ⟨k + 1, by omega, by go_num, HB.out.setCell (p := ⟨w.heap.size + 1, k, none⟩) (show w.heap.size ≤ w.heap.size + 1 by omega) _, ?_⟩
          have := (HNW.out.set k hlt (byV ((bkOf acc)[k]?.getD 0))).congr HF.out
          rw [HV.out] at this
          exact this
        case measure => simp [intOf] <;> omega
      | false =>
        go_wp2
        go_roundw
        case rel =>
          refine ⟨k + 1, by omega, by go_num, HB.out, HNW.out.congr (fun j hj => ?_)⟩
          rw [← HF.out j hj]
          by_cases e : j = k
          · subst e
            rw [if_pos rfl, HV.out]
            unfold acF
            rw [if_neg (by omega)]
            rfl
          · rw [if_neg e]
        case measure => simp [intOf] <;> omega
    · have hkI : ¬ (k : Int) < N := by omega
      have hkN : k = N := by omega
      clear hb hn
      go_wp2
      go_ret
      refine ⟨_, rfl, ?_, HB.out⟩
      subst hkN
      have hbl : (bkOf acc).length = k := by rw [bk_len]; exact HN.out.symm
      have := Nw.row (l := bkOf acc) (enc := byV) (c := k) (f := acF acc k) (by rw [hbl]; exact HNW.out) (fun j hj => by
        unfold acF
        rw [if_pos (by omega), List.getElem?_eq_getElem hj]; rfl)
      rw [hbl] at this
      exact this
end Go.Proofs.YtbjabpodkaokjaaGreatDoor

namespace Go.Proofs.YtbjabpodkaokjaaGreatDoor
open Go.RowKit

theorem uB : Tryz.prog.underlying 5 = some (.int .u8) := by kernel_rfl
theorem uS : Tryz.prog.underlying 9 = some .string := by kernel_rfl
theorem row_conv {w : World} {base : Nat} {v : Value} {l : List UInt8} (h : w.ownsRow base 5 1 v l.length (l.map byV)) (hl : 0 < l.length) : ∃ g cap, v = .slice (some ⟨g, 0, none⟩) l.length cap ∧ (convert 73 9 (.slice (some ⟨g, 0, none⟩) l.length cap)).run Tryz.prog w = .ok (.string (ba l)) w := by
  rcases h.2 with ⟨_, hn⟩ | ⟨g, cap, cur, rfl, _⟩
  · omega
  · refine ⟨g, cap, rfl, ?_⟩
    exact run_convert_bytes_back (P := Tryz.prog) w 73 9 5 ⟨g, 0, none⟩ cap l Tryz.underlying73 uB uS (by
      intro j hj
      have e : (⟨g, 0, none⟩ : Addr).add j = ⟨g, j, none⟩ := by unfold Addr.add; split <;> simp_all
      rw [e, h.cellAt j (by omega)]
      simp [hj, byV])
theorem own_ge' {w : World} {base : Nat} {e : TypeId} {size : Nat} {v : Value} {n g : Nat} {xs : List Value} (h : w.ownsRow base e size v n xs) (hg : v.ownBlock = some g) : base ≤ g := by
  rcases h.2 with ⟨rfl, _⟩ | ⟨g', cap, cur, rfl, hb, _⟩
  · simp [Value.ownBlock] at hg
  · simp [Value.ownBlock] at hg; omega
theorem grown_blk' {wa w4 : World} {v : Value} {g H : Nat} (hH : wa.heap.size = H) (h : (v.ownBlock = some g ∧ wa.grownBy w4 (some g)) ∨ (g = H ∧ wa.grownBy w4 none)) {b : Nat} (hb : b < wa.heap.size) (hn : v.ownBlock ≠ some b) : w4.heap[b]? = wa.heap[b]? := by
  rcases h with ⟨h1, h2⟩ | ⟨h1, h2⟩
  · exact h2.block b hb (by rw [← h1]; exact fun e => hn e.symm)
  · exact h2.block b hb (by simp)
theorem grown_env' {wa w4 : World} {v : Value} {g H : Nat} (h : (v.ownBlock = some g ∧ wa.grownBy w4 (some g)) ∨ (g = H ∧ wa.grownBy w4 none)) : w4.os = wa.os ∧ w4.tape = wa.tape ∧ w4.output = wa.output ∧ wa.heap.size ≤ w4.heap.size := by
  rcases h with ⟨h1, h2⟩ | ⟨h1, h2⟩
  · exact ⟨h2.os, h2.tape, h2.output, h2.size⟩
  · exact ⟨h2.os, h2.tape, h2.output, h2.size⟩
theorem look_len (bl : List UInt8) (i : Nat) (row : List Nat) : (lookM bl i row).length = row.length + 1 := by simp [lookM]
theorem own_form {w : World} {base : Nat} {e : TypeId} {size : Nat} {v : Value} {n : Nat} {xs : List Value} (h : w.ownsRow base e size v n xs) : ∃ a c, v = .slice a n c := by
  rcases h.2 with ⟨rfl, hn⟩ | ⟨g, cap, cur, rfl, _⟩
  · exact ⟨none, 0, by rw [hn]⟩
  · exact ⟨_, _, rfl⟩
set_option maxRecDepth 8000 in
set_option maxHeartbeats 4000000 in
theorem look_any (w : World) (bl : List UInt8) (vb : Value) (h : RowE byV w vb bl) (i : Nat) (hi : i < bl.length) (row : List Nat) (vr : Value) (hr : RowE eI w vr (row.map Int.ofNat)) (hrow : ∀ x ∈ row, x < bl.length) (hl : row.length ≤ 256) (hbl : bl.length ≤ 200) :
    Calls Tryz.prog 140 #[vb, .int .i64 i, vr] w fun e w' => e = .returned (.string (ba (lookM bl i row))) ∧ Below w.heap.size w w' := by
  have HB : Hid (RowE byV w vb bl) := h
  have HR : Hid (RowE eI w vr (row.map Int.ofNat)) := hr
  obtain ⟨g, o, c, rfl, hcell⟩ := h.at hi
  obtain ⟨ra, rc, rfl⟩ := hr.form
  obtain ⟨iU, hiU, hzU, hz1U, hz2U⟩ := info_parts Tryz.infoU8
  have hlen : (row.map Int.ofNat).length = row.length := by simp
  rw [hlen] at HR
  rw [hlen]
  obtain ⟨N, hN⟩ : ∃ N, N = row.length := ⟨_, rfl⟩
  have HN : Hid (N = row.length) := hN
  obtain ⟨B, hB⟩ : ∃ B, B = bl.length := ⟨_, rfl⟩
  have HBL : Hid (B = bl.length) := hB
  rw [← hN] at hl HR ⊢
  rw [← hB] at hi hbl HB ⊢
  have hiI : (i : Int) < B := by omega
  obtain ⟨x0, hx0⟩ : ∃ x0, x0 = bl[i]'(by omega) := ⟨_, rfl⟩
  rw [← hx0] at hcell
  simp only [byV] at hcell
  have HX0 : Hid ((lookM bl i row).take 1 = [x0]) := by
    show _ = _
    simp [lookM, hx0, List.getD_eq_getElem?_getD, show i < bl.length by omega]
  have HLK : Hid (∀ k (hk : k < row.length), (lookM bl i row).take (k + 1 + 1) = (lookM bl i row).take (k + 1) ++ [bl.getD row[k] 0]) := fun k hk => by
    rw [List.take_succ_eq_append_getElem (by rw [look_len]; omega)]
    simp [lookM]
  have HLL := look_len bl i row
  obtain ⟨LK, hLK⟩ : ∃ LK, LK = lookM bl i row := ⟨_, rfl⟩
  rw [← hLK] at HX0 HLK HLL ⊢
  clear h hr hlen hN hB hx0 hLK
  go_enter Tryz.func140, Tryz.ntmps140
  go_wp2
  obtain ⟨w2, hw2⟩ : ∃ w2, w2 = w.alloc (.cells #[.int .u8 x0.toNat] 5) := ⟨_, rfl⟩
  rw [← hw2]
  have hb2 : Below w.heap.size w w2 := by rw [hw2]; exact (Below.refl _ _).alloc (Nat.le_refl _) _
  have ho2 : w2.ownsRow w.heap.size 5 1 (.slice (some ⟨w.heap.size, 0, none⟩) 1 1) 1 ((LK.take 1).map byV) := by
    rw [HX0.out]
    refine ⟨by simp, .inr ⟨w.heap.size, 1, #[.int .u8 x0.toNat], rfl, Nat.le_refl _, by rw [hw2]; exact heap_alloc_new w _, Nat.le_refl _, by unfold maxLen; omega, by simp, by simp [byV]⟩⟩
  have HI : Hid (Below w.heap.size w w2 ∧ w2.ownsRow w.heap.size 5 1 (.slice (some ⟨w.heap.size, 0, none⟩) 1 1) 1 ((LK.take 1).map byV)) := ⟨hb2, ho2⟩
  clear hw2 hb2 ho2 hcell
  go_loopw [7, 17] (fun v i wr => ∃ k : Nat, k ≤ N ∧ i = .int .i64 k ∧ Below w.heap.size w wr ∧ wr.ownsRow w.heap.size 5 1 v (k + 1) ((LK.take (k + 1)).map byV)) (fun _ i _ => N - (intOf i).toNat)
  case atStart => exact ⟨0, by omega, rfl, HI.out.1, HI.out.2⟩
  case round =>
    obtain ⟨k, hk, rfl, hb, ho⟩ := hrel
    have HBW : Hid (Below w.heap.size w wr) := hb
    have hsz := hb.size
    have HO : Hid (wr.ownsRow w.heap.size 5 1 u7 (k + 1) ((LK.take (k + 1)).map byV)) := ho
    by_cases hlt : k < N
    · have hltI : (k : Int) < N := by omega
      have hkr : k < row.length := by have := HN.out; omega
      obtain ⟨g2, o2, c2, e1, hc2⟩ := (HR.out.below hb).at (i := k) (by simpa using hkr)
      simp only [Value.slice.injEq] at e1
      obtain ⟨rfl, -, rfl⟩ := e1
      have hxk : (row.map Int.ofNat)[k]'(by simpa using hkr) = ((row[k] : Nat) : Int) := by simp
      rw [hxk] at hc2
      simp only [eI] at hc2
      have hxl := hrow _ (List.getElem_mem hkr)
      have HLS : Hid (LK.take (k + 1 + 1) = LK.take (k + 1) ++ [bl[row[k]]]) := by
        show _ = _
        rw [HLK.out k hkr, List.getD_eq_getElem?_getD, List.getElem?_eq_getElem hxl]; rfl
      obtain ⟨g3, o3, c3, e3, hc3⟩ := (HB.out.below hb).at (i := row[k]) hxl
      simp only [Value.slice.injEq, Option.some.injEq, Addr.mk.injEq, and_true] at e3
      obtain ⟨⟨rfl, rfl⟩, -, rfl⟩ := e3
      obtain ⟨x, hx⟩ : ∃ x, x = row[k] := ⟨_, rfl⟩
      rw [HBL.out] at hiI
      have hxI : (row[k] : Int) < B := by have := HBL.out; omega
      obtain ⟨y, hy⟩ : ∃ y, y = bl[row[k]] := ⟨_, rfl⟩
      rw [← hy] at hc3 HLS
      rw [← hx] at hc2 hc3 hxI
      simp only [byV] at hc3
      clear hb ho hx hy hxk hxl hiI
      go_wp2_with (at_builtin; refine wpList_append_str _ rfl (.tmp 21) (.tmp 26) 73 rfl w.heap.size 5 iU _ 1 1 Tryz.underlying73 hiU hzU hz1U hz2U rfl (by decide) u7 (k + 1) ((LK.take (k + 1)).map byV) rfl (World.ownsRow.alloc HO.out _) ⟨wr.heap.size, 0, none⟩ 1 1 [.int .u8 y.toNat] rfl rfl (World.news_of_block (heap_alloc_new wr _)) (by simp [Value.oneCell']) (by omega) (by unfold maxLen; omega) (by omega) (by simp; omega) _ rfl ?_; intro g4 k4 w4 ho4 hc4 hl4; have HO4 : Hid (w4.ownsRow w.heap.size 5 1 (.slice (some ⟨g4, 0, none⟩) (k + 1 + 1) k4) (k + 1 + 1) ((LK.take (k + 1)).map byV ++ [.int .u8 y.toNat])) := ho4; have HB4 : Hid (Below w.heap.size w w4) := HBW.out.trans (by
          have hal : Below w.heap.size wr (wr.alloc (.cells #[.int .u8 (y.toNat : Int)] 5)) := (Below.refl _ _).alloc hsz _
          obtain ⟨e1, e2, e3, e4⟩ := grown_env' hc4
          refine ⟨e1, e2, e3, by have := hal.size; omega, fun b hb => ?_⟩
          rw [← hal.block b hb]
          exact grown_blk' rfl hc4 (by have := hal.size; omega) (fun q => by have := own_ge' HO.out q; omega)); clear ho4 hc4)
      go_roundw
      case rel =>
        refine ⟨k + 1, by omega, by go_num, HB4.out, ?_⟩
        rw [HLS.out, List.map_append]
        exact HO4.out
      case measure => simp [intOf] <;> omega
    · have hkI : ¬ (k : Int) < N := by omega
      have hkN : k = N := by omega
      have hfin : LK.take (k + 1) = LK := by rw [List.take_of_length_le (by rw [HLL]; have := HN.out; omega)]
      have hkl : k + 1 = LK.length := by rw [HLL]; have := HN.out; omega
      rw [hfin, hkl] at ho
      obtain ⟨g4, c4, hu7, hcv⟩ := row_conv ho (by omega)
      obtain ⟨M, hM⟩ : ∃ M, M = LK.length := ⟨_, rfl⟩
      rw [← hM] at hcv hu7
      clear hM hkl ho hb hfin HO HLL
      subst hu7
      go_wp2
      go_ret
      exact ⟨rfl, HBW.out⟩
end Go.Proofs.YtbjabpodkaokjaaGreatDoor

namespace Go.Proofs.YtbjabpodkaokjaaGreatDoor
open Go.RowKit

theorem RowsE.at {w : World} {v : Value} {ls : List (List Int)} (h : RowsE eI w v ls) {i : Nat} (hi : i < ls.length) : ∃ b o c u, v = .slice (some ⟨b, o, none⟩) ls.length c ∧ w.cell? ⟨b, o + i, none⟩ = some u ∧ RowE eI w u ls[i] := by
  obtain ⟨us, h1, h2, h3⟩ := h
  obtain ⟨b, o, c, e, hc⟩ := h2.at (i := i) (by omega)
  exact ⟨b, o, c, us[i], by rw [e, h1], hc, h3 i (by omega) hi⟩
theorem RowsE.form {w : World} {v : Value} {ls : List (List Int)} (h : RowsE eI w v ls) : ∃ a c, v = .slice a ls.length c := by
  obtain ⟨us, h1, h2, h3⟩ := h
  obtain ⟨a, c, e⟩ := h2.form
  exact ⟨a, c, by rw [e, h1]⟩
def nxI (next : List (List Nat)) : List (List Int) := next.map fun r => r.map Int.ofNat
theorem nxI_len (next : List (List Nat)) : (nxI next).length = next.length := by simp [nxI]
theorem nxI_at (next : List (List Nat)) (k : Nat) (h : k < next.length) : (nxI next)[k]'(by rw [nxI_len]; exact h) = next[k].map Int.ofNat := by simp [nxI]
/-- The first k of a column. -/
def coF (col : List UInt8) (k j : Nat) : Value := if j < k then byV (col[j]?.getD 0) else .int .u8 0
theorem nw_conv' {w : World} {g n : Nat} {l : List UInt8} (h : Nw w g n (fun j => byV (l[j]?.getD 0))) (hl : l.length = n) : (convert 73 9 (.slice (some ⟨g, 0, none⟩) n n)).run Tryz.prog w = .ok (.string (ba l)) w := by
  have := run_convert_bytes_back (P := Tryz.prog) w 73 9 5 ⟨g, 0, none⟩ n l Tryz.underlying73 uB uS (by
    intro j hj
    have := h.c j (by omega)
    have e : (⟨g, 0, none⟩ : Addr).add j = ⟨g, j, none⟩ := by unfold Addr.add; split <;> simp_all
    rw [e]
    simpa [hj, byV] using this)
  rw [hl] at this
  exact this
set_option maxRecDepth 8000 in
set_option maxHeartbeats 4000000 in
theorem column_any (w : World) (f b : Bool) (st : Int) (cls : ByteArray) (va vn vb : Value) (next : List (List Nat)) (bl : List UInt8) (cl : Nat) (h : RowsE eI w vn (nxI next)) (hb : RowE byV w vb bl) (hrow : ∀ r ∈ next, cl < r.length ∧ (∀ x ∈ r, x < bl.length) ∧ r.length ≤ 256) (hl : next.length ≤ 200) (hbl : bl.length ≤ 200) :
    Calls Tryz.prog 142 #[.agg #[.bool f, .bool b, .int .i64 st, .string cls, va, vn], vb, .int .i64 cl] w fun e w' => e = .returned (.string (ba (colM bl next cl))) ∧ Below w.heap.size w w' := by
  have HN : Hid (RowsE eI w vn (nxI next)) := h
  have HB : Hid (RowE byV w vb bl) := hb
  obtain ⟨na, nc, rfl⟩ := h.form
  obtain ⟨ba', bc', rfl⟩ := hb.form
  obtain ⟨iU, hiU, hzU, hz1U, hz2U⟩ := info_parts Tryz.infoU8
  rw [nxI_len] at HN ⊢
  obtain ⟨N, hNe⟩ : ∃ N, N = next.length := ⟨_, rfl⟩
  have HNL : Hid (N = next.length) := hNe
  obtain ⟨B, hB⟩ : ∃ B, B = bl.length := ⟨_, rfl⟩
  have HBL : Hid (B = bl.length) := hB
  rw [← hNe] at hl HN ⊢
  rw [← hB] at hbl HB ⊢
  have hmk := fun w0 => make_eq Tryz.underlying73 hiU hzU hz1U hz2U N (by omega) (by unfold maxLen; omega) w0
  have hcl : (colM bl next cl).length = N := by simp [colM, hNe]
  have HCO : Hid (∀ k (hk : k < next.length), (colM bl next cl)[k]?.getD 0 = bl.getD (next[k].getD cl 0) 0) := fun k hk => by simp [colM, hk]
  obtain ⟨C, hC⟩ : ∃ C, C = colM bl next cl := ⟨_, rfl⟩
  rw [← hC] at hcl HCO ⊢
  have HCL : Hid (C.length = N) := hcl
  clear h hb hNe hB hC hcl
  go_enter Tryz.func142, Tryz.ntmps142
  go_wp2
  obtain ⟨w2, hw2⟩ : ∃ w2, w2 = (w.alloc (.cells #[.bool f, .bool b, .int .i64 st, .string cls, va, .slice na N nc] 33)).alloc (.cells (mkA N (.int .u8 0)) 5) := ⟨_, rfl⟩
  rw [← hw2]
  have hb2 : Below w.heap.size w w2 := by rw [hw2]; exact ((Below.refl _ _).alloc (Nat.le_refl _) _).alloc (by simp) _
  have hn2 : Nw w2 (w.heap.size + 1) N (coF C 0) := by
    rw [hw2]
    have := Nw.new (w.alloc (.cells #[.bool f, .bool b, .int .i64 st, .string cls, va, .slice na N nc] 33)) N (.int .u8 0) rfl 5
    simp only [World.size_alloc] at this
    exact this.congr (fun j hj => by simp [coF])
  have HI : Hid (Below w.heap.size w w2 ∧ Nw w2 (w.heap.size + 1) N (coF C 0)) := ⟨hb2, hn2⟩
  clear hw2 hb2 hn2 hmk
  go_loopw [17] (fun i wr => ∃ k : Nat, k ≤ N ∧ i = .int .i64 k ∧ Below w.heap.size w wr ∧ Nw wr (w.heap.size + 1) N (coF C k)) (fun i _ => N - (intOf i).toNat)
  case atStart => exact ⟨0, by omega, rfl, HI.out.1, HI.out.2⟩
  case round =>
    obtain ⟨k, hk, rfl, hbw, hn⟩ := hrel
    have HBW : Hid (Below w.heap.size w wr) := hbw
    have HNW : Hid (Nw wr (w.heap.size + 1) N (coF C k)) := hn
    by_cases hlt : k < N
    · have hltI : (k : Int) < N := by omega
      have hkn : k < next.length := by have := HNL.out; omega
      obtain ⟨g, o, c, u, e1, hcell, hru⟩ := (HN.out.below hbw).at (i := k) (by rw [nxI_len]; exact hkn)
      simp only [Value.slice.injEq] at e1
      obtain ⟨rfl, -, rfl⟩ := e1
      rw [nxI_at next k hkn] at hru
      obtain ⟨q1, q2, q3⟩ := hrow _ (List.getElem_mem hkn)
      obtain ⟨g2, o2, c2, rfl, hc2⟩ := hru.at (i := cl) (by simpa using q1)
      simp only [List.getElem_map, List.length_map] at hc2 hcell
      have hxl := q2 _ (List.getElem_mem q1)
      obtain ⟨g3, o3, c3, e3, hc3⟩ := (HB.out.below hbw).at (i := next[k][cl]) hxl
      simp only [Value.slice.injEq] at e3
      obtain ⟨rfl, -, rfl⟩ := e3
      have HCK := HCO.out k hkn
      rw [List.getD_eq_getElem?_getD, List.getD_eq_getElem?_getD, List.getElem?_eq_getElem q1, Option.getD_some, List.getElem?_eq_getElem hxl, Option.getD_some] at HCK
      obtain ⟨L, hL⟩ : ∃ L, L = next[k].length := ⟨_, rfl⟩
      rw [← hL] at hcell
      have hclI : (cl : Int) < L := by omega
      have hclN : cl < L := by omega
      obtain ⟨x, hx⟩ : ∃ x, x = next[k][cl] := ⟨_, rfl⟩
      have hxI : (x : Int) < B := by have := HBL.out; rw [hx]; omega
      have hxN : x < B := by have := HBL.out; rw [hx]; omega
      simp only [← hx] at hc2 hc3 HCK
      obtain ⟨y, hy⟩ : ∃ y, y = bl[x]'(by have := HBL.out; omega) := ⟨_, rfl⟩
      rw [← hy] at hc3 HCK
      simp only [byV] at hc3
      have hc2' : wr.cell? ⟨g2, o2 + cl, none⟩ = some (.int .i64 (x : Int)) := hc2
      have ac := hn.c k hlt
      have af := hn.fz
      have HF : Hid (∀ j, j < N → (if j = k then (Value.int .u8 (y.toNat : Int)) else coF C k j) = coF C (k + 1) j) := fun j hj => by
        unfold coF
        by_cases e : j = k
        · subst e; rw [if_pos rfl, if_pos (by omega), HCK]; rfl
        · rw [if_neg e]
          by_cases e2 : j < k
          · rw [if_pos e2, if_pos (by omega)]
          · rw [if_neg e2, if_neg (by omega)]
      clear hbw hn hru q1 q2 q3 hxl hL hx hy HCK hc2
      go_wp2
      go_roundw
      case rel =>
        exact ⟨k + 1, by omega, by go_num, HBW.out.setCell (p := ⟨w.heap.size + 1, k, none⟩) (show w.heap.size ≤ w.heap.size + 1 by omega) _, (HNW.out.set k hlt (.int .u8 (y.toNat : Int))).congr HF.out⟩
      case measure => simp [intOf] <;> omega
    · have hkI : ¬ (k : Int) < N := by omega
      have hkN : k = N := by omega
      subst hkN
      have hcv := nw_conv' (l := C) (hn.congr (f' := fun j => byV (C[j]?.getD 0)) (fun j hj => by unfold coF; rw [if_pos hj])) HCL.out
      clear hbw hn
      go_wp2
      go_ret
      exact ⟨rfl, HBW.out⟩
end Go.Proofs.YtbjabpodkaokjaaGreatDoor

namespace Go.Proofs.YtbjabpodkaokjaaGreatDoor
open Go.RowKit

theorem looks_len (bl : List UInt8) (next : List (List Nat)) : (looksM bl next).length = next.length := by simp [looksM]
theorem looks_at (bl : List UInt8) (next : List (List Nat)) (k : Nat) (h : k < next.length) : (looksM bl next)[k]'(by rw [looks_len]; exact h) = lookM bl k next[k] := by simp [looksM]
/-- The first k of the finer blocks. -/
def fiF (L : List (List UInt8)) (k j : Nat) : Value := if j < k then byV (UInt8.ofNat (ixL (metL [] L) (L[j]?.getD []))) else .int .u8 0
/-- Between the rounds of numbering. -/
structure LI (S : Nat) (wS : World) (fb n : Nat) (W : World) (v : Value) (met : List (List UInt8)) (f : Nat → Value) : Prop where
  num : NumAt 9 1 W (S + 1) S v (met.map sgV) 0
  nv : ∀ g, v.ownBlock = some g → fb < g
  fb2 : S + 2 ≤ fb
  fi : Nw W fb n f
  bl : Below S wS W
  lt : fb < W.heap.size
section
variable {S : Nat} {wS : World} {fb n : Nat} {W W' : World} {v : Value} {met : List (List UInt8)} {f : Nat → Value}
theorem LI.below (h : LI S wS fb n W v met f) (hS : wS.heap.size = S) (hb : Below W.heap.size W W') : LI S wS fb n W' v met f := by
  have := h.bl.size
  refine ⟨h.num.keep (fun b hb' => hb.block b (h.num.lt hb')), h.nv, h.fb2, h.fi.of_block (hb.block fb h.lt), h.bl.trans (hb.mono (by omega)), Nat.lt_of_lt_of_le h.lt hb.size⟩
theorem LI.of (h : LI S wS fb n W v met f) {v' : Value} {met' : List (List UInt8)} (hn : NumAt 9 1 W' (S + 1) S v' (met'.map sgV) 0) (hg : ∀ g, v'.ownBlock = some g → v.ownBlock = some g ∨ W.heap.size ≤ g) (hx : Exc (Foot (S + 1) S v) W W') : LI S wS fb n W' v' met' f := by
  have h2 := h.fb2
  have h3 := h.lt
  have hf : ∀ {b}, Foot (S + 1) S v b → S ≤ b ∧ b ≠ fb := fun {b} q => by
    rcases q with q | q | q
    · omega
    · omega
    · have := h.nv b q.symm; omega
  refine ⟨hn, fun g hg' => ?_, h2, h.fi.of_block (hx.block fb h3 (fun q => (hf q).2 rfl)), ⟨hx.os.trans h.bl.os, hx.tape.trans h.bl.tape, hx.output.trans h.bl.output, Nat.le_trans h.bl.size hx.size, fun b hb => ?_⟩, Nat.lt_of_lt_of_le h3 hx.size⟩
  · rcases hg g hg' with q | q
    · exact h.nv g q
    · omega
  · rcases Nat.lt_or_ge b W.heap.size with hlt | hge
    · exact (hx.block b hlt (fun q => by have := (hf q).1; omega)).trans (h.bl.block b hb)
    · omega
theorem LI.set (h : LI S wS fb n W v met f) (k : Nat) (hk : k < n) (x : Value) : LI S wS fb n (W.setCell ⟨fb, k, none⟩ x) v met (fun j => if j = k then x else f j) := by
  have h2 := h.fb2
  refine ⟨h.num.exc (S := fun b => b = fb) (exc_set rfl) (fun b hb q => ?_), h.nv, h2, h.fi.set k hk x, h.bl.setCell (p := ⟨fb, k, none⟩) (show S ≤ fb by omega) _, by rw [size_set']; exact h.lt⟩
  rcases hb with hb | hb | hb
  · omega
  · omega
  · have := h.nv b hb.symm; omega
end
end Go.Proofs.YtbjabpodkaokjaaGreatDoor

namespace Go.Proofs.YtbjabpodkaokjaaGreatDoor
open Go.RowKit

/-- What a round of split begins with. -/
structure SpB (w : World) (next : List (List Nat)) (R : List UInt8) (tc : Array Value) (W : World) (v : Value) (bl : List UInt8) (many fu : Nat) : Prop where
  row : RowE byV W v bl
  len : bl.length = next.length
  bel : Below w.heap.size w W
  box : W.heap[w.heap.size]? = some (.cells tc 33)
  fue : splitM next fu bl many = R
  big : 202 ≤ fu + many
  man : many ≤ next.length
def manyOf (a : Act) : Nat := (intOf (a.tmps.getD 4 undef)).toNat
set_option maxRecDepth 8000 in
set_option maxHeartbeats 4000000 in
theorem split_any (w : World) (f b : Bool) (st : Int) (cls : List UInt8) (va vn : Value) (acc : List Bool) (next : List (List Nat)) (hA : RowE eB w va acc) (hN : RowsE eI w vn (nxI next)) (n K : Nat) (ha : acc.length = n) (hnl : next.length = n) (hrow : ∀ r ∈ next, r.length = K ∧ ∀ x ∈ r, x < n) (hn200 : n ≤ 200) (hK : K ≤ 256) :
    Calls Tryz.prog 79 #[.agg #[.bool f, .bool b, .int .i64 st, .string (ba cls), va, vn]] w fun e w' => ∃ v, e = .returned v ∧ RowE byV w' v (splitM next 202 (bkOf acc) 0) ∧ Below w.heap.size w w' := by
  obtain ⟨R, hR⟩ : ∃ R, R = splitM next 202 (bkOf acc) 0 := ⟨_, rfl⟩
  rw [← hR]
  have HR : Hid (R = splitM next 202 (bkOf acc) 0) := hR
  clear hR
  have HN : Hid (RowsE eI w vn (nxI next)) := hN
  obtain ⟨na, nc, hvn⟩ := hN.form
  rw [nxI_len, hnl] at hvn
  subst hvn
  obtain ⟨iU, hiU, hzU, hz1U, hz2U⟩ := info_parts Tryz.infoU8
  obtain ⟨tc, htc⟩ : ∃ tc : Array Value, tc = #[.bool f, .bool b, .int .i64 st, .string (ba cls), va, .slice na n nc] := ⟨_, rfl⟩
  have HTC : Hid (tc = #[.bool f, .bool b, .int .i64 st, .string (ba cls), va, .slice na n nc]) := htc
  have hb1 : Below w.heap.size w (w.alloc (.cells tc 33)) := (Below.refl _ _).alloc (Nat.le_refl _) _
  have hac := accepting_any (w.alloc (.cells tc 33)) ⟨f, b, st, cls, acc, nxI next⟩ va (.slice na n nc) (hA.below hb1) (by rw [ha]; exact hn200)
  simp only [htc] at hac
  have HSTART : Hid (∀ w2 v, Below (w.alloc (.cells tc 33)).heap.size (w.alloc (.cells tc 33)) w2 → RowE byV w2 v (bkOf acc) → SpB w next R tc w2 v (bkOf acc) 0 202) := fun w2 v hb2 hr => by
    refine ⟨hr, by rw [bk_len, ha, hnl], hb1.trans (hb2.mono (by simp)), (hb2.block _ (by simp)).trans (heap_alloc_new w _), HR.out.symm, by omega, by omega⟩
  simp only [htc] at HSTART
  obtain ⟨J, hJ⟩ : ∃ J : Act → World → Prop, ∀ a' w', J a' w' ↔ (∃ v bl many fu, SpB w next R tc w' v bl many fu ∧ ∃ u5 u6 u7 u8 u9 u10 u11 u12 u13 u14 u15 u16 u17 u18 u19 u20 u21 u22 u23 u24 u25 u26 u27 u28 u29 u30 u31 u32 u33 u34 u35 u36 u37 u38 u39 u40 u41, a' = { tmps := #[.agg #[.bool f, .bool b, .int .i64 st, .string (ba cls), va, .slice na n nc], .pointer (some ⟨w.heap.size, 0, none⟩), .slice none 0 0, v, .int .i64 (many : Int), u5, u6, u7, u8, u9, u10, u11, u12, u13, u14, u15, u16, u17, u18, u19, u20, u21, u22, u23, u24, u25, u26, u27, u28, u29, u30, u31, u32, u33, u34, u35, u36, u37, u38, u39, u40, u41], defers := [] }) := ⟨_, fun _ _ => Iff.rfl⟩
  have HJ : Hid (∀ a' w', J a' w' ↔ (∃ v bl many fu, SpB w next R tc w' v bl many fu ∧ ∃ u5 u6 u7 u8 u9 u10 u11 u12 u13 u14 u15 u16 u17 u18 u19 u20 u21 u22 u23 u24 u25 u26 u27 u28 u29 u30 u31 u32 u33 u34 u35 u36 u37 u38 u39 u40 u41, a' = { tmps := #[.agg #[.bool f, .bool b, .int .i64 st, .string (ba cls), va, .slice na n nc], .pointer (some ⟨w.heap.size, 0, none⟩), .slice none 0 0, v, .int .i64 (many : Int), u5, u6, u7, u8, u9, u10, u11, u12, u13, u14, u15, u16, u17, u18, u19, u20, u21, u22, u23, u24, u25, u26, u27, u28, u29, u30, u31, u32, u33, u34, u35, u36, u37, u38, u39, u40, u41], defers := [] })) := hJ
  clear hJ hA hN hb1
  go_enter Tryz.func79, Tryz.ntmps79
  go_wp2
  refine Sx.wp_scope_once 0 J (fun a' _ => 202 - manyOf a') rfl ?_ ?_
  · intro hp
    have HPP : Hid _ := hp
    clear hp
    go_wp2_with (go_at_call 137; refine hac.mono ?_; rintro e w2 ⟨v, rfl, hr2, hb2⟩; have HS : Hid (SpB w next R tc w2 v (bkOf acc) 0 202) := (by rw [htc]; exact HSTART.out w2 v hb2 hr2); clear hr2 hb2)
    go_step3
    exact ‹∀ a w, Code.wp _ _ _ a w → _› _ _ (HPP.out _ _ ((HJ.out _ _).2 ⟨v, bkOf acc, 0, 202, HS.out, _, _, _, _, _, _, _, _, _, _, _, _, _, _, _, _, _, _, _, _, _, _, _, _, _, _, _, _, _, _, _, _, _, _, _, _, _, rfl⟩))
  · intro a' w' hj
    obtain ⟨v, bl, many, fu, hsp, u5, u6, u7, u8, u9, u10, u11, u12, u13, u14, u15, u16, u17, u18, u19, u20, u21, u22, u23, u24, u25, u26, u27, u28, u29, u30, u31, u32, u33, u34, u35, u36, u37, u38, u39, u40, u41, rfl⟩ := (HJ.out _ _).1 hj
    clear hj
    have HSP : Hid (SpB w next R tc w' v bl many fu) := hsp
    have hbl := hsp.len
    have hman := hsp.man
    have hbig := hsp.big
    obtain ⟨va2, vc2, hv⟩ := hsp.row.form
    rw [hbl, hnl] at hv
    have HV : Hid (v = .slice va2 n vc2) := hv
    obtain ⟨fu', hfu⟩ : ∃ fu', fu = fu' + 1 := ⟨fu - 1, by omega⟩
    obtain ⟨L, hL⟩ : ∃ L, L = looksM bl next := ⟨_, rfl⟩
    have hLl : L.length = n := by rw [hL, looks_len, hnl]
    have HLA : Hid (∀ k (h : k < next.length), L[k]'(by omega) = lookM bl k next[k]) := fun k h => by simp only [hL]; exact looks_at bl next k h
    have HSTEP : Hid (R = if many < (metL [] L).length then splitM next fu' (L.map fun l => UInt8.ofNat (ixL (metL [] L) l)) (metL [] L).length else bl) := by
      show _ = _
      rw [← hsp.fue, hfu, hL]; rfl
    have hML : (metL [] L).length ≤ n := by have := metL_len [] L; simp at this; omega
    have HLLEN : Hid (∀ l ∈ L, l.length ≤ 257) := fun l hl => by
      obtain ⟨j, hj, rfl⟩ := List.getElem_of_mem hl
      rw [HLA.out j (by omega), look_len, (hrow _ (List.getElem_mem _)).1]; omega
    obtain ⟨S, hS⟩ : ∃ S, S = w'.heap.size := ⟨_, rfl⟩
    have hnew := newSg_any w'
    rw [← hS] at hnew
    have hmk := fun w0 => make_eq Tryz.underlying73 hiU hzU hz1U hz2U n (by omega) (by unfold maxLen; omega) w0
    have HINIT : Hid (∀ w3, NumAt 9 1 w3 (S + 1) S (.slice none 0 0) [] 0 → Below S w' w3 → LI S w' w3.heap.size n (w3.alloc (.cells (mkA n (.int .u8 0)) 5)) (.slice none 0 0) [] (fiF L 0)) := fun w3 hn hb => by
      have hl1 := hn.lt (.inl rfl)
      have hal : Below w3.heap.size w3 (w3.alloc (.cells (mkA n (.int .u8 0)) 5)) := (Below.refl _ _).alloc (Nat.le_refl _) _
      refine ⟨hn.keep (fun q hq => hal.block q (hn.lt hq)), fun g hg => by simp [Value.ownBlock] at hg, by omega, (Nw.new w3 n (.int .u8 0) rfl 5).congr (fun j hj => by simp [fiF]), hb.trans (hal.mono (by have := hb.size; omega)), by simp⟩
    have HS : Hid (w'.heap.size = S) := hS.symm
    have hSw : w.heap.size + 1 ≤ S := by have := (Array.getElem?_eq_some_iff.1 hsp.box).1; omega
    have HBOX : Hid (∀ W, Below S w' W → W.cell? ⟨w.heap.size, 5, none⟩ = some (.slice na n nc)) := fun W hb => by
      have e1 := (hb.block w.heap.size (by omega)).trans HSP.out.box
      simp [World.cell?, e1, htc]
    have HBEL : Hid (∀ W, Below S w' W → Below w.heap.size w W) := fun W hb => HSP.out.bel.trans (hb.mono (by omega))
    have HROW : Hid (∀ W, Below S w' W → RowE byV W v bl) := fun W hb => HSP.out.row.below (by rw [HS.out]; exact hb)
    have hbig2 : 202 ≤ fu' + 1 + many := by omega
    subst hv
    clear hsp hL hS hfu hac HSTART
    go_wp2_with (go_at_call 138; refine hnew.mono ?_; rintro e w3 ⟨rfl, hn3, hb3⟩; have hli := HINIT.out w3 hn3 hb3; have h5 := HBOX.out _ hli.bl; clear hn3 hb3)
    obtain ⟨w4, hw4⟩ : ∃ w4, w4 = w3.alloc (.cells (mkA n (.int .u8 0)) 5) := ⟨_, rfl⟩
    obtain ⟨fb, hfb⟩ : ∃ fb, fb = w3.heap.size := ⟨_, rfl⟩
    rw [← hw4, ← hfb] at hli
    rw [← hw4, ← hfb]
    have HLI : Hid (LI S w' fb n w4 (.slice none 0 0) [] (fiF L 0)) := hli
    clear hw4 hfb hli h5 hmk hnew HINIT
    go_loopw [18] (fun i wr => ∃ (k : Nat) (v' : Value), k ≤ n ∧ i = .int .i64 k ∧ LI S w' fb n wr v' (metL [] (L.take k)) (fiF L k)) (fun i _ => n - (intOf i).toNat)
    case atStart => exact ⟨0, _, by omega, rfl, HLI.out⟩
    case round =>
      obtain ⟨k, v', hk, rfl, hli⟩ := hrel
      have HL1 : Hid (LI S w' fb n wr v' (metL [] (L.take k)) (fiF L k)) := hli
      by_cases hlt : k < n
      · have hltI : (k : Int) < n := by omega
        have hkn : k < next.length := by omega
        obtain ⟨g, o, c, u, e1, hcell, hru⟩ := (HN.out.below (HBEL.out wr hli.bl)).at (i := k) (by rw [nxI_len]; exact hkn)
        simp only [Value.slice.injEq] at e1
        obtain ⟨rfl, -, rfl⟩ := e1
        rw [nxI_at next k hkn] at hru
        obtain ⟨q1, q2⟩ := hrow _ (List.getElem_mem hkn)
        have hlk := look_any wr bl (.slice va2 n vc2) (HROW.out wr hli.bl) k (by omega) next[k] u hru (fun x hx => by have := q2 x hx; omega) (by omega) (by omega)
        rw [← HLA.out k hkn] at hlk
        have hLm : L[k]'(by omega) ∈ L := List.getElem_mem _
        have HSUC : Hid (metL [] (L.take (k + 1)) = pushM (metL [] (L.take k)) (L[k]'(by omega))) := metL_take_succ [] (by omega)
        have HIX : Hid (ixL (metL [] L) (L[k]'(by omega)) = @List.idxOf _ instBEqOfDecidableEq (L[k]'(by omega)) (pushM (metL [] (L.take k)) (L[k]'(by omega)))) := idx_at [] (by omega)
        have hC : ixL (metL [] L) (L[k]'(by omega)) < 256 := by
          have : ixL (metL [] L) (L[k]'(by omega)) < (metL [] L).length := ixL_lt (mem_metL.2 (.inr hLm))
          omega
        have HFF : Hid (∀ j, j < n → (if j = k then (Value.int .u8 ((ixL (metL [] L) (L[k]'(by omega)) : Nat) : Int)) else fiF L k j) = fiF L (k + 1) j) := fun j hj => by
          unfold fiF
          by_cases e : j = k
          · subst e
            rw [if_pos rfl, if_pos (by omega), List.getElem?_eq_getElem (by omega)]
            simp only [Option.getD_some, byV]
            rw [UInt8.toNat_ofNat', Nat.mod_eq_of_lt hC]
          · rw [if_neg e]
            by_cases e2 : j < k
            · rw [if_pos e2, if_pos (by omega)]
            · rw [if_neg e2, if_neg (by omega)]
        have hnum := (fun W (h : LI S w' fb n W v' (metL [] (L.take k)) (fiF L k)) => ofSg_any W (S + 1) S v' (metL [] (L.take k)) 0 (L[k]'(by omega)) h.num (fun y hy => by
          have : y ∈ L := List.mem_of_mem_take (by simpa using mem_metL.1 hy)
          have := HLLEN.out y this; omega) (by have := HLLEN.out _ hLm; omega) (by have := metL_len [] (L.take k); simp at this; omega) (metL_nodup (by simp) _))
        simp only [← HIX.out] at hnum
        have HOF : Hid (∀ W, LI S w' fb n W v' (metL [] (L.take k)) (fiF L k) → Calls Tryz.prog 139 #[.pointer (some ⟨S + 1, 0, none⟩), .string (ba (L[k]'(by omega)))] W fun e w'' => e = .returned (.int .i64 ((ixL (metL [] L) (L[k]'(by omega)) : Nat) : Int)) ∧ ∃ v2, NumAt 9 1 w'' (S + 1) S v2 ((pushM (metL [] (L.take k)) (L[k]'(by omega))).map sgV) 0 ∧ (∀ g, v2.ownBlock = some g → v'.ownBlock = some g ∨ W.heap.size ≤ g) ∧ Exc (Foot (S + 1) S v') W w'') := hnum
        obtain ⟨X, hX⟩ : ∃ X, X = L[k]'(by omega) := ⟨_, rfl⟩
        rw [← hX] at hlk HSUC HFF HOF hC
        obtain ⟨m, hm⟩ : ∃ m, m = metL [] (L.take k) := ⟨_, rfl⟩
        rw [← hm] at HSUC HOF HL1
        obtain ⟨C, hCe⟩ : ∃ C, C = ixL (metL [] L) X := ⟨_, rfl⟩
        rw [← hCe] at HFF HOF hC
        have hCI : (C : Int) < 256 := by omega
        clear hli hru q1 q2 hLm HIX hnum hX hm hCe
        have af := HL1.out.fi.fz
        go_wp2_with (first | (go_at_call 139; refine (HOF.out w5 HL5.out).mono ?_; rintro e w6 ⟨rfl, v2, hn6, hg6, hx6⟩; have hl6 := HL5.out.of hn6 hg6 hx6; have HL6 : Hid (LI S w' fb n w6 v2 (pushM m X) (fiF L k)) := hl6; have ac6 := hl6.fi.c k hlt; have af6 := hl6.fi.fz; clear hn6 hg6 hx6 hl6) | (go_at_call 140; refine hlk.mono ?_; rintro e w5 ⟨rfl, hb5⟩; have HL5 : Hid (LI S w' fb n w5 v' m (fiF L k)) := HL1.out.below HS.out hb5; clear hb5))
        go_roundw
        case rel =>
          refine ⟨k + 1, v2, by omega, by go_num, ?_⟩
          have h7 := HL6.out.set k hlt (.int .u8 (C : Int))
          rw [HSUC.out]
          exact ⟨h7.num, h7.nv, h7.fb2, h7.fi.congr HFF.out, h7.bl, h7.lt⟩
        case measure => simp [intOf] <;> omega
      · have hkI : ¬ (k : Int) < n := by omega
        have hkn : k = n := by omega
        subst hkn
        rw [List.take_of_length_le (by omega)] at hli
        have HL2 : Hid (LI S w' fb k wr v' (metL [] L) (fiF L k)) := hli
        have hcnt := countSg_any wr (S + 1) S v' ((metL [] L).map sgV) 0 hli.num
        rw [List.length_map] at hcnt
        obtain ⟨M, hM⟩ : ∃ M, M = (metL [] L).length := ⟨_, rfl⟩
        rw [← hM] at hcnt HSTEP hML
        have HFR : Hid (RowE byV wr (.slice (some ⟨fb, 0, none⟩) k k) (L.map fun l => UInt8.ofNat (ixL (metL [] L) l))) := by
          have hl2 : (L.map fun l => UInt8.ofNat (ixL (metL [] L) l)).length = k := by simp [hLl]
          have := Nw.row (l := L.map fun l => UInt8.ofNat (ixL (metL [] L) l)) (enc := byV) (c := k) (f := fiF L k) (by rw [hl2]; exact hli.fi) (fun j hj => by
            have hjL : j < L.length := by simpa using hj
            unfold fiF
            rw [if_pos (by omega), List.getElem?_eq_getElem hjL]
            simp)
          rw [hl2] at this
          exact this
        have hMn : M ≤ next.length := by omega
        clear hli HL1 hM
        by_cases hgt : many < M
        · have hgtI : (many : Int) < M := by omega
          have HNX : Hid (SpB w next R tc wr (.slice (some ⟨fb, 0, none⟩) k k) (L.map fun l => UInt8.ofNat (ixL (metL [] L) l)) M fu') := by
            refine ⟨HFR.out, by simp; omega, HBEL.out wr HL2.out.bl, (HL2.out.bl.block _ (by omega)).trans HSP.out.box, ?_, by omega, hMn⟩
            rw [HSTEP.out, if_pos hgt]
          go_wp2_with (go_at_call 141; refine hcnt.mono ?_; rintro e w9 ⟨rfl, hw9⟩; obtain rfl := hw9.symm)
          go_step3
          refine ⟨rfl, (HJ.out _ _).2 ⟨_, _, M, fu', HNX.out, _, _, _, _, _, _, _, _, _, _, _, _, _, _, _, _, _, _, _, _, _, _, _, _, _, _, _, _, _, _, _, _, _, _, _, _, _, rfl⟩, ?_⟩
          simp [manyOf, intOf]
          omega
        · have hgtI : ¬ (many : Int) < M := by omega
          have HQ : Hid (R = bl) := by show _ = _; rw [HSTEP.out, if_neg hgt]
          go_wp2_with (go_at_call 141; refine hcnt.mono ?_; rintro e w9 ⟨rfl, hw9⟩; obtain rfl := hw9.symm)
          simp only [Exit.jump]
          go_ret
          refine ⟨_, rfl, ?_, HBEL.out wr HL2.out.bl⟩
          rw [HQ.out]
          exact HROW.out wr HL2.out.bl
end Go.Proofs.YtbjabpodkaokjaaGreatDoor

namespace Go.Proofs.YtbjabpodkaokjaaGreatDoor
open Go.RowKit

theorem ix_first {α : Type} [DecidableEq α] {xs : List α} {k : Nat} (hk : k < xs.length) (h : xs[k] ∉ xs.take k) : ixL xs xs[k] = k := by
  obtain ⟨x, hx⟩ : ∃ x, x = xs[k] := ⟨_, rfl⟩
  rw [← hx] at h ⊢
  have e : xs = xs.take k ++ x :: xs.drop (k + 1) := by
    rw [hx, ← List.drop_eq_getElem_cons hk, List.take_append_drop]
  unfold ixL
  rw [e, List.idxOf_append, if_neg h, List.length_take, Nat.min_eq_left (by omega), List.idxOf_cons_self]
  omega
/-- Classes of old, of what was met behind k bytes. -/
def oldK (cls : List Nat) (cols : List (List UInt8)) (k : Nat) : List Nat := (metL [] (cols.take k)).map fun col => cls.getD (ixL cols col) 0
theorem oldK_zero (cls : List Nat) (cols : List (List UInt8)) : oldK cls cols 0 = [] := by simp [oldK, metL]
theorem oldK_old {cls : List Nat} {cols : List (List UInt8)} {k : Nat} (hk : k < cols.length) (h : cols[k] ∈ metL [] (cols.take k)) : oldK cls cols (k + 1) = oldK cls cols k := by
  unfold oldK
  rw [metL_take_succ [] hk, pushM, if_pos h]
theorem oldK_new {cls : List Nat} {cols : List (List UInt8)} {k : Nat} (hk : k < cols.length) (hl : cls.length = cols.length) (h : cols[k] ∉ metL [] (cols.take k)) : oldK cls cols (k + 1) = oldK cls cols k ++ [cls[k]'(by omega)] := by
  have h2 : cols[k] ∉ cols.take k := fun q => h (mem_metL.2 (.inr q))
  unfold oldK
  rw [metL_take_succ [] hk, pushM, if_neg h, List.map_append, List.map_cons, List.map_nil, ix_first hk h2, List.getD_eq_getElem?_getD, List.getElem?_eq_getElem (by omega)]
  rfl
theorem oldK_len (cls : List Nat) (cols : List (List UInt8)) (k : Nat) : (oldK cls cols k).length = (metL [] (cols.take k)).length := by simp [oldK]
/-- The classes' bytes, as far as they are known. -/
def jnF (cols : List (List UInt8)) (k j : Nat) : Value := if j < k then .int .u8 ((ixL (metL [] cols) (cols[j]?.getD []) : Nat) : Int) else .int .u8 0
/-- Between the rounds of join. -/
structure JI (S : Nat) (wS : World) (fb : Nat) (W : World) (v vo : Value) (met : List (List UInt8)) (f : Nat → Value) (olds : List Nat) : Prop where
  li : LI S wS fb 256 W v met f
  ow : W.ownsRow (fb + 1) 3 1 vo olds.length (olds.map eN)
section
variable {S : Nat} {wS : World} {fb : Nat} {W W' : World} {v vo : Value} {met : List (List UInt8)} {f : Nat → Value} {olds : List Nat}
theorem JI.below (h : JI S wS fb W v vo met f olds) (hS : wS.heap.size = S) (hb : Below W.heap.size W W') : JI S wS fb W' v vo met f olds := ⟨h.li.below hS hb, own_blk h.ow (fun b hb' => hb.block b (own_lt h.ow hb'))⟩
theorem JI.of (h : JI S wS fb W v vo met f olds) {v' : Value} {met' : List (List UInt8)} (hn : NumAt 9 1 W' (S + 1) S v' (met'.map sgV) 0) (hg : ∀ g, v'.ownBlock = some g → v.ownBlock = some g ∨ W.heap.size ≤ g) (hx : Exc (Foot (S + 1) S v) W W') : JI S wS fb W' v' vo met' f olds := by
  refine ⟨h.li.of hn hg hx, own_blk h.ow (fun b hb => hx.block b (own_lt h.ow hb) (fun q => ?_))⟩
  have h1 := own_ge h.ow hb
  have h2 := h.li.fb2
  rcases q with q | q | q
  · omega
  · omega
  · obtain ⟨cs, hcs⟩ := own_ty h.li.num.own q.symm
    obtain ⟨ds, hds⟩ := own_ty h.ow hb
    exact ty_ne hcs hds (by decide) rfl
theorem JI.set (h : JI S wS fb W v vo met f olds) (k : Nat) (hk : k < 256) (x : Value) : JI S wS fb (W.setCell ⟨fb, k, none⟩ x) v vo met (fun j => if j = k then x else f j) olds :=
  ⟨h.li.set k hk x, own_blk h.ow (fun b hb => set_blk _ _ _ _ (by have := own_ge h.ow hb; omega))⟩
theorem JI.app (h : JI S wS fb W v vo met f olds) (hS : wS.heap.size = S) {wa w4 : World} {x g k H : Nat} (hwa : Below W.heap.size W wa) (ho : w4.ownsRow (fb + 1) 3 1 (.slice (some ⟨g, 0, none⟩) (olds.length + 1) k) (olds.length + 1) (olds.map eN ++ [eN x])) (hH : wa.heap.size = H)
    (hc : (vo.ownBlock = some g ∧ wa.grownBy w4 (some g)) ∨ (g = H ∧ wa.grownBy w4 none)) : JI S wS fb w4 v (.slice (some ⟨g, 0, none⟩) (olds.length + 1) k) met f (olds ++ [x]) := by
  have hsza := hwa.size
  have hlt := h.li.lt
  have h2 := h.li.fb2
  have hsz := h.li.bl.size
  have blk : ∀ b, b < W.heap.size → vo.ownBlock ≠ some b → w4.heap[b]? = W.heap[b]? := fun b hb hne => (grown_blk hH hc (by omega) hne).trans (hwa.block b hb)
  obtain ⟨g1, g2, g3, g4⟩ := grown_env hc
  refine ⟨⟨h.li.num.keep (fun b hb => blk b (h.li.num.lt hb) (fun q => ?_)), h.li.nv, h2, h.li.fi.of_block (blk fb hlt (fun q => by have := own_ge h.ow q; omega)), ⟨g1.trans (hwa.os.trans h.li.bl.os), g2.trans (hwa.tape.trans h.li.bl.tape), g3.trans (hwa.output.trans h.li.bl.output), by omega, fun b hb => ?_⟩, by omega⟩, by simpa using ho⟩
  · have h1 := own_ge h.ow q
    rcases hb with hb | hb | hb
    · omega
    · omega
    · obtain ⟨cs, hcs⟩ := own_ty h.li.num.own hb.symm
      obtain ⟨ds, hds⟩ := own_ty h.ow q
      exact ty_ne hcs hds (by decide) rfl
  · exact (blk b (by omega) (fun q => by have := own_ge h.ow q; omega)).trans (h.li.bl.block b hb)
end
end Go.Proofs.YtbjabpodkaokjaaGreatDoor
