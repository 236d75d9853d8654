import Derived.Test.YtbjabpodkaokjaaGreatDoorJ21
import Derived.Lib.BufferRead
set_option linter.unusedVariables false
set_option linter.unusedSimpArgs false
namespace Go.Proofs.YtbjabpodkaokjaaGreatDoor.Sx
open Go.RowKit

set_option maxRecDepth 4000 in
set_option maxHeartbeats 2000000 in
theorem appendPart_b (w : World) (base : Nat) (v : Value) (bs : List UInt8) (x0 x1 x2 x3 : Nat) (g2 : Option Addr) (n2 c2 : Nat) (cs : List Cnt) (hcs : ∀ c ∈ cs, okCnt c) (hrow : RowIn w (fun g => g < base) 282 3 (.slice g2 n2 c2) cs.length (cs.flatMap cntCells)) (ga : Option Addr) (gc : Nat) (S0 : Nat → Bool) (hS : Wd x0 x1 x2 x3 S0) (hB : Buf w base v bs) (hb : base ≤ w.heap.size) (hlen : bs.length + (tBytes S0).length + 20 * cs.length + 20 ≤ 900000) :
    Calls Tryz.prog 191 #[v, .agg #[.slice ga 0 gc, .int .u64 x0, .int .u64 x1, .int .u64 x2, .int .u64 x3, .slice g2 n2 c2]] w fun e w' => ∃ v', e = .returned v' ∧ Out base w w' v' (bs ++ tBytes S0 ++ cs.flatMap tCount) := by
  have hn2 : n2 = cs.length := by
    rcases Nat.eq_zero_or_pos cs.length with q | q
    · rw [q] at hrow
      obtain ⟨a, c, e⟩ := hrow.nilForm
      injection e with _ e _; omega
    · obtain ⟨g, cap, e, _⟩ := hrow.form q
      injection e with _ e _
  subst hn2
  have HB : Hid (Buf w base v bs) := hB
  have HR : Hid (RowIn w (fun g => g < base) 282 3 (.slice g2 cs.length c2) cs.length (cs.flatMap cntCells)) := hrow
  clear hB hrow
  go_enter Tryz.func191, Tryz.ntmps191
  go_wp2_with (go_at_call 204; refine (appendBytes_any _ base v bs x0 x1 x2 x3 S0 hS (HB.out.alloc _) (by simp; omega) (by omega)).mono ?_; rintro e w1 ⟨v1, rfl, hbuf1, hg1⟩; have hO1' := Out.of_grew (HB.out.alloc _) (by simp; omega) hbuf1 hg1; have HK1 : Hid (w1.heap[w.heap.size]? = some (.cells #[.slice ga 0 gc, .int .u64 x0, .int .u64 x1, .int .u64 x2, .int .u64 x3, .slice g2 cs.length c2] 231)) := hO1'.kp.cells (heap_alloc_new _ _) (by decide); have HO1 : Hid (Out base w w1 v1 (bs ++ tBytes S0)) := ((Out.start HB.out).alloc hb _).trans hO1'; have k5 : w1.cell? ⟨w.heap.size, 5, none⟩ = some (.slice g2 cs.length c2) := (by rw [cell_of HK1.out]; rfl); clear hO1')
  have hb1 : base ≤ w1.heap.size := HO1.out.sz hb
  have hz1 : w.heap.size < w1.heap.size := lt_of_blk HK1.out
  go_loopw [0, 25] (fun vv i wr => ∃ k : Nat, k ≤ cs.length ∧ i = .int .i64 k ∧ Out base w wr vv (bs ++ tBytes S0 ++ (cs.take k).flatMap tCount)) (fun _ i _ => cs.length - (intOf i).toNat)
  case atStart => exact ⟨0, Nat.zero_le _, rfl, by simpa using HO1.out⟩
  case round =>
    clear k5
    obtain ⟨k, hk, rfl, hO⟩ := hrel
    have hbr : base ≤ wr.heap.size := hO.sz hb
    have HO : Hid (Out base w wr u0 (bs ++ tBytes S0 ++ (cs.take k).flatMap tCount)) := hO
    clear hO
    by_cases hlt : k < cs.length
    · obtain ⟨g, cap, hvf, hSg, hcap, hmax⟩ := HR.out.form (by omega)
      injection hvf with e1 _ e3
      subst e1
      obtain ⟨a0, a1, a2⟩ := cntCells_at cs k hlt
      have hrow := HR.out.of_heap (w' := wr) (S' := fun g => g < base) (fun j hj hl => ⟨hj, HO.out.bl.block j hj⟩)
      rw [e3] at hrow
      have b0 := (hrow.cell (k * 3) (by omega)).trans a0
      have b1 := (hrow.cell (k * 3 + 1) (by omega)).trans a1
      have b2 := (hrow.cell (k * 3 + 2) (by omega)).trans a2
      obtain ⟨C, hC⟩ : ∃ C, C = cs[k] := ⟨_, rfl⟩
      rw [← hC] at b0 b1 b2
      have hok : okCnt C := by rw [hC]; exact hcs _ (List.getElem_mem hlt)
      have hlk := flat_take cs k
      have HS : Hid ((cs.take (k + 1)).flatMap tCount = (cs.take k).flatMap tCount ++ tCount C) := by
        show _ = _
        rw [hC]; exact flat_snoc cs k hlt
      obtain ⟨sg, le, mo⟩ := C
      simp only at b0 b1 b2
      clear a0 a1 a2 hrow hC e3
      go_wp2_with (go_at_call 205; refine (appendCount_any _ base u0 (bs ++ tBytes S0 ++ (cs.take k).flatMap tCount) ⟨sg, le, mo⟩ hok (HO.out.buf.alloc _) (by simp; omega) (by rw [List.length_append, List.length_append]; omega)).mono ?_; rintro e w3 ⟨v3, rfl, hO3⟩; have HO3 : Hid (Out base w w3 v3 (bs ++ tBytes S0 ++ (cs.take k).flatMap tCount ++ tCount ⟨sg, le, mo⟩)) := (HO.out.alloc hbr _).trans hO3; clear hO3)
      go_roundw
      case rel => exact ⟨k + 1, by omega, by go_num, by rw [HS.out, ← List.append_assoc]; exact HO3.out⟩
      case measure => simp [intOf]; omega
    · have hk' : k = cs.length := by omega
      have HT : Hid (cs.take k = cs) := List.take_of_length_le (by omega)
      go_wp2
      go_ret
      have := HO.out
      rw [HT.out] at this
      exact ⟨_, rfl, this⟩

set_option maxRecDepth 4000 in
set_option maxHeartbeats 2000000 in
theorem appendPart_g (w : World) (base : Nat) (v : Value) (bs : List UInt8) (x0 x1 x2 x3 : Nat) (g2 : Option Addr) (n2 c2 : Nat) (cs : List Cnt) (hcs : ∀ c ∈ cs, okCnt c) (hrow : RowIn w (fun g => g < base) 282 3 (.slice g2 n2 c2) cs.length (cs.flatMap cntCells)) (g1 : Addr) (n1 c1 : Nat) (hn1 : 0 < n1) (T1 : List UInt8) (hG : ∀ w' : World, Below base w w' → ∀ (v : Value) (bs : List UInt8), Buf w' base v bs → base ≤ w'.heap.size → bs.length + T1.length ≤ 850000 → Calls Tryz.prog 98 #[v, .slice (some g1) n1 c1] w' fun e w'' => ∃ v', e = .returned v' ∧ Out base w' w'' v' (bs ++ T1)) (hl2 : bs.length + T1.length ≤ 850000) (hB : Buf w base v bs) (hb : base ≤ w.heap.size) (hlen : bs.length + (T1).length + 20 * cs.length + 20 ≤ 900000) :
    Calls Tryz.prog 191 #[v, .agg #[.slice (some g1) n1 c1, .int .u64 x0, .int .u64 x1, .int .u64 x2, .int .u64 x3, .slice g2 n2 c2]] w fun e w' => ∃ v', e = .returned v' ∧ Out base w w' v' (bs ++ T1 ++ cs.flatMap tCount) := by
  have hn2 : n2 = cs.length := by
    rcases Nat.eq_zero_or_pos cs.length with q | q
    · rw [q] at hrow
      obtain ⟨a, c, e⟩ := hrow.nilForm
      injection e with _ e _; omega
    · obtain ⟨g, cap, e, _⟩ := hrow.form q
      injection e with _ e _
  subst hn2
  have HB : Hid (Buf w base v bs) := hB
  have HR : Hid (RowIn w (fun g => g < base) 282 3 (.slice g2 cs.length c2) cs.length (cs.flatMap cntCells)) := hrow
  clear hB hrow
  have HG : Hid _ := hG
  clear hG
  have hn1' : (0 : Int) < n1 := by omega
  go_enter Tryz.func191, Tryz.ntmps191
  go_wp2_with (go_at_call 98; refine (HG.out _ ((Below.refl base w).alloc hb _) v bs (HB.out.alloc _) (by simp; omega) (by omega)).mono ?_; rintro e w1 ⟨v1, rfl, hO1'⟩; have HK1 : Hid (w1.heap[w.heap.size]? = some (.cells #[.slice (some g1) n1 c1, .int .u64 x0, .int .u64 x1, .int .u64 x2, .int .u64 x3, .slice g2 cs.length c2] 231)) := hO1'.kp.cells (heap_alloc_new _ _) (by decide); have HO1 : Hid (Out base w w1 v1 (bs ++ T1)) := ((Out.start HB.out).alloc hb _).trans hO1'; have k5 : w1.cell? ⟨w.heap.size, 5, none⟩ = some (.slice g2 cs.length c2) := (by rw [cell_of HK1.out]; rfl); clear hO1')
  have hb1 : base ≤ w1.heap.size := HO1.out.sz hb
  have hz1 : w.heap.size < w1.heap.size := lt_of_blk HK1.out
  go_loopw [0, 25] (fun vv i wr => ∃ k : Nat, k ≤ cs.length ∧ i = .int .i64 k ∧ Out base w wr vv (bs ++ T1 ++ (cs.take k).flatMap tCount)) (fun _ i _ => cs.length - (intOf i).toNat)
  case atStart => exact ⟨0, Nat.zero_le _, rfl, by simpa using HO1.out⟩
  case round =>
    clear k5
    obtain ⟨k, hk, rfl, hO⟩ := hrel
    have hbr : base ≤ wr.heap.size := hO.sz hb
    have HO : Hid (Out base w wr u0 (bs ++ T1 ++ (cs.take k).flatMap tCount)) := hO
    clear hO
    by_cases hlt : k < cs.length
    · obtain ⟨g, cap, hvf, hSg, hcap, hmax⟩ := HR.out.form (by omega)
      injection hvf with e1 _ e3
      subst e1
      obtain ⟨a0, a1, a2⟩ := cntCells_at cs k hlt
      have hrow := HR.out.of_heap (w' := wr) (S' := fun g => g < base) (fun j hj hl => ⟨hj, HO.out.bl.block j hj⟩)
      rw [e3] at hrow
      have b0 := (hrow.cell (k * 3) (by omega)).trans a0
      have b1 := (hrow.cell (k * 3 + 1) (by omega)).trans a1
      have b2 := (hrow.cell (k * 3 + 2) (by omega)).trans a2
      obtain ⟨C, hC⟩ : ∃ C, C = cs[k] := ⟨_, rfl⟩
      rw [← hC] at b0 b1 b2
      have hok : okCnt C := by rw [hC]; exact hcs _ (List.getElem_mem hlt)
      have hlk := flat_take cs k
      have HS : Hid ((cs.take (k + 1)).flatMap tCount = (cs.take k).flatMap tCount ++ tCount C) := by
        show _ = _
        rw [hC]; exact flat_snoc cs k hlt
      obtain ⟨sg, le, mo⟩ := C
      simp only at b0 b1 b2
      clear a0 a1 a2 hrow hC e3
      go_wp2_with (go_at_call 205; refine (appendCount_any _ base u0 (bs ++ T1 ++ (cs.take k).flatMap tCount) ⟨sg, le, mo⟩ hok (HO.out.buf.alloc _) (by simp; omega) (by rw [List.length_append, List.length_append]; omega)).mono ?_; rintro e w3 ⟨v3, rfl, hO3⟩; have HO3 : Hid (Out base w w3 v3 (bs ++ T1 ++ (cs.take k).flatMap tCount ++ tCount ⟨sg, le, mo⟩)) := (HO.out.alloc hbr _).trans hO3; clear hO3)
      go_roundw
      case rel => exact ⟨k + 1, by omega, by go_num, by rw [HS.out, ← List.append_assoc]; exact HO3.out⟩
      case measure => simp [intOf]; omega
    · have hk' : k = cs.length := by omega
      have HT : Hid (cs.take k = cs) := List.take_of_length_le (by omega)
      go_wp2
      go_ret
      have := HO.out
      rw [HT.out] at this
      exact ⟨_, rfl, this⟩

end Go.Proofs.YtbjabpodkaokjaaGreatDoor.Sx

namespace Go.Proofs.YtbjabpodkaokjaaGreatDoor.Sx
open Go.RowKit

/-- The six cells of a part as numbers and slices. -/
structure SixV where
  q0 : Option Addr
  q1 : Nat
  q2 : Nat
  y0 : Nat
  y1 : Nat
  y2 : Nat
  y3 : Nat
  r0 : Option Addr
  r1 : Nat
  r2 : Nat
def SixV.cells (s : SixV) : List Value := [.slice s.q0 s.q1 s.q2, .int .u64 s.y0, .int .u64 s.y1, .int .u64 s.y2, .int .u64 s.y3, .slice s.r0 s.r1 s.r2]
abbrev SixV.val (s : SixV) : Value := .agg #[.slice s.q0 s.q1 s.q2, .int .u64 s.y0, .int .u64 s.y1, .int .u64 s.y2, .int .u64 s.y3, .slice s.r0 s.r1 s.r2]
theorem six_at (vs : List SixV) (k : Nat) (hk : k < vs.length) : ∀ j, j < 6 → ((vs.map SixV.cells).flatten)[k * 6 + j]? = (vs[k].cells)[j]? := by
  induction vs generalizing k with
  | nil => simp at hk
  | cons c cs ih =>
    intro j hj
    cases k with
    | zero =>
      simp only [List.map_cons, List.flatten_cons, Nat.zero_mul, Nat.zero_add, List.getElem_cons_zero]
      rw [List.getElem?_append_left (by simp [SixV.cells]; omega)]
    | succ k =>
      have := ih k (by simpa using hk) j hj
      have e1 : (k + 1) * 6 + j = (k * 6 + j) + 6 := by omega
      simp only [e1, List.map_cons, List.flatten_cons, List.getElem_cons_succ]
      rw [List.getElem?_append_right (by simp [SixV.cells])]
      have e2 : k * 6 + j + 6 - c.cells.length = k * 6 + j := by simp [SixV.cells]
      rw [e2]; exact this

abbrev PartTxt (base : Nat) (w : World) (val : Value) (T : List UInt8) : Prop :=
  ∀ w' : World, Below base w w' → ∀ (v : Value) (bs : List UInt8), Buf w' base v bs → base ≤ w'.heap.size → bs.length + T.length ≤ 850000 → Calls Tryz.prog 191 #[v, val] w' fun e w'' => ∃ v', e = .returned v' ∧ Out base w' w'' v' (bs ++ T)

set_option maxHeartbeats 1000000 in
theorem appendChain_0 (w : World) (base : Nat) (v : Value) (bs : List UInt8) (a : Option Addr) (c : Nat) (hB : Buf w base v bs) (hb : base ≤ w.heap.size) (hlen : bs.length + 1 ≤ 850000) :
    Calls Tryz.prog 160 #[v, .slice a 0 c] w fun e w' => ∃ v', e = .returned v' ∧ Out base w w' v' (bs ++ [101]) := by
  obtain ⟨i0, hi0, hz0, hz1, hz2⟩ := info_parts Tryz.infoU8
  have HO : Hid (Out base w w v bs) := Out.start hB
  clear hB
  go_enter Tryz.func160, Tryz.ntmps160
  go_wp2_with (at_builtin; refine wpList_append_own_at _ rfl (.tmp 11) (.tmp 12) 73 rfl base 5 i0 (.int .u8 0) 1 1 Tryz.underlying73 hi0 hz0 hz1 hz2 rfl (by decide) v (bs).length ((bs).map bv) rfl (HO.out.buf.alloc _) ⟨w.heap.size, 0, none⟩ 1 1 [bv 101] rfl rfl (by intro j u hj; cases j with | zero => (simp at hj; subst hj; simp [Addr.add, go_sem]) | succ j => simp at hj) (bv_one [101]) (by unfold maxLen; omega) (by omega) (by simp; omega) ?_)
  intro v1 w1 hown1 hgr1 _ hob1
  have HO1 : Hid (Out base w w1 v1 (bs ++ [101])) := HO.out.app hb hgr1 hown1
  clear hown1 hgr1 hob1
  go_wp2
  go_ret
  exact ⟨_, rfl, HO1.out⟩

set_option maxHeartbeats 1000000 in
theorem appendChain_1 (w : World) (base : Nat) (v : Value) (bs : List UInt8) (g c : Nat) (s : SixV) (T : List UInt8) (hrow : RowIn w (fun g => g < base) 231 6 (.slice (some ⟨g, 0, none⟩) 1 c) 1 (([s].map SixV.cells).flatten)) (hP : PartTxt base w s.val T) (hB : Buf w base v bs) (hb : base ≤ w.heap.size) (hlen : bs.length + T.length ≤ 850000) :
    Calls Tryz.prog 160 #[v, .slice (some ⟨g, 0, none⟩) 1 c] w fun e w' => ∃ v', e = .returned v' ∧ Out base w w' v' (bs ++ T) := by
  have hx := hP w (Below.refl _ _) v bs hB hb hlen
  have HX : Hid (Calls Tryz.prog 191 #[v, s.val] w fun e w'' => ∃ v', e = .returned v' ∧ Out base w w'' v' (bs ++ T)) := hx
  clear hx hP hB
  have e0 := (hrow.cell 0 (by omega)).trans (six_at [s] 0 (by simp) 0 (by omega))
  have e1 := (hrow.cell 1 (by omega)).trans (six_at [s] 0 (by simp) 1 (by omega))
  have e2 := (hrow.cell 2 (by omega)).trans (six_at [s] 0 (by simp) 2 (by omega))
  have e3 := (hrow.cell 3 (by omega)).trans (six_at [s] 0 (by simp) 3 (by omega))
  have e4 := (hrow.cell 4 (by omega)).trans (six_at [s] 0 (by simp) 4 (by omega))
  have e5 := (hrow.cell 5 (by omega)).trans (six_at [s] 0 (by simp) 5 (by omega))
  obtain ⟨q0, q1, q2, y0, y1, y2, y3, r0, r1, r2⟩ := s
  simp [SixV.cells] at e0 e1 e2 e3 e4 e5
  clear hrow
  go_enter Tryz.func160, Tryz.ntmps160
  go_wp2_with (go_at_call 191; refine HX.out.mono ?_; rintro e w1 ⟨v1, rfl, hO1⟩; have HO1 : Hid _ := hO1; clear hO1)
  go_ret
  exact ⟨_, rfl, HO1.out⟩
end Go.Proofs.YtbjabpodkaokjaaGreatDoor.Sx

namespace Go.Proofs.YtbjabpodkaokjaaGreatDoor.Sx
open Go.RowKit

theorem flatten_take_le (Ts : List (List UInt8)) (k : Nat) (h : k < Ts.length) : ((Ts.take k).flatten).length + (Ts[k]).length ≤ (Ts.flatten).length := by
  induction Ts generalizing k with
  | nil => simp at h
  | cons t Ts ih =>
    cases k with
    | zero => simp
    | succ k =>
      have := ih k (by simpa using h)
      simp only [List.take_succ_cons, List.flatten_cons, List.length_append, List.getElem_cons_succ]; omega
theorem flatten_snoc (Ts : List (List UInt8)) (k : Nat) (h : k < Ts.length) : (Ts.take (k + 1)).flatten = (Ts.take k).flatten ++ Ts[k] := by
  rw [List.take_succ_eq_append_getElem h, List.flatten_append]; simp

set_option maxRecDepth 4000 in
set_option maxHeartbeats 2000000 in
theorem appendChain_n (w : World) (base : Nat) (v : Value) (bs : List UInt8) (g c : Nat) (vs : List SixV) (Ts : List (List UInt8)) (hl : Ts.length = vs.length) (hn : 2 ≤ vs.length) (hmax : vs.length ≤ 1000)
    (hrow : RowIn w (fun g => g < base) 231 6 (.slice (some ⟨g, 0, none⟩) vs.length c) vs.length ((vs.map SixV.cells).flatten))
    (hP : ∀ (k : Nat) (h1 : k < vs.length) (h2 : k < Ts.length), PartTxt base w vs[k].val Ts[k]) (hB : Buf w base v bs) (hb : base ≤ w.heap.size) (hlen : bs.length + Ts.flatten.length + 2 ≤ 850000) :
    Calls Tryz.prog 160 #[v, .slice (some ⟨g, 0, none⟩) vs.length c] w fun e w' => ∃ v', e = .returned v' ∧ Out base w w' v' (bs ++ [40] ++ Ts.flatten ++ [41]) := by
  obtain ⟨i0, hi0, hz0, hz1, hz2⟩ := info_parts Tryz.infoU8
  have HO : Hid (Out base w w v bs) := Out.start hB
  have HR : Hid (RowIn w (fun g => g < base) 231 6 (.slice (some ⟨g, 0, none⟩) vs.length c) vs.length ((vs.map SixV.cells).flatten)) := hrow
  have HP : Hid (∀ (k : Nat) (h1 : k < vs.length) (h2 : k < Ts.length), PartTxt base w vs[k].val Ts[k]) := hP
  clear hB hrow hP
  have m0 : ((vs.length : Int) == 0) = false := beq_eq_false_iff_ne.2 (by omega)
  have m1 : ((vs.length : Int) == 1) = false := beq_eq_false_iff_ne.2 (by omega)
  go_enter Tryz.func160, Tryz.ntmps160
  go_wp2_with (at_builtin; refine wpList_append_own_at _ rfl (.tmp 21) (.tmp 22) 73 rfl base 5 i0 (.int .u8 0) 1 1 Tryz.underlying73 hi0 hz0 hz1 hz2 rfl (by decide) v (bs).length ((bs).map bv) rfl (HO.out.buf.alloc _) ⟨w.heap.size, 0, none⟩ 1 1 [bv 40] rfl rfl (by intro j u hj; cases j with | zero => (simp at hj; subst hj; simp [Addr.add, go_sem]) | succ j => simp at hj) (bv_one [40]) (by unfold maxLen; omega) (by omega) (by simp; omega) ?_)
  intro v1 w1 hown1 hgr1 _ hob1
  have HO1 : Hid (Out base w w1 v1 (bs ++ [40])) := HO.out.app hb hgr1 hown1
  clear hown1 hgr1 hob1
  go_wp2
  go_loopw [0, 26] (fun vv i wr => ∃ k : Nat, k ≤ vs.length ∧ i = .int .i64 k ∧ Out base w wr vv (bs ++ [40] ++ (Ts.take k).flatten)) (fun _ i _ => vs.length - (intOf i).toNat)
  case atStart => exact ⟨0, Nat.zero_le _, rfl, by simpa using HO1.out⟩
  case round =>
    obtain ⟨k, hk, rfl, hO⟩ := hrel
    have hbr : base ≤ wr.heap.size := hO.sz hb
    have HO2 : Hid (Out base w wr u0 (bs ++ [40] ++ (Ts.take k).flatten)) := hO
    clear hO
    by_cases hlt : k < vs.length
    · have hlt2 : k < Ts.length := by omega
      have hrow := HR.out.of_heap (w' := wr) (S' := fun g => g < base) (fun j hj hl => ⟨hj, HO2.out.bl.block j hj⟩)
      have e0 := (hrow.cell (k * 6 + 0) (by omega)).trans (six_at vs k hlt 0 (by omega))
      have e1 := (hrow.cell (k * 6 + 1) (by omega)).trans (six_at vs k hlt 1 (by omega))
      have e2 := (hrow.cell (k * 6 + 2) (by omega)).trans (six_at vs k hlt 2 (by omega))
      have e3 := (hrow.cell (k * 6 + 3) (by omega)).trans (six_at vs k hlt 3 (by omega))
      have e4 := (hrow.cell (k * 6 + 4) (by omega)).trans (six_at vs k hlt 4 (by omega))
      have e5 := (hrow.cell (k * 6 + 5) (by omega)).trans (six_at vs k hlt 5 (by omega))
      have hx := HP.out k hlt hlt2
      have htl := flatten_take_le Ts k hlt2
      have HS : Hid ((Ts.take (k + 1)).flatten = (Ts.take k).flatten ++ Ts[k]) := flatten_snoc Ts k hlt2
      obtain ⟨T, hT⟩ : ∃ T, T = Ts[k] := ⟨_, rfl⟩
      rw [← hT] at hx htl HS
      obtain ⟨s, hs⟩ : ∃ s, s = vs[k] := ⟨_, rfl⟩
      rw [← hs] at hx e0 e1 e2 e3 e4 e5
      clear hT hs hrow
      obtain ⟨q0, q1, q2, y0, y1, y2, y3, r0, r1, r2⟩ := s
      simp [SixV.cells] at e0 e1 e2 e3 e4 e5
      have hbd : (bs ++ [40] ++ (Ts.take k).flatten).length + T.length ≤ 850000 := by rw [List.length_append, List.length_append, List.length_singleton]; omega
      have HX : Hid (PartTxt base w (SixV.val ⟨q0, q1, q2, y0, y1, y2, y3, r0, r1, r2⟩) T) := hx
      clear hx
      go_wp2_with (go_at_call 191; refine (HX.out _ (HO2.out.bl.alloc hbr _) u0 (bs ++ [40] ++ (Ts.take k).flatten) (HO2.out.buf.alloc _) (by simp; omega) hbd).mono ?_; rintro e w3 ⟨v3, rfl, hO3⟩; have HO3 : Hid (Out base w w3 v3 (bs ++ [40] ++ (Ts.take k).flatten ++ T)) := (HO2.out.alloc hbr _).trans hO3; clear hO3)
      go_roundw
      case rel => exact ⟨k + 1, by omega, by go_num, by rw [HS.out, ← List.append_assoc]; exact HO3.out⟩
      case measure => simp [intOf]; omega
    · have HT : Hid (Ts.take k = Ts) := List.take_of_length_le (by omega)
      have hl5 : (bs ++ [40] ++ (Ts.take k).flatten).length + 1 ≤ 1000000 := by rw [HT.out, List.length_append, List.length_append, List.length_singleton]; omega
      go_wp2_with (at_builtin; refine wpList_append_own_at _ rfl (.tmp 34) (.tmp 35) 73 rfl base 5 i0 (.int .u8 0) 1 1 Tryz.underlying73 hi0 hz0 hz1 hz2 rfl (by decide) u0 (bs ++ [40] ++ (Ts.take k).flatten).length ((bs ++ [40] ++ (Ts.take k).flatten).map bv) rfl (HO2.out.buf.alloc _) ⟨wr.heap.size, 0, none⟩ 1 1 [bv 41] rfl rfl (by intro j u hj; cases j with | zero => (simp at hj; subst hj; simp [Addr.add, go_sem]) | succ j => simp at hj) (bv_one [41]) (by unfold maxLen; omega) (by omega) (by simp; omega) ?_)
      intro v5 w5 hown5 hgr5 _ hob5
      have HO5 : Hid (Out base w w5 v5 (bs ++ [40] ++ (Ts.take k).flatten ++ [41])) := HO2.out.app hbr hgr5 (by simpa using hown5)
      clear hown5 hgr5 hob5
      go_wp2
      go_ret
      have := HO5.out
      rw [HT.out] at this
      exact ⟨_, rfl, this⟩
end Go.Proofs.YtbjabpodkaokjaaGreatDoor.Sx

namespace Go.Proofs.YtbjabpodkaokjaaGreatDoor.Sx
open Go.RowKit

/-- The chains' texts as the loop has told them so far. -/
def barJ : List (List UInt8) → List UInt8
  | [] => []
  | t :: ts => [40] ++ t ++ ts.flatMap fun t => [124] ++ t
theorem barJ_snoc (Ts : List (List UInt8)) (k : Nat) (h : k < Ts.length) : barJ (Ts.take (k + 1)) = barJ (Ts.take k) ++ (if k = 0 then [40] else [124]) ++ Ts[k] := by
  cases Ts with
  | nil => simp at h
  | cons t ts =>
    cases k with
    | zero => simp [barJ]
    | succ k =>
      have h' : k < ts.length := by simpa using h
      simp only [List.take_succ_cons, barJ, List.getElem_cons_succ]
      rw [List.take_succ_eq_append_getElem h', List.flatMap_append]
      simp
theorem barJ_len (Ts : List (List UInt8)) : (barJ Ts).length = Ts.flatten.length + Ts.length := by
  cases Ts with
  | nil => rfl
  | cons t ts =>
    have : ∀ l : List (List UInt8), (l.flatMap fun t => [124] ++ t).length = l.flatten.length + l.length := by
      intro l
      induction l with
      | nil => rfl
      | cons a l ih => rw [List.flatMap_cons, List.length_append, ih, List.flatten_cons, List.length_append, List.length_append]; simp; omega
    simp only [barJ, List.length_append, this, List.flatten_cons, List.length_cons]; simp; omega
theorem barJ_take_le (Ts : List (List UInt8)) (k : Nat) (h : k < Ts.length) : (barJ (Ts.take k)).length + 1 + (Ts[k]).length ≤ Ts.flatten.length + Ts.length := by
  rw [barJ_len]
  have := flatten_take_le Ts k h
  have h2 : (Ts.take k).length = k := by simp; omega
  omega

abbrev ChainTxt (base : Nat) (w : World) (val : Value) (T : List UInt8) : Prop :=
  ∀ w' : World, Below base w w' → ∀ (v : Value) (bs : List UInt8), Buf w' base v bs → base ≤ w'.heap.size → bs.length + T.length ≤ 850000 → Calls Tryz.prog 160 #[v, val] w' fun e w'' => ∃ v', e = .returned v' ∧ Out base w' w'' v' (bs ++ T)

set_option maxHeartbeats 1000000 in
theorem appendChoices_1 (w : World) (base : Nat) (v : Value) (bs : List UInt8) (g c : Nat) (a : Option Addr) (n1 c1 : Nat) (T : List UInt8) (hrow : RowIn w (fun g => g < base) 225 1 (.slice (some ⟨g, 0, none⟩) 1 c) 1 [.slice a n1 c1]) (hP : ChainTxt base w (.slice a n1 c1) T) (hB : Buf w base v bs) (hb : base ≤ w.heap.size) (hlen : bs.length + T.length ≤ 850000) :
    Calls Tryz.prog 98 #[v, .slice (some ⟨g, 0, none⟩) 1 c] w fun e w' => ∃ v', e = .returned v' ∧ Out base w w' v' (bs ++ T) := by
  have hx := hP w (Below.refl _ _) v bs hB hb hlen
  have HX : Hid (Calls Tryz.prog 160 #[v, .slice a n1 c1] w fun e w'' => ∃ v', e = .returned v' ∧ Out base w w'' v' (bs ++ T)) := hx
  clear hx hP hB
  have e0 := hrow.cell 0 (by omega)
  simp at e0
  clear hrow
  go_enter Tryz.func98, Tryz.ntmps98
  go_wp2_with (go_at_call 160; refine HX.out.mono ?_; rintro e w1 ⟨v1, rfl, hO1⟩; have HO1 : Hid _ := hO1; clear hO1)
  go_ret
  exact ⟨_, rfl, HO1.out⟩

set_option maxRecDepth 4000 in
set_option maxHeartbeats 2000000 in
theorem appendChoices_n (w : World) (base : Nat) (v : Value) (bs : List UInt8) (g c : Nat) (vs : List (Option Addr × Nat × Nat)) (Ts : List (List UInt8)) (hl : Ts.length = vs.length) (hn : 2 ≤ vs.length) (hmax : vs.length ≤ 1000)
    (hrow : RowIn w (fun g => g < base) 225 1 (.slice (some ⟨g, 0, none⟩) vs.length c) vs.length (vs.map fun x => Value.slice x.1 x.2.1 x.2.2))
    (hP : ∀ (k : Nat) (h1 : k < vs.length) (h2 : k < Ts.length), ChainTxt base w (.slice vs[k].1 vs[k].2.1 vs[k].2.2) Ts[k]) (hB : Buf w base v bs) (hb : base ≤ w.heap.size) (hlen : bs.length + Ts.flatten.length + Ts.length + 1 ≤ 850000) :
    Calls Tryz.prog 98 #[v, .slice (some ⟨g, 0, none⟩) vs.length c] w fun e w' => ∃ v', e = .returned v' ∧ Out base w w' v' (bs ++ barJ Ts ++ [41]) := by
  obtain ⟨i0, hi0, hz0, hz1, hz2⟩ := info_parts Tryz.infoU8
  have HO : Hid (Out base w w v bs) := Out.start hB
  have HR : Hid (RowIn w (fun g => g < base) 225 1 (.slice (some ⟨g, 0, none⟩) vs.length c) vs.length (vs.map fun x => Value.slice x.1 x.2.1 x.2.2)) := hrow
  have HP : Hid (∀ (k : Nat) (h1 : k < vs.length) (h2 : k < Ts.length), ChainTxt base w (.slice vs[k].1 vs[k].2.1 vs[k].2.2) Ts[k]) := hP
  clear hB hrow hP
  have m1 : ((vs.length : Int) == 1) = false := beq_eq_false_iff_ne.2 (by omega)
  go_enter Tryz.func98, Tryz.ntmps98
  go_wp2
  go_loopw [0, 17] (fun vv i wr => ∃ k : Nat, k ≤ vs.length ∧ i = .int .i64 k ∧ Out base w wr vv (bs ++ barJ (Ts.take k))) (fun _ i _ => vs.length - (intOf i).toNat)
  case atStart => exact ⟨0, Nat.zero_le _, rfl, by simpa [barJ] using HO.out⟩
  case round =>
    obtain ⟨k, hk, rfl, hO⟩ := hrel
    have hbr : base ≤ wr.heap.size := hO.sz hb
    have HO2 : Hid (Out base w wr u0 (bs ++ barJ (Ts.take k))) := hO
    clear hO
    by_cases hlt : k < vs.length
    · have hlt2 : k < Ts.length := by omega
      have hrow := HR.out.of_heap (w' := wr) (S' := fun g => g < base) (fun j hj hl => ⟨hj, HO2.out.bl.block j hj⟩)
      have e0 := hrow.cell k (by omega)
      rw [List.getElem?_map, List.getElem?_eq_getElem hlt, Option.map_some] at e0
      have hx := HP.out k hlt hlt2
      have htl := barJ_take_le Ts k hlt2
      have HS : Hid (barJ (Ts.take (k + 1)) = barJ (Ts.take k) ++ (if k = 0 then [40] else [124]) ++ Ts[k]) := barJ_snoc Ts k hlt2
      obtain ⟨T, hT⟩ : ∃ T, T = Ts[k] := ⟨_, rfl⟩
      rw [← hT] at hx htl HS
      obtain ⟨s, hs⟩ : ∃ s, s = vs[k] := ⟨_, rfl⟩
      rw [← hs] at hx e0
      clear hT hs hrow
      obtain ⟨q0, q1, q2⟩ := s
      simp only at e0 hx
      have HX : Hid (ChainTxt base w (.slice q0 q1 q2) T) := hx
      clear hx
      obtain ⟨B, hB⟩ : ∃ B, B = bs ++ barJ (Ts.take k) := ⟨_, rfl⟩
      have hBl : B.length + 1 + T.length ≤ 850000 := by rw [hB, List.length_append]; omega
      rw [← hB] at HO2
      have HBq : Hid (B = bs ++ barJ (Ts.take k)) := hB
      clear hB
      by_cases k0 : k = 0
      · have kz : ((k : Int) == 0) = true := by rw [k0]; rfl
        have HS2 : Hid (bs ++ barJ (Ts.take (k + 1)) = B ++ [40] ++ T) := by
          show _ = _
          rw [HS.out, HBq.out, if_pos k0]; simp
        clear HS HBq k0
        go_wp2_with (at_builtin; refine wpList_append_own_at _ rfl (.tmp 24) (.tmp 25) 73 rfl base 5 i0 (.int .u8 0) 1 1 Tryz.underlying73 hi0 hz0 hz1 hz2 rfl (by decide) u0 (B).length ((B).map bv) rfl (HO2.out.buf.alloc _) ⟨wr.heap.size, 0, none⟩ 1 1 [bv 40] rfl rfl (by intro j u hj; cases j with | zero => (simp at hj; subst hj; simp [Addr.add, go_sem]) | succ j => simp at hj) (bv_one [40]) (by unfold maxLen; omega) (by omega) (by simp; omega) ?_)
        intro v3 w3 hown3 hgr3 _ hob3
        have HO3 : Hid (Out base w w3 v3 (B ++ [40])) := HO2.out.app hbr hgr3 hown3
        have hb3 : base ≤ w3.heap.size := HO3.out.sz hb
        clear hown3 hgr3 hob3
        go_wp2_with (go_at_call 160; refine (HX.out w3 HO3.out.bl v3 (B ++ [40]) HO3.out.buf hb3 (by rw [List.length_append, List.length_singleton]; omega)).mono ?_; rintro e w4 ⟨v4, rfl, hO4⟩; have HO4 : Hid (Out base w w4 v4 (B ++ [40] ++ T)) := HO3.out.trans hO4; clear hO4)
        go_roundw
        case rel => exact ⟨k + 1, by omega, by go_num, by rw [HS2.out]; exact HO4.out⟩
        case measure => simp [intOf]; omega
      · have kz : ((k : Int) == 0) = false := beq_eq_false_iff_ne.2 (by omega)
        have HS2 : Hid (bs ++ barJ (Ts.take (k + 1)) = B ++ [124] ++ T) := by
          show _ = _
          rw [HS.out, HBq.out, if_neg k0]; simp
        clear HS HBq k0
        go_wp2_with (at_builtin; refine wpList_append_own_at _ rfl (.tmp 27) (.tmp 28) 73 rfl base 5 i0 (.int .u8 0) 1 1 Tryz.underlying73 hi0 hz0 hz1 hz2 rfl (by decide) u0 (B).length ((B).map bv) rfl (HO2.out.buf.alloc _) ⟨wr.heap.size, 0, none⟩ 1 1 [bv 124] rfl rfl (by intro j u hj; cases j with | zero => (simp at hj; subst hj; simp [Addr.add, go_sem]) | succ j => simp at hj) (bv_one [124]) (by unfold maxLen; omega) (by omega) (by simp; omega) ?_)
        intro v3 w3 hown3 hgr3 _ hob3
        have HO3 : Hid (Out base w w3 v3 (B ++ [124])) := HO2.out.app hbr hgr3 hown3
        have hb3 : base ≤ w3.heap.size := HO3.out.sz hb
        clear hown3 hgr3 hob3
        go_wp2_with (go_at_call 160; refine (HX.out w3 HO3.out.bl v3 (B ++ [124]) HO3.out.buf hb3 (by rw [List.length_append, List.length_singleton]; omega)).mono ?_; rintro e w4 ⟨v4, rfl, hO4⟩; have HO4 : Hid (Out base w w4 v4 (B ++ [124] ++ T)) := HO3.out.trans hO4; clear hO4)
        go_roundw
        case rel => exact ⟨k + 1, by omega, by go_num, by rw [HS2.out]; exact HO4.out⟩
        case measure => simp [intOf]; omega
    · have HT : Hid (Ts.take k = Ts) := List.take_of_length_le (by omega)
      obtain ⟨B, hB⟩ : ∃ B, B = bs ++ barJ (Ts.take k) := ⟨_, rfl⟩
      have hBl : B.length + 1 ≤ 1000000 := by rw [hB, HT.out, List.length_append, barJ_len]; omega
      rw [← hB] at HO2
      have HBq : Hid (B = bs ++ barJ Ts) := by show _ = _; rw [hB, HT.out]
      clear hB HT
      go_wp2_with (at_builtin; refine wpList_append_own_at _ rfl (.tmp 34) (.tmp 35) 73 rfl base 5 i0 (.int .u8 0) 1 1 Tryz.underlying73 hi0 hz0 hz1 hz2 rfl (by decide) u0 (B).length ((B).map bv) rfl (HO2.out.buf.alloc _) ⟨wr.heap.size, 0, none⟩ 1 1 [bv 41] rfl rfl (by intro j u hj; cases j with | zero => (simp at hj; subst hj; simp [Addr.add, go_sem]) | succ j => simp at hj) (bv_one [41]) (by unfold maxLen; omega) (by omega) (by simp; omega) ?_)
      intro v5 w5 hown5 hgr5 _ hob5
      have HO5 : Hid (Out base w w5 v5 (B ++ [41])) := HO2.out.app hbr hgr5 hown5
      clear hown5 hgr5 hob5
      go_wp2
      go_ret
      have := HO5.out
      rw [HBq.out] at this
      exact ⟨_, rfl, this⟩
end Go.Proofs.YtbjabpodkaokjaaGreatDoor.Sx

namespace Go.Proofs.YtbjabpodkaokjaaGreatDoor.Sx
open Go.RowKit

mutual
/-- A tree whose text can be told. -/
def OkP : Prt → Prop
  | .mk g _ cs => OkVs g ∧ (∀ c ∈ cs, okCnt c) ∧ cs.length ≤ 200 ∧ g.length ≤ 200
def OkPs : List Prt → Prop
  | [] => True
  | p :: ps => OkP p ∧ OkPs ps
def OkVs : List (List Prt) → Prop
  | [] => True
  | c :: cs => (OkPs c ∧ c.length ≤ 200) ∧ OkVs cs
end

theorem tPs_flat (ps : List Prt) : tPs ps = (ps.map tP).flatten := by
  induction ps with
  | nil => simp [tPs]
  | cons p ps ih => simp [tPs, ih]
theorem tBar_eq (cs : List (List Prt)) : tBar cs = (cs.map tC).flatMap fun t => [124] ++ t := by
  induction cs with
  | nil => simp [tBar]
  | cons p ps ih => simp [tBar, ih]
theorem tC_many (ps : List Prt) (h : 2 ≤ ps.length) : tC ps = [40] ++ (ps.map tP).flatten ++ [41] := by
  match ps, h with
  | p :: q :: ps, _ => simp [tC, tPs_flat]
theorem tCs_many (cs : List (List Prt)) (h : 2 ≤ cs.length) : tCs cs = barJ (cs.map tC) ++ [41] := by
  match cs, h with
  | p :: q :: cs, _ => simp [tCs, tBar_eq, barJ]

theorem six_of {w : World} {S : Nat → Prop} {p : Prt} {cells : List Value} (h : RepP w S p cells) : ∃ s : SixV, cells = s.cells := by
  obtain ⟨g, B, cs⟩ := p
  simp only [RepP] at h
  obtain ⟨gv, x0, x1, x2, x3, cv, rfl, ⟨vs, hr, _⟩, _, hc⟩ := h
  have hg : ∃ a n c, gv = .slice a n c := by
    obtain ⟨_, hr⟩ := hr
    rcases hr with ⟨rfl, _⟩ | ⟨g, cap, cur, rfl, _⟩
    · exact ⟨_, _, _, rfl⟩
    · exact ⟨_, _, _, rfl⟩
  have hv : ∃ a n c, cv = .slice a n c := by
    obtain ⟨_, hr⟩ := hc
    rcases hr with ⟨rfl, _⟩ | ⟨g, cap, cur, rfl, _⟩
    · exact ⟨_, _, _, rfl⟩
    · exact ⟨_, _, _, rfl⟩
  obtain ⟨a, n, c, rfl⟩ := hg
  obtain ⟨a', n', c', rfl⟩ := hv
  exact ⟨⟨a, n, c, x0, x1, x2, x3, a', n', c'⟩, rfl⟩

/-- Parts' cells, as numbers and slices, one for each part. -/
theorem six_list {w : World} {S : Nat → Prop} : ∀ (ps : List Prt) (css : List (List Value)), RepPs w S ps css → ∃ vs : List SixV, css = vs.map SixV.cells ∧ vs.length = ps.length ∧ ∀ (k : Nat) (h1 : k < vs.length) (h2 : k < ps.length), RepP w S ps[k] vs[k].cells
  | [], css, h => by
    simp only [RepPs] at h; subst h
    exact ⟨[], rfl, rfl, fun k h1 => by simp at h1⟩
  | p :: ps, css, h => by
    simp only [RepPs] at h
    obtain ⟨c, cs', rfl, h1, h2⟩ := h
    obtain ⟨s, rfl⟩ := six_of h1
    obtain ⟨vs, rfl, hl, hv⟩ := six_list ps cs' h2
    refine ⟨s :: vs, rfl, by simp [hl], fun k k1 k2 => ?_⟩
    cases k with
    | zero => exact h1
    | succ k => exact hv k (by simpa using k1) (by simpa using k2)
theorem slice_list {w : World} {S : Nat → Prop} : ∀ (cs : List (List Prt)) (vs : List Value), RepVs w S cs vs → ∃ xs : List (Option Addr × Nat × Nat), vs = xs.map (fun x => Value.slice x.1 x.2.1 x.2.2) ∧ xs.length = cs.length ∧ ∀ (k : Nat) (h1 : k < xs.length) (h2 : k < cs.length), RepC w S cs[k] (.slice xs[k].1 xs[k].2.1 xs[k].2.2)
  | [], vs, h => by
    simp only [RepVs] at h; subst h
    exact ⟨[], rfl, rfl, fun k h1 => by simp at h1⟩
  | c :: cs, vs, h => by
    simp only [RepVs] at h
    obtain ⟨v, vs', rfl, h1, h2⟩ := h
    have hc : RepC w S c v := h1
    have hf : ∃ a n q, v = .slice a n q := by
      obtain ⟨css, ⟨_, hr⟩, _⟩ := h1
      rcases hr with ⟨rfl, _⟩ | ⟨g, cap, cur, rfl, _⟩
      · exact ⟨_, _, _, rfl⟩
      · exact ⟨_, _, _, rfl⟩
    obtain ⟨a, n, q, rfl⟩ := hf
    obtain ⟨xs, rfl, hl, hv⟩ := slice_list cs vs' h2
    refine ⟨(a, n, q) :: xs, rfl, by simp [hl], fun k k1 k2 => ?_⟩
    cases k with
    | zero => exact hc
    | succ k => exact hv k (by simpa using k1) (by simpa using k2)

/-- A chain's text, if each part's is told. -/
theorem chainTxt_of (base : Nat) (w : World) (ps : List Prt) (v2 : Value) (hR : RepC w (fun g => g < base) ps v2) (hlen : ps.length ≤ 200)
    (hP : ∀ (k : Nat) (h2 : k < ps.length) (s : SixV), RepP w (fun g => g < base) ps[k] s.cells → PartTxt base w s.val (tP ps[k])) : ChainTxt base w v2 (tC ps) := by
  intro w' hbl v bs hB hb hl
  obtain ⟨css, hrow, hps⟩ := hR
  obtain ⟨vs, rfl, hvl, hv⟩ := six_list ps css hps
  have hrow' := hrow.of_heap (w' := w') (S' := fun g => g < base) (fun j hj _ => ⟨hj, hbl.block j hj⟩)
  have hP' : ∀ (k : Nat) (h1 : k < vs.length) (h2 : k < ps.length), PartTxt base w' vs[k].val (tP ps[k]) := fun k h1 h2 w'' hb' => hP k h2 _ (hv k h1 h2) w'' (hbl.trans hb')
  rw [← hvl] at hrow'
  match hm : vs, hvl, hrow', hP' with
  | [], hvl, hrow', hP' =>
    have : ps = [] := List.eq_nil_of_length_eq_zero (by simpa using hvl.symm)
    subst this
    obtain ⟨a, c, rfl⟩ := hrow'.nilForm
    simp only [tC] at hl ⊢
    exact appendChain_0 w' base v bs a c hB hb (by simpa using hl)
  | [s], hvl, hrow', hP' =>
    obtain ⟨g, cap, rfl, _⟩ := hrow'.form (by simp)
    match ps, hvl, hP', hl with
    | [p], _, hP', hl =>
      simp only [tC] at hl ⊢
      exact appendChain_1 w' base v bs g cap s (tP p) hrow' (hP' 0 (by simp) (by simp)) hB hb hl
  | s :: t :: us, hvl, hrow', hP' =>
    obtain ⟨g, cap, rfl, _⟩ := hrow'.form (by simp)
    have h2 : 2 ≤ ps.length := by rw [← hvl]; simp
    rw [tC_many ps h2] at hl ⊢
    have := appendChain_n w' base v bs g cap (s :: t :: us) (ps.map tP) (by simpa using hvl.symm) (by simp) (by omega) hrow' (fun k h1 h2' => by
      have h3 : k < ps.length := by simpa using h2'
      have := hP' k h1 h3
      simpa using this) hB hb (by simp at hl ⊢; omega)
    simpa [List.append_assoc] using this
end Go.Proofs.YtbjabpodkaokjaaGreatDoor.Sx

namespace Go.Proofs.YtbjabpodkaokjaaGreatDoor.Sx
open Go.RowKit

abbrev ChoicesTxt (base : Nat) (w : World) (val : Value) (T : List UInt8) : Prop :=
  ∀ w' : World, Below base w w' → ∀ (v : Value) (bs : List UInt8), Buf w' base v bs → base ≤ w'.heap.size → bs.length + T.length ≤ 850000 → Calls Tryz.prog 98 #[v, val] w' fun e w'' => ∃ v', e = .returned v' ∧ Out base w' w'' v' (bs ++ T)

/-- The text of choices, if each chain's is told. -/
theorem choicesTxt_of (base : Nat) (w : World) (cs : List (List Prt)) (v2 : Value) (hne : cs ≠ []) (hR : RepCs w (fun g => g < base) cs v2) (hlen : cs.length ≤ 300)
    (hP : ∀ (k : Nat) (h2 : k < cs.length) (x : Value), RepC w (fun g => g < base) cs[k] x → ChainTxt base w x (tC cs[k])) : ChoicesTxt base w v2 (tCs cs) := by
  intro w' hbl v bs hB hb hl
  obtain ⟨vs, hrow, hps⟩ := hR
  obtain ⟨xs, rfl, hvl, hv⟩ := slice_list cs vs hps
  have hrow' := hrow.of_heap (w' := w') (S' := fun g => g < base) (fun j hj _ => ⟨hj, hbl.block j hj⟩)
  have hP' : ∀ (k : Nat) (h1 : k < xs.length) (h2 : k < cs.length), ChainTxt base w' (.slice xs[k].1 xs[k].2.1 xs[k].2.2) (tC cs[k]) := fun k h1 h2 w'' hb' => hP k h2 _ (hv k h1 h2) w'' (hbl.trans hb')
  rw [← hvl] at hrow'
  match hm : xs, hvl, hrow', hP' with
  | [], hvl, hrow', hP' =>
    exact absurd (List.eq_nil_of_length_eq_zero (by simpa using hvl.symm)) hne
  | [s], hvl, hrow', hP' =>
    obtain ⟨g, cap, rfl, _⟩ := hrow'.form (by simp)
    match cs, hvl, hP', hl with
    | [p], _, hP', hl =>
      simp only [tCs] at hl ⊢
      exact appendChoices_1 w' base v bs g cap s.1 s.2.1 s.2.2 (tC p) hrow' (hP' 0 (by simp) (by simp)) hB hb hl
  | s :: t :: us, hvl, hrow', hP' =>
    obtain ⟨g, cap, rfl, _⟩ := hrow'.form (by simp)
    have h2 : 2 ≤ cs.length := by rw [← hvl]; simp
    rw [tCs_many cs h2] at hl ⊢
    rw [List.length_append, barJ_len] at hl
    have := appendChoices_n w' base v bs g cap (s :: t :: us) (cs.map tC) (by simpa using hvl.symm) (by simp) (by omega) hrow' (fun k h1 h2' => by
      have h3 : k < cs.length := by simpa using h2'
      have := hP' k h1 h3
      simpa using this) hB hb (by simp only [List.length_singleton] at hl; omega)
    simpa [List.append_assoc] using this

theorem OkPs_at : ∀ (ps : List Prt), OkPs ps → ∀ (k : Nat) (h : k < ps.length), OkP ps[k]
  | [], _, k, h => by simp at h
  | p :: ps, hp, k, h => by
    simp only [OkPs] at hp
    cases k with
    | zero => exact hp.1
    | succ k => exact OkPs_at ps hp.2 k (by simpa using h)

/-- A part's text, if its group's is told. -/
theorem partTxt_of (base : Nat) (w : World) (g : List (List Prt)) (B : Nat → Bool) (cs : List Cnt) (s : SixV) (hR : RepP w (fun g => g < base) (.mk g B cs) s.cells) (hok : ∀ c ∈ cs, okCnt c) (hl : cs.length ≤ 200)
    (hG : g ≠ [] → ∀ x, RepCs w (fun g => g < base) g x → ChoicesTxt base w x (tCs g)) : PartTxt base w s.val (tP (.mk g B cs)) := by
  intro w' hbl v bs hB hb hlen
  obtain ⟨q0, q1, q2, y0, y1, y2, y3, r0, r1, r2⟩ := s
  simp only [RepP] at hR
  obtain ⟨gv, x0, x1, x2, x3, cv, he, hgr, hw, hc⟩ := hR
  simp only [SixV.cells, List.cons.injEq, and_true, Value.int.injEq, true_and] at he
  obtain ⟨rfl, e0, e1, e2, e3, rfl⟩ := he
  obtain rfl : y0 = x0 := by omega
  obtain rfl : y1 = x1 := by omega
  obtain rfl : y2 = x2 := by omega
  obtain rfl : y3 = x3 := by omega
  have hc' := hc.of_heap (w' := w') (S' := fun g => g < base) (fun j hj _ => ⟨hj, hbl.block j hj⟩)
  have hfl := flat_len cs
  cases g with
  | nil =>
    obtain ⟨vs, hr, _⟩ := hgr
    obtain ⟨a, c, e⟩ := RowIn.nilForm hr
    injection e with e1 e2 e3
    subst e1 e2 e3
    simp only [tP] at hlen ⊢
    rw [← List.append_assoc]
    rw [List.length_append] at hlen
    exact appendPart_b w' base v bs y0 y1 y2 y3 r0 r1 r2 cs hok hc' q0 q2 B hw hB hb (by omega)
  | cons c0 g =>
    have hcs : RepCs w (fun g => g < base) (c0 :: g) (.slice q0 q1 q2) := hgr
    obtain ⟨vs, hr, _⟩ := hgr
    obtain ⟨ga, cap, e, _⟩ := hr.form (by simp)
    injection e with e1 e2 e3
    subst e1 e2 e3
    simp only [tP] at hlen ⊢
    rw [← List.append_assoc]
    rw [List.length_append] at hlen
    exact appendPart_g w' base v bs y0 y1 y2 y3 r0 r1 r2 cs hok hc' ⟨ga, 0, none⟩ _ _ (by simp) (tCs (c0 :: g)) (fun w'' hb' => hG (by simp) _ hcs w'' (hbl.trans hb')) (by omega) hB hb (by omega)

mutual
theorem partTxt (base : Nat) (w : World) : ∀ (p : Prt), OkP p → ∀ (s : SixV), RepP w (fun g => g < base) p s.cells → PartTxt base w s.val (tP p)
  | .mk g B cs, hok, s, hR => by
    simp only [OkP] at hok
    exact partTxt_of base w g B cs s hR hok.2.1 hok.2.2.1 (fun hne x hx => choicesTxt_of base w g x hne hx (Nat.le_trans hok.2.2.2 (by decide)) (vsTxt base w g hok.1))
theorem psTxt (base : Nat) (w : World) : ∀ (ps : List Prt), OkPs ps → ∀ (k : Nat) (h2 : k < ps.length) (s : SixV), RepP w (fun g => g < base) ps[k] s.cells → PartTxt base w s.val (tP ps[k])
  | [], _, k, h2, _, _ => by simp at h2
  | p :: ps, hok, 0, _, s, hR => by
    simp only [OkPs] at hok
    exact partTxt base w p hok.1 s hR
  | p :: ps, hok, k + 1, h2, s, hR => by
    simp only [OkPs] at hok
    exact psTxt base w ps hok.2 k (by simpa using h2) s hR
theorem vsTxt (base : Nat) (w : World) : ∀ (cs : List (List Prt)), OkVs cs → ∀ (k : Nat) (h2 : k < cs.length) (x : Value), RepC w (fun g => g < base) cs[k] x → ChainTxt base w x (tC cs[k])
  | [], _, k, h2, _, _ => by simp at h2
  | c :: cs, hok, 0, _, x, hR => by
    simp only [OkVs] at hok
    exact chainTxt_of base w c x hR hok.1.2 (psTxt base w c hok.1.1)
  | c :: cs, hok, k + 1, h2, x, hR => by
    simp only [OkVs] at hok
    exact vsTxt base w cs hok.2 k (by simpa using h2) x hR
end
theorem choicesTxt (base : Nat) (w : World) (cs : List (List Prt)) (hne : cs ≠ []) (hok : OkVs cs) (hl : cs.length ≤ 300) (x : Value) (hR : RepCs w (fun g => g < base) cs x) : ChoicesTxt base w x (tCs cs) :=
  choicesTxt_of base w cs x hne hR hl (vsTxt base w cs hok)
end Go.Proofs.YtbjabpodkaokjaaGreatDoor.Sx

namespace Go.Proofs.YtbjabpodkaokjaaGreatDoor.Sx
open Go.RowKit

theorem buf_nil (w : World) (base : Nat) : Buf w base (.slice none 0 0) [] := by
  exact ⟨rfl, Or.inl ⟨rfl, rfl⟩⟩
abbrev ptnObj (f b : Bool) (a : Option Addr) (n c : Nat) : Obj := .cells #[.bool f, .bool b, .slice a n c] 87
theorem ptn_cells {base : Nat} {w w' : World} {f b : Bool} {a : Option Addr} {n c g : Nat} {v : Value} {bs : List UInt8} (h : w.heap[g]? = some (ptnObj f b a n c)) (hO : Out base w w' v bs) :
    w'.heap[g]? = some (ptnObj f b a n c) := by
  have hlt : g < w.heap.size := by
    rcases Nat.lt_or_ge g w.heap.size with h1 | h1
    · exact h1
    · rw [Array.getElem?_eq_none h1] at h; simp at h
  rw [hO.kp.block g hlt (by intro cur; rw [h]; simp), h]
theorem underlyingStr : Tryz.prog.underlying 9 = some .string := by kernel_rfl
theorem underlyingByte : Tryz.prog.underlying 5 = some (.int .u8) := by kernel_rfl
theorem conv_buf {w : World} {base : Nat} {v : Value} {bs : List UInt8} (h : Buf w base v bs) : (convert 73 9 v).run Tryz.prog w = .ok (.string ⟨bs.toArray⟩) w := by
  obtain ⟨hl, hr⟩ := h
  rcases hr with ⟨rfl, hn⟩ | ⟨k, cap, cur, rfl, h1, hh, h2⟩
  · have : bs = [] := by
      have := hn
      simp at this
      exact List.length_eq_zero_iff.1 (by simpa using this)
    subst this
    exact Lib.run_convert_nil_bytes w _ _ _ 0 Tryz.underlying73 underlyingByte underlyingStr
  · refine run_convert_bytes_back w _ _ _ _ cap bs Tryz.underlying73 underlyingByte underlyingStr ?_
    refine Lib.bytes_of_row hh ?_
    have := h2.2.2.2
    rw [Nat.mul_one] at this
    rw [this]
    simp [Lib.byteCells]

set_option maxRecDepth 4000 in
set_option maxHeartbeats 1000000 in
theorem text_ff (w : World) (a : Option Addr) (n c : Nat) (T : List UInt8) (hX : ChoicesTxt w.heap.size w (.slice a n c) T) (hlen : T.length ≤ 849000) :
    Calls Tryz.prog 57 #[.agg #[.bool false, .bool false, .slice a n c]] w fun e w' => e = .returned (.string ⟨(T).toArray⟩) ∧ Below w.heap.size w w' := by
  obtain ⟨i0, hi0, hz0, hz1, hz2⟩ := info_parts Tryz.infoU8
  obtain ⟨base, hbase⟩ : ∃ b, b = w.heap.size := ⟨_, rfl⟩
  have hb : base ≤ w.heap.size := by omega
  have HX : Hid (ChoicesTxt base w (.slice a n c) T) := hbase ▸ hX
  have HB : Hid (base = w.heap.size) := hbase
  clear hX hbase
  have HO : Hid (Out base w (w.alloc (ptnObj false false a n c)) (.slice none 0 0) []) := (Out.start (buf_nil _ _)).alloc hb _
  have HC : Hid ((w.alloc (ptnObj false false a n c)).heap[w.heap.size]? = some (ptnObj false false a n c)) := heap_alloc_new _ _
  have hlT : T.length + 1 ≤ 850000 := by simp; omega
  go_enter Tryz.func57, Tryz.ntmps57
  have HO1 : Hid (Out base w (w.alloc (ptnObj false false a n c)) (.slice none 0 0) []) := HO.out
  have HC1 : Hid ((w.alloc (ptnObj false false a n c)).heap[w.heap.size]? = some (ptnObj false false a n c)) := HC.out
  have hb1 : base ≤ (w.alloc (ptnObj false false a n c)).heap.size := HO1.out.sz hb
  go_wp2_with (go_at_call 98; refine (HX.out _ HO1.out.bl _ [] HO1.out.buf hb1 (by simp; omega)).mono ?_; rintro e w3 ⟨v3, rfl, hO3⟩; have HO3 : Hid (Out base w w3 v3 T) := HO1.out.trans hO3; have hc := ptn_cells (g := w.heap.size) HC1.out hO3; have c1 : w3.cell? ⟨w.heap.size, 1, none⟩ = some (.bool false) := (by simp [World.cell?, hc]); clear hO3 hc; have hb3 : base ≤ w3.heap.size := HO3.out.sz hb; have hcv := conv_buf HO3.out.buf)
  go_ret
  exact ⟨by simp, HB.out ▸ HO3.out.bl⟩
set_option maxRecDepth 4000 in
set_option maxHeartbeats 1000000 in
theorem text_ft (w : World) (a : Option Addr) (n c : Nat) (T : List UInt8) (hX : ChoicesTxt w.heap.size w (.slice a n c) T) (hlen : T.length ≤ 849000) :
    Calls Tryz.prog 57 #[.agg #[.bool false, .bool true, .slice a n c]] w fun e w' => e = .returned (.string ⟨(T ++ [36]).toArray⟩) ∧ Below w.heap.size w w' := by
  obtain ⟨i0, hi0, hz0, hz1, hz2⟩ := info_parts Tryz.infoU8
  obtain ⟨base, hbase⟩ : ∃ b, b = w.heap.size := ⟨_, rfl⟩
  have hb : base ≤ w.heap.size := by omega
  have HX : Hid (ChoicesTxt base w (.slice a n c) T) := hbase ▸ hX
  have HB : Hid (base = w.heap.size) := hbase
  clear hX hbase
  have HO : Hid (Out base w (w.alloc (ptnObj false true a n c)) (.slice none 0 0) []) := (Out.start (buf_nil _ _)).alloc hb _
  have HC : Hid ((w.alloc (ptnObj false true a n c)).heap[w.heap.size]? = some (ptnObj false true a n c)) := heap_alloc_new _ _
  have hlT : T.length + 1 ≤ 850000 := by simp; omega
  go_enter Tryz.func57, Tryz.ntmps57
  have HO1 : Hid (Out base w (w.alloc (ptnObj false true a n c)) (.slice none 0 0) []) := HO.out
  have HC1 : Hid ((w.alloc (ptnObj false true a n c)).heap[w.heap.size]? = some (ptnObj false true a n c)) := HC.out
  have hb1 : base ≤ (w.alloc (ptnObj false true a n c)).heap.size := HO1.out.sz hb
  go_wp2_with (first | ((at_builtin; refine wpList_append_own_at _ rfl (.tmp 15) (.tmp 16) 73 rfl base 5 i0 (.int .u8 0) 1 1 Tryz.underlying73 hi0 hz0 hz1 hz2 rfl (by decide) v3 (T).length ((T).map bv) rfl (HO3.out.buf.alloc _) ⟨w3.heap.size, 0, none⟩ 1 1 [bv 36] rfl rfl (by intro j u hj; cases j with | zero => (simp at hj; subst hj; simp [Addr.add, go_sem]) | succ j => simp at hj) (bv_one [36]) (by unfold maxLen; omega) (by omega) (by simp; omega) ?_)) | (go_at_call 98; refine (HX.out _ HO1.out.bl _ [] HO1.out.buf hb1 (by simp; omega)).mono ?_; rintro e w3 ⟨v3, rfl, hO3⟩; have HO3 : Hid (Out base w w3 v3 T) := HO1.out.trans hO3; have hc := ptn_cells (g := w.heap.size) HC1.out hO3; have c1 : w3.cell? ⟨w.heap.size, 1, none⟩ = some (.bool true) := (by simp [World.cell?, hc]); clear hO3 hc; have hb3 : base ≤ w3.heap.size := HO3.out.sz hb))
  intro v5 w5 hown5 hgr5 _ hob5
  have HO5 : Hid (Out base w w5 v5 (T ++ [36])) := HO3.out.app hb3 hgr5 hown5
  have hcv := conv_buf HO5.out.buf
  clear hown5 hgr5 hob5
  go_wp2
  go_ret
  exact ⟨by simp, HB.out ▸ HO5.out.bl⟩
set_option maxRecDepth 4000 in
set_option maxHeartbeats 1000000 in
theorem text_tf (w : World) (a : Option Addr) (n c : Nat) (T : List UInt8) (hX : ChoicesTxt w.heap.size w (.slice a n c) T) (hlen : T.length ≤ 849000) :
    Calls Tryz.prog 57 #[.agg #[.bool true, .bool false, .slice a n c]] w fun e w' => e = .returned (.string ⟨([94] ++ T).toArray⟩) ∧ Below w.heap.size w w' := by
  obtain ⟨i0, hi0, hz0, hz1, hz2⟩ := info_parts Tryz.infoU8
  obtain ⟨base, hbase⟩ : ∃ b, b = w.heap.size := ⟨_, rfl⟩
  have hb : base ≤ w.heap.size := by omega
  have HX : Hid (ChoicesTxt base w (.slice a n c) T) := hbase ▸ hX
  have HB : Hid (base = w.heap.size) := hbase
  clear hX hbase
  have HO : Hid (Out base w (w.alloc (ptnObj true false a n c)) (.slice none 0 0) []) := (Out.start (buf_nil _ _)).alloc hb _
  have HC : Hid ((w.alloc (ptnObj true false a n c)).heap[w.heap.size]? = some (ptnObj true false a n c)) := heap_alloc_new _ _
  have hlT : ([94] ++ T).length + 1 ≤ 850000 := by simp; omega
  go_enter Tryz.func57, Tryz.ntmps57
  have hnil : ([] : List UInt8).length = 0 := List.length_nil
  go_wp2_with (at_builtin; refine wpList_append_own_at _ rfl (.tmp 6) (.tmp 7) 73 rfl base 5 i0 (.int .u8 0) 1 1 Tryz.underlying73 hi0 hz0 hz1 hz2 rfl (by decide) (Value.slice none 0 0) (([] : List UInt8)).length ((([] : List UInt8)).map bv) rfl (HO.out.buf.alloc _) ⟨w.heap.size + 1, 0, none⟩ 1 1 [bv 94] rfl rfl (by intro j u hj; cases j with | zero => (simp at hj; subst hj; simp [Addr.add, go_sem]) | succ j => simp at hj) (bv_one [94]) (by unfold maxLen; omega) (by omega) (by simp; omega) ?_)
  intro v1 w1 hown1 hgr1 _ hob1
  have hO0 : Out base (w.alloc (ptnObj true false a n c)) w1 v1 [94] := (Out.start (buf_nil _ base)).app (by simp; omega) hgr1 hown1
  have HO1 : Hid (Out base w w1 v1 [94]) := HO.out.trans hO0
  have hc := ptn_cells (g := w.heap.size) HC.out hO0
  have c2 : w1.cell? ⟨w.heap.size, 2, none⟩ = some (.slice a n c) := by simp [World.cell?, hc]
  have HC1 : Hid (w1.heap[w.heap.size]? = some (ptnObj true false a n c)) := hc
  have hb1 : base ≤ w1.heap.size := HO1.out.sz hb
  clear hown1 hgr1 hob1 hO0 hc hnil
  go_wp2_with (go_at_call 98; refine (HX.out _ HO1.out.bl _ [94] HO1.out.buf hb1 (by simp; omega)).mono ?_; rintro e w3 ⟨v3, rfl, hO3⟩; have HO3 : Hid (Out base w w3 v3 ([94] ++ T)) := HO1.out.trans hO3; have hc := ptn_cells (g := w.heap.size) HC1.out hO3; have c1 : w3.cell? ⟨w.heap.size, 1, none⟩ = some (.bool false) := (by simp [World.cell?, hc]); clear hO3 hc; have hb3 : base ≤ w3.heap.size := HO3.out.sz hb; have hcv := conv_buf HO3.out.buf)
  go_ret
  exact ⟨by simp, HB.out ▸ HO3.out.bl⟩
set_option maxRecDepth 4000 in
set_option maxHeartbeats 1000000 in
theorem text_tt (w : World) (a : Option Addr) (n c : Nat) (T : List UInt8) (hX : ChoicesTxt w.heap.size w (.slice a n c) T) (hlen : T.length ≤ 849000) :
    Calls Tryz.prog 57 #[.agg #[.bool true, .bool true, .slice a n c]] w fun e w' => e = .returned (.string ⟨([94] ++ T ++ [36]).toArray⟩) ∧ Below w.heap.size w w' := by
  obtain ⟨i0, hi0, hz0, hz1, hz2⟩ := info_parts Tryz.infoU8
  obtain ⟨base, hbase⟩ : ∃ b, b = w.heap.size := ⟨_, rfl⟩
  have hb : base ≤ w.heap.size := by omega
  have HX : Hid (ChoicesTxt base w (.slice a n c) T) := hbase ▸ hX
  have HB : Hid (base = w.heap.size) := hbase
  clear hX hbase
  have HO : Hid (Out base w (w.alloc (ptnObj true true a n c)) (.slice none 0 0) []) := (Out.start (buf_nil _ _)).alloc hb _
  have HC : Hid ((w.alloc (ptnObj true true a n c)).heap[w.heap.size]? = some (ptnObj true true a n c)) := heap_alloc_new _ _
  have hlT : ([94] ++ T).length + 1 ≤ 850000 := by simp; omega
  go_enter Tryz.func57, Tryz.ntmps57
  have hnil : ([] : List UInt8).length = 0 := List.length_nil
  go_wp2_with (at_builtin; refine wpList_append_own_at _ rfl (.tmp 6) (.tmp 7) 73 rfl base 5 i0 (.int .u8 0) 1 1 Tryz.underlying73 hi0 hz0 hz1 hz2 rfl (by decide) (Value.slice none 0 0) (([] : List UInt8)).length ((([] : List UInt8)).map bv) rfl (HO.out.buf.alloc _) ⟨w.heap.size + 1, 0, none⟩ 1 1 [bv 94] rfl rfl (by intro j u hj; cases j with | zero => (simp at hj; subst hj; simp [Addr.add, go_sem]) | succ j => simp at hj) (bv_one [94]) (by unfold maxLen; omega) (by omega) (by simp; omega) ?_)
  intro v1 w1 hown1 hgr1 _ hob1
  have hO0 : Out base (w.alloc (ptnObj true true a n c)) w1 v1 [94] := (Out.start (buf_nil _ base)).app (by simp; omega) hgr1 hown1
  have HO1 : Hid (Out base w w1 v1 [94]) := HO.out.trans hO0
  have hc := ptn_cells (g := w.heap.size) HC.out hO0
  have c2 : w1.cell? ⟨w.heap.size, 2, none⟩ = some (.slice a n c) := by simp [World.cell?, hc]
  have HC1 : Hid (w1.heap[w.heap.size]? = some (ptnObj true true a n c)) := hc
  have hb1 : base ≤ w1.heap.size := HO1.out.sz hb
  clear hown1 hgr1 hob1 hO0 hc hnil
  go_wp2_with (first | ((at_builtin; refine wpList_append_own_at _ rfl (.tmp 15) (.tmp 16) 73 rfl base 5 i0 (.int .u8 0) 1 1 Tryz.underlying73 hi0 hz0 hz1 hz2 rfl (by decide) v3 (([94] ++ T)).length ((([94] ++ T)).map bv) rfl (HO3.out.buf.alloc _) ⟨w3.heap.size, 0, none⟩ 1 1 [bv 36] rfl rfl (by intro j u hj; cases j with | zero => (simp at hj; subst hj; simp [Addr.add, go_sem]) | succ j => simp at hj) (bv_one [36]) (by unfold maxLen; omega) (by omega) (by simp; omega) ?_)) | (go_at_call 98; refine (HX.out _ HO1.out.bl _ [94] HO1.out.buf hb1 (by simp; omega)).mono ?_; rintro e w3 ⟨v3, rfl, hO3⟩; have HO3 : Hid (Out base w w3 v3 ([94] ++ T)) := HO1.out.trans hO3; have hc := ptn_cells (g := w.heap.size) HC1.out hO3; have c1 : w3.cell? ⟨w.heap.size, 1, none⟩ = some (.bool true) := (by simp [World.cell?, hc]); clear hO3 hc; have hb3 : base ≤ w3.heap.size := HO3.out.sz hb))
  intro v5 w5 hown5 hgr5 _ hob5
  have HO5 : Hid (Out base w w5 v5 (([94] ++ T) ++ [36])) := HO3.out.app hb3 hgr5 hown5
  have hcv := conv_buf HO5.out.buf
  clear hown5 hgr5 hob5
  go_wp2
  go_ret
  exact ⟨by simp, HB.out ▸ HO5.out.bl⟩

theorem text_any (w : World) (p : Ptn) (a : Option Addr) (n c : Nat) (hX : ChoicesTxt w.heap.size w (.slice a n c) (tCs p.choices)) (hlen : (tCs p.choices).length ≤ 849000) :
    Calls Tryz.prog 57 #[.agg #[.bool p.front, .bool p.back, .slice a n c]] w fun e w' => e = .returned (.string ⟨(tPtn p).toArray⟩) ∧ Below w.heap.size w w' := by
  obtain ⟨f, b, cs⟩ := p
  cases f <;> cases b
  · simpa [tPtn] using text_ff w a n c _ hX hlen
  · simpa [tPtn] using text_ft w a n c _ hX hlen
  · simpa [tPtn] using text_tf w a n c _ hX hlen
  · simpa [tPtn] using text_tt w a n c _ hX hlen
end Go.Proofs.YtbjabpodkaokjaaGreatDoor.Sx

namespace Go.Proofs.YtbjabpodkaokjaaGreatDoor.Sx

theorem tSpan_len (lo hi : Nat) : (tSpan lo hi).length ≤ 5 := by unfold tSpan; split <;> simp
theorem tLoop_len (S : Nat → Bool) (n : Nat) : ∀ low b, (tLoop S n low b).length ≤ 6 * n := by
  induction n with
  | zero => intro low b; simp [tLoop]
  | succ n ih =>
    intro low b
    unfold tLoop
    split
    · simp
    · split
      · have h1 := ih (spanE S 256 low + 1) true
        have h2 := tSpan_len low (spanE S 256 low)
        rw [List.length_append, List.length_append]
        have h3 : (if b = true then [(32 : UInt8)] else []).length ≤ 1 := by split <;> simp
        omega
      · have := ih (low + 1) b; omega
theorem tBytes_len (S : Nat → Bool) : (tBytes S).length ≤ 1544 := by
  unfold tBytes
  have := tLoop_len S 257 0 false
  rw [List.length_append, List.length_append]
  simp; omega
theorem beginsNum_le {v l : Int} (h : beginsNum v l = true) : v ≤ 30 := by
  unfold beginsNum at h
  split at h
  · simp at h
  · omega
theorem pDigits_bd {l v : Int} {b : Bool} {z : Int} {r r' : List UInt8} (hv : 0 ≤ v ∧ v ≤ 30) (h : pDigits l v b r = .ok z r') : 0 ≤ z ∧ z ≤ 30 := by
  induction r generalizing v b with
  | nil =>
    simp only [pDigits] at h; split at h
    · injection h with e _; subst e; exact hv
    · simp at h
  | cons c t ih =>
    simp only [pDigits] at h
    split at h
    · rename_i hc
      exact ih ⟨by omega, beginsNum_le hc.2.2.2⟩ h
    · split at h
      · injection h with e _; subst e; exact hv
      · simp at h
theorem pBounds_bd {a b : Int} {r r' : List UInt8} (h : pBounds r = .ok (a, b) r') : 0 ≤ a ∧ a ≤ 30 ∧ -1 ≤ b ∧ b ≤ 30 := by
  simp only [pBounds] at h
  split at h
  · simp at h
  · rename_i h1
    have := pDigits_bd ⟨by omega, by omega⟩ h1
    split at h
    · injection h with e _; injection e with e1 e2; omega
    · split at h
      · simp at h
      · rename_i h2
        have := pDigits_bd ⟨by omega, by omega⟩ h2
        split at h
        · injection h with e _; injection e with e1 e2; omega
        · simp at h
    · injection h with e _; injection e with e1 e2; omega
    · simp at h
theorem pCounts_txt {n : Nat} {cs : List Cnt} {r r' : List UInt8} (h : pCounts n r = .ok cs r') : (∀ c ∈ cs, okCnt c) ∧ cs.length + r'.length ≤ r.length ∧ (cs.flatMap tCount).length + 1600 * r'.length ≤ 1600 * r.length := by
  induction n generalizing r cs with
  | zero => simp [pCounts] at h
  | succ n ih =>
    simp only [pCounts] at h
    split at h
    · split at h
      · rename_i hc
        split at h
        · rename_i h1; injection h with e1 e; subst e; subst e1
          obtain ⟨i1, i2, i3⟩ := ih h1
          refine ⟨fun c hm => ?_, by simp; omega, ?_⟩
          · rcases List.mem_cons.1 hm with rfl | hm
            · left; rcases hc with rfl | rfl | rfl <;> decide
            · exact i1 c hm
          · rw [List.flatMap_cons, List.length_append]
            simp only [List.length_cons]
            refine Nat.le_trans (Nat.add_le_add_right (Nat.add_le_add_right (tCount_len _) _) _) ?_
            omega
        · simp at h
      · split at h
        · split at h
          · simp at h
          · rename_i h1
            have hl := pBounds_len h1
            have hb := pBounds_bd h1
            split at h
            · rename_i h2; injection h with e1 e; subst e; subst e1
              obtain ⟨i1, i2, i3⟩ := ih h2
              refine ⟨fun c hm => ?_, by simp; omega, ?_⟩
              · rcases List.mem_cons.1 hm with rfl | hm
                · right; exact hb
                · exact i1 c hm
              · rw [List.flatMap_cons, List.length_append]
                simp only [List.length_cons]
                refine Nat.le_trans (Nat.add_le_add_right (Nat.add_le_add_right (tCount_len _) _) _) ?_
                omega
            · simp at h
        · injection h with e1 e; subst e; subst e1; simp
    · injection h with e1 e; subst e; subst e1; simp

/-- The chains' texts with a sign for each. -/
def sumC : List (List Prt) → Nat
  | [] => 0
  | c :: cs => (tC c).length + 1 + sumC cs
theorem tBar_len (cs : List (List Prt)) : (tBar cs).length = sumC cs := by
  induction cs with
  | nil => simp [tBar, sumC]
  | cons c cs ih => simp [tBar, sumC, ih]; omega
theorem tCs_le (cs : List (List Prt)) : (tCs cs).length ≤ sumC cs + 2 := by
  match cs with
  | [] => simp [tCs]
  | [c] => simp [tCs, sumC]; omega
  | c :: d :: cs => simp [tCs, sumC, tBar_len]; omega
def sumP : List Prt → Nat
  | [] => 0
  | p :: ps => (tP p).length + sumP ps
theorem tPs_len (ps : List Prt) : (tPs ps).length = sumP ps := by
  induction ps with
  | nil => simp [tPs, sumP]
  | cons c cs ih => simp [tPs, sumP, ih]
theorem tC_le (ps : List Prt) : (tC ps).length ≤ sumP ps + 2 := by
  match ps with
  | [] => simp [tC]
  | [c] => simp [tC, sumP]
  | c :: d :: cs => simp [tC, sumP, tPs_len]; omega
def tG (g : List (List Prt)) (B : Nat → Bool) : List UInt8 := match g with | [] => tBytes B | c :: cs' => tCs (c :: cs')
theorem tP_flat (g : List (List Prt)) (B : Nat → Bool) (cs : List Cnt) : tP (.mk g B cs) = tG g B ++ cs.flatMap tCount := by
  cases g <;> simp [tP, tG]
theorem tG_nil (B : Nat → Bool) : (tG [] B).length ≤ 1544 := tBytes_len B
theorem tG_ne (g : List (List Prt)) (B : Nat → Bool) (h : g ≠ []) : tG g B = tCs g := by cases g <;> simp_all [tG]

theorem pTxt (n : Nat) :
    (∀ r cs r', r.length ≤ 200 → pChoices n r = .ok cs r' → OkVs cs ∧ cs.length + r'.length ≤ r.length + 1 ∧ sumC cs + 1600 * r'.length ≤ 1600 * r.length + 3) ∧
    (∀ r ps r', r.length ≤ 200 → pChain n r = .ok ps r' → OkPs ps ∧ ps.length + r'.length ≤ r.length ∧ sumP ps + 1600 * r'.length ≤ 1600 * r.length) ∧
    (∀ r p r', r.length ≤ 200 → pPart n r = .ok p r' → OkP p ∧ r'.length + 1 ≤ r.length ∧ (tP p).length + 1600 * r'.length ≤ 1600 * r.length) ∧
    (∀ r g B r', r.length ≤ 200 → pAtom n r = .ok (g, B) r' → OkVs g ∧ g.length ≤ 200 ∧ r'.length + 1 ≤ r.length ∧ (tG g B).length + 1600 * r'.length ≤ 1600 * r.length) := by
  induction n with
  | zero => exact ⟨fun r cs r' _ h => by simp [pChoices] at h, fun r cs r' _ h => by simp [pChain] at h, fun r cs r' _ h => by simp [pPart] at h, fun r g B r' _ h => by simp [pAtom] at h⟩
  | succ n ih =>
    obtain ⟨i1, i2, i3, i4⟩ := ih
    refine ⟨fun r cs r' hr h => ?_, fun r ps r' hr h => ?_, fun r p r' hr h => ?_, fun r g B r' hr h => ?_⟩
    · simp only [pChoices] at h
      split at h
      · simp at h
      · rename_i c r1 h1
        obtain ⟨a1, a2, a3⟩ := i2 _ _ _ hr h1
        have a4 := tC_le c
        split at h
        · split at h
          · rename_i h2
            injection h with e1 e2; subst e1; subst e2
            obtain ⟨b1, b2, b3⟩ := i1 _ _ _ (by simp at a2; omega) h2
            simp only [List.length_cons] at *
            refine ⟨?_, by omega, by simp only [sumC]; omega⟩
            simp only [OkVs]; exact ⟨⟨a1, by omega⟩, b1⟩
          · simp at h
        · injection h with e1 e2; subst e1; subst e2
          refine ⟨?_, by simp; omega, by simp only [sumC]; omega⟩
          simp only [OkVs]; exact ⟨⟨a1, by omega⟩, trivial⟩
    · simp only [pChain] at h
      split at h
      · split at h
        · simp at h
        · rename_i h1
          obtain ⟨a1, a2, a3⟩ := i3 _ _ _ hr h1
          split at h
          · rename_i h2
            injection h with e1 e2; subst e1; subst e2
            obtain ⟨b1, b2, b3⟩ := i2 _ _ _ (by omega) h2
            refine ⟨?_, by simp only [List.length_cons]; omega, by simp only [sumP]; omega⟩
            simp only [OkPs]; exact ⟨a1, b1⟩
          · simp at h
      · injection h with e1 e2; subst e1; subst e2; exact ⟨by simp [OkPs], by simp, by simp [sumP]⟩
    · simp only [pPart] at h
      split at h
      · simp at h
      · rename_i g S r1 h1
        obtain ⟨a1, a2, a3, a4⟩ := i4 _ _ _ _ hr h1
        split at h
        · rename_i h2
          injection h with e1 e2; subst e1; subst e2
          obtain ⟨b1, b2, b3⟩ := pCounts_txt h2
          refine ⟨?_, by omega, by rw [tP_flat, List.length_append]; omega⟩
          simp only [OkP]; exact ⟨a1, b1, by omega, a2⟩
        · simp at h
    · simp only [pAtom] at h
      match r, hr, h with
      | c :: t, hr, h =>
        simp only [List.length_cons] at hr
        simp only at h
        split at h
        · split at h
          · simp at h
          · rename_i cs1 r1 h1
            obtain ⟨a1, a2, a3⟩ := i1 _ _ _ (by omega) h1
            split at h
            · injection h with e1 e2; injection e1 with e1 _; subst e1; subst e2
              have := tCs_le cs1
              simp only [List.length_cons] at *
              refine ⟨a1, by omega, by omega, ?_⟩
              rw [tG_ne _ _ (pChoices_ne h1)]; omega
            · simp at h
        · split at h
          · split at h
            · rename_i h1; injection h with e1 e2; injection e1 with e1 _; subst e1; subst e2
              have := pClass_len h1; have := tG_nil B
              exact ⟨by simp [OkVs], by simp, by simp; omega, by simp only [List.length_cons]; omega⟩
            · simp at h
          · split at h
            · split at h
              · rename_i h1; injection h with e1 e2; injection e1 with e1 _; subst e1; subst e2
                have := pEscape_len h1; have := tG_nil B
                exact ⟨by simp [OkVs], by simp, by simp; omega, by simp only [List.length_cons]; omega⟩
              · simp at h
            · split at h
              · injection h with e1 e2; injection e1 with e1 _; subst e1; subst e2; have := tG_nil B
                exact ⟨by simp [OkVs], by simp, by simp, by simp only [List.length_cons]; omega⟩
              · injection h with e1 e2; injection e1 with e1 _; subst e1; subst e2; have := tG_nil B
                exact ⟨by simp [OkVs], by simp, by simp, by simp only [List.length_cons]; omega⟩
end Go.Proofs.YtbjabpodkaokjaaGreatDoor.Sx

namespace Go.Proofs.YtbjabpodkaokjaaGreatDoor.Sx
open Go.RowKit

theorem tkR_len (c : UInt8) (r : List UInt8) : (tkR c r).length ≤ r.length := by
  match r with
  | [] => exact Nat.le_refl _
  | a :: t => simp only [tkR]; split <;> simp
theorem readP_txt {l : List UInt8} {p : Ptn} (hl : l.length ≤ 200) (h : readP l = .ok p []) : p.choices ≠ [] ∧ OkVs p.choices ∧ p.choices.length ≤ 300 ∧ (tCs p.choices).length ≤ 849000 := by
  unfold readP at h
  have hk := tkR_len 94 l
  split at h
  · simp at h
  · rename_i cs r' h1
    obtain ⟨a1, a2, a3⟩ := (pTxt _).1 _ _ _ (by omega) h1
    have := tCs_le cs
    split at h
    · injection h with e _; subst e
      exact ⟨pChoices_ne h1, a1, by simp only; omega, by simp only; omega⟩
    · simp at h

/-- What Parse answers. -/
def ParseRes (s : ByteArray) (e : Ending) : Prop :=
  (200 < s.size ∧ e = .returned (.tuple #[.string ⟨#[]⟩, .int .i64 4, .int .i64 0])) ∨
  (s.size ≤ 200 ∧ (∃ r', readP s.data.toList = .bad r' ∧ e = .returned (.tuple #[.string ⟨#[]⟩, .int .i64 3, .int .i64 ((s.size - r'.length : Nat) : Int)]))) ∨
  (s.size ≤ 200 ∧ ∃ p, readP s.data.toList = .ok p [] ∧ 20 < nestCs p.choices ∧ e = .returned (.tuple #[.string ⟨#[]⟩, .int .i64 4, .int .i64 0])) ∨
  (s.size ≤ 200 ∧ ∃ p, readP s.data.toList = .ok p [] ∧ nestCs p.choices ≤ 20 ∧ e = .returned (.tuple #[.string ⟨(tPtn p).toArray⟩, .int .i64 0, .int .i64 0]))

set_option maxHeartbeats 1000000 in
theorem parse_bad (w : World) (s : ByteArray) (err pl : Int) (herr : (err == 0) = false) (hr : Calls Tryz.prog 40 #[.string s] w fun e w' => e = .returned (.tuple #[ptnV false false none 0 0, .int .i64 err, .int .i64 pl]) ∧ Below w.heap.size w w') :
    Calls Tryz.prog 25 #[.string s] w fun e w' => e = .returned (.tuple #[.string ⟨#[]⟩, .int .i64 err, .int .i64 pl]) ∧ Below w.heap.size w w' := by
  have HR : Hid (Calls Tryz.prog 40 #[.string s] w fun e w' => e = .returned (.tuple #[ptnV false false none 0 0, .int .i64 err, .int .i64 pl]) ∧ Below w.heap.size w w') := hr
  clear hr
  go_enter Tryz.func25, Tryz.ntmps25
  go_wp2_with (go_at_call 40; refine HR.out.mono ?_; rintro e w1 ⟨rfl, hb1⟩)
  refine bodyPost_ret (v := .tuple #[.string ⟨#[]⟩, .int .i64 err, .int .i64 pl]) ?_ rfl ⟨rfl, ?_⟩
  · simp [results, Tryz.results25, go_sem]
  · exact hb1.alloc hb1.size _

theorem text_at (w1 : World) (p : Ptn) (h1 : p.choices ≠ []) (h2 : OkVs p.choices) (h3 : p.choices.length ≤ 300) (h4 : (tCs p.choices).length ≤ 849000) (g0 : Option Addr) (n0 c0 b : Nat) (hq : RepCs w1 (From b w1) p.choices (.slice g0 n0 c0)) :
    Calls Tryz.prog 57 #[.agg #[.bool p.front, .bool p.back, .slice g0 n0 c0]] (w1.alloc (ptnObj p.front p.back g0 n0 c0)) fun e w' => e = .returned (.string ⟨(tPtn p).toArray⟩) ∧ Below (w1.alloc (ptnObj p.front p.back g0 n0 c0)).heap.size (w1.alloc (ptnObj p.front p.back g0 n0 c0)) w' := by
  refine text_any _ p g0 n0 c0 (choicesTxt _ _ _ h1 h2 h3 _ (hq.of_heap fun g hg hlt => ⟨?_, Below.heap_alloc _ _ _ hlt⟩)) h4
  simp; omega

set_option maxHeartbeats 1000000 in
theorem parse_ok (w : World) (s : ByteArray) (p : Ptn) (h1 : p.choices ≠ []) (h2 : OkVs p.choices) (h3 : p.choices.length ≤ 300) (h4 : (tCs p.choices).length ≤ 849000) (hr : Calls Tryz.prog 40 #[.string s] w fun e w' => (∃ g0 n0 c0, RepCs w' (From w.heap.size w') p.choices (.slice g0 n0 c0) ∧ e = .returned (.tuple #[ptnV p.front p.back g0 n0 c0, .int .i64 0, .int .i64 0])) ∧ Below w.heap.size w w') :
    Calls Tryz.prog 25 #[.string s] w fun e w' => e = .returned (.tuple #[.string ⟨(tPtn p).toArray⟩, .int .i64 0, .int .i64 0]) ∧ Below w.heap.size w w' := by
  have HR : Hid (Calls Tryz.prog 40 #[.string s] w fun e w' => (∃ g0 n0 c0, RepCs w' (From w.heap.size w') p.choices (.slice g0 n0 c0) ∧ e = .returned (.tuple #[ptnV p.front p.back g0 n0 c0, .int .i64 0, .int .i64 0])) ∧ Below w.heap.size w w') := hr
  clear hr
  go_enter Tryz.func25, Tryz.ntmps25
  go_wp2_with (first | (go_at_call 57; (refine Calls.mono HT.out ?_; rintro e w2 ⟨rfl, hb2⟩; have HB2 : Hid _ := hb2; clear hb2)) | (go_at_call 40; (refine HR.out.mono ?_; rintro e w1 ⟨⟨g0, n0, c0, hq, rfl⟩, hb1⟩; have HT : Hid _ := text_at w1 p h1 h2 h3 h4 g0 n0 c0 _ hq; clear hq)))
  refine bodyPost_ret (v := .tuple #[.string ⟨(tPtn p).toArray⟩, .int .i64 0, .int .i64 0]) ?_ rfl ⟨rfl, ?_⟩
  · simp [results, Tryz.results25, go_sem]
  · have hz := hb1.size
    exact (hb1.alloc hz _).trans (HB2.out.mono (by simp; omega))

theorem parse_any (w : World) (s : ByteArray) (hT : Tabs w) (hs : s.size ≤ maxLen) :
    Calls Tryz.prog 25 #[.string s] w fun e w' => ParseRes s e ∧ Below w.heap.size w w' := by
  have hr := read_any w s hT hs
  by_cases h2 : 200 < s.size
  · refine (parse_bad w s 4 0 rfl (hr.mono fun e w' g => ⟨?_, g.2⟩)).mono fun e w' g => ⟨.inl ⟨h2, g.1⟩, g.2⟩
    rcases g.1 with g | g | g | g
    · exact g.2
    all_goals exact absurd g.1 (by omega)
  · have h2' : s.size ≤ 200 := by omega
    have hl : s.data.toList.length ≤ 200 := by simp; exact h2'
    cases hR : readP s.data.toList with
    | bad r' =>
      refine (parse_bad w s 3 _ rfl (hr.mono fun e w' g => ⟨?_, g.2⟩)).mono fun e w' g => ⟨.inr (.inl ⟨h2', r', hR, g.1⟩), g.2⟩
      rcases g.1 with g | g | g | g
      · exact absurd g.1 h2
      · obtain ⟨_, r'', hq, he⟩ := g
        rw [hR] at hq; injection hq with e; subst e; exact he
      all_goals
        obtain ⟨_, p, hq, _⟩ := g
        rw [hR] at hq; simp at hq
    | ok p r' =>
      obtain rfl := readP_rest hR
      obtain ⟨t1, t2, t3, t4⟩ := readP_txt hl hR
      by_cases hx : 20 < nestCs p.choices
      · refine (parse_bad w s 4 0 rfl (hr.mono fun e w' g => ⟨?_, g.2⟩)).mono fun e w' g => ⟨.inr (.inr (.inl ⟨h2', p, hR, hx, g.1⟩)), g.2⟩
        rcases g.1 with g | g | g | g
        · exact absurd g.1 h2
        · obtain ⟨_, r'', hq, he⟩ := g
          rw [hR] at hq; simp at hq
        · obtain ⟨_, q, hq, _, he⟩ := g
          exact he
        · obtain ⟨_, q, hq, hn, _⟩ := g
          rw [hR] at hq; injection hq with e _; subst e; omega
      · refine (parse_ok w s p t1 t2 t3 t4 (hr.mono fun e w' g => ⟨?_, g.2⟩)).mono fun e w' g => ⟨.inr (.inr (.inr ⟨h2', p, hR, by omega, g.1⟩)), g.2⟩
        rcases g.1 with g | g | g | g
        · exact absurd g.1 h2
        · obtain ⟨_, r'', hq, he⟩ := g
          rw [hR] at hq; simp at hq
        · obtain ⟨_, q, hq, hn, _⟩ := g
          rw [hR] at hq; injection hq with e _; subst e; omega
        · obtain ⟨_, q, hq, hn, he⟩ := g
          rw [hR] at hq; injection hq with e _; subst e; exact he
end Go.Proofs.YtbjabpodkaokjaaGreatDoor.Sx
