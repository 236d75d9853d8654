import Derived.Test.YtbjabpodkaokjaaDoorJ25
set_option linter.unusedVariables false
set_option linter.unusedSimpArgs false
namespace Go.Proofs.YtbjabpodkaokjaaDoor
open Go.RowKit

/-- The six cells of a part as numbers and slices. -/
structure SixV where
  q0 : Option Addr
  q1 : Nat
  q2 : Nat
  y0 : Nat
  y1 : Nat
  y2 : Nat
  y3 : Nat
  r0 : Option Addr
  r1 : Nat
  r2 : Nat
def SixV.cells (s : SixV) : List Value := [.slice s.q0 s.q1 s.q2, .int .u64 s.y0, .int .u64 s.y1, .int .u64 s.y2, .int .u64 s.y3, .slice s.r0 s.r1 s.r2]
abbrev SixV.val (s : SixV) : Value := .agg #[.slice s.q0 s.q1 s.q2, .int .u64 s.y0, .int .u64 s.y1, .int .u64 s.y2, .int .u64 s.y3, .slice s.r0 s.r1 s.r2]
theorem six_at (vs : List SixV) (k : Nat) (hk : k < vs.length) : ∀ j, j < 6 → ((vs.map SixV.cells).flatten)[k * 6 + j]? = (vs[k].cells)[j]? := by
  induction vs generalizing k with
  | nil => simp at hk
  | cons c cs ih =>
    intro j hj
    cases k with
    | zero =>
      simp only [List.map_cons, List.flatten_cons, Nat.zero_mul, Nat.zero_add, List.getElem_cons_zero]
      rw [List.getElem?_append_left (by simp [SixV.cells]; omega)]
    | succ k =>
      have := ih k (by simpa using hk) j hj
      have e1 : (k + 1) * 6 + j = (k * 6 + j) + 6 := by omega
      simp only [e1, List.map_cons, List.flatten_cons, List.getElem_cons_succ]
      rw [List.getElem?_append_right (by simp [SixV.cells])]
      have e2 : k * 6 + j + 6 - c.cells.length = k * 6 + j := by simp [SixV.cells]
      rw [e2]; exact this

abbrev PartTxt (base : Nat) (w : World) (val : Value) (T : List UInt8) : Prop :=
  ∀ w' : World, Below base w w' → ∀ (v : Value) (bs : List UInt8), Buf w' base v bs → base ≤ w'.heap.size → bs.length + T.length ≤ 850000 → Calls Tryd.prog 33 #[v, val] w' fun e w'' => ∃ v', e = .returned v' ∧ Out base w' w'' v' (bs ++ T)

set_option maxHeartbeats 1000000 in
theorem appendChain_0 (w : World) (base : Nat) (v : Value) (bs : List UInt8) (a : Option Addr) (c : Nat) (hB : Buf w base v bs) (hb : base ≤ w.heap.size) (hlen : bs.length + 1 ≤ 850000) :
    Calls Tryd.prog 20 #[v, .slice a 0 c] w fun e w' => ∃ v', e = .returned v' ∧ Out base w w' v' (bs ++ [101]) := by
  obtain ⟨i0, hi0, hz0, hz1, hz2⟩ := info_parts Tryd.infoU8
  have HO : Hid (Out base w w v bs) := Out.start hB
  clear hB
  go_enter Tryd.func20, Tryd.ntmps20
  go_wp2_with (at_builtin; refine wpList_append_own_at _ rfl (.tmp 11) (.tmp 12) 42 rfl base 5 i0 (.int .u8 0) 1 1 Tryd.underlying42 hi0 hz0 hz1 hz2 rfl (by decide) v (bs).length ((bs).map bv) rfl (HO.out.buf.alloc _) ⟨w.heap.size, 0, none⟩ 1 1 [bv 101] rfl rfl (by intro j u hj; cases j with | zero => (simp at hj; subst hj; simp [Addr.add, go_sem]) | succ j => simp at hj) (bv_one [101]) (by unfold maxLen; omega) (by omega) (by simp; omega) ?_)
  intro v1 w1 hown1 hgr1 _ hob1
  have HO1 : Hid (Out base w w1 v1 (bs ++ [101])) := HO.out.app hb hgr1 hown1
  clear hown1 hgr1 hob1
  go_wp2
  go_ret
  exact ⟨_, rfl, HO1.out⟩

set_option maxHeartbeats 1000000 in
theorem appendChain_1 (w : World) (base : Nat) (v : Value) (bs : List UInt8) (g c : Nat) (s : SixV) (T : List UInt8) (hrow : RowIn w (fun g => g < base) 80 6 (.slice (some ⟨g, 0, none⟩) 1 c) 1 (([s].map SixV.cells).flatten)) (hP : PartTxt base w s.val T) (hB : Buf w base v bs) (hb : base ≤ w.heap.size) (hlen : bs.length + T.length ≤ 850000) :
    Calls Tryd.prog 20 #[v, .slice (some ⟨g, 0, none⟩) 1 c] w fun e w' => ∃ v', e = .returned v' ∧ Out base w w' v' (bs ++ T) := by
  have hx := hP w (Below.refl _ _) v bs hB hb hlen
  have HX : Hid (Calls Tryd.prog 33 #[v, s.val] w fun e w'' => ∃ v', e = .returned v' ∧ Out base w w'' v' (bs ++ T)) := hx
  clear hx hP hB
  have e0 := (hrow.cell 0 (by omega)).trans (six_at [s] 0 (by simp) 0 (by omega))
  have e1 := (hrow.cell 1 (by omega)).trans (six_at [s] 0 (by simp) 1 (by omega))
  have e2 := (hrow.cell 2 (by omega)).trans (six_at [s] 0 (by simp) 2 (by omega))
  have e3 := (hrow.cell 3 (by omega)).trans (six_at [s] 0 (by simp) 3 (by omega))
  have e4 := (hrow.cell 4 (by omega)).trans (six_at [s] 0 (by simp) 4 (by omega))
  have e5 := (hrow.cell 5 (by omega)).trans (six_at [s] 0 (by simp) 5 (by omega))
  obtain ⟨q0, q1, q2, y0, y1, y2, y3, r0, r1, r2⟩ := s
  simp [SixV.cells] at e0 e1 e2 e3 e4 e5
  clear hrow
  go_enter Tryd.func20, Tryd.ntmps20
  go_wp2_with (go_at_call 33; refine HX.out.mono ?_; rintro e w1 ⟨v1, rfl, hO1⟩; have HO1 : Hid _ := hO1; clear hO1)
  go_ret
  exact ⟨_, rfl, HO1.out⟩
end Go.Proofs.YtbjabpodkaokjaaDoor

namespace Go.Proofs.YtbjabpodkaokjaaDoor
open Go.RowKit

theorem flatten_take_le (Ts : List (List UInt8)) (k : Nat) (h : k < Ts.length) : ((Ts.take k).flatten).length + (Ts[k]).length ≤ (Ts.flatten).length := by
  induction Ts generalizing k with
  | nil => simp at h
  | cons t Ts ih =>
    cases k with
    | zero => simp
    | succ k =>
      have := ih k (by simpa using h)
      simp only [List.take_succ_cons, List.flatten_cons, List.length_append, List.getElem_cons_succ]; omega
theorem flatten_snoc (Ts : List (List UInt8)) (k : Nat) (h : k < Ts.length) : (Ts.take (k + 1)).flatten = (Ts.take k).flatten ++ Ts[k] := by
  rw [List.take_succ_eq_append_getElem h, List.flatten_append]; simp

set_option maxRecDepth 4000 in
set_option maxHeartbeats 2000000 in
theorem appendChain_n (w : World) (base : Nat) (v : Value) (bs : List UInt8) (g c : Nat) (vs : List SixV) (Ts : List (List UInt8)) (hl : Ts.length = vs.length) (hn : 2 ≤ vs.length) (hmax : vs.length ≤ 1000)
    (hrow : RowIn w (fun g => g < base) 80 6 (.slice (some ⟨g, 0, none⟩) vs.length c) vs.length ((vs.map SixV.cells).flatten))
    (hP : ∀ (k : Nat) (h1 : k < vs.length) (h2 : k < Ts.length), PartTxt base w vs[k].val Ts[k]) (hB : Buf w base v bs) (hb : base ≤ w.heap.size) (hlen : bs.length + Ts.flatten.length + 2 ≤ 850000) :
    Calls Tryd.prog 20 #[v, .slice (some ⟨g, 0, none⟩) vs.length c] w fun e w' => ∃ v', e = .returned v' ∧ Out base w w' v' (bs ++ [40] ++ Ts.flatten ++ [41]) := by
  obtain ⟨i0, hi0, hz0, hz1, hz2⟩ := info_parts Tryd.infoU8
  have HO : Hid (Out base w w v bs) := Out.start hB
  have HR : Hid (RowIn w (fun g => g < base) 80 6 (.slice (some ⟨g, 0, none⟩) vs.length c) vs.length ((vs.map SixV.cells).flatten)) := hrow
  have HP : Hid (∀ (k : Nat) (h1 : k < vs.length) (h2 : k < Ts.length), PartTxt base w vs[k].val Ts[k]) := hP
  clear hB hrow hP
  have m0 : ((vs.length : Int) == 0) = false := beq_eq_false_iff_ne.2 (by omega)
  have m1 : ((vs.length : Int) == 1) = false := beq_eq_false_iff_ne.2 (by omega)
  go_enter Tryd.func20, Tryd.ntmps20
  go_wp2_with (at_builtin; refine wpList_append_own_at _ rfl (.tmp 21) (.tmp 22) 42 rfl base 5 i0 (.int .u8 0) 1 1 Tryd.underlying42 hi0 hz0 hz1 hz2 rfl (by decide) v (bs).length ((bs).map bv) rfl (HO.out.buf.alloc _) ⟨w.heap.size, 0, none⟩ 1 1 [bv 40] rfl rfl (by intro j u hj; cases j with | zero => (simp at hj; subst hj; simp [Addr.add, go_sem]) | succ j => simp at hj) (bv_one [40]) (by unfold maxLen; omega) (by omega) (by simp; omega) ?_)
  intro v1 w1 hown1 hgr1 _ hob1
  have HO1 : Hid (Out base w w1 v1 (bs ++ [40])) := HO.out.app hb hgr1 hown1
  clear hown1 hgr1 hob1
  go_wp2
  go_loopw [0, 26] (fun vv i wr => ∃ k : Nat, k ≤ vs.length ∧ i = .int .i64 k ∧ Out base w wr vv (bs ++ [40] ++ (Ts.take k).flatten)) (fun _ i _ => vs.length - (intOf i).toNat)
  case atStart => exact ⟨0, Nat.zero_le _, rfl, by simpa using HO1.out⟩
  case round =>
    obtain ⟨k, hk, rfl, hO⟩ := hrel
    have hbr : base ≤ wr.heap.size := hO.sz hb
    have HO2 : Hid (Out base w wr u0 (bs ++ [40] ++ (Ts.take k).flatten)) := hO
    clear hO
    by_cases hlt : k < vs.length
    · have hlt2 : k < Ts.length := by omega
      have hrow := HR.out.of_heap (w' := wr) (S' := fun g => g < base) (fun j hj hl => ⟨hj, HO2.out.bl.block j hj⟩)
      have e0 := (hrow.cell (k * 6 + 0) (by omega)).trans (six_at vs k hlt 0 (by omega))
      have e1 := (hrow.cell (k * 6 + 1) (by omega)).trans (six_at vs k hlt 1 (by omega))
      have e2 := (hrow.cell (k * 6 + 2) (by omega)).trans (six_at vs k hlt 2 (by omega))
      have e3 := (hrow.cell (k * 6 + 3) (by omega)).trans (six_at vs k hlt 3 (by omega))
      have e4 := (hrow.cell (k * 6 + 4) (by omega)).trans (six_at vs k hlt 4 (by omega))
      have e5 := (hrow.cell (k * 6 + 5) (by omega)).trans (six_at vs k hlt 5 (by omega))
      have hx := HP.out k hlt hlt2
      have htl := flatten_take_le Ts k hlt2
      have HS : Hid ((Ts.take (k + 1)).flatten = (Ts.take k).flatten ++ Ts[k]) := flatten_snoc Ts k hlt2
      obtain ⟨T, hT⟩ : ∃ T, T = Ts[k] := ⟨_, rfl⟩
      rw [← hT] at hx htl HS
      obtain ⟨s, hs⟩ : ∃ s, s = vs[k] := ⟨_, rfl⟩
      rw [← hs] at hx e0 e1 e2 e3 e4 e5
      clear hT hs hrow
      obtain ⟨q0, q1, q2, y0, y1, y2, y3, r0, r1, r2⟩ := s
      simp [SixV.cells] at e0 e1 e2 e3 e4 e5
      have hbd : (bs ++ [40] ++ (Ts.take k).flatten).length + T.length ≤ 850000 := by rw [List.length_append, List.length_append, List.length_singleton]; omega
      have HX : Hid (PartTxt base w (SixV.val ⟨q0, q1, q2, y0, y1, y2, y3, r0, r1, r2⟩) T) := hx
      clear hx
      go_wp2_with (go_at_call 33; refine (HX.out _ (HO2.out.bl.alloc hbr _) u0 (bs ++ [40] ++ (Ts.take k).flatten) (HO2.out.buf.alloc _) (by simp; omega) hbd).mono ?_; rintro e w3 ⟨v3, rfl, hO3⟩; have HO3 : Hid (Out base w w3 v3 (bs ++ [40] ++ (Ts.take k).flatten ++ T)) := (HO2.out.alloc hbr _).trans hO3; clear hO3)
      go_roundw
      case rel => exact ⟨k + 1, by omega, by go_num, by rw [HS.out, ← List.append_assoc]; exact HO3.out⟩
      case measure => simp [intOf]; omega
    · have HT : Hid (Ts.take k = Ts) := List.take_of_length_le (by omega)
      have hl5 : (bs ++ [40] ++ (Ts.take k).flatten).length + 1 ≤ 1000000 := by rw [HT.out, List.length_append, List.length_append, List.length_singleton]; omega
      go_wp2_with (at_builtin; refine wpList_append_own_at _ rfl (.tmp 34) (.tmp 35) 42 rfl base 5 i0 (.int .u8 0) 1 1 Tryd.underlying42 hi0 hz0 hz1 hz2 rfl (by decide) u0 (bs ++ [40] ++ (Ts.take k).flatten).length ((bs ++ [40] ++ (Ts.take k).flatten).map bv) rfl (HO2.out.buf.alloc _) ⟨wr.heap.size, 0, none⟩ 1 1 [bv 41] rfl rfl (by intro j u hj; cases j with | zero => (simp at hj; subst hj; simp [Addr.add, go_sem]) | succ j => simp at hj) (bv_one [41]) (by unfold maxLen; omega) (by omega) (by simp; omega) ?_)
      intro v5 w5 hown5 hgr5 _ hob5
      have HO5 : Hid (Out base w w5 v5 (bs ++ [40] ++ (Ts.take k).flatten ++ [41])) := HO2.out.app hbr hgr5 (by simpa using hown5)
      clear hown5 hgr5 hob5
      go_wp2
      go_ret
      have := HO5.out
      rw [HT.out] at this
      exact ⟨_, rfl, this⟩
end Go.Proofs.YtbjabpodkaokjaaDoor

namespace Go.Proofs.YtbjabpodkaokjaaDoor
open Go.RowKit

/-- The chains' texts as the loop has told them so far. -/
def barJ : List (List UInt8) → List UInt8
  | [] => []
  | t :: ts => [40] ++ t ++ ts.flatMap fun t => [124] ++ t
theorem barJ_snoc (Ts : List (List UInt8)) (k : Nat) (h : k < Ts.length) : barJ (Ts.take (k + 1)) = barJ (Ts.take k) ++ (if k = 0 then [40] else [124]) ++ Ts[k] := by
  cases Ts with
  | nil => simp at h
  | cons t ts =>
    cases k with
    | zero => simp [barJ]
    | succ k =>
      have h' : k < ts.length := by simpa using h
      simp only [List.take_succ_cons, barJ, List.getElem_cons_succ]
      rw [List.take_succ_eq_append_getElem h', List.flatMap_append]
      simp
theorem barJ_len (Ts : List (List UInt8)) : (barJ Ts).length = Ts.flatten.length + Ts.length := by
  cases Ts with
  | nil => rfl
  | cons t ts =>
    have : ∀ l : List (List UInt8), (l.flatMap fun t => [124] ++ t).length = l.flatten.length + l.length := by
      intro l
      induction l with
      | nil => rfl
      | cons a l ih => rw [List.flatMap_cons, List.length_append, ih, List.flatten_cons, List.length_append, List.length_append]; simp; omega
    simp only [barJ, List.length_append, this, List.flatten_cons, List.length_cons]; simp; omega
theorem barJ_take_le (Ts : List (List UInt8)) (k : Nat) (h : k < Ts.length) : (barJ (Ts.take k)).length + 1 + (Ts[k]).length ≤ Ts.flatten.length + Ts.length := by
  rw [barJ_len]
  have := flatten_take_le Ts k h
  have h2 : (Ts.take k).length = k := by simp; omega
  omega

abbrev ChainTxt (base : Nat) (w : World) (val : Value) (T : List UInt8) : Prop :=
  ∀ w' : World, Below base w w' → ∀ (v : Value) (bs : List UInt8), Buf w' base v bs → base ≤ w'.heap.size → bs.length + T.length ≤ 850000 → Calls Tryd.prog 20 #[v, val] w' fun e w'' => ∃ v', e = .returned v' ∧ Out base w' w'' v' (bs ++ T)

set_option maxHeartbeats 1000000 in
theorem appendChoices_1 (w : World) (base : Nat) (v : Value) (bs : List UInt8) (g c : Nat) (a : Option Addr) (n1 c1 : Nat) (T : List UInt8) (hrow : RowIn w (fun g => g < base) 64 1 (.slice (some ⟨g, 0, none⟩) 1 c) 1 [.slice a n1 c1]) (hP : ChainTxt base w (.slice a n1 c1) T) (hB : Buf w base v bs) (hb : base ≤ w.heap.size) (hlen : bs.length + T.length ≤ 850000) :
    Calls Tryd.prog 12 #[v, .slice (some ⟨g, 0, none⟩) 1 c] w fun e w' => ∃ v', e = .returned v' ∧ Out base w w' v' (bs ++ T) := by
  have hx := hP w (Below.refl _ _) v bs hB hb hlen
  have HX : Hid (Calls Tryd.prog 20 #[v, .slice a n1 c1] w fun e w'' => ∃ v', e = .returned v' ∧ Out base w w'' v' (bs ++ T)) := hx
  clear hx hP hB
  have e0 := hrow.cell 0 (by omega)
  simp at e0
  clear hrow
  go_enter Tryd.func12, Tryd.ntmps12
  go_wp2_with (go_at_call 20; refine HX.out.mono ?_; rintro e w1 ⟨v1, rfl, hO1⟩; have HO1 : Hid _ := hO1; clear hO1)
  go_ret
  exact ⟨_, rfl, HO1.out⟩

set_option maxRecDepth 4000 in
set_option maxHeartbeats 2000000 in
theorem appendChoices_n (w : World) (base : Nat) (v : Value) (bs : List UInt8) (g c : Nat) (vs : List (Option Addr × Nat × Nat)) (Ts : List (List UInt8)) (hl : Ts.length = vs.length) (hn : 2 ≤ vs.length) (hmax : vs.length ≤ 1000)
    (hrow : RowIn w (fun g => g < base) 64 1 (.slice (some ⟨g, 0, none⟩) vs.length c) vs.length (vs.map fun x => Value.slice x.1 x.2.1 x.2.2))
    (hP : ∀ (k : Nat) (h1 : k < vs.length) (h2 : k < Ts.length), ChainTxt base w (.slice vs[k].1 vs[k].2.1 vs[k].2.2) Ts[k]) (hB : Buf w base v bs) (hb : base ≤ w.heap.size) (hlen : bs.length + Ts.flatten.length + Ts.length + 1 ≤ 850000) :
    Calls Tryd.prog 12 #[v, .slice (some ⟨g, 0, none⟩) vs.length c] w fun e w' => ∃ v', e = .returned v' ∧ Out base w w' v' (bs ++ barJ Ts ++ [41]) := by
  obtain ⟨i0, hi0, hz0, hz1, hz2⟩ := info_parts Tryd.infoU8
  have HO : Hid (Out base w w v bs) := Out.start hB
  have HR : Hid (RowIn w (fun g => g < base) 64 1 (.slice (some ⟨g, 0, none⟩) vs.length c) vs.length (vs.map fun x => Value.slice x.1 x.2.1 x.2.2)) := hrow
  have HP : Hid (∀ (k : Nat) (h1 : k < vs.length) (h2 : k < Ts.length), ChainTxt base w (.slice vs[k].1 vs[k].2.1 vs[k].2.2) Ts[k]) := hP
  clear hB hrow hP
  have m1 : ((vs.length : Int) == 1) = false := beq_eq_false_iff_ne.2 (by omega)
  go_enter Tryd.func12, Tryd.ntmps12
  go_wp2
  go_loopw [0, 17] (fun vv i wr => ∃ k : Nat, k ≤ vs.length ∧ i = .int .i64 k ∧ Out base w wr vv (bs ++ barJ (Ts.take k))) (fun _ i _ => vs.length - (intOf i).toNat)
  case atStart => exact ⟨0, Nat.zero_le _, rfl, by simpa [barJ] using HO.out⟩
  case round =>
    obtain ⟨k, hk, rfl, hO⟩ := hrel
    have hbr : base ≤ wr.heap.size := hO.sz hb
    have HO2 : Hid (Out base w wr u0 (bs ++ barJ (Ts.take k))) := hO
    clear hO
    by_cases hlt : k < vs.length
    · have hlt2 : k < Ts.length := by omega
      have hrow := HR.out.of_heap (w' := wr) (S' := fun g => g < base) (fun j hj hl => ⟨hj, HO2.out.bl.block j hj⟩)
      have e0 := hrow.cell k (by omega)
      rw [List.getElem?_map, List.getElem?_eq_getElem hlt, Option.map_some] at e0
      have hx := HP.out k hlt hlt2
      have htl := barJ_take_le Ts k hlt2
      have HS : Hid (barJ (Ts.take (k + 1)) = barJ (Ts.take k) ++ (if k = 0 then [40] else [124]) ++ Ts[k]) := barJ_snoc Ts k hlt2
      obtain ⟨T, hT⟩ : ∃ T, T = Ts[k] := ⟨_, rfl⟩
      rw [← hT] at hx htl HS
      obtain ⟨s, hs⟩ : ∃ s, s = vs[k] := ⟨_, rfl⟩
      rw [← hs] at hx e0
      clear hT hs hrow
      obtain ⟨q0, q1, q2⟩ := s
      simp only at e0 hx
      have HX : Hid (ChainTxt base w (.slice q0 q1 q2) T) := hx
      clear hx
      obtain ⟨B, hB⟩ : ∃ B, B = bs ++ barJ (Ts.take k) := ⟨_, rfl⟩
      have hBl : B.length + 1 + T.length ≤ 850000 := by rw [hB, List.length_append]; omega
      rw [← hB] at HO2
      have HBq : Hid (B = bs ++ barJ (Ts.take k)) := hB
      clear hB
      by_cases k0 : k = 0
      · have kz : ((k : Int) == 0) = true := by rw [k0]; rfl
        have HS2 : Hid (bs ++ barJ (Ts.take (k + 1)) = B ++ [40] ++ T) := by
          show _ = _
          rw [HS.out, HBq.out, if_pos k0]; simp
        clear HS HBq k0
        go_wp2_with (at_builtin; refine wpList_append_own_at _ rfl (.tmp 24) (.tmp 25) 42 rfl base 5 i0 (.int .u8 0) 1 1 Tryd.underlying42 hi0 hz0 hz1 hz2 rfl (by decide) u0 (B).length ((B).map bv) rfl (HO2.out.buf.alloc _) ⟨wr.heap.size, 0, none⟩ 1 1 [bv 40] rfl rfl (by intro j u hj; cases j with | zero => (simp at hj; subst hj; simp [Addr.add, go_sem]) | succ j => simp at hj) (bv_one [40]) (by unfold maxLen; omega) (by omega) (by simp; omega) ?_)
        intro v3 w3 hown3 hgr3 _ hob3
        have HO3 : Hid (Out base w w3 v3 (B ++ [40])) := HO2.out.app hbr hgr3 hown3
        have hb3 : base ≤ w3.heap.size := HO3.out.sz hb
        clear hown3 hgr3 hob3
        go_wp2_with (go_at_call 20; refine (HX.out w3 HO3.out.bl v3 (B ++ [40]) HO3.out.buf hb3 (by rw [List.length_append, List.length_singleton]; omega)).mono ?_; rintro e w4 ⟨v4, rfl, hO4⟩; have HO4 : Hid (Out base w w4 v4 (B ++ [40] ++ T)) := HO3.out.trans hO4; clear hO4)
        go_roundw
        case rel => exact ⟨k + 1, by omega, by go_num, by rw [HS2.out]; exact HO4.out⟩
        case measure => simp [intOf]; omega
      · have kz : ((k : Int) == 0) = false := beq_eq_false_iff_ne.2 (by omega)
        have HS2 : Hid (bs ++ barJ (Ts.take (k + 1)) = B ++ [124] ++ T) := by
          show _ = _
          rw [HS.out, HBq.out, if_neg k0]; simp
        clear HS HBq k0
        go_wp2_with (at_builtin; refine wpList_append_own_at _ rfl (.tmp 27) (.tmp 28) 42 rfl base 5 i0 (.int .u8 0) 1 1 Tryd.underlying42 hi0 hz0 hz1 hz2 rfl (by decide) u0 (B).length ((B).map bv) rfl (HO2.out.buf.alloc _) ⟨wr.heap.size, 0, none⟩ 1 1 [bv 124] rfl rfl (by intro j u hj; cases j with | zero => (simp at hj; subst hj; simp [Addr.add, go_sem]) | succ j => simp at hj) (bv_one [124]) (by unfold maxLen; omega) (by omega) (by simp; omega) ?_)
        intro v3 w3 hown3 hgr3 _ hob3
        have HO3 : Hid (Out base w w3 v3 (B ++ [124])) := HO2.out.app hbr hgr3 hown3
        have hb3 : base ≤ w3.heap.size := HO3.out.sz hb
        clear hown3 hgr3 hob3
        go_wp2_with (go_at_call 20; refine (HX.out w3 HO3.out.bl v3 (B ++ [124]) HO3.out.buf hb3 (by rw [List.length_append, List.length_singleton]; omega)).mono ?_; rintro e w4 ⟨v4, rfl, hO4⟩; have HO4 : Hid (Out base w w4 v4 (B ++ [124] ++ T)) := HO3.out.trans hO4; clear hO4)
        go_roundw
        case rel => exact ⟨k + 1, by omega, by go_num, by rw [HS2.out]; exact HO4.out⟩
        case measure => simp [intOf]; omega
    · have HT : Hid (Ts.take k = Ts) := List.take_of_length_le (by omega)
      obtain ⟨B, hB⟩ : ∃ B, B = bs ++ barJ (Ts.take k) := ⟨_, rfl⟩
      have hBl : B.length + 1 ≤ 1000000 := by rw [hB, HT.out, List.length_append, barJ_len]; omega
      rw [← hB] at HO2
      have HBq : Hid (B = bs ++ barJ Ts) := by show _ = _; rw [hB, HT.out]
      clear hB HT
      go_wp2_with (at_builtin; refine wpList_append_own_at _ rfl (.tmp 34) (.tmp 35) 42 rfl base 5 i0 (.int .u8 0) 1 1 Tryd.underlying42 hi0 hz0 hz1 hz2 rfl (by decide) u0 (B).length ((B).map bv) rfl (HO2.out.buf.alloc _) ⟨wr.heap.size, 0, none⟩ 1 1 [bv 41] rfl rfl (by intro j u hj; cases j with | zero => (simp at hj; subst hj; simp [Addr.add, go_sem]) | succ j => simp at hj) (bv_one [41]) (by unfold maxLen; omega) (by omega) (by simp; omega) ?_)
      intro v5 w5 hown5 hgr5 _ hob5
      have HO5 : Hid (Out base w w5 v5 (B ++ [41])) := HO2.out.app hbr hgr5 hown5
      clear hown5 hgr5 hob5
      go_wp2
      go_ret
      have := HO5.out
      rw [HBq.out] at this
      exact ⟨_, rfl, this⟩
end Go.Proofs.YtbjabpodkaokjaaDoor
