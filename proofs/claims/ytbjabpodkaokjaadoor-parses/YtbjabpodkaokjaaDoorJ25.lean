import Derived.Test.YtbjabpodkaokjaaDoorJ24
set_option linter.unusedVariables false
set_option linter.unusedSimpArgs false
namespace Go.Proofs.YtbjabpodkaokjaaDoor
open Go.RowKit

theorem Out.app {base : Nat} {w wx w' : World} {v v' : Value} {bs : List UInt8} {c : UInt8} {o : Obj} (hO : Out base w wx v bs) (hb : base ≤ wx.heap.size) (hgr : (wx.alloc o).grownBy w' v.ownBlock)
    (hown : w'.ownsRow base 5 1 v' (bs.length + 1) (bs.map bv ++ [bv c])) : Out base w w' v' (bs ++ [c]) :=
  (hO.alloc hb o).grown (by simp; omega) hgr (by simpa [Buf] using hown)
theorem Out.sz {base : Nat} {w wx : World} {v : Value} {bs : List UInt8} (h : Out base w wx v bs) (hb : base ≤ w.heap.size) : base ≤ wx.heap.size := Nat.le_trans hb h.bl.size

/-- A block that is no row of bytes is still there. -/
theorem Keeps.cells {w w' : World} {g : Nat} {cs : Array Value} {T : TypeId} {fr : Nat × Nat} (h : Keeps w w') (hg : w.heap[g]? = some (.cells cs T fr)) (hT : T ≠ 5) : w'.heap[g]? = some (.cells cs T fr) := by
  have hlt : g < w.heap.size := by
    rcases Nat.lt_or_ge g w.heap.size with q | q
    · exact q
    · simp [Array.getElem?_eq_none q] at hg
  exact (h.block g hlt (fun cur e => by rw [hg] at e; injection e with e; injection e with _ e _; exact hT e)).trans hg
theorem cell_of {w : World} {g o : Nat} {cs : Array Value} {T : TypeId} {fr : Nat × Nat} (h : w.heap[g]? = some (.cells cs T fr)) : w.cell? ⟨g, o, none⟩ = cs[o]? := by simp [World.cell?, h]

abbrev cntV (c : Cnt) : Value := .agg #[.int .u8 c.sign.toNat, .int .i64 c.least, .int .i64 c.most]

set_option maxHeartbeats 1000000 in
theorem appendCount_s (w : World) (base : Nat) (v : Value) (bs : List UInt8) (c : Cnt) (hs : c.sign ≠ 123) (hB : Buf w base v bs) (hb : base ≤ w.heap.size) (hlen : bs.length + 20 ≤ 1000000) :
    Calls Tryd.prog 42 #[v, cntV c] w fun e w' => ∃ v', e = .returned v' ∧ Out base w w' v' (bs ++ tCount c) := by
  obtain ⟨i0, hi0, hz0, hz1, hz2⟩ := info_parts Tryd.infoU8
  obtain ⟨sg, le, mo⟩ := c
  have HT : Hid (tCount ⟨sg, le, mo⟩ = [sg]) := by show _ = _; simp only [tCount]; rw [if_neg hs]
  have n1 : ((sg.toNat : Int) != 123) = true := by simpa using u8_int (b := 123) hs
  have HO : Hid (Out base w w v bs) := Out.start hB
  clear hB hs
  go_enter Tryd.func42, Tryd.ntmps42
  go_wp2_with (at_builtin; refine wpList_append_own_at _ rfl (.tmp 5) (.tmp 8) 42 rfl base 5 i0 (.int .u8 0) 1 1 Tryd.underlying42 hi0 hz0 hz1 hz2 rfl (by decide) v (bs).length ((bs).map bv) rfl ((HO.out.buf.alloc _).alloc _) ⟨w.heap.size + 1, 0, none⟩ 1 1 [bv sg] rfl rfl (by intro j u hj; cases j with | zero => (simp at hj; subst hj; simp [Addr.add, go_sem]) | succ j => simp at hj) (bv_one [sg]) (by unfold maxLen; omega) (by omega) (by simp; omega) ?_)
  intro v1 w1 hown1 hgr1 _ hob1
  have HO1 : Hid (Out base w w1 v1 (bs ++ [sg])) := (HO.out.alloc hb _).app (by simp; omega) hgr1 hown1
  have hk := HO1.out
  have hblk : w1.heap[w.heap.size]? = some (.cells #[.int .u8 sg.toNat, .int .i64 le, .int .i64 mo] 87) :=
    (hgr1.block w.heap.size (by simp; omega) (fun e => by have := (HO.out.buf.lt _ e.symm).2; omega)).trans ((Below.heap_alloc _ _ _ (by simp)).trans (heap_alloc_new _ _))
  have c0 : w1.cell? ⟨w.heap.size, 0, none⟩ = some (.int .u8 sg.toNat) := by rw [cell_of hblk]; rfl
  clear hown1 hgr1 hob1 hk hblk
  go_wp2
  go_ret
  refine ⟨_, rfl, ?_⟩
  rw [HT.out]; exact HO1.out
theorem lt_of_blk {w : World} {g : Nat} {o : Obj} (h : w.heap[g]? = some o) : g < w.heap.size := by
  rcases Nat.lt_or_ge g w.heap.size with q | q
  · exact q
  · simp [Array.getElem?_eq_none q] at h
theorem own_ne {w : World} {base g : Nat} {v : Value} {bs : List UInt8} {cs : Array Value} {T : TypeId} {fr : Nat × Nat} (hB : Buf w base v bs) (hg : w.heap[g]? = some (.cells cs T fr)) (hT : T ≠ 5) : v.ownBlock ≠ some g := by
  obtain ⟨_, hr⟩ := hB
  rcases hr with ⟨rfl, _⟩ | ⟨k, cap, cur, rfl, _, hh, _⟩
  · simp [Value.ownBlock]
  · simp only [Value.ownBlock, ne_eq, Option.some.injEq]
    rintro rfl
    rw [hg] at hh; injection hh with e; injection e with _ e _; exact hT e

set_option maxHeartbeats 2000000 in
theorem appendCount_e (w : World) (base : Nat) (v : Value) (bs : List UInt8) (le : Nat) (hle : le ≤ 30) (hB : Buf w base v bs) (hb : base ≤ w.heap.size) (hlen : bs.length + 20 ≤ 1000000) :
    Calls Tryd.prog 42 #[v, cntV ⟨123, le, (-1)⟩] w fun e w' => ∃ v', e = .returned v' ∧ Out base w w' v' (bs ++ tCount ⟨123, le, (-1)⟩) := by
  obtain ⟨i0, hi0, hz0, hz1, hz2⟩ := info_parts Tryd.infoU8
  have HT : Hid (tCount ⟨123, le, (-1)⟩ = [123] ++ tDec le ++ [44] ++ [125]) := by show _ = _; simp [tCount]
  have HO : Hid (Out base w w v bs) := Out.start hB
  have htl := tDec_len le
  clear hB
  go_enter Tryd.func42, Tryd.ntmps42
  go_wp2_with (at_builtin; refine wpList_append_own_at _ rfl (.tmp 5) (.tmp 8) 42 rfl base 5 i0 (.int .u8 0) 1 1 Tryd.underlying42 hi0 hz0 hz1 hz2 rfl (by decide) v (bs).length ((bs).map bv) rfl ((HO.out.buf.alloc _).alloc _) ⟨w.heap.size + 1, 0, none⟩ 1 1 [bv 123] rfl rfl (by intro j u hj; cases j with | zero => (simp at hj; subst hj; simp [Addr.add, go_sem]) | succ j => simp at hj) (bv_one [123]) (by unfold maxLen; omega) (by omega) (by simp; omega) ?_)
  intro v1 w1 hown1 hgr1 _ hob1
  have HO1 : Hid (Out base w w1 v1 (bs ++ [123])) := (HO.out.alloc hb _).app (by simp; omega) hgr1 hown1
  have hblk : w1.heap[w.heap.size]? = some (.cells #[.int .u8 123, .int .i64 le, .int .i64 (-1)] 87) :=
    (hgr1.block w.heap.size (by simp; omega) (fun e => by have := (HO.out.buf.lt _ e.symm).2; omega)).trans ((Below.heap_alloc _ _ _ (by simp)).trans (heap_alloc_new _ _))
  have HK1 : Hid (w1.heap[w.heap.size]? = some (.cells #[.int .u8 123, .int .i64 le, .int .i64 (-1)] 87)) := hblk
  have c0 : w1.cell? ⟨w.heap.size, 0, none⟩ = some (.int .u8 123) := by rw [cell_of hblk]; rfl
  have c1 : w1.cell? ⟨w.heap.size, 1, none⟩ = some (.int .i64 le) := by rw [cell_of hblk]; rfl
  have hb1 : base ≤ w1.heap.size := HO1.out.sz hb
  clear hown1 hgr1 hob1 hblk
  go_wp2_with (first | (at_builtin; refine wpList_append_own_at _ rfl (.tmp 18) (.tmp 19) 42 rfl base 5 i0 (.int .u8 0) 1 1 Tryd.underlying42 hi0 hz0 hz1 hz2 rfl (by decide) v2 (bs ++ [123] ++ tDec le).length ((bs ++ [123] ++ tDec le).map bv) rfl (HO2.out.buf.alloc _) ⟨w2.heap.size, 0, none⟩ 1 1 [bv 44] rfl rfl (by intro j u hj; cases j with | zero => (simp at hj; subst hj; simp [Addr.add, go_sem]) | succ j => simp at hj) (bv_one [44]) (by unfold maxLen; omega) (by omega) (by simp; omega) ?_) | (go_at_call 51; refine (appendInt_any w1 base v1 (bs ++ [123]) le hle HO1.out.buf hb1 (by simp; omega)).mono ?_; rintro e w2 ⟨v2, rfl, hO2⟩; have HK2 : Hid (w2.heap[w.heap.size]? = some (.cells #[.int .u8 123, .int .i64 le, .int .i64 (-1)] 87)) := hO2.kp.cells HK1.out (by decide); have HO2 : Hid (Out base w w2 v2 (bs ++ [123] ++ tDec le)) := HO1.out.trans hO2; have hb2 : base ≤ w2.heap.size := HO2.out.sz hb; have hl3 : (bs ++ [123] ++ tDec le).length + 1 ≤ 1000000 := (by simp; omega); have ho2 : v2.ownBlock ≠ some w.heap.size := (own_ne hO2.buf HK2.out (by decide)); clear hO2))
  intro v3 w3 hown3 hgr3 _ hob3
  have HO3 : Hid (Out base w w3 v3 (bs ++ [123] ++ tDec le ++ [44])) := HO2.out.app hb2 hgr3 (by simpa using hown3)
  have hz2' : w.heap.size < w2.heap.size := lt_of_blk HK2.out
  have hblk3 := (hgr3.block w.heap.size (by simp; omega) (fun e => ho2 e.symm)).trans ((Below.heap_alloc _ _ _ hz2').trans HK2.out)
  have HK3 : Hid (w3.heap[w.heap.size]? = some (.cells #[.int .u8 123, .int .i64 le, .int .i64 (-1)] 87)) := hblk3
  have e2 : w3.cell? ⟨w.heap.size, 2, none⟩ = some (.int .i64 (-1)) := by rw [cell_of hblk3]; rfl
  have hb3 : base ≤ w3.heap.size := HO3.out.sz hb
  clear hown3 hgr3 hob3 hblk3
  have hl4 : (bs ++ [123] ++ tDec le ++ [44]).length + 1 ≤ 1000000 := by simp; omega
  go_wp2_with (at_builtin; refine wpList_append_own_at _ rfl (.tmp 28) (.tmp 29) 42 rfl base 5 i0 (.int .u8 0) 1 1 Tryd.underlying42 hi0 hz0 hz1 hz2 rfl (by decide) v3 (bs ++ [123] ++ tDec le ++ [44]).length ((bs ++ [123] ++ tDec le ++ [44]).map bv) rfl (HO3.out.buf.alloc _) ⟨w3.heap.size, 0, none⟩ 1 1 [bv 125] rfl rfl (by intro j u hj; cases j with | zero => (simp at hj; subst hj; simp [Addr.add, go_sem]) | succ j => simp at hj) (bv_one [125]) (by unfold maxLen; omega) (by omega) (by simp; omega) ?_)
  intro v5 w5 hown5 hgr5 _ hob5
  have HO5 : Hid (Out base w w5 v5 (bs ++ [123] ++ tDec le ++ [44] ++ [125])) := HO3.out.app hb3 hgr5 (by simpa using hown5)
  clear hown5 hgr5 hob5
  go_wp2
  go_ret
  refine ⟨_, rfl, ?_⟩
  have e : bs ++ tCount ⟨123, le, (-1)⟩ = bs ++ [123] ++ tDec le ++ [44] ++ [125] := by rw [HT.out]; simp
  rw [e]; exact HO5.out

set_option maxHeartbeats 2000000 in
theorem appendCount_m (w : World) (base : Nat) (v : Value) (bs : List UInt8) (le : Nat) (mo : Nat) (hmo : mo ≤ 30) (hle : le ≤ 30) (hB : Buf w base v bs) (hb : base ≤ w.heap.size) (hlen : bs.length + 20 ≤ 1000000) :
    Calls Tryd.prog 42 #[v, cntV ⟨123, le, ((mo : Nat) : Int)⟩] w fun e w' => ∃ v', e = .returned v' ∧ Out base w w' v' (bs ++ tCount ⟨123, le, ((mo : Nat) : Int)⟩) := by
  obtain ⟨i0, hi0, hz0, hz1, hz2⟩ := info_parts Tryd.infoU8
  have HT : Hid (tCount ⟨123, le, ((mo : Nat) : Int)⟩ = [123] ++ tDec le ++ [44] ++ tDec mo ++ [125]) := by show _ = _; simp only [tCount]; rw [if_pos trivial, if_neg (by omega)]; simp
  have HO : Hid (Out base w w v bs) := Out.start hB
  have htl := tDec_len le
  have htm := tDec_len mo
  have hmn : ((mo : Int) != -1) = true := by first | (simp; done) | (simp; omega)
  clear hB
  go_enter Tryd.func42, Tryd.ntmps42
  go_wp2_with (at_builtin; refine wpList_append_own_at _ rfl (.tmp 5) (.tmp 8) 42 rfl base 5 i0 (.int .u8 0) 1 1 Tryd.underlying42 hi0 hz0 hz1 hz2 rfl (by decide) v (bs).length ((bs).map bv) rfl ((HO.out.buf.alloc _).alloc _) ⟨w.heap.size + 1, 0, none⟩ 1 1 [bv 123] rfl rfl (by intro j u hj; cases j with | zero => (simp at hj; subst hj; simp [Addr.add, go_sem]) | succ j => simp at hj) (bv_one [123]) (by unfold maxLen; omega) (by omega) (by simp; omega) ?_)
  intro v1 w1 hown1 hgr1 _ hob1
  have HO1 : Hid (Out base w w1 v1 (bs ++ [123])) := (HO.out.alloc hb _).app (by simp; omega) hgr1 hown1
  have hblk : w1.heap[w.heap.size]? = some (.cells #[.int .u8 123, .int .i64 le, .int .i64 ((mo : Nat) : Int)] 87) :=
    (hgr1.block w.heap.size (by simp; omega) (fun e => by have := (HO.out.buf.lt _ e.symm).2; omega)).trans ((Below.heap_alloc _ _ _ (by simp)).trans (heap_alloc_new _ _))
  have HK1 : Hid (w1.heap[w.heap.size]? = some (.cells #[.int .u8 123, .int .i64 le, .int .i64 ((mo : Nat) : Int)] 87)) := hblk
  have c0 : w1.cell? ⟨w.heap.size, 0, none⟩ = some (.int .u8 123) := by rw [cell_of hblk]; rfl
  have c1 : w1.cell? ⟨w.heap.size, 1, none⟩ = some (.int .i64 le) := by rw [cell_of hblk]; rfl
  have hb1 : base ≤ w1.heap.size := HO1.out.sz hb
  clear hown1 hgr1 hob1 hblk
  go_wp2_with (first | (at_builtin; refine wpList_append_own_at _ rfl (.tmp 18) (.tmp 19) 42 rfl base 5 i0 (.int .u8 0) 1 1 Tryd.underlying42 hi0 hz0 hz1 hz2 rfl (by decide) v2 (bs ++ [123] ++ tDec le).length ((bs ++ [123] ++ tDec le).map bv) rfl (HO2.out.buf.alloc _) ⟨w2.heap.size, 0, none⟩ 1 1 [bv 44] rfl rfl (by intro j u hj; cases j with | zero => (simp at hj; subst hj; simp [Addr.add, go_sem]) | succ j => simp at hj) (bv_one [44]) (by unfold maxLen; omega) (by omega) (by simp; omega) ?_) | (go_at_call 51; refine (appendInt_any w1 base v1 (bs ++ [123]) le hle HO1.out.buf hb1 (by simp; omega)).mono ?_; rintro e w2 ⟨v2, rfl, hO2⟩; have HK2 : Hid (w2.heap[w.heap.size]? = some (.cells #[.int .u8 123, .int .i64 le, .int .i64 ((mo : Nat) : Int)] 87)) := hO2.kp.cells HK1.out (by decide); have HO2 : Hid (Out base w w2 v2 (bs ++ [123] ++ tDec le)) := HO1.out.trans hO2; have hb2 : base ≤ w2.heap.size := HO2.out.sz hb; have hl3 : (bs ++ [123] ++ tDec le).length + 1 ≤ 1000000 := (by simp; omega); have ho2 : v2.ownBlock ≠ some w.heap.size := (own_ne hO2.buf HK2.out (by decide)); clear hO2))
  intro v3 w3 hown3 hgr3 _ hob3
  have HO3 : Hid (Out base w w3 v3 (bs ++ [123] ++ tDec le ++ [44])) := HO2.out.app hb2 hgr3 (by simpa using hown3)
  have hz2' : w.heap.size < w2.heap.size := lt_of_blk HK2.out
  have hblk3 := (hgr3.block w.heap.size (by simp; omega) (fun e => ho2 e.symm)).trans ((Below.heap_alloc _ _ _ hz2').trans HK2.out)
  have HK3 : Hid (w3.heap[w.heap.size]? = some (.cells #[.int .u8 123, .int .i64 le, .int .i64 ((mo : Nat) : Int)] 87)) := hblk3
  have e2 : w3.cell? ⟨w.heap.size, 2, none⟩ = some (.int .i64 ((mo : Nat) : Int)) := by rw [cell_of hblk3]; rfl
  have hb3 : base ≤ w3.heap.size := HO3.out.sz hb
  clear hown3 hgr3 hob3 hblk3
  have hl4 : (bs ++ [123] ++ tDec le ++ [44] ++ tDec mo).length + 1 ≤ 1000000 := by simp; omega
  go_wp2_with (first | (at_builtin; refine wpList_append_own_at _ rfl (.tmp 28) (.tmp 29) 42 rfl base 5 i0 (.int .u8 0) 1 1 Tryd.underlying42 hi0 hz0 hz1 hz2 rfl (by decide) v4 (bs ++ [123] ++ tDec le ++ [44] ++ tDec mo).length ((bs ++ [123] ++ tDec le ++ [44] ++ tDec mo).map bv) rfl (HO4.out.buf.alloc _) ⟨w4.heap.size, 0, none⟩ 1 1 [bv 125] rfl rfl (by intro j u hj; cases j with | zero => (simp at hj; subst hj; simp [Addr.add, go_sem]) | succ j => simp at hj) (bv_one [125]) (by unfold maxLen; omega) (by omega) (by simp; omega) ?_) | (go_at_call 51; refine (appendInt_any w3 base v3 (bs ++ [123] ++ tDec le ++ [44]) mo hmo HO3.out.buf hb3 (by simp; omega)).mono ?_; rintro e w4 ⟨v4, rfl, hO4⟩; have HO4 : Hid (Out base w w4 v4 (bs ++ [123] ++ tDec le ++ [44] ++ tDec mo)) := HO3.out.trans hO4; have hb4 : base ≤ w4.heap.size := HO4.out.sz hb; clear hO4))
  intro v5 w5 hown5 hgr5 _ hob5
  have HO5 : Hid (Out base w w5 v5 (bs ++ [123] ++ tDec le ++ [44] ++ tDec mo ++ [125])) := HO4.out.app hb4 hgr5 (by simpa using hown5)
  clear hown5 hgr5 hob5
  go_wp2
  go_ret
  refine ⟨_, rfl, ?_⟩
  have e : bs ++ tCount ⟨123, le, ((mo : Nat) : Int)⟩ = bs ++ [123] ++ tDec le ++ [44] ++ tDec mo ++ [125] := by rw [HT.out]; simp
  rw [e]; exact HO5.out

end Go.Proofs.YtbjabpodkaokjaaDoor

namespace Go.Proofs.YtbjabpodkaokjaaDoor
open Go.RowKit

/-- A count that the text can be told of. -/
def okCnt (c : Cnt) : Prop := c.sign ≠ 123 ∨ (0 ≤ c.least ∧ c.least ≤ 30 ∧ -1 ≤ c.most ∧ c.most ≤ 30)
theorem appendCount_any (w : World) (base : Nat) (v : Value) (bs : List UInt8) (c : Cnt) (hc : okCnt c) (hB : Buf w base v bs) (hb : base ≤ w.heap.size) (hlen : bs.length + 20 ≤ 1000000) :
    Calls Tryd.prog 42 #[v, cntV c] w fun e w' => ∃ v', e = .returned v' ∧ Out base w w' v' (bs ++ tCount c) := by
  by_cases hs : c.sign = 123
  · rcases hc with h | ⟨h1, h2, h3, h4⟩
    · exact absurd hs h
    · obtain ⟨sg, le, mo⟩ := c
      simp only at hs h1 h2 h3 h4
      subst hs
      obtain ⟨l, rfl⟩ : ∃ l : Nat, le = l := ⟨le.toNat, by omega⟩
      by_cases hm : mo = -1
      · subst hm; exact appendCount_e w base v bs l (by omega) hB hb hlen
      · obtain ⟨m, rfl⟩ : ∃ m : Nat, mo = m := ⟨mo.toNat, by omega⟩
        exact appendCount_m w base v bs l m (by omega) (by omega) hB hb hlen
  · exact appendCount_s w base v bs c hs hB hb hlen
theorem tCount_len (c : Cnt) : (tCount c).length ≤ 20 := by
  unfold tCount
  have := tDec_len c.least.toNat
  have := tDec_len c.most.toNat
  split
  · split <;> simp <;> omega
  · simp

/-- The cells of a row, one by one. -/
theorem RowIn.cell {w : World} {S : Nat → Prop} {e : TypeId} {size : Nat} {g : Nat} {n cap : Nat} {xs : List Value} (h : RowIn w S e size (.slice (some ⟨g, 0, none⟩) n cap) n xs) (j : Nat) (hj : j < n * size) : w.cell? ⟨g, j, none⟩ = xs[j]? := by
  obtain ⟨h1, h2⟩ := h
  rcases h2 with ⟨h2, _⟩ | ⟨g', cap', cur, hv, hS, hh, hn, hm, hs, ht⟩
  · simp at h2
  · injection hv with hv _ _
    injection hv with hv; injection hv with hv _ _
    subst hv
    rw [cell_of hh, ← ht, List.getElem?_take]
    simp [hj]
theorem RowIn.form {w : World} {S : Nat → Prop} {e : TypeId} {size : Nat} {v : Value} {n : Nat} {xs : List Value} (h : RowIn w S e size v n xs) (hn : 0 < n) : ∃ g cap, v = .slice (some ⟨g, 0, none⟩) n cap ∧ S g ∧ n ≤ cap ∧ cap ≤ maxLen := by
  obtain ⟨h1, h2⟩ := h
  rcases h2 with ⟨_, h2⟩ | ⟨g', cap', cur, hv, hS, hh, hn', hm, hs, ht⟩
  · omega
  · exact ⟨g', cap', hv, hS, hn', hm⟩
theorem RowIn.nilForm {w : World} {S : Nat → Prop} {e : TypeId} {size : Nat} {v : Value} {xs : List Value} (h : RowIn w S e size v 0 xs) : ∃ a c, v = .slice a 0 c := by
  obtain ⟨h1, h2⟩ := h
  rcases h2 with ⟨rfl, _⟩ | ⟨g', cap', cur, hv, _⟩
  · exact ⟨_, _, rfl⟩
  · exact ⟨_, _, hv⟩
theorem cntCells_at (cs : List Cnt) (k : Nat) (hk : k < cs.length) : (cs.flatMap cntCells)[k * 3]? = some (.int .u8 cs[k].sign.toNat) ∧ (cs.flatMap cntCells)[k * 3 + 1]? = some (.int .i64 cs[k].least) ∧ (cs.flatMap cntCells)[k * 3 + 2]? = some (.int .i64 cs[k].most) := by
  induction cs generalizing k with
  | nil => simp at hk
  | cons c cs ih =>
    cases k with
    | zero => simp [cntCells]
    | succ k =>
      have := ih k (by simpa using hk)
      have e1 : (k + 1) * 3 = k * 3 + 3 := by omega
      simp only [e1, List.flatMap_cons, List.getElem_cons_succ]
      simp only [cntCells] at this ⊢
      simpa using this
theorem flat_len (l : List Cnt) : (l.flatMap tCount).length ≤ 20 * l.length := by
  induction l with
  | nil => simp
  | cons c l ih => have := tCount_len c; rw [List.flatMap_cons, List.length_append, List.length_cons]; omega
theorem flat_take (cs : List Cnt) (k : Nat) : ((cs.take k).flatMap tCount).length ≤ 20 * k := by
  have h2 := flat_len (cs.take k)
  have h3 : (cs.take k).length ≤ k := List.length_take_le _ _
  omega
theorem flat_snoc (cs : List Cnt) (k : Nat) (h : k < cs.length) : (cs.take (k + 1)).flatMap tCount = (cs.take k).flatMap tCount ++ tCount cs[k] := by
  rw [List.take_succ_eq_append_getElem h, List.flatMap_append]; simp
end Go.Proofs.YtbjabpodkaokjaaDoor

namespace Go.Proofs.YtbjabpodkaokjaaDoor
open Go.RowKit

set_option maxRecDepth 4000 in
set_option maxHeartbeats 2000000 in
theorem appendPart_b (w : World) (base : Nat) (v : Value) (bs : List UInt8) (x0 x1 x2 x3 : Nat) (g2 : Option Addr) (n2 c2 : Nat) (cs : List Cnt) (hcs : ∀ c ∈ cs, okCnt c) (hrow : RowIn w (fun g => g < base) 87 3 (.slice g2 n2 c2) cs.length (cs.flatMap cntCells)) (ga : Option Addr) (gc : Nat) (S0 : Nat → Bool) (hS : Wd x0 x1 x2 x3 S0) (hB : Buf w base v bs) (hb : base ≤ w.heap.size) (hlen : bs.length + (tBytes S0).length + 20 * cs.length + 20 ≤ 900000) :
    Calls Tryd.prog 33 #[v, .agg #[.slice ga 0 gc, .int .u64 x0, .int .u64 x1, .int .u64 x2, .int .u64 x3, .slice g2 n2 c2]] w fun e w' => ∃ v', e = .returned v' ∧ Out base w w' v' (bs ++ tBytes S0 ++ cs.flatMap tCount) := by
  have hn2 : n2 = cs.length := by
    rcases Nat.eq_zero_or_pos cs.length with q | q
    · rw [q] at hrow
      obtain ⟨a, c, e⟩ := hrow.nilForm
      injection e with _ e _; omega
    · obtain ⟨g, cap, e, _⟩ := hrow.form q
      injection e with _ e _
  subst hn2
  have HB : Hid (Buf w base v bs) := hB
  have HR : Hid (RowIn w (fun g => g < base) 87 3 (.slice g2 cs.length c2) cs.length (cs.flatMap cntCells)) := hrow
  clear hB hrow
  go_enter Tryd.func33, Tryd.ntmps33
  go_wp2_with (go_at_call 41; refine (appendBytes_any _ base v bs x0 x1 x2 x3 S0 hS (HB.out.alloc _) (by simp; omega) (by omega)).mono ?_; rintro e w1 ⟨v1, rfl, hbuf1, hg1⟩; have hO1' := Out.of_grew (HB.out.alloc _) (by simp; omega) hbuf1 hg1; have HK1 : Hid (w1.heap[w.heap.size]? = some (.cells #[.slice ga 0 gc, .int .u64 x0, .int .u64 x1, .int .u64 x2, .int .u64 x3, .slice g2 cs.length c2] 80)) := hO1'.kp.cells (heap_alloc_new _ _) (by decide); have HO1 : Hid (Out base w w1 v1 (bs ++ tBytes S0)) := ((Out.start HB.out).alloc hb _).trans hO1'; have k5 : w1.cell? ⟨w.heap.size, 5, none⟩ = some (.slice g2 cs.length c2) := (by rw [cell_of HK1.out]; rfl); clear hO1')
  have hb1 : base ≤ w1.heap.size := HO1.out.sz hb
  have hz1 : w.heap.size < w1.heap.size := lt_of_blk HK1.out
  go_loopw [0, 25] (fun vv i wr => ∃ k : Nat, k ≤ cs.length ∧ i = .int .i64 k ∧ Out base w wr vv (bs ++ tBytes S0 ++ (cs.take k).flatMap tCount)) (fun _ i _ => cs.length - (intOf i).toNat)
  case atStart => exact ⟨0, Nat.zero_le _, rfl, by simpa using HO1.out⟩
  case round =>
    clear k5
    obtain ⟨k, hk, rfl, hO⟩ := hrel
    have hbr : base ≤ wr.heap.size := hO.sz hb
    have HO : Hid (Out base w wr u0 (bs ++ tBytes S0 ++ (cs.take k).flatMap tCount)) := hO
    clear hO
    by_cases hlt : k < cs.length
    · obtain ⟨g, cap, hvf, hSg, hcap, hmax⟩ := HR.out.form (by omega)
      injection hvf with e1 _ e3
      subst e1
      obtain ⟨a0, a1, a2⟩ := cntCells_at cs k hlt
      have hrow := HR.out.of_heap (w' := wr) (S' := fun g => g < base) (fun j hj hl => ⟨hj, HO.out.bl.block j hj⟩)
      rw [e3] at hrow
      have b0 := (hrow.cell (k * 3) (by omega)).trans a0
      have b1 := (hrow.cell (k * 3 + 1) (by omega)).trans a1
      have b2 := (hrow.cell (k * 3 + 2) (by omega)).trans a2
      obtain ⟨C, hC⟩ : ∃ C, C = cs[k] := ⟨_, rfl⟩
      rw [← hC] at b0 b1 b2
      have hok : okCnt C := by rw [hC]; exact hcs _ (List.getElem_mem hlt)
      have hlk := flat_take cs k
      have HS : Hid ((cs.take (k + 1)).flatMap tCount = (cs.take k).flatMap tCount ++ tCount C) := by
        show _ = _
        rw [hC]; exact flat_snoc cs k hlt
      obtain ⟨sg, le, mo⟩ := C
      simp only at b0 b1 b2
      clear a0 a1 a2 hrow hC e3
      go_wp2_with (go_at_call 42; refine (appendCount_any _ base u0 (bs ++ tBytes S0 ++ (cs.take k).flatMap tCount) ⟨sg, le, mo⟩ hok (HO.out.buf.alloc _) (by simp; omega) (by rw [List.length_append, List.length_append]; omega)).mono ?_; rintro e w3 ⟨v3, rfl, hO3⟩; have HO3 : Hid (Out base w w3 v3 (bs ++ tBytes S0 ++ (cs.take k).flatMap tCount ++ tCount ⟨sg, le, mo⟩)) := (HO.out.alloc hbr _).trans hO3; clear hO3)
      go_roundw
      case rel => exact ⟨k + 1, by omega, by go_num, by rw [HS.out, ← List.append_assoc]; exact HO3.out⟩
      case measure => simp [intOf]; omega
    · have hk' : k = cs.length := by omega
      have HT : Hid (cs.take k = cs) := List.take_of_length_le (by omega)
      go_wp2
      go_ret
      have := HO.out
      rw [HT.out] at this
      exact ⟨_, rfl, this⟩

set_option maxRecDepth 4000 in
set_option maxHeartbeats 2000000 in
theorem appendPart_g (w : World) (base : Nat) (v : Value) (bs : List UInt8) (x0 x1 x2 x3 : Nat) (g2 : Option Addr) (n2 c2 : Nat) (cs : List Cnt) (hcs : ∀ c ∈ cs, okCnt c) (hrow : RowIn w (fun g => g < base) 87 3 (.slice g2 n2 c2) cs.length (cs.flatMap cntCells)) (g1 : Addr) (n1 c1 : Nat) (hn1 : 0 < n1) (T1 : List UInt8) (hG : ∀ w' : World, Below base w w' → ∀ (v : Value) (bs : List UInt8), Buf w' base v bs → base ≤ w'.heap.size → bs.length + T1.length ≤ 850000 → Calls Tryd.prog 12 #[v, .slice (some g1) n1 c1] w' fun e w'' => ∃ v', e = .returned v' ∧ Out base w' w'' v' (bs ++ T1)) (hl2 : bs.length + T1.length ≤ 850000) (hB : Buf w base v bs) (hb : base ≤ w.heap.size) (hlen : bs.length + (T1).length + 20 * cs.length + 20 ≤ 900000) :
    Calls Tryd.prog 33 #[v, .agg #[.slice (some g1) n1 c1, .int .u64 x0, .int .u64 x1, .int .u64 x2, .int .u64 x3, .slice g2 n2 c2]] w fun e w' => ∃ v', e = .returned v' ∧ Out base w w' v' (bs ++ T1 ++ cs.flatMap tCount) := by
  have hn2 : n2 = cs.length := by
    rcases Nat.eq_zero_or_pos cs.length with q | q
    · rw [q] at hrow
      obtain ⟨a, c, e⟩ := hrow.nilForm
      injection e with _ e _; omega
    · obtain ⟨g, cap, e, _⟩ := hrow.form q
      injection e with _ e _
  subst hn2
  have HB : Hid (Buf w base v bs) := hB
  have HR : Hid (RowIn w (fun g => g < base) 87 3 (.slice g2 cs.length c2) cs.length (cs.flatMap cntCells)) := hrow
  clear hB hrow
  have HG : Hid _ := hG
  clear hG
  have hn1' : (0 : Int) < n1 := by omega
  go_enter Tryd.func33, Tryd.ntmps33
  go_wp2_with (go_at_call 12; refine (HG.out _ ((Below.refl base w).alloc hb _) v bs (HB.out.alloc _) (by simp; omega) (by omega)).mono ?_; rintro e w1 ⟨v1, rfl, hO1'⟩; have HK1 : Hid (w1.heap[w.heap.size]? = some (.cells #[.slice (some g1) n1 c1, .int .u64 x0, .int .u64 x1, .int .u64 x2, .int .u64 x3, .slice g2 cs.length c2] 80)) := hO1'.kp.cells (heap_alloc_new _ _) (by decide); have HO1 : Hid (Out base w w1 v1 (bs ++ T1)) := ((Out.start HB.out).alloc hb _).trans hO1'; have k5 : w1.cell? ⟨w.heap.size, 5, none⟩ = some (.slice g2 cs.length c2) := (by rw [cell_of HK1.out]; rfl); clear hO1')
  have hb1 : base ≤ w1.heap.size := HO1.out.sz hb
  have hz1 : w.heap.size < w1.heap.size := lt_of_blk HK1.out
  go_loopw [0, 25] (fun vv i wr => ∃ k : Nat, k ≤ cs.length ∧ i = .int .i64 k ∧ Out base w wr vv (bs ++ T1 ++ (cs.take k).flatMap tCount)) (fun _ i _ => cs.length - (intOf i).toNat)
  case atStart => exact ⟨0, Nat.zero_le _, rfl, by simpa using HO1.out⟩
  case round =>
    clear k5
    obtain ⟨k, hk, rfl, hO⟩ := hrel
    have hbr : base ≤ wr.heap.size := hO.sz hb
    have HO : Hid (Out base w wr u0 (bs ++ T1 ++ (cs.take k).flatMap tCount)) := hO
    clear hO
    by_cases hlt : k < cs.length
    · obtain ⟨g, cap, hvf, hSg, hcap, hmax⟩ := HR.out.form (by omega)
      injection hvf with e1 _ e3
      subst e1
      obtain ⟨a0, a1, a2⟩ := cntCells_at cs k hlt
      have hrow := HR.out.of_heap (w' := wr) (S' := fun g => g < base) (fun j hj hl => ⟨hj, HO.out.bl.block j hj⟩)
      rw [e3] at hrow
      have b0 := (hrow.cell (k * 3) (by omega)).trans a0
      have b1 := (hrow.cell (k * 3 + 1) (by omega)).trans a1
      have b2 := (hrow.cell (k * 3 + 2) (by omega)).trans a2
      obtain ⟨C, hC⟩ : ∃ C, C = cs[k] := ⟨_, rfl⟩
      rw [← hC] at b0 b1 b2
      have hok : okCnt C := by rw [hC]; exact hcs _ (List.getElem_mem hlt)
      have hlk := flat_take cs k
      have HS : Hid ((cs.take (k + 1)).flatMap tCount = (cs.take k).flatMap tCount ++ tCount C) := by
        show _ = _
        rw [hC]; exact flat_snoc cs k hlt
      obtain ⟨sg, le, mo⟩ := C
      simp only at b0 b1 b2
      clear a0 a1 a2 hrow hC e3
      go_wp2_with (go_at_call 42; refine (appendCount_any _ base u0 (bs ++ T1 ++ (cs.take k).flatMap tCount) ⟨sg, le, mo⟩ hok (HO.out.buf.alloc _) (by simp; omega) (by rw [List.length_append, List.length_append]; omega)).mono ?_; rintro e w3 ⟨v3, rfl, hO3⟩; have HO3 : Hid (Out base w w3 v3 (bs ++ T1 ++ (cs.take k).flatMap tCount ++ tCount ⟨sg, le, mo⟩)) := (HO.out.alloc hbr _).trans hO3; clear hO3)
      go_roundw
      case rel => exact ⟨k + 1, by omega, by go_num, by rw [HS.out, ← List.append_assoc]; exact HO3.out⟩
      case measure => simp [intOf]; omega
    · have hk' : k = cs.length := by omega
      have HT : Hid (cs.take k = cs) := List.take_of_length_le (by omega)
      go_wp2
      go_ret
      have := HO.out
      rw [HT.out] at this
      exact ⟨_, rfl, this⟩

end Go.Proofs.YtbjabpodkaokjaaDoor
