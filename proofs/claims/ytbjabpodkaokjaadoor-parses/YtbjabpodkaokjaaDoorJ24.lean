import Derived.Test.YtbjabpodkaokjaaDoorJ23
set_option linter.unusedVariables false
set_option linter.unusedSimpArgs false
namespace Go.Proofs.YtbjabpodkaokjaaDoor
open Go.RowKit

theorem tLoop_end (S : Nat → Bool) (n low : Nat) (b : Bool) (h : 256 ≤ low) : tLoop S n low b = [] := by
  cases n with
  | zero => rfl
  | succ n => simp [tLoop, h]
theorem one_new (w : World) (x : Value) (T : TypeId) : ∀ j u, [x][j]? = some u → (w.alloc (.cells #[x] T)).cell? ((⟨w.heap.size, 0, none⟩ : Addr).add j) = some u := by
  intro j u hj
  match j, hj with
  | 0, hj => simp at hj; subst hj; simp [Addr.add, go_sem]

theorem buf_below {w w' : World} {base : Nat} {v : Value} {bs : List UInt8} (h : Buf w base v bs) (hb : Below w.heap.size w w') : Buf w' base v bs := by
  refine World.ownsRow.kept h (row := none) ⟨hb.os, hb.tape, hb.output, hb.size, fun k hk _ => hb.block k hk⟩ ?_
  cases e : v.ownBlock with
  | none => exact .inl rfl
  | some k => exact .inr (by simp)

/-- The set's words lie in block g. -/
abbrev SetBlk (w : World) (g x0 x1 x2 x3 : Nat) : Prop := w.heap[g]? = some (.cells #[.int .u64 x0, .int .u64 x1, .int .u64 x2, .int .u64 x3] 75)

structure BytAt (w wr : World) (base : Nat) (v0 v : Value) (x0 x1 x2 x3 : Nat) (S : Nat → Bool) (T0 : List UInt8) (n low : Nat) (bl : Bool) (acc : List UInt8) : Prop where
  buf : Buf wr base v acc
  grew : Grew w wr v0 v
  blk : SetBlk wr w.heap.size x0 x1 x2 x3
  own : v.ownBlock ≠ some w.heap.size
  sz : w.heap.size < wr.heap.size
  hlow : low ≤ 256
  fuel : 256 < n + low
  heq : acc ++ tLoop S n low bl = T0

set_option maxHeartbeats 2000000 in
theorem appendBytes_any (w : World) (base : Nat) (v : Value) (bs : List UInt8) (x0 x1 x2 x3 : Nat) (S : Nat → Bool) (hS : Wd x0 x1 x2 x3 S) (hB : Buf w base v bs) (hb : base ≤ w.heap.size) (hlen : bs.length + (tBytes S).length ≤ 1000000) :
    Calls Tryd.prog 41 #[v, wv x0 x1 x2 x3] w fun e w' => ∃ v', e = .returned v' ∧ Buf w' base v' (bs ++ tBytes S) ∧ Grew w w' v v' := by
  obtain ⟨i0, hi0, hz0, hz1, hz2⟩ := info_parts Tryd.infoU8
  have HB : Hid (Buf w base v bs) := hB
  clear hB
  have hvo : v.ownBlock ≠ some w.heap.size := fun e => by have := (HB.out.lt _ e).2; omega
  have hl1 : bs.length + 1 ≤ 1000000 := by simp [tBytes] at hlen; omega
  go_enter Tryd.func41, Tryd.ntmps41
  go_wp2_with (at_builtin; refine wpList_append_own_at _ rfl (.tmp 8) (.tmp 9) 42 rfl base 5 i0 (.int .u8 0) 1 1 Tryd.underlying42 hi0 hz0 hz1 hz2 rfl (by decide) v (bs).length ((bs).map bv) rfl ((HB.out.alloc _).alloc _) ⟨w.heap.size + 1, 0, none⟩ 1 1 [bv 60] rfl rfl (by intro j u hj; cases j with | zero => (simp at hj; subst hj; simp [Addr.add, go_sem]) | succ j => simp at hj) (bv_one [60]) (by unfold maxLen; omega) (by omega) (by simp; omega) ?_)
  intro v1 w1 hown1 hgr1 _ hob1
  have hG1 : Grew w w1 v v1 := (((Grew.refl w v).alloc _).alloc _).step hgr1 (by simpa using hob1)
  have hK1 : SetBlk w1 w.heap.size x0 x1 x2 x3 := (hgr1.block w.heap.size (by simp; omega) (fun e => hvo e.symm)).trans ((Below.heap_alloc _ _ _ (by simp)).trans (heap_alloc_new _ _))
  have hO1 : v1.ownBlock ≠ some w.heap.size := by
    rcases hob1 with e | e <;> rw [e]
    · exact hvo
    · intro q; injection q with q; omega
  have HB1 : Hid (Buf w1 base v1 (bs ++ [60])) := by
    show Buf w1 base v1 (bs ++ [60])
    simpa [Buf] using hown1
  have hs1 : w.heap.size < w1.heap.size := by have := hgr1.size; simp at this; omega
  clear hown1 hgr1 hob1
  obtain ⟨T0, hT0⟩ : ∃ T0, T0 = bs ++ [60] ++ tLoop S 257 0 false := ⟨_, rfl⟩
  have hTl : T0.length + 1 ≤ 1000000 := by rw [hT0]; simp [tBytes] at hlen ⊢; omega
  have HT : Hid (T0 = bs ++ [60] ++ tLoop S 257 0 false) := hT0
  clear hT0
  go_wp2
  go_loopw [0, 5, 6] (fun vv bb i wr => ∃ (bl : Bool) (n low : Nat) (acc : List UInt8), bb = .bool bl ∧ i = .int .i64 low ∧ BytAt w wr base v vv x0 x1 x2 x3 S T0 n low bl acc) (fun _ _ i _ => 256 - (intOf i).toNat)
  case atStart => exact ⟨false, 257, 0, bs ++ [60], rfl, rfl, ⟨HB1.out, hG1, hK1, hO1, hs1, by omega, by omega, HT.out.symm⟩⟩
  case round =>
    clear hG1 hK1 hO1 hs1
    obtain ⟨bl, n, low, acc, rfl, rfl, ⟨hbuf, hgrew, hblk, hown, hsz, hlow, hfuel, heq⟩⟩ := hrel
    have HB2 : Hid (Buf wr base u0 acc) := hbuf
    have HK : Hid (SetBlk wr w.heap.size x0 x1 x2 x3) := hblk
    have c0 : wr.cell? ⟨w.heap.size, 0, none⟩ = some (.int .u64 x0) := by simp [World.cell?, hblk]
    have c1 : wr.cell? ⟨w.heap.size, 1, none⟩ = some (.int .u64 x1) := by simp [World.cell?, hblk]
    have c2 : wr.cell? ⟨w.heap.size, 2, none⟩ = some (.int .u64 x2) := by simp [World.cell?, hblk]
    have c3 : wr.cell? ⟨w.heap.size, 3, none⟩ = some (.int .u64 x3) := by simp [World.cell?, hblk]
    have hal : acc.length + (tLoop S n low bl).length = T0.length := by rw [← heq]; simp
    clear hbuf hblk
    obtain ⟨n', rfl⟩ : ∃ n', n = n' + 1 := ⟨n - 1, by omega⟩
    by_cases hlt : low < 256
    · have hlt' : (low : Int) < 256 := by omega
      have hh := fun w => has_any w x0 x1 x2 x3 low S (by omega) hS
      cases hSl : S low with
      | false =>
        rw [hSl] at hh
        have HE : Hid (acc ++ tLoop S n' (low + 1) bl = T0) := by
          show _ = _
          rw [← heq, tLoop, if_neg (by omega), if_neg (by simp [hSl])]
        clear hSl heq
        go_wp2_with (go_at_call 48; refine (hh _).mono ?_; rintro e w3 ⟨rfl, hb3⟩)
        go_roundw
        case rel => exact ⟨bl, n', low + 1, acc, rfl, by go_num, ⟨buf_below HB2.out hb3, hgrew.below hb3, (hb3.block _ hsz).trans HK.out, hown, Nat.lt_of_lt_of_le hsz hb3.size, by omega, by omega, HE.out⟩⟩
        case measure => simp [intOf]; omega
      | true =>
        rw [hSl] at hh
        have hse := fun w => spanEnd_any w x0 x1 x2 x3 low S (by omega) hS
        have hge := spanE_ge S 256 low
        have hle := spanE_le S 256 low (by omega)
        obtain ⟨hi, hhi⟩ : ∃ hi, hi = spanE S 256 low := ⟨_, rfl⟩
        rw [← hhi] at hse hge hle
        have HL : Hid (tLoop S (n' + 1) low bl = (if bl then [32] else []) ++ tSpan low hi ++ tLoop S n' (hi + 1) true) := by
          show _ = _
          rw [tLoop, if_neg (by omega), if_pos hSl, hhi]
        clear hSl hhi
        have hal2 : acc.length + 1 ≤ 1000000 := by omega
        cases bl with
        | false =>
          have HE : Hid (acc ++ tSpan low hi ++ tLoop S n' (hi + 1) true = T0) := by
            show _ = _
            rw [← heq, HL.out]; simp
          clear heq hal HL
          go_wp2_with (first | (go_at_call 50; refine (appendSpan_any w5 base u0 (acc) low hi (by omega) (by omega) (buf_below (buf_below HB2.out hb3) hb5) (by omega) (by first | omega | (simp; omega))).mono ?_; rintro e w6 ⟨v6, rfl, hbuf6, hg6⟩; have HB6 : Hid _ := hbuf6; clear hbuf6) | (go_at_call 49; refine (hse _).mono ?_; rintro e w5 ⟨rfl, hb5⟩; have hz5 := hb5.size) | (go_at_call 48; refine (hh _).mono ?_; rintro e w3 ⟨rfl, hb3⟩; have hz3 := hb3.size; have hk3 := (hb3.block _ hsz).trans HK.out; have d0 : w3.cell? ⟨w.heap.size, 0, none⟩ = some (.int .u64 x0) := (by simp [World.cell?, hk3]); have d1 : w3.cell? ⟨w.heap.size, 1, none⟩ = some (.int .u64 x1) := (by simp [World.cell?, hk3]); have d2 : w3.cell? ⟨w.heap.size, 2, none⟩ = some (.int .u64 x2) := (by simp [World.cell?, hk3]); have d3 : w3.cell? ⟨w.heap.size, 3, none⟩ = some (.int .u64 x3) := (by simp [World.cell?, hk3]); have HK3 : Hid (SetBlk w3 w.heap.size x0 x1 x2 x3) := hk3; clear hk3))
          go_roundw
          case rel =>
            refine ⟨true, n', hi + 1, acc ++ tSpan low hi, rfl, by go_num, ⟨HB6.out, ((hgrew.below hb3).below hb5).trans hg6, ?_, ?_, ?_, by omega, by omega, HE.out⟩⟩
            · exact (hg6.g.block w.heap.size (by omega) (fun e => hown e.symm)).trans ((hb5.block _ (by omega)).trans HK3.out)
            · rcases hg6.o with e | ⟨k, e, hk⟩ <;> rw [e]
              · exact hown
              · intro q; injection q with q; omega
            · have := hg6.g.size; omega
          case measure => simp [intOf]; omega
        | true =>
          have HE : Hid (acc ++ [32] ++ tSpan low hi ++ tLoop S n' (hi + 1) true = T0) := by
            show _ = _
            rw [← heq, HL.out]; simp
          clear heq hal HL
          go_wp2_with (first | (at_builtin; refine wpList_append_own_at _ rfl (.tmp 21) (.tmp 22) 42 rfl base 5 i0 (.int .u8 0) 1 1 Tryd.underlying42 hi0 hz0 hz1 hz2 rfl (by decide) u0 (acc).length ((acc).map bv) rfl (((buf_below HB2.out hb3)).alloc _) ⟨w3.heap.size, 0, none⟩ 1 1 [bv 32] rfl rfl (by intro j u hj; cases j with | zero => (simp at hj; subst hj; simp [Addr.add, go_sem]) | succ j => simp at hj) (bv_one [32]) (by unfold maxLen; omega) (by omega) (by simp; omega) ?_) | (go_at_call 48; refine (hh _).mono ?_; rintro e w3 ⟨rfl, hb3⟩; have hz3 := hb3.size; have hk3 := (hb3.block _ hsz).trans HK.out; have d0 : w3.cell? ⟨w.heap.size, 0, none⟩ = some (.int .u64 x0) := (by simp [World.cell?, hk3]); have d1 : w3.cell? ⟨w.heap.size, 1, none⟩ = some (.int .u64 x1) := (by simp [World.cell?, hk3]); have d2 : w3.cell? ⟨w.heap.size, 2, none⟩ = some (.int .u64 x2) := (by simp [World.cell?, hk3]); have d3 : w3.cell? ⟨w.heap.size, 3, none⟩ = some (.int .u64 x3) := (by simp [World.cell?, hk3]); have HK3 : Hid (SetBlk w3 w.heap.size x0 x1 x2 x3) := hk3; clear hk3))
          intro v4 w4 hown4 hgr4 _ hob4
          have hG4 : Grew w w4 v v4 := ((hgrew.below hb3).alloc _).step hgr4 (by simpa using hob4)
          have hk4 : SetBlk w4 w.heap.size x0 x1 x2 x3 := (hgr4.block w.heap.size (by simp; omega) (fun e => hown e.symm)).trans ((Below.heap_alloc _ _ _ (by omega)).trans HK3.out)
          have hO4 : v4.ownBlock ≠ some w.heap.size := by
            rcases hob4 with e | e <;> rw [e]
            · exact hown
            · intro q; injection q with q; omega
          have hs4 : w3.heap.size ≤ w4.heap.size := by have := hgr4.size; simp at this; omega
          have HB4 : Hid (Buf w4 base v4 (acc ++ [32])) := by
            show Buf w4 base v4 (acc ++ [32])
            simpa [Buf] using hown4
          have e0 : w4.cell? ⟨w.heap.size, 0, none⟩ = some (.int .u64 x0) := by simp [World.cell?, hk4]
          have e1 : w4.cell? ⟨w.heap.size, 1, none⟩ = some (.int .u64 x1) := by simp [World.cell?, hk4]
          have e2 : w4.cell? ⟨w.heap.size, 2, none⟩ = some (.int .u64 x2) := by simp [World.cell?, hk4]
          have e3 : w4.cell? ⟨w.heap.size, 3, none⟩ = some (.int .u64 x3) := by simp [World.cell?, hk4]
          have HK4 : Hid (SetBlk w4 w.heap.size x0 x1 x2 x3) := hk4
          clear hown4 hgr4 hob4 hk4
          go_wp2_with (first | (go_at_call 50; refine (appendSpan_any w5 base v4 (acc ++ [32]) low hi (by omega) (by omega) (buf_below HB4.out hb5) (by omega) (by first | omega | (simp; omega))).mono ?_; rintro e w6 ⟨v6, rfl, hbuf6, hg6⟩; have HB6 : Hid _ := hbuf6; clear hbuf6) | (go_at_call 49; refine (hse _).mono ?_; rintro e w5 ⟨rfl, hb5⟩; have hz5 := hb5.size))
          go_roundw
          case rel =>
            refine ⟨true, n', hi + 1, acc ++ [32] ++ tSpan low hi, rfl, by go_num, ⟨HB6.out, (hG4.below hb5).trans hg6, ?_, ?_, ?_, by omega, by omega, HE.out⟩⟩
            · exact (hg6.g.block w.heap.size (by omega) (fun e => hO4 e.symm)).trans ((hb5.block _ (by omega)).trans HK4.out)
            · rcases hg6.o with e | ⟨k, e, hk⟩ <;> rw [e]
              · exact hO4
              · intro q; injection q with q; omega
            · have := hg6.g.size; omega
          case measure => simp [intOf]; omega
    · have hlt' : ¬ (low : Int) < 256 := by omega
      have HE : Hid (acc = T0) := by
        show _ = _
        rw [← heq, tLoop_end S _ _ _ (by omega)]; simp
      have hl2 : acc.length + 1 ≤ 1000000 := by rw [HE.out]; exact hTl
      go_wp2_with (at_builtin; refine wpList_append_own_at _ rfl (.tmp 32) (.tmp 33) 42 rfl base 5 i0 (.int .u8 0) 1 1 Tryd.underlying42 hi0 hz0 hz1 hz2 rfl (by decide) u0 (acc).length ((acc).map bv) rfl (HB2.out.alloc _) ⟨wr.heap.size, 0, none⟩ 1 1 [bv 62] rfl rfl (by intro j u hj; cases j with | zero => (simp at hj; subst hj; simp [Addr.add, go_sem]) | succ j => simp at hj) (bv_one [62]) (by unfold maxLen; omega) (by omega) (by simp; omega) ?_)
      intro v3 w3 hown3 hgr3 _ hob3
      go_wp2
      go_ret
      refine ⟨_, rfl, ?_, (hgrew.alloc _).step hgr3 (by simpa using hob3)⟩
      have e : bs ++ tBytes S = acc ++ [62] := by rw [HE.out, HT.out]; simp [tBytes]
      rw [e]
      simpa [Buf] using hown3
end Go.Proofs.YtbjabpodkaokjaaDoor

namespace Go.Proofs.YtbjabpodkaokjaaDoor
open Go.RowKit

/-- Whatever is no row of bytes is as it was. -/
structure Keeps (w w' : World) : Prop where
  size : w.heap.size ≤ w'.heap.size
  block : ∀ g, g < w.heap.size → (∀ cur, w.heap[g]? ≠ some (.cells cur 5 (0, 0))) → w'.heap[g]? = w.heap[g]?
theorem Keeps.refl (w : World) : Keeps w w := ⟨Nat.le_refl _, fun _ _ _ => rfl⟩
theorem Keeps.trans {x y z : World} (h : Keeps x y) (k : Keeps y z) : Keeps x z :=
  ⟨Nat.le_trans h.size k.size, fun g hg hn => by
    have e := h.block g hg hn
    exact (k.block g (Nat.lt_of_lt_of_le hg h.size) (fun cur => by rw [e]; exact hn cur)).trans e⟩
theorem Keeps.alloc {x w : World} (h : Keeps x w) (o : Obj) : Keeps x (w.alloc o) := h.trans ⟨by simp, fun g hg _ => Below.heap_alloc _ _ _ hg⟩
theorem Keeps.drew {x w : World} (h : Keeps x w) : Keeps x w.drew := ⟨h.size, h.block⟩
theorem Keeps.below {x w w' : World} (h : Keeps x w) (hb : Below w.heap.size w w') : Keeps x w' := h.trans ⟨hb.size, fun g hg _ => hb.block g hg⟩
theorem Keeps.grown {x w w' : World} {base : Nat} {v : Value} {bs : List UInt8} (h : Keeps x w) (hB : Buf w base v bs) (hg : w.grownBy w' v.ownBlock) : Keeps x w' := by
  refine h.trans ⟨hg.size, fun g hlt hn => hg.block g hlt (fun e => ?_)⟩
  obtain ⟨_, hr⟩ := hB
  rcases hr with ⟨rfl, _⟩ | ⟨k, cap, cur, rfl, _, hh, _⟩
  · simp [Value.ownBlock] at e
  · simp only [Value.ownBlock, Option.some.injEq] at e
    subst e
    exact hn cur hh

/-- The bytes bs have come to stand in v; the rest is as it was. -/
structure Out (base : Nat) (w w' : World) (v : Value) (bs : List UInt8) : Prop where
  buf : Buf w' base v bs
  bl : Below base w w'
  kp : Keeps w w'
theorem Out.trans {base : Nat} {x y z : World} {v v' : Value} {bs bs' : List UInt8} (h : Out base x y v bs) (k : Out base y z v' bs') : Out base x z v' bs' := ⟨k.buf, h.bl.trans k.bl, h.kp.trans k.kp⟩
theorem Out.of_grew {base : Nat} {w w' : World} {v v' : Value} {bs bs' : List UInt8} (hB : Buf w base v bs) (hb : base ≤ w.heap.size) (hB' : Buf w' base v' bs') (hg : Grew w w' v v') : Out base w w' v' bs' :=
  ⟨hB', (Below.refl base w).grown hg.g hb (fun k hk => (hB.lt k hk).1), (Keeps.refl w).grown hB hg.g⟩
theorem Out.start {base : Nat} {w : World} {v : Value} {bs : List UInt8} (h : Buf w base v bs) : Out base w w v bs := ⟨h, Below.refl _ _, Keeps.refl _⟩
theorem Out.alloc {base : Nat} {x w : World} {v : Value} {bs : List UInt8} (h : Out base x w v bs) (hb : base ≤ w.heap.size) (o : Obj) : Out base x (w.alloc o) v bs := ⟨h.buf.alloc _, h.bl.alloc hb _, h.kp.alloc _⟩
theorem Out.below {base : Nat} {x w w' : World} {v : Value} {bs : List UInt8} (h : Out base x w v bs) (hb : base ≤ w.heap.size) (hw : Below w.heap.size w w') : Out base x w' v bs := ⟨buf_below h.buf hw, h.bl.trans (hw.mono hb), h.kp.below hw⟩
theorem Out.grown {base : Nat} {x w w' : World} {v v' : Value} {bs bs' : List UInt8} (h : Out base x w v bs) (hb : base ≤ w.heap.size) (hg : w.grownBy w' v.ownBlock) (hB : Buf w' base v' bs') : Out base x w' v' bs' :=
  ⟨hB, h.bl.grown hg hb (fun k hk => (h.buf.lt k hk).1), h.kp.grown h.buf hg⟩

set_option maxRecDepth 100000 in
set_option maxHeartbeats 2000000 in
theorem small_any (i : Nat) (h : i ≤ 30) (w : World) :
    Calls Tryd.prog 77 #[.int .i64 i] w fun e w' => e = .returned (.string ⟨(tDec i).toArray⟩) ∧ w' = w := by
  have hi : i = 0 ∨ i = 1 ∨ i = 2 ∨ i = 3 ∨ i = 4 ∨ i = 5 ∨ i = 6 ∨ i = 7 ∨ i = 8 ∨ i = 9 ∨ i = 10 ∨ i = 11 ∨ i = 12 ∨ i = 13 ∨ i = 14 ∨ i = 15 ∨ i = 16 ∨ i = 17 ∨ i = 18 ∨ i = 19 ∨ i = 20 ∨ i = 21 ∨ i = 22 ∨ i = 23 ∨ i = 24 ∨ i = 25 ∨ i = 26 ∨ i = 27 ∨ i = 28 ∨ i = 29 ∨ i = 30 := by omega
  clear h
  rcases hi with rfl | rfl | rfl | rfl | rfl | rfl | rfl | rfl | rfl | rfl | rfl | rfl | rfl | rfl | rfl | rfl | rfl | rfl | rfl | rfl | rfl | rfl | rfl | rfl | rfl | rfl | rfl | rfl | rfl | rfl | rfl
  all_goals
    go_enter Tryd.func77, Tryd.ntmps77
    go_wp2
    go_ret
    exact ⟨by kernel_rfl, rfl⟩

theorem tDec_len (i : Nat) : (tDec i).length ≤ 2 := by unfold tDec; split <;> simp
theorem strCells_dec (bs : List UInt8) : Lib.strCells ⟨bs.toArray⟩ = bs.map bv := by
  simp [Lib.strCells]
theorem size_dec (bs : List UInt8) : (ByteArray.mk bs.toArray).size = bs.length := by simp [ByteArray.size]

set_option maxHeartbeats 1000000 in
theorem appendUint_any (w : World) (base : Nat) (v : Value) (bs : List UInt8) (i : Nat) (hi : i ≤ 30) (hB : Buf w base v bs) (hb : base ≤ w.heap.size) (hlen : bs.length ≤ 1000000) :
    Calls Tryd.prog 70 #[v, .int .u64 i, .int .i64 10] w fun e w' => ∃ v', e = .returned v' ∧ Out base w w' v' (bs ++ tDec i) := by
  obtain ⟨i0, hi0, hz0, hz1, hz2⟩ := info_parts Tryd.infoU8
  have hsm := fun w => small_any i hi w
  have HB : Hid (Buf w base v bs) := hB
  have hsd := size_dec (tDec i)
  have htl := tDec_len i
  obtain ⟨D, hD⟩ : ∃ D : ByteArray, D = ⟨(tDec i).toArray⟩ := ⟨_, rfl⟩
  rw [← hD] at hsm hsd
  have HD : Hid (D = ⟨(tDec i).toArray⟩) := hD
  have hsz : D.size ≤ 2 := by omega
  clear hB hD hsd
  have h100 : (i : Int) < 100 := by omega
  go_enter Tryd.func70, Tryd.ntmps70
  go_wp2_with (first | (at_builtin; refine Lib.wpList_append_own_string _ rfl (.tmp 13) (.tmp 16) 42 9 rfl base 5 i0 Tryd.underlying42 Tryd.underlying9 hi0 hz0 hz1 hz2 v bs.length (bs.map bv) rfl HB.out D rfl (by unfold maxLen; omega) (by omega) hb ?_) | (go_at_call 77; refine (hsm _).mono ?_; rintro e w2 ⟨rfl, hw⟩; obtain rfl := hw.symm))
  intro v' w' hown' hgr' _
  go_wp2
  go_ret
  refine ⟨_, rfl, (Out.start HB.out).grown hb hgr' ?_⟩
  have e := HD.out
  subst e
  rw [strCells_dec, size_dec] at hown'
  simpa [Buf] using hown'

set_option maxHeartbeats 1000000 in
theorem appendInt_in (w : World) (base : Nat) (v : Value) (bs : List UInt8) (i : Nat) (hi : i ≤ 30) (hB : Buf w base v bs) (hb : base ≤ w.heap.size) (hlen : bs.length ≤ 1000000) :
    Calls Tryd.prog 62 #[v, .int .i64 i, .int .i64 10] w fun e w' => ∃ v', e = .returned v' ∧ Out base w w' v' (bs ++ tDec i) := by
  have hu := appendUint_any w base v bs i hi hB hb hlen
  have HU : Hid (Calls Tryd.prog 70 #[v, .int .u64 i, .int .i64 10] w fun e w' => ∃ v', e = .returned v' ∧ Out base w w' v' (bs ++ tDec i)) := hu
  clear hu hB
  have h0 : ¬ (i : Int) < 0 := by omega
  have hw := wrap_small i (by omega)
  go_enter Tryd.func62, Tryd.ntmps62
  go_wp2_with (go_at_call 70; refine HU.out.mono ?_; rintro e w2 ⟨v2, rfl, hO⟩; have HO : Hid _ := hO; clear hO)
  go_ret
  exact ⟨_, rfl, HO.out⟩

set_option maxHeartbeats 1000000 in
theorem appendInt_any (w : World) (base : Nat) (v : Value) (bs : List UInt8) (i : Nat) (hi : i ≤ 30) (hB : Buf w base v bs) (hb : base ≤ w.heap.size) (hlen : bs.length ≤ 1000000) :
    Calls Tryd.prog 51 #[v, .int .i64 i, .int .i64 10] w fun e w' => ∃ v', e = .returned v' ∧ Out base w w' v' (bs ++ tDec i) := by
  have hu := appendInt_in w base v bs i hi hB hb hlen
  have HU : Hid (Calls Tryd.prog 62 #[v, .int .i64 i, .int .i64 10] w fun e w' => ∃ v', e = .returned v' ∧ Out base w w' v' (bs ++ tDec i)) := hu
  clear hu hB
  have h0 : ¬ (i : Int) < 0 := by omega
  have hw := wrap_small i (by omega)
  go_enter Tryd.func51, Tryd.ntmps51
  go_wp2_with (go_at_call 62; refine HU.out.mono ?_; rintro e w2 ⟨v2, rfl, hO⟩; have HO : Hid _ := hO; clear hO)
  go_ret
  exact ⟨_, rfl, HO.out⟩

end Go.Proofs.YtbjabpodkaokjaaDoor
