import Derived.Test.YtbjabpodkaokjaaGreatDoorJ20
set_option linter.unusedVariables false
set_option linter.unusedSimpArgs false
namespace Go.Proofs.YtbjabpodkaokjaaGreatDoor.Sx
open Go.RowKit

theorem tLoop_end (S : Nat → Bool) (n low : Nat) (b : Bool) (h : 256 ≤ low) : tLoop S n low b = [] := by
  cases n with
  | zero => rfl
  | succ n => simp [tLoop, h]
theorem one_new (w : World) (x : Value) (T : TypeId) : ∀ j u, [x][j]? = some u → (w.alloc (.cells #[x] T)).cell? ((⟨w.heap.size, 0, none⟩ : Addr).add j) = some u := by
  intro j u hj
  match j, hj with
  | 0, hj => simp at hj; subst hj; simp [Addr.add, go_sem]

theorem buf_below {w w' : World} {base : Nat} {v : Value} {bs : List UInt8} (h : Buf w base v bs) (hb : Below w.heap.size w w') : Buf w' base v bs := by
  refine World.ownsRow.kept h (row := none) ⟨hb.os, hb.tape, hb.output, hb.size, fun k hk _ => hb.block k hk⟩ ?_
  cases e : v.ownBlock with
  | none => exact .inl rfl
  | some k => exact .inr (by simp)

/-- The set's words lie in block g. -/
abbrev SetBlk (w : World) (g x0 x1 x2 x3 : Nat) : Prop := w.heap[g]? = some (.cells #[.int .u64 x0, .int .u64 x1, .int .u64 x2, .int .u64 x3] 226)

structure BytAt (w wr : World) (base : Nat) (v0 v : Value) (x0 x1 x2 x3 : Nat) (S : Nat → Bool) (T0 : List UInt8) (n low : Nat) (bl : Bool) (acc : List UInt8) : Prop where
  buf : Buf wr base v acc
  grew : Grew w wr v0 v
  blk : SetBlk wr w.heap.size x0 x1 x2 x3
  own : v.ownBlock ≠ some w.heap.size
  sz : w.heap.size < wr.heap.size
  hlow : low ≤ 256
  fuel : 256 < n + low
  heq : acc ++ tLoop S n low bl = T0

set_option maxHeartbeats 2000000 in
theorem appendBytes_any (w : World) (base : Nat) (v : Value) (bs : List UInt8) (x0 x1 x2 x3 : Nat) (S : Nat → Bool) (hS : Wd x0 x1 x2 x3 S) (hB : Buf w base v bs) (hb : base ≤ w.heap.size) (hlen : bs.length + (tBytes S).length ≤ 1000000) :
    Calls Tryz.prog 204 #[v, wv x0 x1 x2 x3] w fun e w' => ∃ v', e = .returned v' ∧ Buf w' base v' (bs ++ tBytes S) ∧ Grew w w' v v' := by
  obtain ⟨i0, hi0, hz0, hz1, hz2⟩ := info_parts Tryz.infoU8
  have HB : Hid (Buf w base v bs) := hB
  clear hB
  have hvo : v.ownBlock ≠ some w.heap.size := fun e => by have := (HB.out.lt _ e).2; omega
  have hl1 : bs.length + 1 ≤ 1000000 := by simp [tBytes] at hlen; omega
  go_enter Tryz.func204, Tryz.ntmps204
  go_wp2_with (at_builtin; refine wpList_append_own_at _ rfl (.tmp 8) (.tmp 9) 73 rfl base 5 i0 (.int .u8 0) 1 1 Tryz.underlying73 hi0 hz0 hz1 hz2 rfl (by decide) v (bs).length ((bs).map bv) rfl ((HB.out.alloc _).alloc _) ⟨w.heap.size + 1, 0, none⟩ 1 1 [bv 60] rfl rfl (by intro j u hj; cases j with | zero => (simp at hj; subst hj; simp [Addr.add, go_sem]) | succ j => simp at hj) (bv_one [60]) (by unfold maxLen; omega) (by omega) (by simp; omega) ?_)
  intro v1 w1 hown1 hgr1 _ hob1
  have hG1 : Grew w w1 v v1 := (((Grew.refl w v).alloc _).alloc _).step hgr1 (by simpa using hob1)
  have hK1 : SetBlk w1 w.heap.size x0 x1 x2 x3 := (hgr1.block w.heap.size (by simp; omega) (fun e => hvo e.symm)).trans ((Below.heap_alloc _ _ _ (by simp)).trans (heap_alloc_new _ _))
  have hO1 : v1.ownBlock ≠ some w.heap.size := by
    rcases hob1 with e | e <;> rw [e]
    · exact hvo
    · intro q; injection q with q; omega
  have HB1 : Hid (Buf w1 base v1 (bs ++ [60])) := by
    show Buf w1 base v1 (bs ++ [60])
    simpa [Buf] using hown1
  have hs1 : w.heap.size < w1.heap.size := by have := hgr1.size; simp at this; omega
  clear hown1 hgr1 hob1
  obtain ⟨T0, hT0⟩ : ∃ T0, T0 = bs ++ [60] ++ tLoop S 257 0 false := ⟨_, rfl⟩
  have hTl : T0.length + 1 ≤ 1000000 := by rw [hT0]; simp [tBytes] at hlen ⊢; omega
  have HT : Hid (T0 = bs ++ [60] ++ tLoop S 257 0 false) := hT0
  clear hT0
  go_wp2
  go_loopw [0, 5, 6] (fun vv bb i wr => ∃ (bl : Bool) (n low : Nat) (acc : List UInt8), bb = .bool bl ∧ i = .int .i64 low ∧ BytAt w wr base v vv x0 x1 x2 x3 S T0 n low bl acc) (fun _ _ i _ => 256 - (intOf i).toNat)
  case atStart => exact ⟨false, 257, 0, bs ++ [60], rfl, rfl, ⟨HB1.out, hG1, hK1, hO1, hs1, by omega, by omega, HT.out.symm⟩⟩
  case round =>
    clear hG1 hK1 hO1 hs1
    obtain ⟨bl, n, low, acc, rfl, rfl, ⟨hbuf, hgrew, hblk, hown, hsz, hlow, hfuel, heq⟩⟩ := hrel
    have HB2 : Hid (Buf wr base u0 acc) := hbuf
    have HK : Hid (SetBlk wr w.heap.size x0 x1 x2 x3) := hblk
    have c0 : wr.cell? ⟨w.heap.size, 0, none⟩ = some (.int .u64 x0) := by simp [World.cell?, hblk]
    have c1 : wr.cell? ⟨w.heap.size, 1, none⟩ = some (.int .u64 x1) := by simp [World.cell?, hblk]
    have c2 : wr.cell? ⟨w.heap.size, 2, none⟩ = some (.int .u64 x2) := by simp [World.cell?, hblk]
    have c3 : wr.cell? ⟨w.heap.size, 3, none⟩ = some (.int .u64 x3) := by simp [World.cell?, hblk]
    have hal : acc.length + (tLoop S n low bl).length = T0.length := by rw [← heq]; simp
    clear hbuf hblk
    obtain ⟨n', rfl⟩ : ∃ n', n = n' + 1 := ⟨n - 1, by omega⟩
    by_cases hlt : low < 256
    · have hlt' : (low : Int) < 256 := by omega
      have hh := fun w => has_any w x0 x1 x2 x3 low S (by omega) hS
      cases hSl : S low with
      | false =>
        rw [hSl] at hh
        have HE : Hid (acc ++ tLoop S n' (low + 1) bl = T0) := by
          show _ = _
          rw [← heq, tLoop, if_neg (by omega), if_neg (by simp [hSl])]
        clear hSl heq
        go_wp2_with (go_at_call 177; refine (hh _).mono ?_; rintro e w3 ⟨rfl, hb3⟩)
        go_roundw
        case rel => exact ⟨bl, n', low + 1, acc, rfl, by go_num, ⟨buf_below HB2.out hb3, hgrew.below hb3, (hb3.block _ hsz).trans HK.out, hown, Nat.lt_of_lt_of_le hsz hb3.size, by omega, by omega, HE.out⟩⟩
        case measure => simp [intOf]; omega
      | true =>
        rw [hSl] at hh
        have hse := fun w => spanEnd_any w x0 x1 x2 x3 low S (by omega) hS
        have hge := spanE_ge S 256 low
        have hle := spanE_le S 256 low (by omega)
        obtain ⟨hi, hhi⟩ : ∃ hi, hi = spanE S 256 low := ⟨_, rfl⟩
        rw [← hhi] at hse hge hle
        have HL : Hid (tLoop S (n' + 1) low bl = (if bl then [32] else []) ++ tSpan low hi ++ tLoop S n' (hi + 1) true) := by
          show _ = _
          rw [tLoop, if_neg (by omega), if_pos hSl, hhi]
        clear hSl hhi
        have hal2 : acc.length + 1 ≤ 1000000 := by omega
        cases bl with
        | false =>
          have HE : Hid (acc ++ tSpan low hi ++ tLoop S n' (hi + 1) true = T0) := by
            show _ = _
            rw [← heq, HL.out]; simp
          clear heq hal HL
          go_wp2_with (first | (go_at_call 216; refine (appendSpan_any w5 base u0 (acc) low hi (by omega) (by omega) (buf_below (buf_below HB2.out hb3) hb5) (by omega) (by first | omega | (simp; omega))).mono ?_; rintro e w6 ⟨v6, rfl, hbuf6, hg6⟩; have HB6 : Hid _ := hbuf6; clear hbuf6) | (go_at_call 215; refine (hse _).mono ?_; rintro e w5 ⟨rfl, hb5⟩; have hz5 := hb5.size) | (go_at_call 177; refine (hh _).mono ?_; rintro e w3 ⟨rfl, hb3⟩; have hz3 := hb3.size; have hk3 := (hb3.block _ hsz).trans HK.out; have d0 : w3.cell? ⟨w.heap.size, 0, none⟩ = some (.int .u64 x0) := (by simp [World.cell?, hk3]); have d1 : w3.cell? ⟨w.heap.size, 1, none⟩ = some (.int .u64 x1) := (by simp [World.cell?, hk3]); have d2 : w3.cell? ⟨w.heap.size, 2, none⟩ = some (.int .u64 x2) := (by simp [World.cell?, hk3]); have d3 : w3.cell? ⟨w.heap.size, 3, none⟩ = some (.int .u64 x3) := (by simp [World.cell?, hk3]); have HK3 : Hid (SetBlk w3 w.heap.size x0 x1 x2 x3) := hk3; clear hk3))
          go_roundw
          case rel =>
            refine ⟨true, n', hi + 1, acc ++ tSpan low hi, rfl, by go_num, ⟨HB6.out, ((hgrew.below hb3).below hb5).trans hg6, ?_, ?_, ?_, by omega, by omega, HE.out⟩⟩
            · exact (hg6.g.block w.heap.size (by omega) (fun e => hown e.symm)).trans ((hb5.block _ (by omega)).trans HK3.out)
            · rcases hg6.o with e | ⟨k, e, hk⟩ <;> rw [e]
              · exact hown
              · intro q; injection q with q; omega
            · have := hg6.g.size; omega
          case measure => simp [intOf]; omega
        | true =>
          have HE : Hid (acc ++ [32] ++ tSpan low hi ++ tLoop S n' (hi + 1) true = T0) := by
            show _ = _
            rw [← heq, HL.out]; simp
          clear heq hal HL
          go_wp2_with (first | (at_builtin; refine wpList_append_own_at _ rfl (.tmp 21) (.tmp 22) 73 rfl base 5 i0 (.int .u8 0) 1 1 Tryz.underlying73 hi0 hz0 hz1 hz2 rfl (by decide) u0 (acc).length ((acc).map bv) rfl (((buf_below HB2.out hb3)).alloc _) ⟨w3.heap.size, 0, none⟩ 1 1 [bv 32] rfl rfl (by intro j u hj; cases j with | zero => (simp at hj; subst hj; simp [Addr.add, go_sem]) | succ j => simp at hj) (bv_one [32]) (by unfold maxLen; omega) (by omega) (by simp; omega) ?_) | (go_at_call 177; refine (hh _).mono ?_; rintro e w3 ⟨rfl, hb3⟩; have hz3 := hb3.size; have hk3 := (hb3.block _ hsz).trans HK.out; have d0 : w3.cell? ⟨w.heap.size, 0, none⟩ = some (.int .u64 x0) := (by simp [World.cell?, hk3]); have d1 : w3.cell? ⟨w.heap.size, 1, none⟩ = some (.int .u64 x1) := (by simp [World.cell?, hk3]); have d2 : w3.cell? ⟨w.heap.size, 2, none⟩ = some (.int .u64 x2) := (by simp [World.cell?, hk3]); have d3 : w3.cell? ⟨w.heap.size, 3, none⟩ = some (.int .u64 x3) := (by simp [World.cell?, hk3]); have HK3 : Hid (SetBlk w3 w.heap.size x0 x1 x2 x3) := hk3; clear hk3))
          intro v4 w4 hown4 hgr4 _ hob4
          have hG4 : Grew w w4 v v4 := ((hgrew.below hb3).alloc _).step hgr4 (by simpa using hob4)
          have hk4 : SetBlk w4 w.heap.size x0 x1 x2 x3 := (hgr4.block w.heap.size (by simp; omega) (fun e => hown e.symm)).trans ((Below.heap_alloc _ _ _ (by omega)).trans HK3.out)
          have hO4 : v4.ownBlock ≠ some w.heap.size := by
            rcases hob4 with e | e <;> rw [e]
            · exact hown
            · intro q; injection q with q; omega
          have hs4 : w3.heap.size ≤ w4.heap.size := by have := hgr4.size; simp at this; omega
          have HB4 : Hid (Buf w4 base v4 (acc ++ [32])) := by
            show Buf w4 base v4 (acc ++ [32])
            simpa [Buf] using hown4
          have e0 : w4.cell? ⟨w.heap.size, 0, none⟩ = some (.int .u64 x0) := by simp [World.cell?, hk4]
          have e1 : w4.cell? ⟨w.heap.size, 1, none⟩ = some (.int .u64 x1) := by simp [World.cell?, hk4]
          have e2 : w4.cell? ⟨w.heap.size, 2, none⟩ = some (.int .u64 x2) := by simp [World.cell?, hk4]
          have e3 : w4.cell? ⟨w.heap.size, 3, none⟩ = some (.int .u64 x3) := by simp [World.cell?, hk4]
          have HK4 : Hid (SetBlk w4 w.heap.size x0 x1 x2 x3) := hk4
          clear hown4 hgr4 hob4 hk4
          go_wp2_with (first | (go_at_call 216; refine (appendSpan_any w5 base v4 (acc ++ [32]) low hi (by omega) (by omega) (buf_below HB4.out hb5) (by omega) (by first | omega | (simp; omega))).mono ?_; rintro e w6 ⟨v6, rfl, hbuf6, hg6⟩; have HB6 : Hid _ := hbuf6; clear hbuf6) | (go_at_call 215; refine (hse _).mono ?_; rintro e w5 ⟨rfl, hb5⟩; have hz5 := hb5.size))
          go_roundw
          case rel =>
            refine ⟨true, n', hi + 1, acc ++ [32] ++ tSpan low hi, rfl, by go_num, ⟨HB6.out, (hG4.below hb5).trans hg6, ?_, ?_, ?_, by omega, by omega, HE.out⟩⟩
            · exact (hg6.g.block w.heap.size (by omega) (fun e => hO4 e.symm)).trans ((hb5.block _ (by omega)).trans HK4.out)
            · rcases hg6.o with e | ⟨k, e, hk⟩ <;> rw [e]
              · exact hO4
              · intro q; injection q with q; omega
            · have := hg6.g.size; omega
          case measure => simp [intOf]; omega
    · have hlt' : ¬ (low : Int) < 256 := by omega
      have HE : Hid (acc = T0) := by
        show _ = _
        rw [← heq, tLoop_end S _ _ _ (by omega)]; simp
      have hl2 : acc.length + 1 ≤ 1000000 := by rw [HE.out]; exact hTl
      go_wp2_with (at_builtin; refine wpList_append_own_at _ rfl (.tmp 32) (.tmp 33) 73 rfl base 5 i0 (.int .u8 0) 1 1 Tryz.underlying73 hi0 hz0 hz1 hz2 rfl (by decide) u0 (acc).length ((acc).map bv) rfl (HB2.out.alloc _) ⟨wr.heap.size, 0, none⟩ 1 1 [bv 62] rfl rfl (by intro j u hj; cases j with | zero => (simp at hj; subst hj; simp [Addr.add, go_sem]) | succ j => simp at hj) (bv_one [62]) (by unfold maxLen; omega) (by omega) (by simp; omega) ?_)
      intro v3 w3 hown3 hgr3 _ hob3
      go_wp2
      go_ret
      refine ⟨_, rfl, ?_, (hgrew.alloc _).step hgr3 (by simpa using hob3)⟩
      have e : bs ++ tBytes S = acc ++ [62] := by rw [HE.out, HT.out]; simp [tBytes]
      rw [e]
      simpa [Buf] using hown3
end Go.Proofs.YtbjabpodkaokjaaGreatDoor.Sx

namespace Go.Proofs.YtbjabpodkaokjaaGreatDoor.Sx
open Go.RowKit

/-- Whatever is no row of bytes is as it was. -/
structure Keeps (w w' : World) : Prop where
  size : w.heap.size ≤ w'.heap.size
  block : ∀ g, g < w.heap.size → (∀ cur, w.heap[g]? ≠ some (.cells cur 5 (0, 0))) → w'.heap[g]? = w.heap[g]?
theorem Keeps.refl (w : World) : Keeps w w := ⟨Nat.le_refl _, fun _ _ _ => rfl⟩
theorem Keeps.trans {x y z : World} (h : Keeps x y) (k : Keeps y z) : Keeps x z :=
  ⟨Nat.le_trans h.size k.size, fun g hg hn => by
    have e := h.block g hg hn
    exact (k.block g (Nat.lt_of_lt_of_le hg h.size) (fun cur => by rw [e]; exact hn cur)).trans e⟩
theorem Keeps.alloc {x w : World} (h : Keeps x w) (o : Obj) : Keeps x (w.alloc o) := h.trans ⟨by simp, fun g hg _ => Below.heap_alloc _ _ _ hg⟩
theorem Keeps.drew {x w : World} (h : Keeps x w) : Keeps x w.drew := ⟨h.size, h.block⟩
theorem Keeps.below {x w w' : World} (h : Keeps x w) (hb : Below w.heap.size w w') : Keeps x w' := h.trans ⟨hb.size, fun g hg _ => hb.block g hg⟩
theorem Keeps.grown {x w w' : World} {base : Nat} {v : Value} {bs : List UInt8} (h : Keeps x w) (hB : Buf w base v bs) (hg : w.grownBy w' v.ownBlock) : Keeps x w' := by
  refine h.trans ⟨hg.size, fun g hlt hn => hg.block g hlt (fun e => ?_)⟩
  obtain ⟨_, hr⟩ := hB
  rcases hr with ⟨rfl, _⟩ | ⟨k, cap, cur, rfl, _, hh, _⟩
  · simp [Value.ownBlock] at e
  · simp only [Value.ownBlock, Option.some.injEq] at e
    subst e
    exact hn cur hh

/-- The bytes bs have come to stand in v; the rest is as it was. -/
structure Out (base : Nat) (w w' : World) (v : Value) (bs : List UInt8) : Prop where
  buf : Buf w' base v bs
  bl : Below base w w'
  kp : Keeps w w'
theorem Out.trans {base : Nat} {x y z : World} {v v' : Value} {bs bs' : List UInt8} (h : Out base x y v bs) (k : Out base y z v' bs') : Out base x z v' bs' := ⟨k.buf, h.bl.trans k.bl, h.kp.trans k.kp⟩
theorem Out.of_grew {base : Nat} {w w' : World} {v v' : Value} {bs bs' : List UInt8} (hB : Buf w base v bs) (hb : base ≤ w.heap.size) (hB' : Buf w' base v' bs') (hg : Grew w w' v v') : Out base w w' v' bs' :=
  ⟨hB', (Below.refl base w).grown hg.g hb (fun k hk => (hB.lt k hk).1), (Keeps.refl w).grown hB hg.g⟩
theorem Out.start {base : Nat} {w : World} {v : Value} {bs : List UInt8} (h : Buf w base v bs) : Out base w w v bs := ⟨h, Below.refl _ _, Keeps.refl _⟩
theorem Out.alloc {base : Nat} {x w : World} {v : Value} {bs : List UInt8} (h : Out base x w v bs) (hb : base ≤ w.heap.size) (o : Obj) : Out base x (w.alloc o) v bs := ⟨h.buf.alloc _, h.bl.alloc hb _, h.kp.alloc _⟩
theorem Out.below {base : Nat} {x w w' : World} {v : Value} {bs : List UInt8} (h : Out base x w v bs) (hb : base ≤ w.heap.size) (hw : Below w.heap.size w w') : Out base x w' v bs := ⟨buf_below h.buf hw, h.bl.trans (hw.mono hb), h.kp.below hw⟩
theorem Out.grown {base : Nat} {x w w' : World} {v v' : Value} {bs bs' : List UInt8} (h : Out base x w v bs) (hb : base ≤ w.heap.size) (hg : w.grownBy w' v.ownBlock) (hB : Buf w' base v' bs') : Out base x w' v' bs' :=
  ⟨hB, h.bl.grown hg hb (fun k hk => (h.buf.lt k hk).1), h.kp.grown h.buf hg⟩

set_option maxRecDepth 100000 in
set_option maxHeartbeats 2000000 in
theorem small_any (i : Nat) (h : i ≤ 30) (w : World) :
    Calls Tryz.prog 240 #[.int .i64 i] w fun e w' => e = .returned (.string ⟨(tDec i).toArray⟩) ∧ w' = w := by
  have hi : i = 0 ∨ i = 1 ∨ i = 2 ∨ i = 3 ∨ i = 4 ∨ i = 5 ∨ i = 6 ∨ i = 7 ∨ i = 8 ∨ i = 9 ∨ i = 10 ∨ i = 11 ∨ i = 12 ∨ i = 13 ∨ i = 14 ∨ i = 15 ∨ i = 16 ∨ i = 17 ∨ i = 18 ∨ i = 19 ∨ i = 20 ∨ i = 21 ∨ i = 22 ∨ i = 23 ∨ i = 24 ∨ i = 25 ∨ i = 26 ∨ i = 27 ∨ i = 28 ∨ i = 29 ∨ i = 30 := by omega
  clear h
  rcases hi with rfl | rfl | rfl | rfl | rfl | rfl | rfl | rfl | rfl | rfl | rfl | rfl | rfl | rfl | rfl | rfl | rfl | rfl | rfl | rfl | rfl | rfl | rfl | rfl | rfl | rfl | rfl | rfl | rfl | rfl | rfl
  all_goals
    go_enter Tryz.func240, Tryz.ntmps240
    go_wp2
    go_ret
    exact ⟨by kernel_rfl, rfl⟩

theorem tDec_len (i : Nat) : (tDec i).length ≤ 2 := by unfold tDec; split <;> simp
theorem strCells_dec (bs : List UInt8) : Lib.strCells ⟨bs.toArray⟩ = bs.map bv := by
  simp [Lib.strCells]
theorem size_dec (bs : List UInt8) : (ByteArray.mk bs.toArray).size = bs.length := by simp [ByteArray.size]

set_option maxHeartbeats 1000000 in
theorem appendUint_any (w : World) (base : Nat) (v : Value) (bs : List UInt8) (i : Nat) (hi : i ≤ 30) (hB : Buf w base v bs) (hb : base ≤ w.heap.size) (hlen : bs.length ≤ 1000000) :
    Calls Tryz.prog 233 #[v, .int .u64 i, .int .i64 10] w fun e w' => ∃ v', e = .returned v' ∧ Out base w w' v' (bs ++ tDec i) := by
  obtain ⟨i0, hi0, hz0, hz1, hz2⟩ := info_parts Tryz.infoU8
  have hsm := fun w => small_any i hi w
  have HB : Hid (Buf w base v bs) := hB
  have hsd := size_dec (tDec i)
  have htl := tDec_len i
  obtain ⟨D, hD⟩ : ∃ D : ByteArray, D = ⟨(tDec i).toArray⟩ := ⟨_, rfl⟩
  rw [← hD] at hsm hsd
  have HD : Hid (D = ⟨(tDec i).toArray⟩) := hD
  have hsz : D.size ≤ 2 := by omega
  clear hB hD hsd
  have h100 : (i : Int) < 100 := by omega
  go_enter Tryz.func233, Tryz.ntmps233
  go_wp2_with (first | (at_builtin; refine Lib.wpList_append_own_string _ rfl (.tmp 13) (.tmp 16) 73 9 rfl base 5 i0 Tryz.underlying73 Tryz.underlying9 hi0 hz0 hz1 hz2 v bs.length (bs.map bv) rfl HB.out D rfl (by unfold maxLen; omega) (by omega) hb ?_) | (go_at_call 240; refine (hsm _).mono ?_; rintro e w2 ⟨rfl, hw⟩; obtain rfl := hw.symm))
  intro v' w' hown' hgr' _
  go_wp2
  go_ret
  refine ⟨_, rfl, (Out.start HB.out).grown hb hgr' ?_⟩
  have e := HD.out
  subst e
  rw [strCells_dec, size_dec] at hown'
  simpa [Buf] using hown'

set_option maxHeartbeats 1000000 in
theorem appendInt_in (w : World) (base : Nat) (v : Value) (bs : List UInt8) (i : Nat) (hi : i ≤ 30) (hB : Buf w base v bs) (hb : base ≤ w.heap.size) (hlen : bs.length ≤ 1000000) :
    Calls Tryz.prog 227 #[v, .int .i64 i, .int .i64 10] w fun e w' => ∃ v', e = .returned v' ∧ Out base w w' v' (bs ++ tDec i) := by
  have hu := appendUint_any w base v bs i hi hB hb hlen
  have HU : Hid (Calls Tryz.prog 233 #[v, .int .u64 i, .int .i64 10] w fun e w' => ∃ v', e = .returned v' ∧ Out base w w' v' (bs ++ tDec i)) := hu
  clear hu hB
  have h0 : ¬ (i : Int) < 0 := by omega
  have hw := wrap_small i (by omega)
  go_enter Tryz.func227, Tryz.ntmps227
  go_wp2_with (go_at_call 233; refine HU.out.mono ?_; rintro e w2 ⟨v2, rfl, hO⟩; have HO : Hid _ := hO; clear hO)
  go_ret
  exact ⟨_, rfl, HO.out⟩

set_option maxHeartbeats 1000000 in
theorem appendInt_any (w : World) (base : Nat) (v : Value) (bs : List UInt8) (i : Nat) (hi : i ≤ 30) (hB : Buf w base v bs) (hb : base ≤ w.heap.size) (hlen : bs.length ≤ 1000000) :
    Calls Tryz.prog 217 #[v, .int .i64 i, .int .i64 10] w fun e w' => ∃ v', e = .returned v' ∧ Out base w w' v' (bs ++ tDec i) := by
  have hu := appendInt_in w base v bs i hi hB hb hlen
  have HU : Hid (Calls Tryz.prog 227 #[v, .int .i64 i, .int .i64 10] w fun e w' => ∃ v', e = .returned v' ∧ Out base w w' v' (bs ++ tDec i)) := hu
  clear hu hB
  have h0 : ¬ (i : Int) < 0 := by omega
  have hw := wrap_small i (by omega)
  go_enter Tryz.func217, Tryz.ntmps217
  go_wp2_with (go_at_call 227; refine HU.out.mono ?_; rintro e w2 ⟨v2, rfl, hO⟩; have HO : Hid _ := hO; clear hO)
  go_ret
  exact ⟨_, rfl, HO.out⟩

end Go.Proofs.YtbjabpodkaokjaaGreatDoor.Sx

namespace Go.Proofs.YtbjabpodkaokjaaGreatDoor.Sx
open Go.RowKit

theorem Out.app {base : Nat} {w wx w' : World} {v v' : Value} {bs : List UInt8} {c : UInt8} {o : Obj} (hO : Out base w wx v bs) (hb : base ≤ wx.heap.size) (hgr : (wx.alloc o).grownBy w' v.ownBlock)
    (hown : w'.ownsRow base 5 1 v' (bs.length + 1) (bs.map bv ++ [bv c])) : Out base w w' v' (bs ++ [c]) :=
  (hO.alloc hb o).grown (by simp; omega) hgr (by simpa [Buf] using hown)
theorem Out.sz {base : Nat} {w wx : World} {v : Value} {bs : List UInt8} (h : Out base w wx v bs) (hb : base ≤ w.heap.size) : base ≤ wx.heap.size := Nat.le_trans hb h.bl.size

/-- A block that is no row of bytes is still there. -/
theorem Keeps.cells {w w' : World} {g : Nat} {cs : Array Value} {T : TypeId} {fr : Nat × Nat} (h : Keeps w w') (hg : w.heap[g]? = some (.cells cs T fr)) (hT : T ≠ 5) : w'.heap[g]? = some (.cells cs T fr) := by
  have hlt : g < w.heap.size := by
    rcases Nat.lt_or_ge g w.heap.size with q | q
    · exact q
    · simp [Array.getElem?_eq_none q] at hg
  exact (h.block g hlt (fun cur e => by rw [hg] at e; injection e with e; injection e with _ e _; exact hT e)).trans hg
theorem cell_of {w : World} {g o : Nat} {cs : Array Value} {T : TypeId} {fr : Nat × Nat} (h : w.heap[g]? = some (.cells cs T fr)) : w.cell? ⟨g, o, none⟩ = cs[o]? := by simp [World.cell?, h]

abbrev cntV (c : Cnt) : Value := .agg #[.int .u8 c.sign.toNat, .int .i64 c.least, .int .i64 c.most]

set_option maxHeartbeats 1000000 in
theorem appendCount_s (w : World) (base : Nat) (v : Value) (bs : List UInt8) (c : Cnt) (hs : c.sign ≠ 123) (hB : Buf w base v bs) (hb : base ≤ w.heap.size) (hlen : bs.length + 20 ≤ 1000000) :
    Calls Tryz.prog 205 #[v, cntV c] w fun e w' => ∃ v', e = .returned v' ∧ Out base w w' v' (bs ++ tCount c) := by
  obtain ⟨i0, hi0, hz0, hz1, hz2⟩ := info_parts Tryz.infoU8
  obtain ⟨sg, le, mo⟩ := c
  have HT : Hid (tCount ⟨sg, le, mo⟩ = [sg]) := by show _ = _; simp only [tCount]; rw [if_neg hs]
  have n1 : ((sg.toNat : Int) != 123) = true := by simpa using u8_int (b := 123) hs
  have HO : Hid (Out base w w v bs) := Out.start hB
  clear hB hs
  go_enter Tryz.func205, Tryz.ntmps205
  go_wp2_with (at_builtin; refine wpList_append_own_at _ rfl (.tmp 5) (.tmp 8) 73 rfl base 5 i0 (.int .u8 0) 1 1 Tryz.underlying73 hi0 hz0 hz1 hz2 rfl (by decide) v (bs).length ((bs).map bv) rfl ((HO.out.buf.alloc _).alloc _) ⟨w.heap.size + 1, 0, none⟩ 1 1 [bv sg] rfl rfl (by intro j u hj; cases j with | zero => (simp at hj; subst hj; simp [Addr.add, go_sem]) | succ j => simp at hj) (bv_one [sg]) (by unfold maxLen; omega) (by omega) (by simp; omega) ?_)
  intro v1 w1 hown1 hgr1 _ hob1
  have HO1 : Hid (Out base w w1 v1 (bs ++ [sg])) := (HO.out.alloc hb _).app (by simp; omega) hgr1 hown1
  have hk := HO1.out
  have hblk : w1.heap[w.heap.size]? = some (.cells #[.int .u8 sg.toNat, .int .i64 le, .int .i64 mo] 282) :=
    (hgr1.block w.heap.size (by simp; omega) (fun e => by have := (HO.out.buf.lt _ e.symm).2; omega)).trans ((Below.heap_alloc _ _ _ (by simp)).trans (heap_alloc_new _ _))
  have c0 : w1.cell? ⟨w.heap.size, 0, none⟩ = some (.int .u8 sg.toNat) := by rw [cell_of hblk]; rfl
  clear hown1 hgr1 hob1 hk hblk
  go_wp2
  go_ret
  refine ⟨_, rfl, ?_⟩
  rw [HT.out]; exact HO1.out
theorem lt_of_blk {w : World} {g : Nat} {o : Obj} (h : w.heap[g]? = some o) : g < w.heap.size := by
  rcases Nat.lt_or_ge g w.heap.size with q | q
  · exact q
  · simp [Array.getElem?_eq_none q] at h
theorem own_ne {w : World} {base g : Nat} {v : Value} {bs : List UInt8} {cs : Array Value} {T : TypeId} {fr : Nat × Nat} (hB : Buf w base v bs) (hg : w.heap[g]? = some (.cells cs T fr)) (hT : T ≠ 5) : v.ownBlock ≠ some g := by
  obtain ⟨_, hr⟩ := hB
  rcases hr with ⟨rfl, _⟩ | ⟨k, cap, cur, rfl, _, hh, _⟩
  · simp [Value.ownBlock]
  · simp only [Value.ownBlock, ne_eq, Option.some.injEq]
    rintro rfl
    rw [hg] at hh; injection hh with e; injection e with _ e _; exact hT e

set_option maxHeartbeats 2000000 in
theorem appendCount_e (w : World) (base : Nat) (v : Value) (bs : List UInt8) (le : Nat) (hle : le ≤ 30) (hB : Buf w base v bs) (hb : base ≤ w.heap.size) (hlen : bs.length + 20 ≤ 1000000) :
    Calls Tryz.prog 205 #[v, cntV ⟨123, le, (-1)⟩] w fun e w' => ∃ v', e = .returned v' ∧ Out base w w' v' (bs ++ tCount ⟨123, le, (-1)⟩) := by
  obtain ⟨i0, hi0, hz0, hz1, hz2⟩ := info_parts Tryz.infoU8
  have HT : Hid (tCount ⟨123, le, (-1)⟩ = [123] ++ tDec le ++ [44] ++ [125]) := by show _ = _; simp [tCount]
  have HO : Hid (Out base w w v bs) := Out.start hB
  have htl := tDec_len le
  clear hB
  go_enter Tryz.func205, Tryz.ntmps205
  go_wp2_with (at_builtin; refine wpList_append_own_at _ rfl (.tmp 5) (.tmp 8) 73 rfl base 5 i0 (.int .u8 0) 1 1 Tryz.underlying73 hi0 hz0 hz1 hz2 rfl (by decide) v (bs).length ((bs).map bv) rfl ((HO.out.buf.alloc _).alloc _) ⟨w.heap.size + 1, 0, none⟩ 1 1 [bv 123] rfl rfl (by intro j u hj; cases j with | zero => (simp at hj; subst hj; simp [Addr.add, go_sem]) | succ j => simp at hj) (bv_one [123]) (by unfold maxLen; omega) (by omega) (by simp; omega) ?_)
  intro v1 w1 hown1 hgr1 _ hob1
  have HO1 : Hid (Out base w w1 v1 (bs ++ [123])) := (HO.out.alloc hb _).app (by simp; omega) hgr1 hown1
  have hblk : w1.heap[w.heap.size]? = some (.cells #[.int .u8 123, .int .i64 le, .int .i64 (-1)] 282) :=
    (hgr1.block w.heap.size (by simp; omega) (fun e => by have := (HO.out.buf.lt _ e.symm).2; omega)).trans ((Below.heap_alloc _ _ _ (by simp)).trans (heap_alloc_new _ _))
  have HK1 : Hid (w1.heap[w.heap.size]? = some (.cells #[.int .u8 123, .int .i64 le, .int .i64 (-1)] 282)) := hblk
  have c0 : w1.cell? ⟨w.heap.size, 0, none⟩ = some (.int .u8 123) := by rw [cell_of hblk]; rfl
  have c1 : w1.cell? ⟨w.heap.size, 1, none⟩ = some (.int .i64 le) := by rw [cell_of hblk]; rfl
  have hb1 : base ≤ w1.heap.size := HO1.out.sz hb
  clear hown1 hgr1 hob1 hblk
  go_wp2_with (first | (at_builtin; refine wpList_append_own_at _ rfl (.tmp 18) (.tmp 19) 73 rfl base 5 i0 (.int .u8 0) 1 1 Tryz.underlying73 hi0 hz0 hz1 hz2 rfl (by decide) v2 (bs ++ [123] ++ tDec le).length ((bs ++ [123] ++ tDec le).map bv) rfl (HO2.out.buf.alloc _) ⟨w2.heap.size, 0, none⟩ 1 1 [bv 44] rfl rfl (by intro j u hj; cases j with | zero => (simp at hj; subst hj; simp [Addr.add, go_sem]) | succ j => simp at hj) (bv_one [44]) (by unfold maxLen; omega) (by omega) (by simp; omega) ?_) | (go_at_call 217; refine (appendInt_any w1 base v1 (bs ++ [123]) le hle HO1.out.buf hb1 (by simp; omega)).mono ?_; rintro e w2 ⟨v2, rfl, hO2⟩; have HK2 : Hid (w2.heap[w.heap.size]? = some (.cells #[.int .u8 123, .int .i64 le, .int .i64 (-1)] 282)) := hO2.kp.cells HK1.out (by decide); have HO2 : Hid (Out base w w2 v2 (bs ++ [123] ++ tDec le)) := HO1.out.trans hO2; have hb2 : base ≤ w2.heap.size := HO2.out.sz hb; have hl3 : (bs ++ [123] ++ tDec le).length + 1 ≤ 1000000 := (by simp; omega); have ho2 : v2.ownBlock ≠ some w.heap.size := (own_ne hO2.buf HK2.out (by decide)); clear hO2))
  intro v3 w3 hown3 hgr3 _ hob3
  have HO3 : Hid (Out base w w3 v3 (bs ++ [123] ++ tDec le ++ [44])) := HO2.out.app hb2 hgr3 (by simpa using hown3)
  have hz2' : w.heap.size < w2.heap.size := lt_of_blk HK2.out
  have hblk3 := (hgr3.block w.heap.size (by simp; omega) (fun e => ho2 e.symm)).trans ((Below.heap_alloc _ _ _ hz2').trans HK2.out)
  have HK3 : Hid (w3.heap[w.heap.size]? = some (.cells #[.int .u8 123, .int .i64 le, .int .i64 (-1)] 282)) := hblk3
  have e2 : w3.cell? ⟨w.heap.size, 2, none⟩ = some (.int .i64 (-1)) := by rw [cell_of hblk3]; rfl
  have hb3 : base ≤ w3.heap.size := HO3.out.sz hb
  clear hown3 hgr3 hob3 hblk3
  have hl4 : (bs ++ [123] ++ tDec le ++ [44]).length + 1 ≤ 1000000 := by simp; omega
  go_wp2_with (at_builtin; refine wpList_append_own_at _ rfl (.tmp 28) (.tmp 29) 73 rfl base 5 i0 (.int .u8 0) 1 1 Tryz.underlying73 hi0 hz0 hz1 hz2 rfl (by decide) v3 (bs ++ [123] ++ tDec le ++ [44]).length ((bs ++ [123] ++ tDec le ++ [44]).map bv) rfl (HO3.out.buf.alloc _) ⟨w3.heap.size, 0, none⟩ 1 1 [bv 125] rfl rfl (by intro j u hj; cases j with | zero => (simp at hj; subst hj; simp [Addr.add, go_sem]) | succ j => simp at hj) (bv_one [125]) (by unfold maxLen; omega) (by omega) (by simp; omega) ?_)
  intro v5 w5 hown5 hgr5 _ hob5
  have HO5 : Hid (Out base w w5 v5 (bs ++ [123] ++ tDec le ++ [44] ++ [125])) := HO3.out.app hb3 hgr5 (by simpa using hown5)
  clear hown5 hgr5 hob5
  go_wp2
  go_ret
  refine ⟨_, rfl, ?_⟩
  have e : bs ++ tCount ⟨123, le, (-1)⟩ = bs ++ [123] ++ tDec le ++ [44] ++ [125] := by rw [HT.out]; simp
  rw [e]; exact HO5.out

set_option maxHeartbeats 2000000 in
theorem appendCount_m (w : World) (base : Nat) (v : Value) (bs : List UInt8) (le : Nat) (mo : Nat) (hmo : mo ≤ 30) (hle : le ≤ 30) (hB : Buf w base v bs) (hb : base ≤ w.heap.size) (hlen : bs.length + 20 ≤ 1000000) :
    Calls Tryz.prog 205 #[v, cntV ⟨123, le, ((mo : Nat) : Int)⟩] w fun e w' => ∃ v', e = .returned v' ∧ Out base w w' v' (bs ++ tCount ⟨123, le, ((mo : Nat) : Int)⟩) := by
  obtain ⟨i0, hi0, hz0, hz1, hz2⟩ := info_parts Tryz.infoU8
  have HT : Hid (tCount ⟨123, le, ((mo : Nat) : Int)⟩ = [123] ++ tDec le ++ [44] ++ tDec mo ++ [125]) := by show _ = _; simp only [tCount]; rw [if_pos trivial, if_neg (by omega)]; simp
  have HO : Hid (Out base w w v bs) := Out.start hB
  have htl := tDec_len le
  have htm := tDec_len mo
  have hmn : ((mo : Int) != -1) = true := by first | (simp; done) | (simp; omega)
  clear hB
  go_enter Tryz.func205, Tryz.ntmps205
  go_wp2_with (at_builtin; refine wpList_append_own_at _ rfl (.tmp 5) (.tmp 8) 73 rfl base 5 i0 (.int .u8 0) 1 1 Tryz.underlying73 hi0 hz0 hz1 hz2 rfl (by decide) v (bs).length ((bs).map bv) rfl ((HO.out.buf.alloc _).alloc _) ⟨w.heap.size + 1, 0, none⟩ 1 1 [bv 123] rfl rfl (by intro j u hj; cases j with | zero => (simp at hj; subst hj; simp [Addr.add, go_sem]) | succ j => simp at hj) (bv_one [123]) (by unfold maxLen; omega) (by omega) (by simp; omega) ?_)
  intro v1 w1 hown1 hgr1 _ hob1
  have HO1 : Hid (Out base w w1 v1 (bs ++ [123])) := (HO.out.alloc hb _).app (by simp; omega) hgr1 hown1
  have hblk : w1.heap[w.heap.size]? = some (.cells #[.int .u8 123, .int .i64 le, .int .i64 ((mo : Nat) : Int)] 282) :=
    (hgr1.block w.heap.size (by simp; omega) (fun e => by have := (HO.out.buf.lt _ e.symm).2; omega)).trans ((Below.heap_alloc _ _ _ (by simp)).trans (heap_alloc_new _ _))
  have HK1 : Hid (w1.heap[w.heap.size]? = some (.cells #[.int .u8 123, .int .i64 le, .int .i64 ((mo : Nat) : Int)] 282)) := hblk
  have c0 : w1.cell? ⟨w.heap.size, 0, none⟩ = some (.int .u8 123) := by rw [cell_of hblk]; rfl
  have c1 : w1.cell? ⟨w.heap.size, 1, none⟩ = some (.int .i64 le) := by rw [cell_of hblk]; rfl
  have hb1 : base ≤ w1.heap.size := HO1.out.sz hb
  clear hown1 hgr1 hob1 hblk
  go_wp2_with (first | (at_builtin; refine wpList_append_own_at _ rfl (.tmp 18) (.tmp 19) 73 rfl base 5 i0 (.int .u8 0) 1 1 Tryz.underlying73 hi0 hz0 hz1 hz2 rfl (by decide) v2 (bs ++ [123] ++ tDec le).length ((bs ++ [123] ++ tDec le).map bv) rfl (HO2.out.buf.alloc _) ⟨w2.heap.size, 0, none⟩ 1 1 [bv 44] rfl rfl (by intro j u hj; cases j with | zero => (simp at hj; subst hj; simp [Addr.add, go_sem]) | succ j => simp at hj) (bv_one [44]) (by unfold maxLen; omega) (by omega) (by simp; omega) ?_) | (go_at_call 217; refine (appendInt_any w1 base v1 (bs ++ [123]) le hle HO1.out.buf hb1 (by simp; omega)).mono ?_; rintro e w2 ⟨v2, rfl, hO2⟩; have HK2 : Hid (w2.heap[w.heap.size]? = some (.cells #[.int .u8 123, .int .i64 le, .int .i64 ((mo : Nat) : Int)] 282)) := hO2.kp.cells HK1.out (by decide); have HO2 : Hid (Out base w w2 v2 (bs ++ [123] ++ tDec le)) := HO1.out.trans hO2; have hb2 : base ≤ w2.heap.size := HO2.out.sz hb; have hl3 : (bs ++ [123] ++ tDec le).length + 1 ≤ 1000000 := (by simp; omega); have ho2 : v2.ownBlock ≠ some w.heap.size := (own_ne hO2.buf HK2.out (by decide)); clear hO2))
  intro v3 w3 hown3 hgr3 _ hob3
  have HO3 : Hid (Out base w w3 v3 (bs ++ [123] ++ tDec le ++ [44])) := HO2.out.app hb2 hgr3 (by simpa using hown3)
  have hz2' : w.heap.size < w2.heap.size := lt_of_blk HK2.out
  have hblk3 := (hgr3.block w.heap.size (by simp; omega) (fun e => ho2 e.symm)).trans ((Below.heap_alloc _ _ _ hz2').trans HK2.out)
  have HK3 : Hid (w3.heap[w.heap.size]? = some (.cells #[.int .u8 123, .int .i64 le, .int .i64 ((mo : Nat) : Int)] 282)) := hblk3
  have e2 : w3.cell? ⟨w.heap.size, 2, none⟩ = some (.int .i64 ((mo : Nat) : Int)) := by rw [cell_of hblk3]; rfl
  have hb3 : base ≤ w3.heap.size := HO3.out.sz hb
  clear hown3 hgr3 hob3 hblk3
  have hl4 : (bs ++ [123] ++ tDec le ++ [44] ++ tDec mo).length + 1 ≤ 1000000 := by simp; omega
  go_wp2_with (first | (at_builtin; refine wpList_append_own_at _ rfl (.tmp 28) (.tmp 29) 73 rfl base 5 i0 (.int .u8 0) 1 1 Tryz.underlying73 hi0 hz0 hz1 hz2 rfl (by decide) v4 (bs ++ [123] ++ tDec le ++ [44] ++ tDec mo).length ((bs ++ [123] ++ tDec le ++ [44] ++ tDec mo).map bv) rfl (HO4.out.buf.alloc _) ⟨w4.heap.size, 0, none⟩ 1 1 [bv 125] rfl rfl (by intro j u hj; cases j with | zero => (simp at hj; subst hj; simp [Addr.add, go_sem]) | succ j => simp at hj) (bv_one [125]) (by unfold maxLen; omega) (by omega) (by simp; omega) ?_) | (go_at_call 217; refine (appendInt_any w3 base v3 (bs ++ [123] ++ tDec le ++ [44]) mo hmo HO3.out.buf hb3 (by simp; omega)).mono ?_; rintro e w4 ⟨v4, rfl, hO4⟩; have HO4 : Hid (Out base w w4 v4 (bs ++ [123] ++ tDec le ++ [44] ++ tDec mo)) := HO3.out.trans hO4; have hb4 : base ≤ w4.heap.size := HO4.out.sz hb; clear hO4))
  intro v5 w5 hown5 hgr5 _ hob5
  have HO5 : Hid (Out base w w5 v5 (bs ++ [123] ++ tDec le ++ [44] ++ tDec mo ++ [125])) := HO4.out.app hb4 hgr5 (by simpa using hown5)
  clear hown5 hgr5 hob5
  go_wp2
  go_ret
  refine ⟨_, rfl, ?_⟩
  have e : bs ++ tCount ⟨123, le, ((mo : Nat) : Int)⟩ = bs ++ [123] ++ tDec le ++ [44] ++ tDec mo ++ [125] := by rw [HT.out]; simp
  rw [e]; exact HO5.out

end Go.Proofs.YtbjabpodkaokjaaGreatDoor.Sx

namespace Go.Proofs.YtbjabpodkaokjaaGreatDoor.Sx
open Go.RowKit

/-- A count that the text can be told of. -/
def okCnt (c : Cnt) : Prop := c.sign ≠ 123 ∨ (0 ≤ c.least ∧ c.least ≤ 30 ∧ -1 ≤ c.most ∧ c.most ≤ 30)
theorem appendCount_any (w : World) (base : Nat) (v : Value) (bs : List UInt8) (c : Cnt) (hc : okCnt c) (hB : Buf w base v bs) (hb : base ≤ w.heap.size) (hlen : bs.length + 20 ≤ 1000000) :
    Calls Tryz.prog 205 #[v, cntV c] w fun e w' => ∃ v', e = .returned v' ∧ Out base w w' v' (bs ++ tCount c) := by
  by_cases hs : c.sign = 123
  · rcases hc with h | ⟨h1, h2, h3, h4⟩
    · exact absurd hs h
    · obtain ⟨sg, le, mo⟩ := c
      simp only at hs h1 h2 h3 h4
      subst hs
      obtain ⟨l, rfl⟩ : ∃ l : Nat, le = l := ⟨le.toNat, by omega⟩
      by_cases hm : mo = -1
      · subst hm; exact appendCount_e w base v bs l (by omega) hB hb hlen
      · obtain ⟨m, rfl⟩ : ∃ m : Nat, mo = m := ⟨mo.toNat, by omega⟩
        exact appendCount_m w base v bs l m (by omega) (by omega) hB hb hlen
  · exact appendCount_s w base v bs c hs hB hb hlen
theorem tCount_len (c : Cnt) : (tCount c).length ≤ 20 := by
  unfold tCount
  have := tDec_len c.least.toNat
  have := tDec_len c.most.toNat
  split
  · split <;> simp <;> omega
  · simp

/-- The cells of a row, one by one. -/
theorem RowIn.cell {w : World} {S : Nat → Prop} {e : TypeId} {size : Nat} {g : Nat} {n cap : Nat} {xs : List Value} (h : RowIn w S e size (.slice (some ⟨g, 0, none⟩) n cap) n xs) (j : Nat) (hj : j < n * size) : w.cell? ⟨g, j, none⟩ = xs[j]? := by
  obtain ⟨h1, h2⟩ := h
  rcases h2 with ⟨h2, _⟩ | ⟨g', cap', cur, hv, hS, hh, hn, hm, hs, ht⟩
  · simp at h2
  · injection hv with hv _ _
    injection hv with hv; injection hv with hv _ _
    subst hv
    rw [cell_of hh, ← ht, List.getElem?_take]
    simp [hj]
theorem RowIn.form {w : World} {S : Nat → Prop} {e : TypeId} {size : Nat} {v : Value} {n : Nat} {xs : List Value} (h : RowIn w S e size v n xs) (hn : 0 < n) : ∃ g cap, v = .slice (some ⟨g, 0, none⟩) n cap ∧ S g ∧ n ≤ cap ∧ cap ≤ maxLen := by
  obtain ⟨h1, h2⟩ := h
  rcases h2 with ⟨_, h2⟩ | ⟨g', cap', cur, hv, hS, hh, hn', hm, hs, ht⟩
  · omega
  · exact ⟨g', cap', hv, hS, hn', hm⟩
theorem RowIn.nilForm {w : World} {S : Nat → Prop} {e : TypeId} {size : Nat} {v : Value} {xs : List Value} (h : RowIn w S e size v 0 xs) : ∃ a c, v = .slice a 0 c := by
  obtain ⟨h1, h2⟩ := h
  rcases h2 with ⟨rfl, _⟩ | ⟨g', cap', cur, hv, _⟩
  · exact ⟨_, _, rfl⟩
  · exact ⟨_, _, hv⟩
theorem cntCells_at (cs : List Cnt) (k : Nat) (hk : k < cs.length) : (cs.flatMap cntCells)[k * 3]? = some (.int .u8 cs[k].sign.toNat) ∧ (cs.flatMap cntCells)[k * 3 + 1]? = some (.int .i64 cs[k].least) ∧ (cs.flatMap cntCells)[k * 3 + 2]? = some (.int .i64 cs[k].most) := by
  induction cs generalizing k with
  | nil => simp at hk
  | cons c cs ih =>
    cases k with
    | zero => simp [cntCells]
    | succ k =>
      have := ih k (by simpa using hk)
      have e1 : (k + 1) * 3 = k * 3 + 3 := by omega
      simp only [e1, List.flatMap_cons, List.getElem_cons_succ]
      simp only [cntCells] at this ⊢
      simpa using this
theorem flat_len (l : List Cnt) : (l.flatMap tCount).length ≤ 20 * l.length := by
  induction l with
  | nil => simp
  | cons c l ih => have := tCount_len c; rw [List.flatMap_cons, List.length_append, List.length_cons]; omega
theorem flat_take (cs : List Cnt) (k : Nat) : ((cs.take k).flatMap tCount).length ≤ 20 * k := by
  have h2 := flat_len (cs.take k)
  have h3 : (cs.take k).length ≤ k := List.length_take_le _ _
  omega
theorem flat_snoc (cs : List Cnt) (k : Nat) (h : k < cs.length) : (cs.take (k + 1)).flatMap tCount = (cs.take k).flatMap tCount ++ tCount cs[k] := by
  rw [List.take_succ_eq_append_getElem h, List.flatMap_append]; simp
end Go.Proofs.YtbjabpodkaokjaaGreatDoor.Sx
