import Derived.Test.YtbjabpodkaokjaaJ05
import Derived.Test.YtbjabpodkaokjaaJ01
import Derived.Maps.AppendAt
import Derived.Deep.AppendLies
import Derived.Lib.AppendStr
set_option linter.unusedVariables false
set_option linter.unusedSimpArgs false
namespace Go.Proofs.Ytbjabpodkaokjaa
open Go.RowKit

theorem ret_i {k : IntKind} {a b : Int} (h : a = b) : Ending.returned (.int k a) = .returned (.int k b) := by rw [h]
abbrev eU (c : UInt8) : Value := .int .u8 c.toNat
theorem bits_and_u32_one (r : Nat) (h : r < 4294967296) : bits .and .u32 (r : Int) 1 = ((r % 2 : Nat) : Int) := by
  have e1 : (1 : Int) = ((1 : Nat) : Int) := rfl
  have := (bits_nat .u32 32 (by decide) (fun n h1 h2 => by rw [IntKind.wrap_u32]; omega) r 1 h (by omega)).1
  rw [e1, this, Nat.and_one_is_mod]
theorem pstep_eq (r : Nat) (h : r < 4294967296) : bits .xor .u32 ((r : Int) / 2) (IntKind.u32.wrap (3988292384 * bits .and .u32 (r : Int) 1)) = ((pStep r : Nat) : Int) := by
  rw [bits_and_u32_one r h]
  have e : IntKind.u32.wrap (3988292384 * ((r % 2 : Nat) : Int)) = ((3988292384 * (r % 2) : Nat) : Int) := by
    rw [IntKind.wrap_u32]; omega
  rw [e, show (r : Int) / 2 = ((r / 2 : Nat) : Int) by omega, bits_xor_u32 _ _ (by omega) (by omega)]
  rfl

set_option maxRecDepth 4000 in
set_option maxHeartbeats 1000000 in
theorem sum_any (w : World) (v : Value) (l : List UInt8) (hv : RowE eU w v l) (hl : l.length ≤ 1000000) :
    Calls Try.prog 48 #[v] w fun e w' => e = .returned (.int .u32 (crc l)) ∧ w' = w := by
  obtain ⟨a, c, hform⟩ := hv.form
  subst hform
  obtain ⟨n, hn⟩ : ∃ n, n = l.length := ⟨_, rfl⟩
  have HN : Hid (n = l.length) := hn
  rw [← hn] at hl ⊢
  have HV : Hid (RowE eU w (.slice a n c) l) := by show RowE _ _ _ _; rw [hn]; exact hv
  clear hn hv
  go_enter Try.func48, Try.ntmps48
  go_wp2
  go_loop [3, 9] (fun r i => ∃ k x : Nat, i = .int .i64 k ∧ r = .int .u32 x ∧ k ≤ n ∧ x < 4294967296 ∧ x = crcF 4294967295 (l.take k)) (fun _ i => n - (intOf i).toNat)
  case atStart => exact ⟨0, 4294967295, rfl, rfl, Nat.zero_le _, by omega, rfl⟩
  case round =>
    obtain ⟨k, x, rfl, rfl, hk, hx, hxe⟩ := hrel
    have HX : Hid (x = crcF 4294967295 (l.take k)) := hxe
    clear hxe
    by_cases hlt : k < n
    · have hlt1 : k < l.length := by have := HN.out; omega
      have hltI : (k : Int) < n := by omega
      obtain ⟨b, o, c', hform, hcell⟩ := HV.out.nonnil (by omega)
      injection hform with e1 e2 e3
      subst e1
      have hck := hcell k hlt1
      obtain ⟨z, hz⟩ : ∃ z, z = l[k] := ⟨_, rfl⟩
      rw [← hz] at hck
      have hz8 := z.toNat_lt
      have HZ : Hid (crcF 4294967295 (l.take (k + 1)) = crcN z.toNat 8 x) := by
        show _ = _
        rw [List.take_succ_eq_append_getElem hlt1, crcF_snoc, ← hz, HX.out]
      have hxz := bits_xor_u32 x z.toNat hx (by omega)
      have hxl : x ^^^ z.toNat < 4294967296 := xor32 hx (by omega)
      clear hcell hz e2 e3
      go_wp2
      go_loop [3, 17] (fun r i => ∃ j y : Nat, i = .int .i64 j ∧ r = .int .u32 y ∧ j ≤ 8 ∧ y < 4294967296 ∧ y = pN (x ^^^ z.toNat) j) (fun _ i => 8 - (intOf i).toNat)
      case atStart => exact ⟨0, x ^^^ z.toNat, rfl, rfl, by omega, hxl, rfl⟩
      case round =>
        obtain ⟨j, y, rfl, rfl, hj, hy, hye⟩ := hrel
        have HY : Hid (y = pN (x ^^^ z.toNat) j) := hye
        clear hye
        by_cases hj8 : j < 8
        · have hj8I : (j : Int) < 8 := by omega
          have HP : Hid _ := pstep_eq y hy
          go_wp2
          go_round
          case rel => exact ⟨j + 1, pStep y, by go_num, by rw [← HP.out, IntKind.wrap_u32], by omega, pStep_lt _ hy, by rw [HY.out]; rfl⟩
          case measure => simp [intOf] <;> omega
        · have hj8I : ¬ (j : Int) < 8 := by omega
          have HE : Hid (y = crcF 4294967295 (l.take (k + 1))) := by
            show _ = _
            rw [HY.out, HZ.out, show j = 8 by omega, pN_byte]
          go_wp2
          go_round
          case rel => exact ⟨k + 1, y, by go_num, rfl, by omega, hy, HE.out⟩
          case measure => simp [intOf] <;> omega
    · have hkI : ¬ (k : Int) < n := by omega
      have HE : Hid (bits .xor .u32 4294967295 (x : Int) = ((crc l : Nat) : Int)) := by
        show _ = _
        have e := bits_xor_u32 4294967295 x (by omega) hx
        rw [show ((4294967295 : Nat) : Int) = 4294967295 from rfl] at e
        rw [e, not32 x hx, crc, HX.out, List.take_of_length_le (by have := HN.out; omega)]
      go_wp2
      go_ret
      exact ⟨ret_i HE.out, rfl⟩
end Go.Proofs.Ytbjabpodkaokjaa

namespace Go.Proofs.Ytbjabpodkaokjaa
open Go.RowKit

/-- The slice v is a row of its own (from block base on) that holds the bytes bs. -/
abbrev Bf (w : World) (base : Nat) (v : Value) (bs : List UInt8) : Prop := w.ownsRow base 5 1 v bs.length (bs.map eU)
theorem eU_one (l : List UInt8) : ∀ u ∈ l.map eU, u.oneCell' = true := by
  intro u hu
  obtain ⟨c, _, rfl⟩ := List.mem_map.1 hu
  rfl
theorem strCells_ba (bs : List UInt8) : Lib.strCells (ba bs) = bs.map eU := by simp [Lib.strCells]
/-- What is no row of bytes, and not block g, is as it was. -/
structure Wst (g : Nat) (w w' : World) : Prop where
  bl : Below g w w'
  kp : ∀ k, k < w.heap.size → k ≠ g → (∀ cur, w.heap[k]? ≠ some (.cells cur 5 (0, 0))) → w'.heap[k]? = w.heap[k]?
theorem Wst.refl (g : Nat) (w : World) : Wst g w w := ⟨Below.refl _ _, fun _ _ _ _ => rfl⟩
theorem Wst.trans {g : Nat} {x y z : World} (h : Wst g x y) (k : Wst g y z) : Wst g x z :=
  ⟨h.bl.trans k.bl, fun j h1 h2 h3 => by
    have e := h.kp j h1 h2 h3
    exact (k.kp j (Nat.lt_of_lt_of_le h1 h.bl.size) h2 (fun cur => by rw [e]; exact h3 cur)).trans e⟩
theorem Wst.drew {g : Nat} {x w : World} (h : Wst g x w) : Wst g x w.drew := ⟨h.bl.drew, h.kp⟩
theorem Wst.alloc {g : Nat} {x w : World} (h : Wst g x w) (hg : g ≤ w.heap.size) (o : Obj) : Wst g x (w.alloc o) :=
  h.trans ⟨(Below.refl g w).alloc hg _, fun k hk _ _ => Below.heap_alloc _ _ _ hk⟩
theorem Wst.set {g : Nat} {x w : World} (h : Wst g x w) (o : Nat) (v : Value) : Wst g x (w.setCell ⟨g, o, none⟩ v) :=
  h.trans ⟨(Below.refl g w).setCell (p := ⟨g, o, none⟩) (Nat.le_refl _) _, fun k _ hne _ => Below.heap_setCell _ _ _ _ hne⟩
theorem Wst.grown {g : Nat} {x w w' : World} {v : Value} {bs : List UInt8} (h : Wst g x w) (hB : Bf w (g + 1) v bs) (hg : w.grownBy w' v.ownBlock) (hgl : g ≤ w.heap.size) : Wst g x w' := by
  refine h.trans ⟨(Below.refl g w).grown hg hgl (fun k hk => by have := (hB.lt k hk).1; omega), fun k hk _ hn => hg.block k hk (fun e => ?_)⟩
  obtain ⟨_, hr⟩ := hB
  rcases hr with ⟨rfl, _⟩ | ⟨k', cap, cur, rfl, _, hh, _⟩
  · simp [Value.ownBlock] at e
  · simp only [Value.ownBlock, Option.some.injEq] at e
    subst e
    exact hn cur hh
theorem Wst.below {g : Nat} {x w w' : World} (h : Wst g x w) (hb : Below w.heap.size w w') (hg : g ≤ w.heap.size) : Wst g x w' :=
  h.trans ⟨hb.mono hg, fun k hk _ _ => hb.block k hk⟩
/-- A writer in block g. -/
structure Wr (w : World) (g : Nat) (big : Bool) (v : Value) (bs : List UInt8) : Prop where
  c0 : w.cell? ⟨g, 0, none⟩ = some (.bool big)
  c1 : w.cell? ⟨g, 1, none⟩ = some v
  fz : ∀ o, w.frozen? ⟨g, o, none⟩ = false
  buf : Bf w (g + 1) v bs
theorem Wr.lt {w : World} {g : Nat} {big : Bool} {v : Value} {bs : List UInt8} (h : Wr w g big v bs) : g < w.heap.size := cell_lt h.c0
theorem cell_of_block {w w' : World} {g : Nat} (e : w'.heap[g]? = w.heap[g]?) (o : Nat) : w'.cell? ⟨g, o, none⟩ = w.cell? ⟨g, o, none⟩ := by simp [World.cell?, e]
theorem frozen_of_block {w w' : World} {g : Nat} (e : w'.heap[g]? = w.heap[g]?) (o : Nat) : w'.frozen? ⟨g, o, none⟩ = w.frozen? ⟨g, o, none⟩ := by simp [World.frozen?, e]
/-- The writer behind an append. -/
theorem Wr.put {w wa w1 : World} {g : Nat} {big : Bool} {v v' : Value} {bs bs' : List UInt8} (h : Wr w g big v bs) (ha : Below w.heap.size w wa) (hg : wa.grownBy w1 v.ownBlock) (hB : Bf w1 (g + 1) v' bs') : Wr (w1.setCell ⟨g, 1, none⟩ v') g big v' bs' ∧ w1.cell? ⟨g, 1, none⟩ = some v ∧ w1.frozen? ⟨g, 1, none⟩ = false ∧ Wst g w (w1.setCell ⟨g, 1, none⟩ v') := by
  have hlt := h.lt
  have hsz := ha.size
  have hne : some g ≠ v.ownBlock := fun e => by have := (h.buf.lt g e.symm).1; omega
  have e1 : w1.heap[g]? = w.heap[g]? := (hg.block g (by omega) hne).trans (ha.block g hlt)
  have hc1 := (cell_of_block e1 1).trans h.c1
  have hBa : Bf wa (g + 1) v bs := World.ownsRow.kept h.buf (row := none) ⟨ha.os, ha.tape, ha.output, ha.size, fun k hk _ => ha.block k hk⟩ (by
    cases e : v.ownBlock with
    | none => exact .inl rfl
    | some k => exact .inr (by simp))
  refine ⟨⟨?_, ?_, fun o => ?_, ?_⟩, hc1, (frozen_of_block e1 1).trans (h.fz 1), (((Wst.refl g w).below ha (by omega)).grown hBa hg (by omega)).set 1 v'⟩
  · rw [World.cell?_setCell_other _ _ _ _ (by simp)]; exact (cell_of_block e1 0).trans h.c0
  · exact World.cell?_setCell_same _ _ _ hc1
  · rw [World.frozen?_setCell]; exact (frozen_of_block e1 o).trans (h.fz o)
  · refine World.ownsRow.kept hB (row := some g) ⟨rfl, rfl, rfl, by simp [World.setCell], fun k _ hk => Below.heap_setCell _ _ _ _ (fun e => hk (by rw [e]))⟩ ?_
    exact .inr (fun e => by have := (hB.lt g e).1; omega)
theorem Wr.below {w w' : World} {g : Nat} {big : Bool} {v : Value} {bs : List UInt8} (h : Wr w g big v bs) (hb : Below w.heap.size w w') : Wr w' g big v bs := by
  have e1 := hb.block g h.lt
  refine ⟨(cell_of_block e1 0).trans h.c0, (cell_of_block e1 1).trans h.c1, fun o => (frozen_of_block e1 o).trans (h.fz o), World.ownsRow.kept h.buf (row := none) ⟨hb.os, hb.tape, hb.output, hb.size, fun k hk _ => hb.block k hk⟩ ?_⟩
  cases e : v.ownBlock with
  | none => exact .inl rfl
  | some k => exact .inr (by simp)
/-- What a call of the writer's leaves. -/
def WrOut (g : Nat) (big : Bool) (w : World) (bs : List UInt8) (w' : World) : Prop := (∃ v, Wr w' g big v bs) ∧ Wst g w w'
theorem one_cell_new (w : World) (x : Value) (T : TypeId) : ∀ j u, [x][j]? = some u → (w.alloc (.cells #[x] T)).cell? ((⟨w.heap.size, 0, none⟩ : Addr).add j) = some u := by
  intro j u hj
  match j, hj with
  | 0, hj => simp at hj; subst hj; simp [Addr.add, go_sem]

set_option maxHeartbeats 1000000 in
theorem small_w (w : World) (g : Nat) (big : Bool) (v : Value) (bs : List UInt8) (c : UInt8) (h : Wr w g big v bs) (hl : bs.length ≤ 1000000) :
    Calls Try.prog 43 #[.pointer (some ⟨g, 0, none⟩), .int .u8 c.toNat] w fun e w' => e = .returned (.tuple #[]) ∧ WrOut g big w (bs ++ [c]) w' := by
  obtain ⟨i0, hi0, hz0, hz1, hz2⟩ := info_parts Try.infoU8
  have hlt := h.lt
  have hc1 := h.c1
  have H : Hid (Wr w g big v bs) := h
  clear h
  go_enter Try.func43, Try.ntmps43
  go_wp2_with (at_builtin; refine wpList_append_lies _ rfl (.tmp 8) (.tmp 10) 46 rfl (g + 1) 5 i0 (.int .u8 0) 1 1 Try.underlying46 hi0 hz0 hz1 hz2 rfl (by decide) v bs.length (bs.map eU) rfl (H.out.buf.alloc _) ⟨w.heap.size, 0, none⟩ 1 1 [eU c] rfl rfl (one_cell_new _ _ _) (eU_one [c]) (by omega) (by unfold maxLen; omega) (by omega) (by simp; omega) _ rfl ?_)
  intro g1 cap w1 hown hgr _ _
  obtain ⟨hw, hc, hf, hst⟩ := H.out.put (wa := w.alloc (.cells #[eU c] 5)) (v' := .slice (some ⟨g1, 0, none⟩) (bs.length + 1) cap) (bs' := bs ++ [c]) ((Below.refl _ _).alloc (Nat.le_refl _) _) hgr (by simpa [Bf] using hown)
  have HW : Hid _ := hw
  have HS : Hid _ := hst
  clear hw hst hown hgr
  go_wp2
  go_end0
  exact ⟨rfl, ⟨_, HW.out⟩, HS.out⟩
set_option maxHeartbeats 1000000 in
theorem text_w (w : World) (g : Nat) (big : Bool) (v : Value) (bs cs : List UInt8) (h : Wr w g big v bs) (hl : bs.length + cs.length ≤ 1000000) (hp : 0 < bs.length + cs.length) :
    Calls Try.prog 42 #[.pointer (some ⟨g, 0, none⟩), .string (ba cs)] w fun e w' => e = .returned (.tuple #[]) ∧ WrOut g big w (bs ++ cs) w' := by
  obtain ⟨i0, hi0, hz0, hz1, hz2⟩ := info_parts Try.infoU8
  have hlt := h.lt
  have hc1 := h.c1
  have H : Hid (Wr w g big v bs) := h
  clear h
  obtain ⟨D, hD⟩ : ∃ D, D = ba cs := ⟨_, rfl⟩
  have hds : D.size = cs.length := by rw [hD, ba_size]
  rw [← hD]
  have HD : Hid (D = ba cs) := hD
  clear hD
  go_enter Try.func42, Try.ntmps42
  go_wp2_with (at_builtin; refine Lib.wpList_append_own_string _ rfl (.tmp 8) (.tmp 9) 46 9 rfl (g + 1) 5 i0 Try.underlying46 Try.underlying9 hi0 hz0 hz1 hz2 v bs.length (bs.map eU) rfl H.out.buf D rfl (by unfold maxLen; omega) (by omega) (by omega) ?_)
  intro v' w1 hown hgr _
  obtain ⟨g1, cap, rfl, _, _⟩ := hown.form (by omega)
  obtain ⟨hw, hc, hf, hst⟩ := H.out.put (wa := w) (v' := .slice (some ⟨g1, 0, none⟩) (bs.length + cs.length) cap) (bs' := bs ++ cs) (Below.refl _ _) hgr (by
    have := hown
    rw [HD.out, strCells_ba] at this
    simpa [Bf] using this)
  have HW : Hid _ := hw
  have HS : Hid _ := hst
  clear hw hst hown hgr
  go_wp2
  go_end0
  exact ⟨rfl, ⟨_, HW.out⟩, HS.out⟩
end Go.Proofs.Ytbjabpodkaokjaa

namespace Go.Proofs.Ytbjabpodkaokjaa
open Go.RowKit

theorem small_z (w : World) (g : Nat) (big : Bool) (v : Value) (bs : List UInt8) (c : UInt8) (z : Int) (hz : z = (c.toNat : Int)) (h : Wr w g big v bs) (hl : bs.length ≤ 1000000) :
    Calls Try.prog 43 #[.pointer (some ⟨g, 0, none⟩), .int .u8 z] w fun e w' => e = .returned (.tuple #[]) ∧ WrOut g big w (bs ++ [c]) w' := by
  subst hz
  exact small_w w g big v bs c h hl
theorem ofNat_int (m : Nat) (x : Int) (h : x = (m : Int)) : x % 256 = ((UInt8.ofNat m).toNat : Int) := by
  rw [h]; simp
theorem WrOut.trans {g : Nat} {big : Bool} {x y z : World} {bs bs' : List UInt8} (h : WrOut g big x bs y) (k : WrOut g big y bs' z) : WrOut g big x bs' z := ⟨k.1, h.2.trans k.2⟩
theorem WrOut.wr {g : Nat} {big : Bool} {x y : World} {bs : List UInt8} (h : WrOut g big x bs y) : ∃ v, Wr y g big v bs := h.1
theorem WrOut.start {g : Nat} {big : Bool} {w : World} {v : Value} {bs : List UInt8} (h : Wr w g big v bs) : WrOut g big w bs w := ⟨⟨v, h⟩, Wst.refl _ _⟩

set_option maxHeartbeats 2000000 in
theorem number2 (w : World) (g : Nat) (big : Bool) (v : Value) (bs : List UInt8) (n : Nat) (hn : n < 4294967296) (h : Wr w g big v bs) (hl : bs.length + 2 ≤ 1000000) :
    Calls Try.prog 47 #[.pointer (some ⟨g, 0, none⟩), .int .u32 n, .int .i64 2] w fun e w' => e = .returned (.tuple #[]) ∧ WrOut g big w (bs ++ pr big n) w' := by
  have HS : Hid (WrOut g big w bs w) := WrOut.start h
  clear h
  have hpl : (pr big n).length = 2 := by cases big <;> rfl
  go_enter Try.func47, Try.ntmps47
  go_wp2
  go_loopw [9] (fun i wr => ∃ k : Nat, i = .int .i64 k ∧ k ≤ 2 ∧ WrOut g big w (bs ++ (pr big n).take k) wr) (fun i _ => 2 - (intOf i).toNat)
  case atStart => exact ⟨0, rfl, by omega, by simpa using HS.out⟩
  case round =>
    obtain ⟨k, rfl, hk, hout⟩ := hrel
    have HO : Hid (WrOut g big w (bs ++ (pr big n).take k) wr) := hout
    obtain ⟨v1, hv1⟩ := hout.wr
    have hl1 : (bs ++ (pr big n).take k).length ≤ 1000000 := by simp [hpl]; omega
    have c0 := hv1.c0
    have HV : Hid (Wr wr g big v1 (bs ++ (pr big n).take k)) := hv1
    clear hv1 hout
    rcases (show k = 0 ∨ k = 1 ∨ k = 2 by omega) with rfl | rfl | rfl
    · cases big with
      | false =>
        go_wp2_with (go_at_call 43; refine (small_z _ g _ v1 _ (UInt8.ofNat n) _ (by simp) HV.out hl1).mono ?_; rintro e w2 ⟨rfl, ho2⟩)
        go_roundw
        case rel => exact ⟨1, by go_num, by omega, by simpa [pr] using HO.out.trans ho2⟩
        case measure => simp [intOf] <;> omega
      | true =>
        go_wp2_with (go_at_call 43; refine (small_z _ g _ v1 _ (UInt8.ofNat (n / 256)) _ (by simp) HV.out hl1).mono ?_; rintro e w2 ⟨rfl, ho2⟩)
        go_roundw
        case rel => exact ⟨1, by go_num, by omega, by simpa [pr] using HO.out.trans ho2⟩
        case measure => simp [intOf] <;> omega
    · cases big with
      | false =>
        go_wp2_with (go_at_call 43; refine (small_z _ g _ v1 _ (UInt8.ofNat (n / 256)) _ (by simp) HV.out hl1).mono ?_; rintro e w2 ⟨rfl, ho2⟩)
        go_roundw
        case rel => exact ⟨2, by go_num, by omega, by simpa [pr] using HO.out.trans ho2⟩
        case measure => simp [intOf] <;> omega
      | true =>
        go_wp2_with (go_at_call 43; refine (small_z _ g _ v1 _ (UInt8.ofNat n) _ (by simp) HV.out hl1).mono ?_; rintro e w2 ⟨rfl, ho2⟩)
        go_roundw
        case rel => exact ⟨2, by go_num, by omega, by simpa [pr] using HO.out.trans ho2⟩
        case measure => simp [intOf] <;> omega
    · go_wp2
      go_end0
      have := HO.out
      rw [List.take_of_length_le (by omega)] at this
      exact ⟨rfl, this⟩
end Go.Proofs.Ytbjabpodkaokjaa
