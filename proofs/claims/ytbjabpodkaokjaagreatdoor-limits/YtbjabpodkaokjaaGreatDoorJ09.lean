import Derived.Test.YtbjabpodkaokjaaGreatDoorJ08
import Derived.Test.YtbjabpodkaokjaaGreatDoorJ02
import Derived.Lib.BufferRead
import Derived.Deep.RegionHeld3
set_option linter.unusedVariables false
set_option linter.unusedSimpArgs false
namespace Go.Proofs.YtbjabpodkaokjaaGreatDoor
open Go.RowKit

theorem small_z (w : World) (g : Nat) (big : Bool) (v : Value) (bs : List UInt8) (c : UInt8) (z : Int) (hz : z = (c.toNat : Int)) (h : Wr w g big v bs) (hl : bs.length ≤ 1000000) :
    Calls Tryz.prog 100 #[.pointer (some ⟨g, 0, none⟩), .int .u8 z] w fun e w' => e = .returned (.tuple #[]) ∧ WrOut g big w (bs ++ [c]) w' := by
  subst hz
  exact small_w w g big v bs c h hl
theorem ofNat_int (m : Nat) (x : Int) (h : x = (m : Int)) : x % 256 = ((UInt8.ofNat m).toNat : Int) := by
  rw [h]; simp
theorem WrOut.trans {g : Nat} {big : Bool} {x y z : World} {bs bs' : List UInt8} (h : WrOut g big x bs y) (k : WrOut g big y bs' z) : WrOut g big x bs' z := ⟨k.1, h.2.trans k.2⟩
theorem WrOut.wr {g : Nat} {big : Bool} {x y : World} {bs : List UInt8} (h : WrOut g big x bs y) : ∃ v, Wr y g big v bs := h.1
theorem WrOut.start {g : Nat} {big : Bool} {w : World} {v : Value} {bs : List UInt8} (h : Wr w g big v bs) : WrOut g big w bs w := ⟨⟨v, h⟩, Wst.refl _ _⟩

set_option maxHeartbeats 2000000 in
theorem number2 (w : World) (g : Nat) (big : Bool) (v : Value) (bs : List UInt8) (n : Nat) (hn : n < 4294967296) (h : Wr w g big v bs) (hl : bs.length + 2 ≤ 1000000) :
    Calls Tryz.prog 104 #[.pointer (some ⟨g, 0, none⟩), .int .u32 n, .int .i64 2] w fun e w' => e = .returned (.tuple #[]) ∧ WrOut g big w (bs ++ pr big n) w' := by
  have HS : Hid (WrOut g big w bs w) := WrOut.start h
  clear h
  have hpl : (pr big n).length = 2 := by cases big <;> rfl
  go_enter Tryz.func104, Tryz.ntmps104
  go_wp2
  go_loopw [9] (fun i wr => ∃ k : Nat, i = .int .i64 k ∧ k ≤ 2 ∧ WrOut g big w (bs ++ (pr big n).take k) wr) (fun i _ => 2 - (intOf i).toNat)
  case atStart => exact ⟨0, rfl, by omega, by simpa using HS.out⟩
  case round =>
    obtain ⟨k, rfl, hk, hout⟩ := hrel
    have HO : Hid (WrOut g big w (bs ++ (pr big n).take k) wr) := hout
    obtain ⟨v1, hv1⟩ := hout.wr
    have hl1 : (bs ++ (pr big n).take k).length ≤ 1000000 := by simp [hpl]; omega
    have c0 := hv1.c0
    have HV : Hid (Wr wr g big v1 (bs ++ (pr big n).take k)) := hv1
    clear hv1 hout
    rcases (show k = 0 ∨ k = 1 ∨ k = 2 by omega) with rfl | rfl | rfl
    · cases big with
      | false =>
        go_wp2_with (go_at_call 100; refine (small_z _ g _ v1 _ (UInt8.ofNat n) _ (by simp) HV.out hl1).mono ?_; rintro e w2 ⟨rfl, ho2⟩)
        go_roundw
        case rel => exact ⟨1, by go_num, by omega, by simpa [pr] using HO.out.trans ho2⟩
        case measure => simp [intOf] <;> omega
      | true =>
        go_wp2_with (go_at_call 100; refine (small_z _ g _ v1 _ (UInt8.ofNat (n / 256)) _ (by simp) HV.out hl1).mono ?_; rintro e w2 ⟨rfl, ho2⟩)
        go_roundw
        case rel => exact ⟨1, by go_num, by omega, by simpa [pr] using HO.out.trans ho2⟩
        case measure => simp [intOf] <;> omega
    · cases big with
      | false =>
        go_wp2_with (go_at_call 100; refine (small_z _ g _ v1 _ (UInt8.ofNat (n / 256)) _ (by simp) HV.out hl1).mono ?_; rintro e w2 ⟨rfl, ho2⟩)
        go_roundw
        case rel => exact ⟨2, by go_num, by omega, by simpa [pr] using HO.out.trans ho2⟩
        case measure => simp [intOf] <;> omega
      | true =>
        go_wp2_with (go_at_call 100; refine (small_z _ g _ v1 _ (UInt8.ofNat n) _ (by simp) HV.out hl1).mono ?_; rintro e w2 ⟨rfl, ho2⟩)
        go_roundw
        case rel => exact ⟨2, by go_num, by omega, by simpa [pr] using HO.out.trans ho2⟩
        case measure => simp [intOf] <;> omega
    · go_wp2
      go_end0
      have := HO.out
      rw [List.take_of_length_le (by omega)] at this
      exact ⟨rfl, this⟩
end Go.Proofs.YtbjabpodkaokjaaGreatDoor

namespace Go.Proofs.YtbjabpodkaokjaaGreatDoor
open Go.RowKit

set_option maxHeartbeats 4000000 in
theorem number4 (w : World) (g : Nat) (big : Bool) (v : Value) (bs : List UInt8) (n : Nat) (hn : n < 4294967296) (h : Wr w g big v bs) (hl : bs.length + 4 ≤ 1000000) :
    Calls Tryz.prog 104 #[.pointer (some ⟨g, 0, none⟩), .int .u32 n, .int .i64 4] w fun e w' => e = .returned (.tuple #[]) ∧ WrOut g big w (bs ++ num4 big n) w' := by
  have HS : Hid (WrOut g big w bs w) := WrOut.start h
  clear h
  have hpl : (num4 big n).length = 4 := by cases big <;> rfl
  go_enter Tryz.func104, Tryz.ntmps104
  go_wp2
  go_loopw [9] (fun i wr => ∃ k : Nat, i = .int .i64 k ∧ k ≤ 4 ∧ WrOut g big w (bs ++ (num4 big n).take k) wr) (fun i _ => 4 - (intOf i).toNat)
  case atStart => exact ⟨0, rfl, by omega, by simpa using HS.out⟩
  case round =>
    obtain ⟨k, rfl, hk, hout⟩ := hrel
    have HO : Hid (WrOut g big w (bs ++ (num4 big n).take k) wr) := hout
    obtain ⟨v1, hv1⟩ := hout.wr
    have hl1 : (bs ++ (num4 big n).take k).length ≤ 1000000 := by simp [hpl]; omega
    have c0 := hv1.c0
    have HV : Hid (Wr wr g big v1 (bs ++ (num4 big n).take k)) := hv1
    clear hv1 hout
    rcases (show k = 0 ∨ k = 1 ∨ k = 2 ∨ k = 3 ∨ k = 4 by omega) with rfl | rfl | rfl | rfl | rfl
    · cases big with
      | false =>
        go_wp2_with (go_at_call 100; refine (small_z _ g _ v1 _ (UInt8.ofNat (n )) _ (by first | (simp; done) | (simp; omega)) HV.out hl1).mono ?_; rintro e w2 ⟨rfl, ho2⟩)
        go_roundw
        case rel => exact ⟨1, by go_num, by omega, by simpa [num4] using HO.out.trans ho2⟩
        case measure => simp [intOf] <;> omega
      | true =>
        go_wp2_with (go_at_call 100; refine (small_z _ g _ v1 _ (UInt8.ofNat (n / 16777216)) _ (by first | (simp; done) | (simp; omega)) HV.out hl1).mono ?_; rintro e w2 ⟨rfl, ho2⟩)
        go_roundw
        case rel => exact ⟨1, by go_num, by omega, by simpa [num4] using HO.out.trans ho2⟩
        case measure => simp [intOf] <;> omega
    · cases big with
      | false =>
        go_wp2_with (go_at_call 100; refine (small_z _ g _ v1 _ (UInt8.ofNat (n / 256)) _ (by first | (simp; done) | (simp; omega)) HV.out hl1).mono ?_; rintro e w2 ⟨rfl, ho2⟩)
        go_roundw
        case rel => exact ⟨2, by go_num, by omega, by simpa [num4] using HO.out.trans ho2⟩
        case measure => simp [intOf] <;> omega
      | true =>
        go_wp2_with (go_at_call 100; refine (small_z _ g _ v1 _ (UInt8.ofNat (n / 65536)) _ (by first | (simp; done) | (simp; omega)) HV.out hl1).mono ?_; rintro e w2 ⟨rfl, ho2⟩)
        go_roundw
        case rel => exact ⟨2, by go_num, by omega, by simpa [num4] using HO.out.trans ho2⟩
        case measure => simp [intOf] <;> omega
    · cases big with
      | false =>
        go_wp2_with (go_at_call 100; refine (small_z _ g _ v1 _ (UInt8.ofNat (n / 65536)) _ (by first | (simp; done) | (simp; omega)) HV.out hl1).mono ?_; rintro e w2 ⟨rfl, ho2⟩)
        go_roundw
        case rel => exact ⟨3, by go_num, by omega, by simpa [num4] using HO.out.trans ho2⟩
        case measure => simp [intOf] <;> omega
      | true =>
        go_wp2_with (go_at_call 100; refine (small_z _ g _ v1 _ (UInt8.ofNat (n / 256)) _ (by first | (simp; done) | (simp; omega)) HV.out hl1).mono ?_; rintro e w2 ⟨rfl, ho2⟩)
        go_roundw
        case rel => exact ⟨3, by go_num, by omega, by simpa [num4] using HO.out.trans ho2⟩
        case measure => simp [intOf] <;> omega
    · cases big with
      | false =>
        go_wp2_with (go_at_call 100; refine (small_z _ g _ v1 _ (UInt8.ofNat (n / 16777216)) _ (by first | (simp; done) | (simp; omega)) HV.out hl1).mono ?_; rintro e w2 ⟨rfl, ho2⟩)
        go_roundw
        case rel => exact ⟨4, by go_num, by omega, by simpa [num4] using HO.out.trans ho2⟩
        case measure => simp [intOf] <;> omega
      | true =>
        go_wp2_with (go_at_call 100; refine (small_z _ g _ v1 _ (UInt8.ofNat (n )) _ (by first | (simp; done) | (simp; omega)) HV.out hl1).mono ?_; rintro e w2 ⟨rfl, ho2⟩)
        go_roundw
        case rel => exact ⟨4, by go_num, by omega, by simpa [num4] using HO.out.trans ho2⟩
        case measure => simp [intOf] <;> omega
    · go_wp2
      go_end0
      have := HO.out
      rw [List.take_of_length_le (by omega)] at this
      exact ⟨rfl, this⟩
set_option maxHeartbeats 1000000 in
theorem pair_w (w : World) (g : Nat) (big : Bool) (v : Value) (bs : List UInt8) (n : Nat) (hn : n < 65536) (h : Wr w g big v bs) (hl : bs.length + 2 ≤ 1000000) :
    Calls Tryz.prog 102 #[.pointer (some ⟨g, 0, none⟩), .int .i64 n] w fun e w' => e = .returned (.tuple #[]) ∧ WrOut g big w (bs ++ pr big n) w' := by
  have hc := number2 w g big v bs n (by omega) h hl
  have hm : (n : Int) % 4294967296 = n := by omega
  have hw : IntKind.u32.wrap (n : Int) = n := by rw [IntKind.wrap_u32]; omega
  have H : Hid (Calls Tryz.prog 104 #[.pointer (some ⟨g, 0, none⟩), .int .u32 n, .int .i64 2] w fun e w' => e = .returned (.tuple #[]) ∧ WrOut g big w (bs ++ pr big n) w') := hc
  clear hc h
  go_enter Tryz.func102, Tryz.ntmps102
  go_wp2_with (go_at_call 104; refine H.out.mono ?_; rintro e w2 ⟨rfl, ho2⟩)
  go_end0
  exact ⟨rfl, ho2⟩
set_option maxHeartbeats 400000 in
theorem bit_any (b : Bool) (w : World) : Calls Tryz.prog 101 #[.bool b] w fun e w' => e = .returned (.int .u8 (bt b)) ∧ w' = w := by
  cases b
  · go_enter Tryz.func101, Tryz.ntmps101
    go_wp2
    go_ret
    exact ⟨rfl, rfl⟩
  · go_enter Tryz.func101, Tryz.ntmps101
    go_wp2
    go_ret
    exact ⟨rfl, rfl⟩
end Go.Proofs.YtbjabpodkaokjaaGreatDoor

namespace Go.Proofs.YtbjabpodkaokjaaGreatDoor
open Go.RowKit

def flR (rs : List (Nat × Int)) : List Value := rs.flatMap fun r => [.int .i64 (r.1 : Int), .int .i64 r.2]
theorem flR_len (rs : List (Nat × Int)) : (flR rs).length = rs.length * 2 := by
  induction rs with
  | nil => rfl
  | cons r t ih => simp only [flR, List.flatMap_cons, List.length_append, List.length_cons, List.length_nil] at ih ⊢; omega
theorem flR_snoc (rs : List (Nat × Int)) (c : Nat) (z : Int) : flR (rs ++ [(c, z)]) = flR rs ++ [.int .i64 (c : Int), .int .i64 z] := by simp [flR]
theorem runs_last (row : List Int) (z : Int) : ∃ i c, runs (row ++ [z]) = i ++ [(c, z)] := by
  rw [runs_snoc]
  rcases List.eq_nil_or_concat (runs row) with e | ⟨i, ⟨c, y⟩, e⟩
  · rw [e]; exact ⟨[], 1, rfl⟩
  · rw [e]
    simp only [stepR, List.concat_eq_append, List.getLast?_append, List.getLast?_singleton, Option.some_or, List.dropLast_concat]
    split
    · rename_i h; subst h; exact ⟨i, c + 1, rfl⟩
    · exact ⟨i ++ [(c, y)], 1, rfl⟩
theorem stepR_same (i : List (Nat × Int)) (c : Nat) (z : Int) : stepR (i ++ [(c, z)]) z = i ++ [(c + 1, z)] := by
  simp [stepR]
theorem stepR_other (i : List (Nat × Int)) (c : Nat) (y z : Int) (h : y ≠ z) : stepR (i ++ [(c, y)]) z = i ++ [(c, y)] ++ [(1, z)] := by
  simp [stepR, h]
theorem Tryz.infoRun : (Tryz.prog.info? 314).map (fun i => (i.zero, i.size, i.bytes)) = some (some (.agg #[.int .i64 0, .int .i64 0]), 2, 16) := by kernel_rfl
theorem two_cells_new (w : World) (x y : Value) (T : TypeId) : ∀ j u, [x, y][j]? = some u → (w.alloc (.cells #[x, y] T)).cell? ((⟨w.heap.size, 0, none⟩ : Addr).add j) = some u := by
  intro j u hj
  match j, hj with
  | 0, hj => simp at hj; subst hj; simp [Addr.add, go_sem]
  | 1, hj => simp at hj; subst hj; simp [Addr.add, go_sem]
/-- Runs in a row of the call's own. -/
abbrev Rn (w : World) (base : Nat) (v : Value) (rs : List (Nat × Int)) : Prop := w.ownsRow base 314 2 v rs.length (flR rs)
/-- One more of the last run. -/
theorem Rn.inc {w : World} {base g cap n : Nat} {i : List (Nat × Int)} {c : Nat} {z : Int} (h : Rn w base (.slice (some ⟨g, 0, none⟩) n cap) (i ++ [(c, z)])) (hn : n = i.length + 1) :
    w.cell? ⟨g, i.length * 2, none⟩ = some (.int .i64 (c : Int)) ∧ w.frozen? ⟨g, i.length * 2, none⟩ = false ∧ Rn (w.setCell ⟨g, i.length * 2, none⟩ (.int .i64 ((c : Int) + 1))) base (.slice (some ⟨g, 0, none⟩) n cap) (i ++ [(c + 1, z)]) ∧ w.grownBy (w.setCell ⟨g, i.length * 2, none⟩ (.int .i64 ((c : Int) + 1))) (some g) := by
  subst hn
  have hl : (i ++ [(c, z)]).length = i.length + 1 := by simp
  have h' : w.ownsRow base 314 2 (.slice (some ⟨g, 0, none⟩) (i.length + 1) cap) (i.length + 1) (flR (i ++ [(c, z)])) := by rw [← hl]; simpa [Rn] using h
  have e : flR (i ++ [(c, z)]) = flR i ++ [.int .i64 (c : Int), .int .i64 z] := flR_snoc _ _ _
  refine ⟨?_, h'.frozenAt _, ?_, (h'.stored _ _).2⟩
  · rw [h'.cellAt _ (by omega), e, List.getElem?_append_right (by rw [flR_len]; exact Nat.le_refl _), flR_len]; simp
  · have h2 := (h'.stored (i.length * 2) (.int .i64 ((c : Int) + 1))).1
    rw [e, List.set_append_right _ _ (by rw [flR_len]; exact Nat.le_refl _), flR_len] at h2
    simp only [Nat.sub_self, List.set_cons_zero] at h2
    have e2 : flR (i ++ [(c + 1, z)]) = flR i ++ [.int .i64 ((c : Int) + 1), .int .i64 z] := by rw [flR_snoc]; simp
    show World.ownsRow _ _ _ _ _ _ _
    rw [e2]
    simpa using h2
end Go.Proofs.YtbjabpodkaokjaaGreatDoor

namespace Go.Proofs.YtbjabpodkaokjaaGreatDoor
open Go.RowKit

theorem runs_le (row : List Int) (k : Nat) : (runs (row.take k)).length ≤ k := by
  have := runs_len (row.take k)
  simp at this
  omega
theorem Rn.size {w : World} {base : Nat} {v : Value} {rs : List (Nat × Int)} (h : Rn w base v rs) : ∀ k, v.ownBlock = some k → base ≤ k := fun k hk => (h.lt k hk).1
theorem below_grown {B : Nat} {w w1 w' : World} {row : Option Nat} (h : Below B w w1) (hg : w1.grownBy w' row) (hb : B ≤ w1.heap.size) (hr : ∀ k, row = some k → B ≤ k) : Below B w w' := h.grown hg hb hr
set_option maxRecDepth 4000 in
set_option maxHeartbeats 2000000 in
theorem runsOf_any (w : World) (v : Value) (zs : List Int) (hv : RowE eI w v zs) (hl : zs.length ≤ 65536) :
    Calls Tryz.prog 192 #[v] w fun e w' => ∃ v', e = .returned v' ∧ Rn w' w.heap.size v' (runs zs) ∧ Below w.heap.size w w' := by
  obtain ⟨i0, hi0, hz0, hz1, hz2⟩ := info_parts Tryz.infoRun
  obtain ⟨a, c, hform⟩ := hv.form
  subst hform
  obtain ⟨n, hn⟩ : ∃ n, n = zs.length := ⟨_, rfl⟩
  have HN : Hid (n = zs.length) := hn
  rw [← hn] at hl ⊢
  have HV : Hid (RowE eI w (.slice a n c) zs) := by show RowE _ _ _ _; rw [hn]; exact hv
  clear hn hv
  go_enter Tryz.func192, Tryz.ntmps192
  go_wp2
  go_loopw [3, 8] (fun r i wr => ∃ k : Nat, i = .int .i64 k ∧ k ≤ n ∧ Rn wr w.heap.size r (runs (zs.take k)) ∧ Below w.heap.size w wr) (fun _ i _ => n - (intOf i).toNat)
  case atStart => exact ⟨0, rfl, Nat.zero_le _, World.ownsRow_nil _ _ _ _, Below.refl _ _⟩
  case round =>
    obtain ⟨k, rfl, hk, hrn, hbl⟩ := hrel
    have HR : Hid (Rn wr w.heap.size u3 (runs (zs.take k))) := hrn
    have HB : Hid (Below w.heap.size w wr) := hbl
    have hszw := hbl.size
    clear hrn hbl
    by_cases hlt : k < n
    · have hlt1 : k < zs.length := by have := HN.out; omega
      have hltI : (k : Int) < n := by omega
      obtain ⟨b, o, c', hform, hcell⟩ := (HV.out.below HB.out).nonnil (by omega)
      injection hform with e1 e2 e3
      subst e1
      have hck := hcell k hlt1
      have hlen := runs_le zs k
      have HTK : Hid (runs (zs.take (k + 1)) = stepR (runs (zs.take k)) zs[k]) := by
        show _ = _
        rw [List.take_succ_eq_append_getElem hlt1, runs_snoc]
      by_cases hk0 : k = 0
      · subst hk0
        obtain ⟨z, hz⟩ : ∃ z, z = zs[0] := ⟨_, rfl⟩
        rw [← hz, Nat.add_zero] at hck
        have HT3 : Hid (runs (zs.take (0 + 1)) = [] ++ [(1, z)]) := by
          show _ = _
          rw [HTK.out, ← hz]; rfl
        have HRL : Hid (World.ownsRow wr w.heap.size 314 2 u3 0 []) := HR.out
        clear hz e2 e3 hcell HTK HR
        go_wp2_with (at_builtin; refine wpList_append_lies _ rfl (.tmp 24) (.tmp 27) 311 rfl w.heap.size 314 i0 (.agg #[.int .i64 0, .int .i64 0]) 2 16 Tryz.underlying311 hi0 hz0 hz1 hz2 rfl (by decide) u3 0 ([]) rfl (World.ownsRow.alloc HRL.out _) ⟨wr.heap.size, 0, none⟩ 1 1 [.int .i64 0, .int .i64 z] rfl rfl (two_cells_new _ _ _ _) (by simp [Value.oneCell']) (by omega) (by unfold maxLen; omega) (by omega) (by simp; omega) _ rfl ?_)
        intro g1 cap1 w1 hown hgr hat hlt
        have hown' : Rn w1 w.heap.size (.slice (some ⟨g1, 0, none⟩) (0 + 1) cap1) ([] ++ [(0, z)]) := hown
        obtain ⟨f1, f2, f3, f4⟩ := Rn.inc hown' rfl
        have F3 : Hid (Rn (w1.setCell ⟨g1, 0, none⟩ (.int .i64 (((0 : Nat) : Int) + 1))) w.heap.size (.slice (some ⟨g1, 0, none⟩) (0 + 1) cap1) ([] ++ [(0 + 1, z)])) := f3
        have F4 : Hid (w1.grownBy (w1.setCell ⟨g1, 0, none⟩ (.int .i64 (((0 : Nat) : Int) + 1))) (some g1)) := f4
        have hgb := (hown'.lt g1 rfl).1
        have HB1 : Hid (Below w.heap.size w w1) := below_grown (HB.out.alloc hszw _) hgr (by simp; omega) (fun q e => (HRL.out.lt q e).1)
        have hs1 := HB1.out.size
        simp only [List.length_nil, Nat.zero_mul] at f1 f2
        clear f3 f4 hown hown' hgr hat
        go_wp2
        go_roundw
        case rel => exact ⟨1, by go_num, by omega, by rw [HT3.out]; exact F3.out, below_grown HB1.out F4.out hs1 (fun q e => by injection e with e; omega)⟩
        case measure => simp [intOf] <;> omega
      · have hkp : (1 : Int) ≤ k := by omega
        have hk0' : ((k : Int) == 0) = false := by simpa using hk0
        have hcp := hcell (k - 1) (by omega)
        obtain ⟨z, hz⟩ : ∃ z, z = zs[k] := ⟨_, rfl⟩
        obtain ⟨y, hy⟩ : ∃ y, y = zs[k - 1] := ⟨_, rfl⟩
        rw [← hz] at hck
        rw [← hy] at hcp
        obtain ⟨i, cc, hlast⟩ : ∃ i c, runs (zs.take k) = i ++ [(c, y)] := by
          have e : zs.take k = zs.take (k - 1) ++ [y] := by
            have := List.take_succ_eq_append_getElem (l := zs) (i := k - 1) (by omega)
            rw [show k - 1 + 1 = k by omega] at this
            rw [this, hy]
          rw [e]; exact runs_last _ _
        obtain ⟨g, cap, hu3, hg1, hg2⟩ := HR.out.form (by rw [hlast]; simp)
        obtain ⟨m, hm⟩ : ∃ m, m = i.length := ⟨_, rfl⟩
        have hln : (runs (zs.take k)).length = m + 1 := by rw [hlast, hm]; simp
        rw [hln] at hu3 hlen
        subst hu3
        have HR1 : Hid (Rn wr w.heap.size (.slice (some ⟨g, 0, none⟩) (m + 1) cap) (i ++ [(cc, y)])) := by
          show Rn _ _ _ _
          rw [← hlast]; exact HR.out
        obtain ⟨d1, d2, d3, d4⟩ := HR1.out.inc (by rw [hm])
        rw [← hm] at d1 d2 d3 d4
        have D3 : Hid (Rn (wr.setCell ⟨g, m * 2, none⟩ (.int .i64 ((cc : Int) + 1))) w.heap.size (.slice (some ⟨g, 0, none⟩) (m + 1) cap) (i ++ [(cc + 1, y)])) := d3
        have D4 : Hid (wr.grownBy (wr.setCell ⟨g, m * 2, none⟩ (.int .i64 ((cc : Int) + 1))) (some g)) := d4
        have HTK2 : Hid (runs (zs.take (k + 1)) = stepR (i ++ [(cc, y)]) z) := by show _ = _; rw [HTK.out, hlast, hz]
        have HM : Hid (m = i.length) := hm
        have hcc : cc ≤ 65536 := by
          have := (runs_mem (zs.take k) (cc, y) (by rw [hlast]; simp)).1
          simp at this
          omega
        clear d3 d4 hm hln hlast hz hy e2 e3 hcell HTK HR
        by_cases hyz : y = z
        · have HT3 : Hid (runs (zs.take (k + 1)) = i ++ [(cc + 1, y)]) := by show _ = _; rw [HTK2.out, ← hyz, stepR_same]
          go_wp2
          go_roundw
          case rel => exact ⟨k + 1, by go_num, by omega, by rw [HT3.out]; exact D3.out, below_grown HB.out D4.out hszw (fun q e => by injection e with e; omega)⟩
          case measure => simp [intOf] <;> omega
        · have HT3 : Hid (runs (zs.take (k + 1)) = i ++ [(cc, y)] ++ [(1, z)]) := by show _ = _; rw [HTK2.out, stepR_other _ _ _ _ hyz]
          have hzy : (z != y) = true := by simpa using fun e => hyz e.symm
          have HRL : Hid (World.ownsRow wr w.heap.size 314 2 (.slice (some ⟨g, 0, none⟩) (m + 1) cap) (m + 1) (flR (i ++ [(cc, y)]))) := by
            show World.ownsRow _ _ _ _ _ _ _
            have := HR1.out
            rw [Rn, show (i ++ [(cc, y)]).length = m + 1 by simp [HM.out]] at this
            exact this
          clear d1 d2 D3 D4 hyz
          go_wp2_with (at_builtin; refine wpList_append_lies _ rfl (.tmp 24) (.tmp 27) 311 rfl w.heap.size 314 i0 (.agg #[.int .i64 0, .int .i64 0]) 2 16 Tryz.underlying311 hi0 hz0 hz1 hz2 rfl (by decide) (.slice (some ⟨g, 0, none⟩) (m + 1) cap) (m + 1) (flR (i ++ [(cc, y)])) rfl (World.ownsRow.alloc HRL.out _) ⟨wr.heap.size, 0, none⟩ 1 1 [.int .i64 0, .int .i64 z] rfl rfl (two_cells_new _ _ _ _) (by simp [Value.oneCell']) (by omega) (by unfold maxLen; omega) (by omega) (by simp; omega) _ rfl ?_)
          intro g1 cap1 w1 hown hgr hat hlt
          have hown' : Rn w1 w.heap.size (.slice (some ⟨g1, 0, none⟩) (m + 1 + 1) cap1) (i ++ [(cc, y)] ++ [(0, z)]) := by
            have e : (i ++ [(cc, y)] ++ [(0, z)]).length = m + 1 + 1 := by simp [HM.out]
            show w1.ownsRow w.heap.size 314 2 (.slice (some ⟨g1, 0, none⟩) (m + 1 + 1) cap1) (i ++ [(cc, y)] ++ [(0, z)]).length (flR (i ++ [(cc, y)] ++ [(0, z)]))
            rw [e, flR_snoc]
            exact hown
          obtain ⟨f1, f2, f3, f4⟩ := Rn.inc hown' (by simp [HM.out])
          rw [show (i ++ [(cc, y)]).length = m + 1 by simp [HM.out]] at f1 f2 f3 f4
          have F3 : Hid (Rn (w1.setCell ⟨g1, (m + 1) * 2, none⟩ (.int .i64 (((0 : Nat) : Int) + 1))) w.heap.size (.slice (some ⟨g1, 0, none⟩) (m + 1 + 1) cap1) (i ++ [(cc, y)] ++ [(0 + 1, z)])) := f3
          have F4 : Hid (w1.grownBy (w1.setCell ⟨g1, (m + 1) * 2, none⟩ (.int .i64 (((0 : Nat) : Int) + 1))) (some g1)) := f4
          have hgb := (hown'.lt g1 rfl).1
          have HB1 : Hid (Below w.heap.size w w1) := below_grown (HB.out.alloc hszw _) hgr (by simp; omega) (fun q e => (HRL.out.lt q e).1)
          have hs1 := HB1.out.size
          clear f3 f4 hown hown' hgr hat
          go_wp2
          go_roundw
          case rel => exact ⟨k + 1, by go_num, by omega, by rw [HT3.out]; exact F3.out, below_grown HB1.out F4.out hs1 (fun q e => by injection e with e; omega)⟩
          case measure => simp [intOf] <;> omega
    · have hkI : ¬ (k : Int) < n := by omega
      go_wp2
      go_ret
      have e : zs.take k = zs := List.take_of_length_le (by have := HN.out; omega)
      have h := HR.out
      rw [e] at h
      exact ⟨_, rfl, h, HB.out⟩
end Go.Proofs.YtbjabpodkaokjaaGreatDoor

namespace Go.Proofs.YtbjabpodkaokjaaGreatDoor
open Go.RowKit

theorem Rn.cells2 {w : World} {base : Nat} {v : Value} {rs : List (Nat × Int)} (h : Rn w base v rs) (hp : 0 < rs.length) : ∃ g cap, v = .slice (some ⟨g, 0, none⟩) rs.length cap ∧ base ≤ g ∧ ∀ k (hk : k < rs.length), w.cell? ⟨g, k * 2, none⟩ = some (.int .i64 (rs[k].1 : Int)) ∧ w.cell? ⟨g, k * 2 + 1, none⟩ = some (.int .i64 rs[k].2) := by
  obtain ⟨g, cap, rfl, h1, h2⟩ := h.form hp
  refine ⟨g, cap, rfl, h1, fun k hk => ?_⟩
  have e : ∀ (l : List (Nat × Int)) (k : Nat) (hk : k < l.length), (flR l)[k * 2]? = some (.int .i64 (l[k].1 : Int)) ∧ (flR l)[k * 2 + 1]? = some (.int .i64 l[k].2) := by
    intro l
    induction l with
    | nil => intro k hk; simp at hk
    | cons r t ih =>
      intro k hk
      cases k with
      | zero => simp [flR]
      | succ k =>
        have := ih k (by simpa using hk)
        simp only [flR, List.flatMap_cons, List.cons_append, List.nil_append, show (k + 1) * 2 = k * 2 + 1 + 1 by omega, List.getElem?_cons_succ, List.getElem_cons_succ] at this ⊢
        exact this
  have := e rs k hk
  exact ⟨(h.cellAt _ (by omega)).trans this.1, (h.cellAt _ (by omega)).trans this.2⟩
theorem Rn.shape {w : World} {base n : Nat} {v : Value} {rs : List (Nat × Int)} (h : Rn w base v rs) (hn : n = rs.length) : ∃ a c, v = .slice a n c := by
  subst hn
  rcases h.2 with ⟨rfl, h0⟩ | ⟨q, cap, cur, rfl, _⟩
  · exact ⟨none, 0, by rw [h0]⟩
  · exact ⟨_, cap, rfl⟩
theorem Rn.wst {w w' : World} {g base : Nat} {v : Value} {rs : List (Nat × Int)} (h : Rn w base v rs) (hb : g < base) (hw : Wst g w w') : Rn w' base v rs := by
  refine ⟨h.1, ?_⟩
  rcases h.2 with hn | ⟨q, cap, cur, rfl, hq, hh, rest⟩
  · exact .inl hn
  · refine .inr ⟨q, cap, cur, rfl, hq, (hw.kp q (Array.getElem?_eq_some_iff.1 hh).1 (by omega) (fun cur' e => ?_)).trans hh, rest⟩
    rw [hh] at e
    injection e with e
    injection e with _ e
    exact absurd e (by decide)
theorem Rn.below {w w' : World} {base : Nat} {v : Value} {rs : List (Nat × Int)} (h : Rn w base v rs) (hb : Below w.heap.size w w') : Rn w' base v rs :=
  World.ownsRow.kept h (row := none) ⟨hb.os, hb.tape, hb.output, hb.size, fun k hk _ => hb.block k hk⟩ (by
    cases e : v.ownBlock with
    | none => exact .inl rfl
    | some k => exact .inr (by simp))
theorem WrOut.below {g : Nat} {big : Bool} {x y z : World} {bs : List UInt8} (h : WrOut g big x bs y) (hb : Below y.heap.size y z) : WrOut g big x bs z := by
  obtain ⟨⟨v, hv⟩, h2⟩ := h
  exact ⟨⟨v, hv.below hb⟩, h2.below hb (Nat.le_of_lt hv.lt)⟩
theorem pair_z (w : World) (g : Nat) (big : Bool) (bs : List UInt8) (n : Nat) (z : Int) (hz : z = (n : Int)) (hn : n < 65536) (h : ∃ v, Wr w g big v bs) (hl : bs.length + 2 ≤ 1000000) :
    Calls Tryz.prog 102 #[.pointer (some ⟨g, 0, none⟩), .int .i64 z] w fun e w' => e = .returned (.tuple #[]) ∧ WrOut g big w (bs ++ pr big n) w' := by
  subst hz
  obtain ⟨v, h⟩ := h
  exact pair_w w g big v bs n hn h hl
theorem pr_len (big : Bool) (n : Nat) : (pr big n).length = 2 := by cases big <;> rfl
theorem wrRs_len (big : Bool) (rs : List (Nat × Int)) : (rs.flatMap (wrR big)).length = 4 * rs.length := by
  induction rs with
  | nil => rfl
  | cons r t ih => simp only [List.flatMap_cons, List.length_append, ih, wrR, pr_len, List.length_cons]; omega
/-- A block that is no row of bytes stays. -/
theorem Wst.blk {g : Nat} {w w' : World} {b : Nat} {cs : Array Value} {T : TypeId} {fr : Nat × Nat} (h : Wst g w w') (hb : w.heap[b]? = some (.cells cs T fr)) (hne : b ≠ g) (hT : T ≠ 5) : w'.heap[b]? = some (.cells cs T fr) :=
  (h.kp b (Array.getElem?_eq_some_iff.1 hb).1 hne (fun cur e => by rw [hb] at e; injection e with e; injection e with _ e _; exact hT e)).trans hb

set_option maxRecDepth 4000 in
set_option maxHeartbeats 2000000 in
theorem sparse_w (w : World) (g : Nat) (big : Bool) (bs : List UInt8) (v : Value) (zs : List Int) (h : ∃ v, Wr w g big v bs) (hv : RowE eI w v zs) (hl : zs.length ≤ 256) (ho : ∀ z ∈ zs, okZ z) (hbl : bs.length + 2000 ≤ 1000000) :
    Calls Tryz.prog 161 #[.pointer (some ⟨g, 0, none⟩), v] w fun e w' => e = .returned (.tuple #[]) ∧ WrOut g big w (bs ++ wrRow 1 big zs) w' := by
  have hru := runsOf_any w v zs hv (by omega)
  have hm := runs_mem zs
  have hln := runs_len zs
  obtain ⟨rs, hrs⟩ : ∃ rs, rs = runs zs := ⟨_, rfl⟩
  rw [← hrs] at hru hm hln
  have HE : Hid (wrRow 1 big zs = pr big rs.length ++ rs.flatMap (wrR big)) := by show _ = _; rw [hrs]; rfl
  have HM : Hid (∀ r ∈ rs, r.1 ≤ 256 ∧ okZ r.2) := fun r hr => ⟨by have := (hm r hr).1; omega, ho _ (hm r hr).2⟩
  obtain ⟨n, hn⟩ : ∃ n, n = rs.length := ⟨_, rfl⟩
  have HN : Hid (n = rs.length) := hn
  have hn256 : n ≤ 256 := by omega
  have H : Hid (∃ v, Wr w g big v bs) := h
  have hgl : g < w.heap.size := by obtain ⟨v, h⟩ := h; exact h.lt
  have hnl : (pr big n).length = 2 := pr_len _ _
  clear hm hln hrs ho hl hn h
  go_enter Tryz.func161, Tryz.ntmps161
  go_wp2_with (first | (go_at_call 102; refine (pair_z w1 g big bs n _ rfl (by omega) HV1.out (by omega)).mono ?_; rintro e w2 ⟨rfl, ho2⟩; have HO2 : Hid _ := ho2; clear ho2) | (go_at_call 192; refine hru.mono ?_; rintro e w1 ⟨v1, rfl, hrn, hb1⟩; obtain ⟨a1, c1, hform⟩ := hrn.shape HN.out; subst hform; have HV1 : Hid (∃ v, Wr w1 g big v bs) := (by obtain ⟨v, h⟩ := H.out; exact ⟨v, h.below hb1⟩); have HRN : Hid (Rn w1 w.heap.size (.slice a1 n c1) rs) := hrn; have HB1 : Hid (Below w.heap.size w w1) := hb1; clear hrn hb1))
  have HO3 : Hid (WrOut g big w (bs ++ pr big n) w2) := ⟨HO2.out.1, ((Wst.refl g w).below HB1.out (by omega)).trans HO2.out.2⟩
  have HR3 : Hid (Rn w2 w.heap.size (.slice a1 n c1) rs) := HRN.out.wst hgl HO2.out.2
  clear HO2 HRN HV1 HB1
  go_loopw [15] (fun i wr => ∃ k : Nat, i = .int .i64 k ∧ k ≤ n ∧ WrOut g big w (bs ++ pr big n ++ (rs.take k).flatMap (wrR big)) wr ∧ Rn wr w.heap.size (.slice a1 n c1) rs) (fun i _ => n - (intOf i).toNat)
  case atStart => exact ⟨0, rfl, Nat.zero_le _, by simpa using HO3.out, HR3.out⟩
  case round =>
    obtain ⟨k, rfl, hk, hout, hrn⟩ := hrel
    have HO : Hid (WrOut g big w (bs ++ pr big n ++ (rs.take k).flatMap (wrR big)) wr) := hout
    have HRN : Hid (Rn wr w.heap.size (.slice a1 n c1) rs) := hrn
    have hlk : (bs ++ pr big n ++ (rs.take k).flatMap (wrR big)).length + 4 ≤ 1000000 := by
      rw [List.length_append, List.length_append, wrRs_len, hnl]; simp; have := HN.out; omega
    have hgw : g < wr.heap.size := by obtain ⟨v, h⟩ := hout.wr; exact h.lt
    clear hout hrn HO3 HR3
    by_cases hlt : k < n
    · have hlt1 : k < rs.length := by have := HN.out; omega
      have hltI : (k : Int) < n := by omega
      obtain ⟨q, cap, hform, hq, hcs⟩ := HRN.out.cells2 (by omega)
      injection hform with e1 e2 e3
      subst e1
      obtain ⟨d1, d2⟩ := hcs k hlt1
      have hmr := HM.out rs[k] (List.getElem_mem hlt1)
      obtain ⟨r, hr⟩ : ∃ r, r = rs[k] := ⟨_, rfl⟩
      rw [← hr] at d1 d2 hmr
      obtain ⟨c, z⟩ := r
      simp only at d1 d2 hmr
      have HT : Hid ((rs.take (k + 1)).flatMap (wrR big) = (rs.take k).flatMap (wrR big) ++ (pr big c ++ pr big z.toNat)) := by
        show _ = _
        rw [List.take_succ_eq_append_getElem hlt1, List.flatMap_append, ← hr]; simp [wrR]
      clear hcs e2 e3 hr
      obtain ⟨B, hB⟩ : ∃ B, B = bs ++ pr big n ++ (rs.take k).flatMap (wrR big) := ⟨_, rfl⟩
      have HBq : Hid (B = bs ++ pr big n ++ (rs.take k).flatMap (wrR big)) := hB
      have HO' : Hid (WrOut g big w B wr) := by show WrOut _ _ _ _ _; rw [hB]; exact HO.out
      rw [← hB] at hlk
      clear hB HO
      have hBA : Below wr.heap.size wr (wr.alloc (.cells #[.int .i64 c, .int .i64 z] 314)) := (Below.refl _ _).alloc (Nat.le_refl _) _
      have HV : Hid (WrOut g big w B (wr.alloc (.cells #[.int .i64 c, .int .i64 z] 314))) := HO'.out.below hBA
      have HRA : Hid (Rn (wr.alloc (.cells #[.int .i64 c, .int .i64 z] 314)) w.heap.size (.slice (some ⟨q, 0, none⟩) n c1) rs) := HRN.out.below hBA
      have hzN : z = ((z.toNat : Nat) : Int) := by have := hmr.2.1; omega
      have HZN : Hid (z = ((z.toNat : Nat) : Int)) := hzN
      have hz1 := hmr.2.1
      have hz2 := hmr.2.2
      have hc1 := hmr.1
      clear hBA hzN hmr HRN HO'
      go_wp2_with (first | (go_at_call 102; refine (pair_z w2 g big (B ++ pr big c) z.toNat _ HZN.out (by omega) HO2.out.wr (by rw [List.length_append, pr_len]; omega)).mono ?_; rintro e w3 ⟨rfl, ho3⟩; have HO3 : Hid (WrOut g big w2 (B ++ pr big c ++ pr big z.toNat) w3) := ho3; clear ho3) | (go_at_call 102; refine (pair_z _ g big B c _ rfl (by omega) HV.out.wr (by omega)).mono ?_; rintro e w2 ⟨rfl, ho2⟩; have hb2 := ho2.2.blk (heap_alloc_new wr _) (by omega) (by decide); have f0 : w2.cell? ⟨wr.heap.size, 0, none⟩ = some (.int .i64 c) := (by simp [World.cell?, hb2]); have f1 : w2.cell? ⟨wr.heap.size, 1, none⟩ = some (.int .i64 z) := (by simp [World.cell?, hb2]); have HO2 : Hid (WrOut g big (wr.alloc (.cells #[.int .i64 c, .int .i64 z] 314)) (B ++ pr big c) w2) := ho2; clear ho2 hb2))
      go_roundw
      case rel =>
        refine ⟨k + 1, by go_num, by omega, ?_, (HRA.out.wst hgl HO2.out.2).wst hgl HO3.out.2⟩
        rw [HT.out, ← List.append_assoc, ← HBq.out, ← List.append_assoc]
        exact (HV.out.trans HO2.out).trans HO3.out
      case measure => simp [intOf] <;> omega
    · have hkI : ¬ (k : Int) < n := by omega
      go_wp2
      go_end0
      refine ⟨rfl, ?_⟩
      have h := HO.out
      rw [List.take_of_length_le (by have := HN.out; omega), List.append_assoc] at h
      rw [HE.out, ← HN.out]
      exact h
end Go.Proofs.YtbjabpodkaokjaaGreatDoor

namespace Go.Proofs.YtbjabpodkaokjaaGreatDoor
open Go.RowKit

/-- P holds as long as what lies below g stands. -/
def Stb (g : Nat) (w : World) (P : World → Prop) : Prop := ∀ w', Below g w w' → P w'
theorem Stb.now {g : Nat} {w : World} {P : World → Prop} (h : Stb g w P) : P w := h w (Below.refl _ _)
theorem Stb.on {g : Nat} {w w' : World} {P : World → Prop} (h : Stb g w P) (hb : Below g w w') : Stb g w' P := fun w2 h2 => h w2 (hb.trans h2)
theorem prs_len (big : Bool) (zs : List Int) : (zs.flatMap fun z => pr big z.toNat).length = 2 * zs.length := by
  induction zs with
  | nil => rfl
  | cons r t ih => simp only [List.flatMap_cons, List.length_append, ih, pr_len, List.length_cons]; omega
set_option maxRecDepth 4000 in
set_option maxHeartbeats 2000000 in
theorem dense_w (w : World) (g : Nat) (big : Bool) (bs : List UInt8) (v : Value) (zs : List Int) (h : ∃ v, Wr w g big v bs) (hv : Stb g w fun w => RowE eI w v zs) (hl : zs.length ≤ 256) (ho : ∀ z ∈ zs, okZ z) (hbl : bs.length + 2000 ≤ 1000000) :
    Calls Tryz.prog 103 #[.pointer (some ⟨g, 0, none⟩), v, .int .i64 0] w fun e w' => e = .returned (.tuple #[]) ∧ WrOut g big w (bs ++ wrRow 0 big zs) w' := by
  obtain ⟨a, c, hform⟩ := hv.now.form
  subst hform
  obtain ⟨n, hn⟩ : ∃ n, n = zs.length := ⟨_, rfl⟩
  have HN : Hid (n = zs.length) := hn
  rw [← hn] at hl ⊢
  have HV : Hid (Stb g w fun w => RowE eI w (.slice a n c) zs) := by show Stb _ _ _; rw [hn]; exact hv
  have HE : Hid (wrRow 0 big zs = zs.flatMap fun z => pr big z.toNat) := by show _ = _; rfl
  have HO : Hid (∀ z ∈ zs, okZ z) := ho
  have H : Hid (∃ v, Wr w g big v bs) := h
  clear hn hv ho h
  go_enter Tryz.func103, Tryz.ntmps103
  go_wp2
  go_loopw [15] (fun i wr => ∃ k : Nat, i = .int .i64 k ∧ k ≤ n ∧ WrOut g big w (bs ++ (zs.take k).flatMap fun z => pr big z.toNat) wr) (fun i _ => n - (intOf i).toNat)
  case atStart => exact ⟨0, rfl, Nat.zero_le _, by obtain ⟨v, h⟩ := H.out; simpa using WrOut.start h⟩
  case round =>
    obtain ⟨k, rfl, hk, hout⟩ := hrel
    have hlk : (bs ++ (zs.take k).flatMap fun z => pr big z.toNat).length + 2 ≤ 1000000 := by
      rw [List.length_append, prs_len]; simp; have := HN.out; omega
    obtain ⟨B, hB⟩ : ∃ B, B = bs ++ (zs.take k).flatMap fun z => pr big z.toNat := ⟨_, rfl⟩
    have HBq : Hid (B = bs ++ (zs.take k).flatMap fun z => pr big z.toNat) := hB
    rw [← hB] at hlk hout
    have HW : Hid (WrOut g big w B wr) := hout
    clear hout hB
    by_cases hlt : k < n
    · have hlt1 : k < zs.length := by have := HN.out; omega
      have hltI : (k : Int) < n := by omega
      obtain ⟨b, o, c', hform, hcell⟩ := (HV.out wr HW.out.2.bl).nonnil (by omega)
      injection hform with e1 e2 e3
      subst e1
      have hck := hcell k hlt1
      have hoz := HO.out zs[k] (List.getElem_mem hlt1)
      obtain ⟨z, hz⟩ : ∃ z, z = zs[k] := ⟨_, rfl⟩
      rw [← hz] at hck hoz
      have HT : Hid (((zs.take (k + 1)).flatMap fun z => pr big z.toNat) = ((zs.take k).flatMap fun z => pr big z.toNat) ++ pr big z.toNat) := by
        show _ = _
        rw [List.take_succ_eq_append_getElem hlt1, List.flatMap_append, ← hz]; simp
      have HZN : Hid (z = ((z.toNat : Nat) : Int)) := by show _ = _; have := hoz.1; omega
      have hz1 := hoz.1
      have hz2 := hoz.2
      clear hz e2 e3 hcell hoz
      go_wp2_with (go_at_call 102; refine (pair_z _ g big B z.toNat _ HZN.out (by omega) HW.out.wr (by omega)).mono ?_; rintro e w3 ⟨rfl, ho3⟩; have HO3 : Hid (WrOut g big wr (B ++ pr big z.toNat) w3) := ho3; clear ho3)
      go_roundw
      case rel =>
        refine ⟨k + 1, by go_num, by omega, ?_⟩
        rw [HT.out, ← List.append_assoc, ← HBq.out]
        exact HW.out.trans HO3.out
      case measure => simp [intOf] <;> omega
    · have hkI : ¬ (k : Int) < n := by omega
      go_wp2
      go_end0
      refine ⟨rfl, ?_⟩
      have h := HW.out
      rw [HBq.out, List.take_of_length_le (by have := HN.out; omega)] at h
      rw [HE.out]
      exact h
set_option maxHeartbeats 1000000 in
theorem row1_w (w : World) (g : Nat) (big : Bool) (bs : List UInt8) (v : Value) (zs : List Int) (h : ∃ v, Wr w g big v bs) (hv : RowE eI w v zs) (hl : zs.length ≤ 256) (ho : ∀ z ∈ zs, okZ z) (hbl : bs.length + 2000 ≤ 1000000) :
    Calls Tryz.prog 103 #[.pointer (some ⟨g, 0, none⟩), v, .int .i64 1] w fun e w' => e = .returned (.tuple #[]) ∧ WrOut g big w (bs ++ wrRow 1 big zs) w' := by
  have HC : Hid (Calls Tryz.prog 161 #[.pointer (some ⟨g, 0, none⟩), v] w fun e w' => e = .returned (.tuple #[]) ∧ WrOut g big w (bs ++ wrRow 1 big zs) w') := sparse_w w g big bs v zs h hv hl ho hbl
  clear h hv hl ho hbl
  go_enter Tryz.func103, Tryz.ntmps103
  go_wp2_with (go_at_call 161; refine HC.out.mono ?_; rintro e w3 ⟨rfl, ho3⟩)
  refine bodyPost_ret (results_none rfl _ _ _) rfl ?_
  exact ⟨rfl, ho3⟩
theorem row_w (w : World) (g : Nat) (big : Bool) (bs : List UInt8) (v : Value) (zs : List Int) (kind : Nat) (z : Int) (hz : z = (kind : Int)) (hk : kind ≤ 1) (h : ∃ v, Wr w g big v bs) (hv : Stb g w fun w => RowE eI w v zs) (hl : zs.length ≤ 256) (ho : ∀ z ∈ zs, okZ z) (hbl : bs.length + 2000 ≤ 1000000) :
    Calls Tryz.prog 103 #[.pointer (some ⟨g, 0, none⟩), v, .int .i64 z] w fun e w' => e = .returned (.tuple #[]) ∧ WrOut g big w (bs ++ wrRow kind big zs) w' := by
  subst hz
  rcases (show kind = 0 ∨ kind = 1 by omega) with rfl | rfl
  · exact dense_w w g big bs v zs h hv hl ho hbl
  · exact row1_w w g big bs v zs h hv.now hl ho hbl
theorem wrRow_len (kind : Nat) (big : Bool) (zs : List Int) (h : zs.length ≤ 256) : (wrRow kind big zs).length ≤ 1026 := by
  unfold wrRow
  split
  · rw [List.length_append, wrRs_len, pr_len]; have := runs_len zs; omega
  · rw [prs_len]; omega
end Go.Proofs.YtbjabpodkaokjaaGreatDoor

namespace Go.Proofs.YtbjabpodkaokjaaGreatDoor
open Go.RowKit

/-- A table that can be written. -/
structure Wok (t : Tb) : Prop where
  a2 : t.acc.length ≤ 200
  n1 : 1 ≤ t.next.length
  n2 : t.next.length ≤ 200
  st : okZ t.start
  r : ∀ r ∈ t.next, r.length ≤ 256 ∧ ∀ z ∈ r, okZ z
  cl : t.cls.length ≤ 256
theorem box6 {w : World} {b : Nat} {x0 x1 x2 x3 x4 x5 : Value} {T : TypeId} (h : w.heap[b]? = some (.cells #[x0, x1, x2, x3, x4, x5] T)) : w.cell? ⟨b, 0, none⟩ = some x0 ∧ w.cell? ⟨b, 1, none⟩ = some x1 ∧ w.cell? ⟨b, 2, none⟩ = some x2 ∧ w.cell? ⟨b, 3, none⟩ = some x3 ∧ w.cell? ⟨b, 4, none⟩ = some x4 ∧ w.cell? ⟨b, 5, none⟩ = some x5 := by
  refine ⟨?_, ?_, ?_, ?_, ?_, ?_⟩ <;> simp [World.cell?, h]
theorem und_str : Tryz.prog.underlying 9 = some .string := by kernel_rfl
theorem und_byte : Tryz.prog.underlying 5 = some (.int .u8) := by kernel_rfl
theorem conv_bf {w : World} {base : Nat} {v : Value} {bs : List UInt8} (h : Bf w base v bs) : (convert 73 9 v).run Tryz.prog w = .ok (.string (ba bs)) w := by
  obtain ⟨hl, hr⟩ := h
  rcases hr with ⟨rfl, hn⟩ | ⟨k, cap, cur, rfl, h1, hh, h2⟩
  · have : bs = [] := List.length_eq_zero_iff.1 (by simpa using hn)
    subst this
    exact Lib.run_convert_nil_bytes w _ _ _ 0 Tryz.underlying73 und_byte und_str
  · refine run_convert_bytes_back w _ _ _ _ cap bs Tryz.underlying73 und_byte und_str ?_
    refine Lib.bytes_of_row hh ?_
    have := h2.2.2.2
    rw [Nat.mul_one] at this
    rw [this]
    simp [Lib.byteCells]
theorem bf_row {w : World} {base : Nat} {v : Value} {bs : List UInt8} (h : Bf w base v bs) : RowE eU w v bs := by
  rcases h.2 with ⟨rfl, hn⟩ | ⟨k, cap, cur, rfl, _⟩
  · exact .inl ⟨List.length_eq_zero_iff.1 (by simpa using hn), _, _, rfl⟩
  · refine .inr ⟨k, 0, cap, rfl, fun j hj => ?_⟩
    rw [Nat.zero_add, h.cellAt j (by omega)]
    simp [hj]
theorem Wr.new (w : World) (big : Bool) : Wr (w.alloc (.cells #[.bool big, .slice none 0 0] 200)) w.heap.size big (.slice none 0 0) [] :=
  ⟨by simp [go_sem], by simp [go_sem], fun o => by simp [go_sem], World.ownsRow_nil _ _ _ _⟩
theorem text_o (w : World) (g : Nat) (big : Bool) (bs cs : List UInt8) (s : ByteArray) (hs : s = ba cs) (h : ∃ v, Wr w g big v bs) (hl : bs.length + cs.length ≤ 1000000) (hp : 0 < bs.length + cs.length) :
    Calls Tryz.prog 99 #[.pointer (some ⟨g, 0, none⟩), .string s] w fun e w' => e = .returned (.tuple #[]) ∧ WrOut g big w (bs ++ cs) w' := by
  subst hs
  obtain ⟨v, h⟩ := h
  exact text_w w g big v bs cs h hl hp
theorem small_o (w : World) (g : Nat) (big : Bool) (bs : List UInt8) (c : UInt8) (z : Int) (hz : z = (c.toNat : Int)) (h : ∃ v, Wr w g big v bs) (hl : bs.length ≤ 1000000) :
    Calls Tryz.prog 100 #[.pointer (some ⟨g, 0, none⟩), .int .u8 z] w fun e w' => e = .returned (.tuple #[]) ∧ WrOut g big w (bs ++ [c]) w' := by
  subst hz
  obtain ⟨v, h⟩ := h
  exact small_w w g big v bs c h hl
def h1 (t : Tb) (kind : Nat) (big : Bool) : List UInt8 := mk5 ++ [UInt8.ofNat kind] ++ [UInt8.ofNat (bt t.front + 2 * bt t.back)] ++ [wrA big]
theorem hd_eq (t : Tb) (kind : Nat) (big : Bool) : hd t kind big = h1 t kind big ++ pr big t.acc.length ++ pr big (t.next.headD []).length ++ pr big t.start.toNat ++ t.cls := rfl
theorem rowsW_len (kind : Nat) (big : Bool) : ∀ l : List (List Int), (∀ r ∈ l, r.length ≤ 256) → (l.flatMap (wrRow kind big)).length ≤ 1026 * l.length
  | [], _ => by simp
  | r :: t, h => by
    have h1 := wrRow_len kind big r (h r (by simp))
    have h2 := rowsW_len kind big t (fun x hx => h x (by simp [hx]))
    simp only [List.flatMap_cons, List.length_append, List.length_cons]
    omega
theorem hd_len (t : Tb) (kind : Nat) (big : Bool) (h : t.cls.length ≤ 256) : (hd t kind big).length ≤ 270 := by
  rw [hd_eq]; simp [h1, mk5, pr_len]; omega
end Go.Proofs.YtbjabpodkaokjaaGreatDoor

namespace Go.Proofs.YtbjabpodkaokjaaGreatDoor
open Go.RowKit

set_option maxRecDepth 4000 in
set_option maxHeartbeats 8000000 in
theorem write_any (w : World) (t : Tb) (va vn : Value) (kind : Nat) (big : Bool) (hk : kind ≤ 1) (h : TabIn w t va vn) (hw : Wok t) :
    Calls Tryz.prog 59 #[tv t va vn, .int .i64 kind, .bool big] w fun e w' => e = .returned (.string (ba (enc t kind big))) ∧ Below w.heap.size w w' := by
  obtain ⟨w1, hw1⟩ : ∃ w1, w1 = (w.alloc (.cells #[.bool t.front, .bool t.back, .int .i64 t.start, .string (ba t.cls), va, vn] 33)).alloc (.cells #[.bool big, .slice none 0 0] 200) := ⟨_, rfl⟩
  obtain ⟨g, hg⟩ : ∃ g, g = w.heap.size + 1 := ⟨_, rfl⟩
  have hwr1 : WrOut g big w1 [] w1 := by
    have := Wr.new (w.alloc (.cells #[.bool t.front, .bool t.back, .int .i64 t.start, .string (ba t.cls), va, vn] 33)) big
    rw [← hw1, World.size_alloc, ← hg] at this
    exact WrOut.start this
  have HBX : Hid (Stb g w1 fun w' => w'.heap[w.heap.size]? = some (.cells #[.bool t.front, .bool t.back, .int .i64 t.start, .string (ba t.cls), va, vn] 33)) := fun w' hb => by
    show w'.heap[w.heap.size]? = _
    rw [hb.block _ (by omega), hw1, Below.heap_alloc _ _ _ (by simp)]
    exact heap_alloc_new _ _
  have hB1 : Below w.heap.size w w1 := by rw [hw1]; exact ((Below.refl _ _).alloc (Nat.le_refl _) _).alloc (by simp) _
  have HB1 : Hid (Below w.heap.size w w1) := hB1
  have HW1 : Hid (w1 = (w.alloc (.cells #[.bool t.front, .bool t.back, .int .i64 t.start, .string (ba t.cls), va, vn] 33)).alloc (.cells #[.bool big, .slice none 0 0] 200)) := hw1
  have HG : Hid (g = w.heap.size + 1) := hg
  have HE : Hid (enc t kind big = hd t kind big ++ t.acc.map wrA ++ t.next.flatMap (wrRow kind big) ++ num4 big (crc (hd t kind big ++ t.acc.map wrA ++ t.next.flatMap (wrRow kind big)))) := by show _ = _; rfl
  have hhl := hd_len t kind big hw.cl
  have hrl := rowsW_len kind big
  have hstb : ∀ w', Below g w1 w' → Below w.heap.size w w' := fun w' hb => hB1.trans (hb.mono (by omega))
  obtain ⟨f, b, st, cls, acc, next⟩ := t
  obtain ⟨s1, s2, s3, s4, s5, s6⟩ := hw
  obtain ⟨hacc, ⟨us, hul, hu, hr⟩⟩ := h
  simp only at *
  obtain ⟨aa, ca, rfl⟩ := hacc.form
  obtain ⟨bn, on, cn, hvn, hcell⟩ := hu.nonnil (by omega)
  subst hvn
  rw [hul] at HBX HW1 ⊢
  have HUN : Hid (Stb g w1 fun w' => ∀ j (hj : j < us.length), w'.cell? ⟨bn, on + j, none⟩ = some us[j]) := fun w' hb j hj => cell_below (hstb w' hb) (hcell j hj)
  have HRW : Hid (Stb g w1 fun w' => ∀ j (h1 : j < us.length) (h2 : j < next.length), RowE eI w' us[j] next[j]) := fun w' hb j h1 h2 => (hr j h1 h2).below (hstb w' hb)
  have HAC : Hid (Stb g w1 fun w' => RowE eB w' (.slice aa acc.length ca) acc) := fun w' hb => hacc.below (hstb w' hb)
  have HUL : Hid (us.length = next.length) := hul
  obtain ⟨l0, hl0⟩ : ∃ l0, l0 = (next.headD []).length := ⟨_, rfl⟩
  obtain ⟨a0, c0, hu0⟩ : ∃ a0 c0, us[0]'(by omega) = .slice a0 l0 c0 := by
    obtain ⟨a0, c0, e⟩ := (hr 0 (by omega) (by omega)).form
    refine ⟨a0, c0, ?_⟩
    rw [e, hl0]
    cases next with
    | nil => simp at s2
    | cons r t => rfl
  have hl256 : l0 ≤ 256 := by
    rw [hl0]
    cases next with
    | nil => simp
    | cons r t => exact (s5 r (by simp)).1
  have HQ0 : Hid (Stb g w1 fun w' => w'.cell? ⟨bn, on, none⟩ = some (.slice a0 l0 c0)) := fun w' hb => by
    have := cell_below (hstb w' hb) (hcell 0 (by omega))
    rw [← hu0]; exact this
  have HS5 : Hid (∀ r ∈ next, r.length ≤ 256 ∧ ∀ z ∈ r, okZ z) := s5
  have HRL : Hid (∀ l : List (List Int), (∀ r ∈ l, r.length ≤ 256) → (l.flatMap (wrRow kind big)).length ≤ 1026 * l.length) := hrl
  obtain ⟨B5, hB5⟩ : ∃ B, B = h1 ⟨f, b, st, cls, acc, next⟩ kind big := ⟨_, rfl⟩
  have HB5 : Hid (B5 = mk5 ++ [UInt8.ofNat kind] ++ [UInt8.ofNat (bt f + 2 * bt b)] ++ [wrA big]) := hB5
  have hl5 : B5.length = 8 := by rw [hB5]; rfl
  obtain ⟨B9, hB9⟩ : ∃ B, B = hd ⟨f, b, st, cls, acc, next⟩ kind big := ⟨_, rfl⟩
  have HB9 : Hid (B9 = B5 ++ pr big acc.length ++ pr big l0 ++ pr big st.toNat ++ cls) := by show _ = _; rw [hB9, hd_eq, ← hB5, ← hl0]
  have HE9 : Hid (enc ⟨f, b, st, cls, acc, next⟩ kind big = B9 ++ acc.map wrA ++ next.flatMap (wrRow kind big) ++ num4 big (crc (B9 ++ acc.map wrA ++ next.flatMap (wrRow kind big)))) := by show _ = _; rw [HE.out, ← hB9]
  rw [← hB9] at hhl
  have hst1 := s4.1
  have hst2 := s4.2
  have HSN : Hid (st = ((st.toNat : Nat) : Int)) := by show _ = _; omega
  have HO1 : Hid (WrOut g big w1 [] w1) := hwr1
  have hpl := pr_len big
  clear hw1 hg hwr1 hB1 s4 hul hu hr hacc hcell hu0 hl0 s5 hrl hB5 hB9 HE hstb
  go_enter Tryz.func59, Tryz.ntmps59
  go_wp2_with (first | (go_at_call 100; refine (small_o _ g big _ (UInt8.ofNat kind) _ (by first | (simp; done) | (simp; omega)) HO2.out.wr (by simp [mk5])).mono ?_; rintro e w3 ⟨rfl, ho3⟩; have HO3 : Hid (WrOut g big w1 (mk5 ++ [UInt8.ofNat kind]) w3) := HO2.out.trans ho3; clear ho3; obtain ⟨p0, p1, p2, p3, p4, p5⟩ := box6 (HBX.out w3 HO3.out.2.bl); have q0 : w3.cell? ⟨bn, on, none⟩ = some (.slice a0 l0 c0) := HQ0.out w3 HO3.out.2.bl) | (go_at_call 99; rw [← HW1.out, ← HG.out]; refine (text_o _ g big [] mk5 _ rfl HO1.out.wr (by simp [mk5]) (by simp [mk5])).mono ?_; rintro e w2 ⟨rfl, ho2⟩; have HO2 : Hid (WrOut g big w1 mk5 w2) := HO1.out.trans (by simpa using ho2); clear ho2))
  go_region_held3 (fun w' => w'.cell? ⟨w.heap.size, 0, none⟩ = some (.bool f) ∧ w'.cell? ⟨w.heap.size, 1, none⟩ = some (.bool b)) (go_keep) (first | (go_at_call 100; refine (small_o _ g big _ (UInt8.ofNat (bt f + 2 * bt b)) _ (by cases f <;> cases b <;> rfl) (HO3.out.below ((Below.refl _ _).drew)).wr (by simp [mk5])).mono ?_; rintro e w4 ⟨rfl, ho4⟩; have HO4 : Hid (WrOut g big w1 (mk5 ++ [UInt8.ofNat kind] ++ [UInt8.ofNat (bt f + 2 * bt b)]) w4) := (HO3.out.below ((Below.refl _ _).drew)).trans ho4; clear ho4; obtain ⟨p0, p1, p2, p3, p4, p5⟩ := box6 (HBX.out w4 HO4.out.2.bl); have q0 : w4.cell? ⟨bn, on, none⟩ = some (.slice a0 l0 c0) := HQ0.out w4 HO4.out.2.bl) | (go_at_call 101; refine (bit_any _ _).mono ?_; rintro e wq ⟨rfl, hwq⟩; obtain rfl := hwq.symm))
  rename_i hheld
  clear hheld
  go_wp2_with (first | (go_at_call 99; refine (text_o _ g big (B5 ++ pr big acc.length ++ pr big l0 ++ pr big st.toNat) cls _ rfl HO8.out.wr (by simp [hpl, hl5]; omega) (by first | (simp [hpl, hl5]; done) | (simp [hpl, hl5]; omega))).mono ?_; rintro e w9 ⟨rfl, ho9⟩; have HO9 : Hid (WrOut g big w1 B9 w9) := (by show WrOut _ _ _ _ _; rw [HB9.out]; exact HO8.out.trans ho9); clear ho9; obtain ⟨p0, p1, p2, p3, p4, p5⟩ := box6 (HBX.out w9 HO9.out.2.bl); have q0 : w9.cell? ⟨bn, on, none⟩ = some (.slice a0 l0 c0) := HQ0.out w9 HO9.out.2.bl) | (go_at_call 102; refine (pair_z _ g big (B5 ++ pr big acc.length ++ pr big l0) st.toNat _ HSN.out (by omega) HO7.out.wr (by simp [hpl, hl5])).mono ?_; rintro e w8 ⟨rfl, ho8⟩; have HO8 : Hid (WrOut g big w1 (B5 ++ pr big acc.length ++ pr big l0 ++ pr big st.toNat) w8) := HO7.out.trans ho8; clear ho8; obtain ⟨p0, p1, p2, p3, p4, p5⟩ := box6 (HBX.out w8 HO8.out.2.bl); have q0 : w8.cell? ⟨bn, on, none⟩ = some (.slice a0 l0 c0) := HQ0.out w8 HO8.out.2.bl) | (go_at_call 102; refine (pair_z _ g big (B5 ++ pr big acc.length) l0 _ rfl (by omega) HO6.out.wr (by simp [hpl, hl5])).mono ?_; rintro e w7 ⟨rfl, ho7⟩; have HO7 : Hid (WrOut g big w1 (B5 ++ pr big acc.length ++ pr big l0) w7) := HO6.out.trans ho7; clear ho7; obtain ⟨p0, p1, p2, p3, p4, p5⟩ := box6 (HBX.out w7 HO7.out.2.bl); have q0 : w7.cell? ⟨bn, on, none⟩ = some (.slice a0 l0 c0) := HQ0.out w7 HO7.out.2.bl) | (go_at_call 102; refine (pair_z _ g big B5 acc.length _ rfl (by omega) HO5.out.wr (by omega)).mono ?_; rintro e w6 ⟨rfl, ho6⟩; have HO6 : Hid (WrOut g big w1 (B5 ++ pr big acc.length) w6) := HO5.out.trans ho6; clear ho6; obtain ⟨p0, p1, p2, p3, p4, p5⟩ := box6 (HBX.out w6 HO6.out.2.bl); have q0 : w6.cell? ⟨bn, on, none⟩ = some (.slice a0 l0 c0) := HQ0.out w6 HO6.out.2.bl) | (go_at_call 100; refine (small_o _ g big _ (wrA big) _ (by cases big <;> rfl) HM5.out.wr (by simp [mk5])).mono ?_; rintro e w5 ⟨rfl, ho5⟩; have HO5 : Hid (WrOut g big w1 B5 w5) := (by show WrOut _ _ _ _ _; rw [HB5.out]; exact HM5.out.trans ho5); clear ho5; obtain ⟨p0, p1, p2, p3, p4, p5⟩ := box6 (HBX.out w5 HO5.out.2.bl); have q0 : w5.cell? ⟨bn, on, none⟩ = some (.slice a0 l0 c0) := HQ0.out w5 HO5.out.2.bl) | (go_at_call 101; refine (bit_any _ _).mono ?_; rintro e wq ⟨rfl, hwq⟩; obtain rfl := hwq.symm; have HM5 := HO4))
  clear HO1 HO2 HO3 HO4 HO5 HO6 HO7 HO8 HM5
  go_loopw [59] (fun i wr => ∃ k : Nat, i = .int .i64 k ∧ k ≤ acc.length ∧ WrOut g big w1 (B9 ++ (acc.take k).map wrA) wr) (fun i _ => acc.length - (intOf i).toNat)
  case atStart => exact ⟨0, rfl, Nat.zero_le _, by simpa using HO9.out⟩
  case round =>
    obtain ⟨k, rfl, hk1, hout⟩ := hrel
    clear HO9
    have hlk : (B9 ++ (acc.take k).map wrA).length ≤ 500 := by simp; omega
    obtain ⟨B, hB⟩ : ∃ B, B = B9 ++ (acc.take k).map wrA := ⟨_, rfl⟩
    have HBq : Hid (B = B9 ++ (acc.take k).map wrA) := hB
    rw [← hB] at hlk hout
    have HW : Hid (WrOut g big w1 B wr) := hout
    clear hout hB
    by_cases hlt : k < acc.length
    · have hltI : (k : Int) < acc.length := by omega
      obtain ⟨b', o', c', hform, hcell⟩ := (HAC.out wr HW.out.2.bl).nonnil (by omega)
      injection hform with e1 e2 e3
      subst e1
      have hck := hcell k hlt
      obtain ⟨z, hz⟩ : ∃ z, z = acc[k] := ⟨_, rfl⟩
      rw [← hz] at hck
      have HT : Hid ((acc.take (k + 1)).map wrA = (acc.take k).map wrA ++ [wrA z]) := by
        show _ = _
        rw [List.take_succ_eq_append_getElem hlt, ← hz]; simp
      clear hz e2 e3 hcell
      go_wp2_with (first | (go_at_call 100; refine (small_o _ g big B (wrA z) _ (by cases z <;> rfl) HW.out.wr (by omega)).mono ?_; rintro e w3 ⟨rfl, ho3⟩; have HO3 : Hid (WrOut g big wr (B ++ [wrA z]) w3) := ho3; clear ho3) | (go_at_call 101; refine (bit_any _ _).mono ?_; rintro e wq ⟨rfl, hwq⟩; obtain rfl := hwq.symm))
      go_roundw
      case rel =>
        refine ⟨k + 1, by go_num, by omega, ?_⟩
        rw [HT.out, ← List.append_assoc, ← HBq.out]
        exact HW.out.trans HO3.out
      case measure => simp [intOf] <;> omega
    · have hkI : ¬ (k : Int) < acc.length := by omega
      obtain ⟨C, hC⟩ : ∃ C, C = B9 ++ acc.map wrA := ⟨_, rfl⟩
      have HC : Hid (B9 ++ acc.map wrA = C) := hC.symm
      have hlc : C.length ≤ 500 := by rw [hC]; simp; omega
      have HO9 : Hid (WrOut g big w1 C wr) := by
        show WrOut _ _ _ _ _
        have h := HW.out
        rw [HBq.out, List.take_of_length_le (by omega), ← hC] at h
        exact h
      clear hC HW HBq p0 p1 p2 p3 p4 p5 q0
      obtain ⟨p0, p1, p2, p3, p4, p5⟩ := box6 (HBX.out wr HO9.out.2.bl)
      go_wp2
      go_loopw [71] (fun i wr => ∃ k : Nat, i = .int .i64 k ∧ k ≤ next.length ∧ WrOut g big w1 (C ++ (next.take k).flatMap (wrRow kind big)) wr) (fun i _ => next.length - (intOf i).toNat)
      case atStart => exact ⟨0, rfl, Nat.zero_le _, by simpa using HO9.out⟩
      case round =>
        obtain ⟨k, rfl, hk2, hout⟩ := hrel
        clear p0 p1 p2 p3 p4 p5 HO9
        have hlk : (C ++ (next.take k).flatMap (wrRow kind big)).length + 2000 ≤ 1000000 := by
          have := HRL.out (next.take k) (fun r hr => (HS5.out r (List.mem_of_mem_take hr)).1)
          have h2 : (next.take k).length ≤ 200 := by simp; omega
          rw [List.length_append]; omega
        obtain ⟨B, hB⟩ : ∃ B, B = C ++ (next.take k).flatMap (wrRow kind big) := ⟨_, rfl⟩
        have HBq : Hid (B = C ++ (next.take k).flatMap (wrRow kind big)) := hB
        rw [← hB] at hlk hout
        have HW : Hid (WrOut g big w1 B wr) := hout
        clear hout hB
        by_cases hlt : k < next.length
        · have hltI : (k : Int) < next.length := by omega
          have hlt1 : k < us.length := by have := HUL.out; omega
          have hck : wr.cell? ⟨bn, on + k, none⟩ = some us[k] := HUN.out wr HW.out.2.bl k hlt1
          have hrk : Stb g wr fun w' => RowE eI w' us[k] next[k] := fun w' hb => HRW.out w' (HW.out.2.bl.trans hb) k hlt1 hlt
          have hr5 := HS5.out next[k] (List.getElem_mem hlt)
          obtain ⟨a2, c2, hform⟩ := hrk.now.form
          obtain ⟨u, hu⟩ : ∃ u, u = us[k] := ⟨_, rfl⟩
          obtain ⟨r, hr⟩ : ∃ r, r = next[k] := ⟨_, rfl⟩
          rw [← hu] at hck hrk hform
          rw [← hr] at hrk hr5 hform
          subst hform
          have HT : Hid ((next.take (k + 1)).flatMap (wrRow kind big) = (next.take k).flatMap (wrRow kind big) ++ wrRow kind big r) := by
            show _ = _
            rw [List.take_succ_eq_append_getElem hlt, List.flatMap_append, ← hr]; simp
          have HRK : Hid (Stb g wr fun w' => RowE eI w' (.slice a2 r.length c2) r) := hrk
          have HR5 : Hid (r.length ≤ 256 ∧ ∀ z ∈ r, okZ z) := hr5
          clear hu hr hrk hr5
          go_wp2_with (go_at_call 103; refine (row_w _ g big B _ r kind _ rfl hk HW.out.wr HRK.out HR5.out.1 HR5.out.2 hlk).mono ?_; rintro e w3 ⟨rfl, ho3⟩; have HO3 : Hid (WrOut g big wr (B ++ wrRow kind big r) w3) := ho3; clear ho3)
          go_roundw
          case rel =>
            refine ⟨k + 1, by go_num, by omega, ?_⟩
            rw [HT.out, ← List.append_assoc, ← HBq.out]
            exact HW.out.trans HO3.out
          case measure => simp [intOf] <;> omega
        · have hkI : ¬ (k : Int) < next.length := by omega
          obtain ⟨D, hD⟩ : ∃ D, D = C ++ next.flatMap (wrRow kind big) := ⟨_, rfl⟩
          have HD : Hid (enc ⟨f, b, st, cls, acc, next⟩ kind big = D ++ num4 big (crc D)) := by
            show _ = _
            rw [HE9.out, HC.out, hD]
          have hBD : B = D := by rw [HBq.out, hD, List.take_of_length_le (by omega)]
          subst hBD
          obtain ⟨v5, hv5⟩ := HW.out.wr
          have d1 := hv5.c1
          have hsum := sum_any wr v5 B (bf_row hv5.buf) (by omega)
          have hcl := crc_lt B
          have hn4 := number4 wr g big v5 B (crc B) hcl hv5 (by omega)
          have HN4 : Hid (Calls Tryz.prog 104 #[.pointer (some ⟨g, 0, none⟩), .int .u32 (crc B), .int .i64 4] wr fun e w' => e = .returned (.tuple #[]) ∧ WrOut g big wr (B ++ num4 big (crc B)) w') := hn4
          clear hn4 hD hv5
          go_wp2_with (first | (go_at_call 104; refine HN4.out.mono ?_; rintro e w6 ⟨rfl, ho6⟩; obtain ⟨v6, hv6⟩ := ho6.wr; have d6 := hv6.c1; have hcv := conv_bf hv6.buf; have HO6 : Hid (WrOut g big wr (B ++ num4 big (crc B)) w6) := ho6; clear ho6 hv6) | (go_at_call 105; refine hsum.mono ?_; rintro e wq ⟨rfl, hwq⟩; obtain rfl := hwq.symm))
          go_ret
          refine ⟨?_, HB1.out.trans ((HW.out.2.bl.trans HO6.out.2.bl).mono (by rw [HG.out]; omega))⟩
          rw [HD.out]; rfl
end Go.Proofs.YtbjabpodkaokjaaGreatDoor
