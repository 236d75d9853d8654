import Derived.Test.YtbjabpodkaokjaaJ42
set_option linter.unusedVariables false
set_option linter.unusedSimpArgs false
namespace Go.Proofs.Ytbjabpodkaokjaa
open Go.RowKit

theorem num4_len (g : Bool) (n : Nat) : (num4 g n).length = 4 := by cases g <;> simp [num4]
theorem enc_len4 (t : Tb) (k : Nat) (g : Bool) : (enc t k g).length = (body t k g).length + 4 := by unfold enc; rw [List.length_append, num4_len]
theorem T0_len : (enc T0 1 true).length ≤ maxLen := by
  have e := enc_len4 T0 1 true
  have e2 : (body T0 1 true).length = 284 := by kernel_rfl
  rw [e, e2]; unfold maxLen; omega
theorem T0_load : loadM isTb (enc T0 1 true) = some T0 := (loadM_some fits_tb).mpr ⟨1, true, by omega, T0_is, rfl⟩
set_option maxRecDepth 4000 in
set_option maxHeartbeats 4000000 in
theorem built_yes (w : World) : Calls Try.prog 11 #[] w fun e w' => e = .returned (.bool true) ∧ Below w.heap.size w w' := by
  obtain ⟨i0, hi, hz0, hz1, hz2⟩ := info_parts Try.infoU8
  have hmk : ∀ w, (Instr.makeSlice 46 (.int .i64 256) (.int .i64 256)).run Try.prog w = .ok (.slice (some ⟨w.heap.size, 0, none⟩) 256 256) (w.alloc (.cells (mkA 256 (.int .u8 0)) 5)) := fun w => make_eq Try.underlying46 hi hz0 hz1 hz2 256 (by omega) (by unfold maxLen; omega) w
  have hcv := conv0 (Nw.new w 256 (.int .u8 0) rfl 5)
  obtain ⟨z, hz⟩ : ∃ z, z = List.replicate 256 (0 : UInt8) := ⟨_, rfl⟩
  rw [← hz] at hcv
  clear hi hz0 hz1 hz2
  have HBY : Hid (Calls Try.prog 16 #[tv ⟨false, false, 1, z, [true, false], [[1], [0]]⟩ (.slice (some ⟨w.heap.size + 1, 0, none⟩) 2 2) (.slice (some ⟨w.heap.size + 1 + 1 + 1 + 1, 0, none⟩) 2 2)] (kw w) fun e w' => ∃ m c, e = .returned (.tuple #[.pointer (some ⟨m, 0, none⟩), .int .i64 0]) ∧ Mch w' m T0 c ∧ Below w.heap.size w w') := by
    subst hz
    refine (build_yes (kw w) T0 _ _ (kw_tab w _) T0_small T0_is).mono ?_
    rintro e w' ⟨m, c, rfl, hm, _, hb⟩
    exact ⟨m, c, rfl, hm, (kw_below w).trans (hb.mono (kw_below w).size)⟩
  clear hz
  have HLA : Hid (∀ w m c, Mch w m T0 c → Calls Try.prog 15 #[.pointer (some ⟨m, 0, none⟩), .string ⟨#[120, 120, 120, 120]⟩] w fun e w' => e = .returned (.tuple #[.int .i64 3, .int .i64 0]) ∧ Below w.heap.size w w') := fun w m c h => by
    have := longest_any w m T0 c h [120, 120, 120, 120] (by simp [maxLen])
    rw [T0_last] at this
    exact this
  obtain ⟨E, hE⟩ : ∃ E, E = enc T0 1 true := ⟨_, rfl⟩
  have HEN : Hid (∀ w m c, Mch w m T0 c → Calls Try.prog 9 #[.pointer (some ⟨m, 0, none⟩), .int .i64 1, .bool true] w fun e w' => e = .returned (.tuple #[.string (ba E), .int .i64 0]) ∧ Below w.heap.size w w') := fun w m c h => by
    rw [hE]; exact encode_any w m T0 c h 1 (by omega) true
  have HLO : Hid (∀ w, Calls Try.prog 6 #[.string (ba E)] w fun e w' => ∃ m c, e = .returned (.tuple #[.pointer (some ⟨m, 0, none⟩), .int .i64 0]) ∧ Mch w' m T0 c ∧ w.heap.size ≤ m ∧ Below w.heap.size w w') := fun w => by
    rw [hE]; exact load_some w _ T0_len T0 T0_load
  clear hE
  go_enter Try.func11, Try.ntmps11
  go_wp2_with (first | (go_at_call 16; refine HBY.out.mono ?_; rintro e w1 ⟨m, c, rfl, hm, hb⟩; have HM : Hid (Mch w1 m T0 c) := hm; have HB : Hid (Below w.heap.size w w1) := hb; clear hm hb) | (go_at_call 9; refine (HEN.out _ _ _ HM.out).mono ?_; rintro e w2 ⟨rfl, hb2⟩; have HB2 : Hid (Below w.heap.size w w2) := HB.out.trans (hb2.mono HB.out.size); clear hb2) | (go_at_call 6; refine (HLO.out _).mono ?_; rintro e w3 ⟨m3, c3, rfl, hm3, _, hb3⟩; have HM3 : Hid (Mch w3 m3 T0 c3) := hm3; have HB3 : Hid (Below w.heap.size w w3) := HB2.out.trans (hb3.mono HB2.out.size); clear hm3 hb3) | (go_at_call 15; refine (HLA.out _ _ _ HM3.out).mono ?_; rintro e w4 ⟨rfl, hb4⟩; have HB4 : Hid (Below w.heap.size w w4) := HB3.out.trans (hb4.mono HB3.out.size); clear hb4))
  go_ret
  exact ⟨rfl, HB4.out⟩
end Go.Proofs.Ytbjabpodkaokjaa

namespace Go.Proofs.Ytbjabpodkaokjaa
open Go.RowKit

set_option maxRecDepth 4000 in
set_option maxHeartbeats 4000000 in
theorem right_yes (w : World) (t : Tb) (c : Nat) (va vn : Value) (h : TabIn w t va vn) (hok : TbOk t c) :
    Calls Try.prog 12 #[tv t va vn] w fun e w' => e = .returned (.bool true) ∧ Below w.heap.size w w' := by
  obtain ⟨ha, hn⟩ := h
  have oc := hok.c256
  obtain ⟨o1, o2, o3, o4, o5, o6, o7⟩ := hok
  obtain ⟨a, ca, rfl⟩ := ha.form
  obtain ⟨us, hul, hu, hr⟩ := hn
  obtain ⟨f, b, st, cls, acc, next⟩ := t
  simp only at *
  obtain ⟨an, cn, rfl⟩ := hu.form
  obtain ⟨na, hna⟩ : ∃ na, na = acc.length := ⟨_, rfl⟩
  obtain ⟨nn, hnn⟩ : ∃ nn, nn = us.length := ⟨_, rfl⟩
  rw [← hna] at o1 o2 o3 o5 o7 ⊢
  rw [← hnn] at hul hu ⊢
  obtain ⟨wx, hwx⟩ : ∃ wx, wx = w.alloc (.cells #[.bool f, .bool b, .int .i64 st, .string (ba cls), .slice a na ca, .slice an nn cn] 30) := ⟨_, rfl⟩
  have HB : Hid (Below w.heap.size w wx) := by rw [hwx]; exact (Below.refl _ _).alloc (Nat.le_refl _) _
  have HW : Hid (wx = w.alloc (.cells #[.bool f, .bool b, .int .i64 st, .string (ba cls), .slice a na ca, .slice an nn cn] 30)) := hwx
  have hU : Hid (RowE id wx (.slice an nn cn) us) := hu.below HB.out
  have hRw : Hid (∀ j (h1 : j < us.length) (h2 : j < next.length), RowE eI wx us[j] next[j]) := fun j h1 h2 => (hr j h1 h2).below HB.out
  have HUL : Hid (nn = next.length) := hul
  have HNN : Hid (nn = us.length) := hnn
  have HC6 : Hid (cls.length = 256) := oc.2
  have hbz : (ba cls).size = 256 := by rw [ba_size]; exact oc.2
  have HCC : Hid (cntA 0 cls = c) := by
    refine cntA_eq _ _ _ ?_
    unfold cntR at o6
    rw [if_pos hbz] at o6
    exact o6
  have HR7 : Hid (∀ r ∈ next, r.length = c ∧ ∀ z ∈ r, 0 ≤ z ∧ z < (na : Int)) := o7
  have hc256 : c ≤ 256 := by omega
  have hblk : wx.heap[w.heap.size]? = some (.cells #[.bool f, .bool b, .int .i64 st, .string (ba cls), .slice a na ca, .slice an nn cn] 30) := by rw [hwx]; exact heap_alloc_new w _
  obtain ⟨p0, p1, p2, p3, p4, p5⟩ := box6 hblk
  have h1 : ¬ (na : Int) < 1 := by omega
  have h3' : ((nn : Int) != na) = false := by simp; omega
  have h4 : ¬ st < 0 := by omega
  have h5 : ¬ (na : Int) ≤ st := by omega
  clear hna ha hu hr hul hnn hwx p0 p1 hblk o1 o3 o4 o5 o6 o7 oc
  go_enter Try.func12, Try.ntmps12
  go_wp2
  rw [← HW.out]
  go_loop [4, 5] (fun top i => ∃ k x : Nat, i = .int .i64 k ∧ top = .int .i64 x ∧ k ≤ 256 ∧ x ≤ 256 ∧ x = cntA 0 (cls.take k)) (fun _ i => 256 - (intOf i).toNat)
  case atStart => exact ⟨0, 0, rfl, rfl, by omega, by omega, rfl⟩
  case round =>
    obtain ⟨k, x, rfl, rfl, hk, hx, hxe⟩ := hrel
    have HX : Hid (x = cntA 0 (cls.take k)) := hxe
    clear hxe
    by_cases hlt : k < 256
    · have hltI : (k : Int) < 256 := by omega
      have hlt1 : k < cls.length := by have := HC6.out; omega
      obtain ⟨bb, hb⟩ : ∃ b, b = cls[k] := ⟨_, rfl⟩
      have hbx : ∀ h : k < (ba cls).size, ((ba cls)[k]'h).toNat = bb.toNat := fun h => by rw [hb]; rfl
      have hb8 := bb.toNat_lt
      have HC : Hid (cntA 0 (cls.take (k + 1)) = if x ≤ bb.toNat then bb.toNat + 1 else x) := by
        show _ = _
        rw [List.take_succ_eq_append_getElem hlt1, cntA_snoc, ← hb, HX.out]
      clear hb
      by_cases hge : (x : Int) ≤ bb.toNat
      · have HC2 : Hid (cntA 0 (cls.take (k + 1)) = bb.toNat + 1) := by show _ = _; rw [HC.out, if_pos (by omega)]
        go_wp2
        go_round
        case rel => exact ⟨k + 1, bb.toNat + 1, by go_num, by go_num, by omega, by omega, HC2.out.symm⟩
        case measure => simp [intOf] <;> omega
      · have HC2 : Hid (cntA 0 (cls.take (k + 1)) = x) := by show _ = _; rw [HC.out, if_neg (by omega)]
        go_wp2
        go_round
        case rel => exact ⟨k + 1, x, by go_num, rfl, by omega, by omega, HC2.out.symm⟩
        case measure => simp [intOf] <;> omega
    · have hkI : ¬ (k : Int) < 256 := by omega
      have hxc : x = c := by
        rw [HX.out, List.take_of_length_le (by have := HC6.out; omega)]; exact HCC.out
      subst hxc
      obtain ⟨bn, on, cn', hvn, hcell⟩ := hU.out.nonnil (by have := HNN.out; simp at h3'; omega)
      injection hvn with e1 e2 e3
      subst e1
      have HC : Hid (∀ j (hj : j < us.length), wx.cell? ⟨bn, on + j, none⟩ = some us[j]) := hcell
      clear hcell e2 e3 hU HX
      go_wp2
      go_loop [6, 7] (fun i _ => ∃ k : Nat, i = .int .i64 k ∧ k ≤ na) (fun i _ => na - (intOf i).toNat)
      case atStart => exact ⟨0, rfl, Nat.zero_le _⟩
      case round =>
        obtain ⟨i, rfl, hi⟩ := hrel
        by_cases hilt : i < na
        · have hnE : nn = na := by simp at h3'; omega
          have hlt1 : i < us.length := by have := HNN.out; omega
          have hlt2 : i < next.length := by have := HUL.out; omega
          have hltI : (i : Int) < na := by omega
          have hltN : (i : Int) < nn := by omega
          have hck := HC.out i hlt1
          have hrk := hRw.out i hlt1 hlt2
          have hrr := HR7.out _ (List.getElem_mem hlt2)
          obtain ⟨u, hu⟩ : ∃ u, u = us[i] := ⟨_, rfl⟩
          obtain ⟨r, hre⟩ : ∃ r, r = next[i] := ⟨_, rfl⟩
          rw [← hu] at hck hrk
          rw [← hre] at hrk hrr
          obtain ⟨au, cu, hform⟩ := hrk.form
          subst hform
          have HRK : Hid (RowE eI wx (.slice au r.length cu) r) := hrk
          have HRL : Hid (r.length = x ∧ ∀ z ∈ r, 0 ≤ z ∧ z < (na : Int)) := hrr
          have hrb : ((r.length : Int) != x) = false := by simp; omega
          clear hu hre hrk hrr hnE
          go_wp2
          go_loop [7] (fun q => ∃ j : Nat, q = .int .i64 j ∧ j ≤ x) (fun q => x - (intOf q).toNat)
          case atStart => exact ⟨0, rfl, Nat.zero_le _⟩
          case round =>
            obtain ⟨j, rfl, hj⟩ := hrel
            by_cases hjl : j < x
            · have hjlI : (j : Int) < x := by omega
              have hjr : j < r.length := by have := HRL.out.1; omega
              have hjrI : (j : Int) < r.length := by omega
              obtain ⟨ab, ob, cb, hf2, hcz⟩ := HRK.out.nonnil (by omega)
              injection hf2 with e1 e2 e3
              subst e1
              have hcj := hcz j hjr
              have hzz := HRL.out.2 _ (List.getElem_mem hjr)
              obtain ⟨z, hz⟩ : ∃ z, z = r[j] := ⟨_, rfl⟩
              rw [← hz] at hcj hzz
              obtain ⟨z1, z2⟩ := hzz
              have z1d : decide (z < 0) = false := by simpa using z1
              have z2d : ¬ (na : Int) ≤ z := by omega
              clear hz hcz e2 e3
              go_wp2
              go_round
              case rel => exact ⟨j + 1, by go_num, by omega⟩
              case measure => simp [intOf] <;> omega
            · have hjlI : ¬ (j : Int) < x := by omega
              go_wp2
              go_round
              case rel => exact ⟨i + 1, by go_num, by omega⟩
              case measure => simp [intOf] <;> omega
        · have hiI : ¬ (i : Int) < na := by omega
          go_wp2
          go_ret
          exact ⟨rfl, HB.out⟩
end Go.Proofs.Ytbjabpodkaokjaa
