import Derived.Test.YtbjabpodkaokjaaJ13
set_option linter.unusedVariables false
set_option linter.unusedSimpArgs false
namespace Go.Proofs.Ytbjabpodkaokjaa
open Go.RowKit

set_option maxRecDepth 4000 in
set_option maxHeartbeats 2000000 in
theorem sparse_r (w : World) (g : Nat) (big : Bool) (l : List UInt8) (c : Nat) (hc : c ≤ 256) (h : Rdr w g big l) :
    Calls Try.prog 50 #[.pointer (some ⟨g, 0, none⟩), .int .i64 c] w fun e w' => ∃ v, e = .returned v ∧ IRow w' w.heap.size v (rdSp big c l).1 ∧ RdOut g big w (rdSp big c l).2 w' := by
  obtain ⟨i0, hi0, hz0, hz1, hz2⟩ := info_parts Try.infoI
  have hgl := h.lt
  have HP : Hid (Calls Try.prog 31 #[.pointer (some ⟨g, 0, none⟩)] w fun e w' => e = .returned (.int .i64 (rdP big l).1) ∧ RdOut g big w (rdP big l).2 w') := pair_r w g big l h
  clear h
  have hn := rdP_lt big l
  obtain ⟨n, hne⟩ : ∃ n, n = (rdP big l).1 := ⟨_, rfl⟩
  obtain ⟨l1, hl1⟩ : ∃ n, n = (rdP big l).2 := ⟨_, rfl⟩
  rw [← hne] at hn
  rw [← hne, ← hl1] at HP
  have HE : Hid (rdSp big c l = rdR big c n l1) := by show _ = _; rw [hne, hl1]; rfl
  clear hne hl1
  go_enter Try.func50, Try.ntmps50
  go_wp2_with (go_at_call 31; refine HP.out.mono ?_; rintro e w1 ⟨rfl, ho1⟩; have HO1 : Hid (RdOut g big w l1 w1) := ho1; clear ho1)
  go_loopw [5, 10] (fun r i wr => ∃ j : Nat, i = .int .i64 j ∧ j ≤ n ∧ IRow wr w.heap.size r (rdR big c j l1).1 ∧ RdOut g big w (rdR big c j l1).2 wr) (fun _ i _ => n - (intOf i).toNat)
  case atStart => exact ⟨0, rfl, Nat.zero_le _, World.ownsRow_nil _ _ _ _, HO1.out⟩
  case round =>
    obtain ⟨j, rfl, hj, hir, hro⟩ := hrel
    clear HO1
    have hlen := rdR_len big c l1 j
    by_cases hlt : j < n
    · have hltI : (j : Int) < n := by omega
      have HR : Hid (RdOut g big w (rdR big c j l1).2 wr) := hro
      obtain ⟨S, hS⟩ : ∃ S, S = (rdR big c j l1).1 := ⟨_, rfl⟩
      obtain ⟨R, hR⟩ : ∃ S, S = (rdR big c j l1).2 := ⟨_, rfl⟩
      have hq1 := rdP_lt big R
      have hq2 := rdP_lt big (rdP big R).2
      rw [← hS] at hir hlen
      rw [← hR] at HR
      obtain ⟨m, hm⟩ : ∃ n, n = (rdP big R).1 := ⟨_, rfl⟩
      obtain ⟨R1, hR1⟩ : ∃ n, n = (rdP big R).2 := ⟨_, rfl⟩
      obtain ⟨z, hz⟩ : ∃ n, n = (rdP big R1).1 := ⟨_, rfl⟩
      obtain ⟨R2, hR2⟩ : ∃ n, n = (rdP big R1).2 := ⟨_, rfl⟩
      rw [← hm] at hq1
      rw [← hR1, ← hz] at hq2
      have HP1 : Hid (Calls Try.prog 31 #[.pointer (some ⟨g, 0, none⟩)] wr fun e w' => e = .returned (.int .i64 m) ∧ RdOut g big wr R1 w') := by
        show Calls _ _ _ _ _
        rw [hm, hR1]; exact pair_r wr g big R HR.out.1
      have HP2 : Hid (∀ w, Rdr w g big R1 → Calls Try.prog 31 #[.pointer (some ⟨g, 0, none⟩)] w fun e w' => e = .returned (.int .i64 z) ∧ RdOut g big w R2 w') := fun w h => by rw [hz, hR2]; exact pair_r w g big R1 h
      have HJ : Hid (rdR big c (j + 1) l1 = (S ++ List.replicate (min m (c - S.length)) (z : Int), R2)) := by
        show _ = _
        simp only [rdR]
        rw [← hR, ← hS, ← hR1, ← hm, ← hz, ← hR2]
      obtain ⟨a5, c5, hform⟩ := ownsRow_shape hir
      subst hform
      have HI : Hid (IRow wr w.heap.size (.slice a5 S.length c5) S) := hir
      obtain ⟨q, hq⟩ : ∃ q, q = min m (c - S.length) := ⟨_, rfl⟩
      rw [← hq] at HJ
      have HQ : Hid (q = min m (c - S.length)) := hq
      have hqb : S.length + q ≤ 256 := by omega
      clear hS hR hm hR1 hz hR2 hir hro hq
      by_cases hmn : (m : Int) ≤ c - S.length
      all_goals
        first | (have hmq : q = m := (by have := HQ.out; omega); have hmn' : ¬ ((c : Int) - S.length < m) := (by omega)) | (have hmq : q = c - S.length := (by have := HQ.out; omega); have hmn' : ((c : Int) - S.length < m) := (by omega))
        go_wp2_with (first | (go_at_call 31; refine (HP2.out _ HO2.out.1).mono ?_; rintro e w3 ⟨rfl, ho3⟩; have HO3 : Hid (RdOut g big wr R2 w3) := HO2.out.trans ho3; clear ho3) | (go_at_call 31; refine HP1.out.mono ?_; rintro e w2 ⟨rfl, ho2⟩; have HO2 : Hid (RdOut g big wr R1 w2) := ho2; clear ho2))
      all_goals
        have HI3 : Hid (IRow w3 w.heap.size (.slice a5 S.length c5) S) := ownsRow_keep HI.out HO3.out.2 (by omega)
        have HR3 : Hid (RdOut g big w R2 w3) := HR.out.trans HO3.out
        have HSL : Hid (S.length = S.length) := rfl
        clear HO3 HO2 HP1 HP2 HI HR HP
        go_loopw [5, 22] (fun r i wr => ∃ k : Nat, i = .int .i64 k ∧ k ≤ q ∧ IRow wr w.heap.size r (S ++ List.replicate k (z : Int)) ∧ RdOut g big w R2 wr) (fun _ i _ => q - (intOf i).toNat)
        case atStart => exact ⟨0, rfl, Nat.zero_le _, by simpa using HI3.out, HR3.out⟩
        case round =>
          obtain ⟨k, rfl, hk, hir, hro⟩ := hrel
          clear HI3 HR3
          have HI : Hid (IRow wr w.heap.size u5 (S ++ List.replicate k (z : Int))) := hir
          have HR : Hid (RdOut g big w R2 wr) := hro
          have hws := hro.2.size
          clear hir hro
          by_cases hltq : k < q
          · first | (have hltI : (k : Int) < m := (by omega); clear hmn) | (have hltI : (k : Int) < (c : Int) - S.length := (by omega); clear hmn)
            have HOW : Hid (wr.ownsRow w.heap.size 3 1 u5 (S.length + k) ((S ++ List.replicate k (z : Int)).map eI)) := by
              show World.ownsRow _ _ _ _ _ _ _
              have := HI.out
              rw [IRow, show (S ++ List.replicate k (z : Int)).length = S.length + k by simp] at this
              exact this
            go_wp2_with (at_builtin; refine wpList_append_lies _ rfl (.tmp 24) (.tmp 26) 39 rfl w.heap.size 3 i0 (.int .i64 0) 1 8 Try.underlying39 hi0 hz0 hz1 hz2 rfl (by decide) u5 (S.length + k) ((S ++ List.replicate k (z : Int)).map eI) rfl (World.ownsRow.alloc HOW.out _) ⟨wr.heap.size, 0, none⟩ 1 1 [.int .i64 (z : Int)] rfl rfl (one_cell_new _ _ _) (by simp [Value.oneCell']) (by omega) (by unfold maxLen; omega) (by omega) (by simp; omega) _ rfl ?_)
            intro g1 cap1 w4 hown hgr hat hlt4
            have HI4 : Hid (IRow w4 w.heap.size (.slice (some ⟨g1, 0, none⟩) (S.length + k + 1) cap1) (S ++ List.replicate (k + 1) (z : Int))) := by
              show w4.ownsRow w.heap.size 3 1 (.slice (some ⟨g1, 0, none⟩) (S.length + k + 1) cap1) (S ++ List.replicate (k + 1) (z : Int)).length ((S ++ List.replicate (k + 1) (z : Int)).map eI)
              rw [show (S ++ List.replicate (k + 1) (z : Int)).length = S.length + k + 1 by simp; omega, List.replicate_succ']
              simpa using hown
            have HR4 : Hid (RdOut g big w R2 w4) := ⟨(HR.out.1.below ((Below.refl _ _).alloc (Nat.le_refl _) _)).of_block (hgr.block g (by simp; omega) (fun e => by have := (HOW.out.lt g e.symm).1; omega)), grown_own (grown_alloc HR.out.2 _) hgr (fun q e => (HOW.out.lt q e).1)⟩
            clear hown hgr hat
            go_wp2
            go_roundw
            case rel => exact ⟨k + 1, by go_num, by omega, HI4.out, HR4.out⟩
            case measure => simp [intOf] <;> omega
          · have hkq : k = q := by omega
            first | (have hltI : ¬ (k : Int) < m := (by omega); clear hmn) | (have hltI : ¬ (k : Int) < (c : Int) - S.length := (by omega); clear hmn)
            go_wp2
            go_roundw
            case rel =>
              refine ⟨j + 1, by go_num, by omega, ?_, ?_⟩
              · rw [HJ.out, ← hkq]; exact HI.out
              · rw [HJ.out]; exact HR.out
            case measure => simp [intOf] <;> omega
    · have hkI : ¬ (j : Int) < n := by omega
      have hjn : j = n := by omega
      have HI : Hid (IRow wr w.heap.size u5 (rdR big c j l1).1 ∧ RdOut g big w (rdR big c j l1).2 wr) := ⟨hir, hro⟩
      clear hir hro
      go_wp2
      go_ret
      have h := HI.out
      rw [hjn] at h
      rw [HE.out]
      exact ⟨_, rfl, h.1, h.2⟩
set_option maxHeartbeats 1000000 in
theorem row1_r (w : World) (g : Nat) (big : Bool) (l : List UInt8) (c : Nat) (hc : c ≤ 256) (h : Rdr w g big l) :
    Calls Try.prog 32 #[.pointer (some ⟨g, 0, none⟩), .int .i64 1, .int .i64 c] w fun e w' => ∃ v, e = .returned v ∧ IRow w' w.heap.size v (rdSp big c l).1 ∧ RdOut g big w (rdSp big c l).2 w' := by
  have HC : Hid (Calls Try.prog 50 #[.pointer (some ⟨g, 0, none⟩), .int .i64 c] w fun e w' => ∃ v, e = .returned v ∧ IRow w' w.heap.size v (rdSp big c l).1 ∧ RdOut g big w (rdSp big c l).2 w') := sparse_r w g big l c hc h
  clear h
  go_enter Try.func32, Try.ntmps32
  go_wp2_with (go_at_call 50; refine HC.out.mono ?_; rintro e w1 ⟨v, rfl, hi1, ho1⟩; have HO1 : Hid _ := ho1; have HI1 : Hid _ := hi1; clear ho1 hi1)
  go_ret
  exact ⟨_, rfl, HI1.out, HO1.out⟩
theorem row_r (w : World) (g : Nat) (big : Bool) (l : List UInt8) (kind c : Nat) (z : Int) (hz : z = (kind : Int)) (hk : kind ≤ 1) (hc : c ≤ 256) (h : Rdr w g big l) :
    Calls Try.prog 32 #[.pointer (some ⟨g, 0, none⟩), .int .i64 z, .int .i64 c] w fun e w' => ∃ v, e = .returned v ∧ IRow w' w.heap.size v (rdRow kind big c l).1 ∧ RdOut g big w (rdRow kind big c l).2 w' := by
  subst hz
  rcases (show kind = 0 ∨ kind = 1 by omega) with rfl | rfl
  · exact dense_r w g big l c hc h
  · exact row1_r w g big l c hc h
end Go.Proofs.Ytbjabpodkaokjaa
