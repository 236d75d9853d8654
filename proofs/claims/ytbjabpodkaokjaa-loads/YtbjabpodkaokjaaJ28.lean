import Derived.Test.YtbjabpodkaokjaaJ27
set_option linter.unusedVariables false
set_option linter.unusedSimpArgs false
namespace Go.Proofs.Ytbjabpodkaokjaa
open Go.RowKit

theorem irow_own {w : World} {base : Nat} {v : Value} {zs : List Int} {n : Nat} (h : IRow w base v zs) (hn : zs.length = n) : w.ownsRow base 3 1 v n (zs.map eI) := by rw [← hn]; exact h
theorem irow_snoc {w : World} {base : Nat} {v : Value} {zs : List Int} {z : Int} {n : Nat} (h : w.ownsRow base 3 1 v (n + 1) (zs.map eI ++ [.int .i64 z])) (hn : zs.length = n) : IRow w base v (zs ++ [z]) := by
  show w.ownsRow base 3 1 v (zs ++ [z]).length ((zs ++ [z]).map eI)
  rw [show (zs ++ [z]).length = n + 1 by simp [hn], List.map_append]
  exact h
set_option maxRecDepth 4000 in
set_option maxHeartbeats 1000000 in
theorem dense_rf (w : World) (g : Nat) (big : Bool) (l : List UInt8) (c : Nat) (hc : c ≤ 256) (h : Rdf w g big l) :
    Calls Try.prog 20 #[.pointer (some ⟨g, 0, none⟩), .int .i64 0, .int .i64 c] w fun e w' => ∃ v, e = .returned v ∧ IRow w' w.heap.size v (rdD big c l).1 ∧ RfOut g big w (rdD big c l).2 w' := by
  obtain ⟨i0, hi0, hz0, hz1, hz2⟩ := info_parts Try.infoI
  have H : Hid (Rdf w g big l) := h
  have hgl := h.lt
  clear h
  go_enter Try.func20, Try.ntmps20
  go_wp2
  go_loopw [7, 8, 9] (fun v i _ wr => ∃ k : Nat, i = .int .i64 k ∧ k ≤ c ∧ IRow wr w.heap.size v (rdD big k l).1 ∧ RfOut g big w (rdD big k l).2 wr) (fun _ i _ _ => c - (intOf i).toNat)
  case atStart => exact ⟨0, rfl, Nat.zero_le _, World.ownsRow_nil _ _ _ _, ⟨H.out, grown_refl _ _⟩⟩
  case round =>
    obtain ⟨k, rfl, hk, hir, hro⟩ := hrel
    have HI : Hid (IRow wr w.heap.size u7 (rdD big k l).1) := hir
    have HR : Hid (RfOut g big w (rdD big k l).2 wr) := hro
    have hws := hro.2.size
    clear hir hro
    by_cases hlt : k < c
    · have hltI : (k : Int) < c := by omega
      have hkl := rdD_len big l k
      obtain ⟨S, hS⟩ : ∃ S, S = (rdD big k l).1 := ⟨_, rfl⟩
      obtain ⟨z, hz⟩ : ∃ z, z = (rdP big (rdD big k l).2).1 := ⟨_, rfl⟩
      obtain ⟨l2, hl2⟩ : ∃ z, z = (rdP big (rdD big k l).2).2 := ⟨_, rfl⟩
      have HP : Hid (Calls Try.prog 19 #[.pointer (some ⟨g, 0, none⟩), .int .i64 2] wr fun e w' => e = .returned (.int .i64 z) ∧ RfOut g big wr l2 w') := by
        show Calls _ _ _ _ _
        rw [hz, hl2]; exact number_r2 wr g big _ HR.out.1
      have HD : Hid (rdD big (k + 1) l = (S ++ [(z : Int)], l2)) := by show _ = _; rw [rdD, hz, hl2, hS]
      rw [← hS] at HI hkl
      have HSL : Hid (S.length = k) := hkl
      clear hz hl2 hS hkl
      go_wp2_with (first | (at_builtin; refine wpList_append_lies _ rfl (.tmp 24) (.tmp 26) 39 rfl w.heap.size 3 i0 (.int .i64 0) 1 8 Try.underlying39 hi0 hz0 hz1 hz2 rfl (by decide) u7 k (S.map eI) rfl (World.ownsRow.alloc HW2.out _) ⟨w2.heap.size, 0, none⟩ 1 1 [.int .i64 (z : Int)] rfl rfl (one_cell_new _ _ _) (by simp [Value.oneCell']) (by omega) (by unfold maxLen; omega) (by omega) (by simp; omega) _ rfl ?_) | (go_at_call 19; refine HP.out.mono ?_; rintro e w2 ⟨rfl, ho2⟩; have HO2 : Hid (RfOut g big wr l2 w2) := ho2; have hw2 := ho2.2.size; have HW2 : Hid (w2.ownsRow w.heap.size 3 1 u7 k (S.map eI)) := ownsRow_keep (irow_own HI.out HSL.out) ho2.2 (by omega); clear ho2))
      intro g1 cap1 w4 hown hgr hat hlt4
      have HI4 : Hid (IRow w4 w.heap.size (.slice (some ⟨g1, 0, none⟩) (k + 1) cap1) (S ++ [(z : Int)])) := irow_snoc hown HSL.out
      have HR4 : Hid (RfOut g big w l2 w4) := ⟨(HO2.out.1.below ((Below.refl _ _).alloc (Nat.le_refl _) _)).of_block (hgr.block g (by have := HO2.out.1.lt; simp; omega) (fun e => by have := (HW2.out.lt g e.symm).1; omega)), grown_own (grown_alloc (grown_trans HR.out.2 HO2.out.2) _) hgr (fun q e => (HW2.out.lt q e).1)⟩
      clear hown hgr hat
      go_wp2
      go_roundw
      case rel =>
        refine ⟨k + 1, by go_num, by omega, ?_, ?_⟩
        · rw [HD.out]; exact HI4.out
        · rw [HD.out]; exact HR4.out
      case measure => simp [intOf] <;> omega
    · have hkI : ¬ (k : Int) < c := by omega
      have hkc : k = c := by omega
      go_wp2
      go_ret
      have h1 := HI.out
      have h2 := HR.out
      rw [hkc] at h1 h2
      exact ⟨_, rfl, h1, h2⟩
set_option maxRecDepth 4000 in
set_option maxHeartbeats 2000000 in
theorem sparse_rf (w : World) (g : Nat) (big : Bool) (l : List UInt8) (c : Nat) (hc : c ≤ 256) (h : Rdf w g big l) :
    Calls Try.prog 20 #[.pointer (some ⟨g, 0, none⟩), .int .i64 1, .int .i64 c] w fun e w' => ∃ v, e = .returned v ∧ IRow w' w.heap.size v (rfRow 1 big c l).1 ∧ RfOut g big w (rfRow 1 big c l).2 w' := by
  obtain ⟨i0, hi0, hz0, hz1, hz2⟩ := info_parts Try.infoI
  have hgl := h.lt
  have HP : Hid (Calls Try.prog 19 #[.pointer (some ⟨g, 0, none⟩), .int .i64 2] w fun e w' => e = .returned (.int .i64 (rdP big l).1) ∧ RfOut g big w (rdP big l).2 w') := number_r2 w g big l h
  clear h
  have hn := rdP_lt big l
  obtain ⟨n, hne⟩ : ∃ n, n = (rdP big l).1 := ⟨_, rfl⟩
  obtain ⟨l1, hl1⟩ : ∃ n, n = (rdP big l).2 := ⟨_, rfl⟩
  rw [← hne] at hn
  rw [← hne, ← hl1] at HP
  have HE : Hid (rfRow 1 big c l = rfR big c n l1) := by show _ = _; rw [hne, hl1]; rfl
  clear hne hl1
  go_enter Try.func20, Try.ntmps20
  go_wp2_with (go_at_call 19; refine HP.out.mono ?_; rintro e w1 ⟨rfl, ho1⟩; have HO1 : Hid (RfOut g big w l1 w1) := ho1; clear ho1)
  go_loopw [7, 11, 12, 13, 14] (fun r i _ _ _ wr => ∃ j : Nat, i = .int .i64 j ∧ j ≤ n ∧ IRow wr w.heap.size r (rfR big c j l1).1 ∧ RfOut g big w (rfR big c j l1).2 wr) (fun _ i _ _ _ _ => n - (intOf i).toNat)
  case atStart => exact ⟨0, rfl, Nat.zero_le _, World.ownsRow_nil _ _ _ _, HO1.out⟩
  case round =>
    obtain ⟨j, rfl, hj, hir, hro⟩ := hrel
    clear HO1
    have hlen := rfR_len big c l1 j
    have HR : Hid (RfOut g big w (rfR big c j l1).2 wr) := hro
    obtain ⟨S, hS⟩ : ∃ S, S = (rfR big c j l1).1 := ⟨_, rfl⟩
    obtain ⟨R, hR⟩ : ∃ S, S = (rfR big c j l1).2 := ⟨_, rfl⟩
    have HSR : Hid (rfR big c j l1 = (S, R)) := by show _ = _; rw [hS, hR]
    rw [← hS] at hir hlen
    rw [← hR] at HR
    obtain ⟨a5, c5, hform⟩ := ownsRow_shape hir
    subst hform
    have HI : Hid (IRow wr w.heap.size (.slice a5 S.length c5) S) := hir
    clear hir hro hS hR
    by_cases hlt : j < n
    · have hltI : (j : Int) < n := by omega
      have hjd : decide ((j : Int) < n) = true := by simpa using hltI
      by_cases hSc : S.length ≤ c
      · have hScI : (S.length : Int) ≤ c := by omega
        have hq1 := rdP_lt big R
        have hq2 := rdP_lt big (rdP big R).2
        obtain ⟨m, hm⟩ : ∃ n, n = (rdP big R).1 := ⟨_, rfl⟩
        obtain ⟨R1, hR1⟩ : ∃ n, n = (rdP big R).2 := ⟨_, rfl⟩
        obtain ⟨z, hz⟩ : ∃ n, n = (rdP big R1).1 := ⟨_, rfl⟩
        obtain ⟨R2, hR2⟩ : ∃ n, n = (rdP big R1).2 := ⟨_, rfl⟩
        rw [← hm] at hq1
        rw [← hR1, ← hz] at hq2
        have HP1 : Hid (Calls Try.prog 19 #[.pointer (some ⟨g, 0, none⟩), .int .i64 2] wr fun e w' => e = .returned (.int .i64 m) ∧ RfOut g big wr R1 w') := by
          show Calls _ _ _ _ _
          rw [hm, hR1]; exact number_r2 wr g big R HR.out.1
        have HP2 : Hid (∀ w, Rdf w g big R1 → Calls Try.prog 19 #[.pointer (some ⟨g, 0, none⟩), .int .i64 2] w fun e w' => e = .returned (.int .i64 z) ∧ RfOut g big w R2 w') := fun w h => by rw [hz, hR2]; exact number_r2 w g big R1 h
        obtain ⟨q, hq⟩ : ∃ q, q = min m (c + 1 - S.length) := ⟨_, rfl⟩
        have HJ : Hid (rfR big c (j + 1) l1 = (S ++ List.replicate q (z : Int), R2)) := by
          show _ = _
          simp only [rfR]
          rw [HSR.out]
          simp only
          rw [if_pos hSc, ← hR1, ← hm, ← hz, ← hR2, ← hq]
        have HQ : Hid (q = min m (c + 1 - S.length)) := hq
        have hqb : S.length + q ≤ 257 := by omega
        clear hm hR1 hz hR2 hq
        go_wp2_with (first | (go_at_call 19; refine (HP2.out _ HO2.out.1).mono ?_; rintro e w3 ⟨rfl, ho3⟩; have HO3 : Hid (RfOut g big wr R2 w3) := HO2.out.trans ho3; clear ho3) | (go_at_call 19; refine HP1.out.mono ?_; rintro e w2 ⟨rfl, ho2⟩; have HO2 : Hid (RfOut g big wr R1 w2) := ho2; clear ho2))
        have HI3 : Hid (IRow w3 w.heap.size (.slice a5 S.length c5) S) := ownsRow_keep HI.out HO3.out.2 (by omega)
        have HR3 : Hid (RfOut g big w R2 w3) := HR.out.trans HO3.out
        clear HO3 HO2 HP1 HP2 HI HR HP
        go_loopw [7, 14] (fun r i wr => ∃ k : Nat, ∃ a4 c4, i = .int .i64 k ∧ k ≤ q ∧ r = .slice a4 (S.length + k) c4 ∧ IRow wr w.heap.size r (S ++ List.replicate k (z : Int)) ∧ RfOut g big w R2 wr) (fun _ i _ => q - (intOf i).toNat)
        case atStart => exact ⟨0, _, _, rfl, Nat.zero_le _, rfl, by simpa using HI3.out, HR3.out⟩
        case round =>
          obtain ⟨k, a4, c4, rfl, hk, rfl, hir, hro⟩ := hrel
          clear HI3 HR3
          have HI : Hid (IRow wr w.heap.size (.slice a4 (S.length + k) c4) (S ++ List.replicate k (z : Int))) := hir
          have HR : Hid (RfOut g big w R2 wr) := hro
          have hws := hro.2.size
          clear hir hro
          by_cases hltq : k < q
          · have h1I : (k : Int) < m := by have := HQ.out; omega
            have h1d : decide ((k : Int) < m) = true := by simpa using h1I
            have h2I : (S.length : Int) + k ≤ c := by have := HQ.out; omega
            have HOW : Hid (wr.ownsRow w.heap.size 3 1 (.slice a4 (S.length + k) c4) (S.length + k) ((S ++ List.replicate k (z : Int)).map eI)) := irow_own HI.out (by simp)
            go_wp2_with (at_builtin; refine wpList_append_lies _ rfl (.tmp 57) (.tmp 59) 39 rfl w.heap.size 3 i0 (.int .i64 0) 1 8 Try.underlying39 hi0 hz0 hz1 hz2 rfl (by decide) (.slice a4 (S.length + k) c4) (S.length + k) ((S ++ List.replicate k (z : Int)).map eI) rfl (World.ownsRow.alloc HOW.out _) ⟨wr.heap.size, 0, none⟩ 1 1 [.int .i64 (z : Int)] rfl rfl (one_cell_new _ _ _) (by simp [Value.oneCell']) (by omega) (by unfold maxLen; omega) (by omega) (by simp; omega) _ rfl ?_)
            intro g1 cap1 w4 hown hgr hat hlt4
            have HI4 : Hid (IRow w4 w.heap.size (.slice (some ⟨g1, 0, none⟩) (S.length + k + 1) cap1) (S ++ List.replicate (k + 1) (z : Int))) := by
              have h := irow_snoc (zs := S ++ List.replicate k (z : Int)) (z := (z : Int)) (n := S.length + k) (by simpa using hown) (by simp)
              rw [List.append_assoc, ← List.replicate_succ'] at h
              exact h
            have HR4 : Hid (RfOut g big w R2 w4) := ⟨(HR.out.1.below ((Below.refl _ _).alloc (Nat.le_refl _) _)).of_block (hgr.block g (by have := HR.out.1.lt; simp; omega) (fun e => by have := (HOW.out.lt g e.symm).1; omega)), grown_own (grown_alloc HR.out.2 _) hgr (fun q e => (HOW.out.lt q e).1)⟩
            clear hown hgr hat
            go_wp2
            go_roundw
            case rel => exact ⟨k + 1, _, _, by go_num, by omega, rfl, HI4.out, HR4.out⟩
            case measure => simp [intOf] <;> omega
          · have hkq : k = q := by omega
            have hend : ¬ ((k : Int) < m ∧ (S.length : Int) + k ≤ c) := by have := HQ.out; omega
            by_cases h1I : (k : Int) < m
            · have h1d : decide ((k : Int) < m) = true := by simpa using h1I
              have h2I : ¬ (S.length : Int) + k ≤ c := by omega
              have h2d : decide ((S.length : Int) + k ≤ c) = false := by simpa using h2I
              clear hend
              go_wp2
              go_roundw
              case rel =>
                refine ⟨j + 1, by go_num, by omega, ?_, ?_⟩
                · rw [HJ.out, ← hkq]; exact HI.out
                · rw [HJ.out]; exact HR.out
              case measure => simp [intOf] <;> omega
            · have h1d : decide ((k : Int) < m) = false := by simpa using h1I
              clear hend
              go_wp2
              go_roundw
              case rel =>
                refine ⟨j + 1, by go_num, by omega, ?_, ?_⟩
                · rw [HJ.out, ← hkq]; exact HI.out
                · rw [HJ.out]; exact HR.out
              case measure => simp [intOf] <;> omega
      · have hScI : ¬ (S.length : Int) ≤ c := by omega
        have hScd : decide ((S.length : Int) ≤ c) = false := by simpa using hScI
        have HF : Hid (rfR big c n l1 = (S, R)) := by
          show _ = _
          have := rfR_stay big c l1 j (by rw [HSR.out]; simp only; omega) (n - j)
          rw [show j + (n - j) = n by omega] at this
          rw [this, HSR.out]
        go_wp2
        go_ret
        rw [HE.out, HF.out]
        exact ⟨_, rfl, HI.out, HR.out⟩
    · have hjI : ¬ (j : Int) < n := by omega
      have hjd : decide ((j : Int) < n) = false := by simpa using hjI
      have HF : Hid (rfR big c n l1 = (S, R)) := by show _ = _; rw [← HSR.out, show j = n by omega]
      go_wp2
      go_ret
      rw [HE.out, HF.out]
      exact ⟨_, rfl, HI.out, HR.out⟩
theorem row_rf (w : World) (g : Nat) (big : Bool) (l : List UInt8) (kind c : Nat) (z : Int) (hz : z = (kind : Int)) (hk : kind ≤ 1) (hc : c ≤ 256) (h : Rdf w g big l) :
    Calls Try.prog 20 #[.pointer (some ⟨g, 0, none⟩), .int .i64 z, .int .i64 c] w fun e w' => ∃ v, e = .returned v ∧ IRow w' w.heap.size v (rfRow kind big c l).1 ∧ RfOut g big w (rfRow kind big c l).2 w' := by
  subst hz
  rcases (show kind = 0 ∨ kind = 1 by omega) with rfl | rfl
  · exact dense_rf w g big l c hc h
  · exact sparse_rf w g big l c hc h
end Go.Proofs.Ytbjabpodkaokjaa
