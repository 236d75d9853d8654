import Derived.Test.YtbjabpodkaokjaaJ08
set_option linter.unusedVariables false
set_option linter.unusedSimpArgs false
namespace Go.Proofs.Ytbjabpodkaokjaa
open Go.RowKit

theorem runs_le (row : List Int) (k : Nat) : (runs (row.take k)).length ≤ k := by
  have := runs_len (row.take k)
  simp at this
  omega
theorem Rn.size {w : World} {base : Nat} {v : Value} {rs : List (Nat × Int)} (h : Rn w base v rs) : ∀ k, v.ownBlock = some k → base ≤ k := fun k hk => (h.lt k hk).1
theorem below_grown {B : Nat} {w w1 w' : World} {row : Option Nat} (h : Below B w w1) (hg : w1.grownBy w' row) (hb : B ≤ w1.heap.size) (hr : ∀ k, row = some k → B ≤ k) : Below B w w' := h.grown hg hb hr
set_option maxRecDepth 4000 in
set_option maxHeartbeats 2000000 in
theorem runsOf_any (w : World) (v : Value) (zs : List Int) (hv : RowE eI w v zs) (hl : zs.length ≤ 65536) :
    Calls Try.prog 56 #[v] w fun e w' => ∃ v', e = .returned v' ∧ Rn w' w.heap.size v' (runs zs) ∧ Below w.heap.size w w' := by
  obtain ⟨i0, hi0, hz0, hz1, hz2⟩ := info_parts Try.infoRun
  obtain ⟨a, c, hform⟩ := hv.form
  subst hform
  obtain ⟨n, hn⟩ : ∃ n, n = zs.length := ⟨_, rfl⟩
  have HN : Hid (n = zs.length) := hn
  rw [← hn] at hl ⊢
  have HV : Hid (RowE eI w (.slice a n c) zs) := by show RowE _ _ _ _; rw [hn]; exact hv
  clear hn hv
  go_enter Try.func56, Try.ntmps56
  go_wp2
  go_loopw [3, 8] (fun r i wr => ∃ k : Nat, i = .int .i64 k ∧ k ≤ n ∧ Rn wr w.heap.size r (runs (zs.take k)) ∧ Below w.heap.size w wr) (fun _ i _ => n - (intOf i).toNat)
  case atStart => exact ⟨0, rfl, Nat.zero_le _, World.ownsRow_nil _ _ _ _, Below.refl _ _⟩
  case round =>
    obtain ⟨k, rfl, hk, hrn, hbl⟩ := hrel
    have HR : Hid (Rn wr w.heap.size u3 (runs (zs.take k))) := hrn
    have HB : Hid (Below w.heap.size w wr) := hbl
    have hszw := hbl.size
    clear hrn hbl
    by_cases hlt : k < n
    · have hlt1 : k < zs.length := by have := HN.out; omega
      have hltI : (k : Int) < n := by omega
      obtain ⟨b, o, c', hform, hcell⟩ := (HV.out.below HB.out).nonnil (by omega)
      injection hform with e1 e2 e3
      subst e1
      have hck := hcell k hlt1
      have hlen := runs_le zs k
      have HTK : Hid (runs (zs.take (k + 1)) = stepR (runs (zs.take k)) zs[k]) := by
        show _ = _
        rw [List.take_succ_eq_append_getElem hlt1, runs_snoc]
      by_cases hk0 : k = 0
      · subst hk0
        obtain ⟨z, hz⟩ : ∃ z, z = zs[0] := ⟨_, rfl⟩
        rw [← hz, Nat.add_zero] at hck
        have HT3 : Hid (runs (zs.take (0 + 1)) = [] ++ [(1, z)]) := by
          show _ = _
          rw [HTK.out, ← hz]; rfl
        have HRL : Hid (World.ownsRow wr w.heap.size 112 2 u3 0 []) := HR.out
        clear hz e2 e3 hcell HTK HR
        go_wp2_with (at_builtin; refine wpList_append_lies _ rfl (.tmp 24) (.tmp 27) 109 rfl w.heap.size 112 i0 (.agg #[.int .i64 0, .int .i64 0]) 2 16 Try.underlying109 hi0 hz0 hz1 hz2 rfl (by decide) u3 0 ([]) rfl (World.ownsRow.alloc HRL.out _) ⟨wr.heap.size, 0, none⟩ 1 1 [.int .i64 0, .int .i64 z] rfl rfl (two_cells_new _ _ _ _) (by simp [Value.oneCell']) (by omega) (by unfold maxLen; omega) (by omega) (by simp; omega) _ rfl ?_)
        intro g1 cap1 w1 hown hgr hat hlt
        have hown' : Rn w1 w.heap.size (.slice (some ⟨g1, 0, none⟩) (0 + 1) cap1) ([] ++ [(0, z)]) := hown
        obtain ⟨f1, f2, f3, f4⟩ := Rn.inc hown' rfl
        have F3 : Hid (Rn (w1.setCell ⟨g1, 0, none⟩ (.int .i64 (((0 : Nat) : Int) + 1))) w.heap.size (.slice (some ⟨g1, 0, none⟩) (0 + 1) cap1) ([] ++ [(0 + 1, z)])) := f3
        have F4 : Hid (w1.grownBy (w1.setCell ⟨g1, 0, none⟩ (.int .i64 (((0 : Nat) : Int) + 1))) (some g1)) := f4
        have hgb := (hown'.lt g1 rfl).1
        have HB1 : Hid (Below w.heap.size w w1) := below_grown (HB.out.alloc hszw _) hgr (by simp; omega) (fun q e => (HRL.out.lt q e).1)
        have hs1 := HB1.out.size
        simp only [List.length_nil, Nat.zero_mul] at f1 f2
        clear f3 f4 hown hown' hgr hat
        go_wp2
        go_roundw
        case rel => exact ⟨1, by go_num, by omega, by rw [HT3.out]; exact F3.out, below_grown HB1.out F4.out hs1 (fun q e => by injection e with e; omega)⟩
        case measure => simp [intOf] <;> omega
      · have hkp : (1 : Int) ≤ k := by omega
        have hk0' : ((k : Int) == 0) = false := by simpa using hk0
        have hcp := hcell (k - 1) (by omega)
        obtain ⟨z, hz⟩ : ∃ z, z = zs[k] := ⟨_, rfl⟩
        obtain ⟨y, hy⟩ : ∃ y, y = zs[k - 1] := ⟨_, rfl⟩
        rw [← hz] at hck
        rw [← hy] at hcp
        obtain ⟨i, cc, hlast⟩ : ∃ i c, runs (zs.take k) = i ++ [(c, y)] := by
          have e : zs.take k = zs.take (k - 1) ++ [y] := by
            have := List.take_succ_eq_append_getElem (l := zs) (i := k - 1) (by omega)
            rw [show k - 1 + 1 = k by omega] at this
            rw [this, hy]
          rw [e]; exact runs_last _ _
        obtain ⟨g, cap, hu3, hg1, hg2⟩ := HR.out.form (by rw [hlast]; simp)
        obtain ⟨m, hm⟩ : ∃ m, m = i.length := ⟨_, rfl⟩
        have hln : (runs (zs.take k)).length = m + 1 := by rw [hlast, hm]; simp
        rw [hln] at hu3 hlen
        subst hu3
        have HR1 : Hid (Rn wr w.heap.size (.slice (some ⟨g, 0, none⟩) (m + 1) cap) (i ++ [(cc, y)])) := by
          show Rn _ _ _ _
          rw [← hlast]; exact HR.out
        obtain ⟨d1, d2, d3, d4⟩ := HR1.out.inc (by rw [hm])
        rw [← hm] at d1 d2 d3 d4
        have D3 : Hid (Rn (wr.setCell ⟨g, m * 2, none⟩ (.int .i64 ((cc : Int) + 1))) w.heap.size (.slice (some ⟨g, 0, none⟩) (m + 1) cap) (i ++ [(cc + 1, y)])) := d3
        have D4 : Hid (wr.grownBy (wr.setCell ⟨g, m * 2, none⟩ (.int .i64 ((cc : Int) + 1))) (some g)) := d4
        have HTK2 : Hid (runs (zs.take (k + 1)) = stepR (i ++ [(cc, y)]) z) := by show _ = _; rw [HTK.out, hlast, hz]
        have HM : Hid (m = i.length) := hm
        have hcc : cc ≤ 65536 := by
          have := (runs_mem (zs.take k) (cc, y) (by rw [hlast]; simp)).1
          simp at this
          omega
        clear d3 d4 hm hln hlast hz hy e2 e3 hcell HTK HR
        by_cases hyz : y = z
        · have HT3 : Hid (runs (zs.take (k + 1)) = i ++ [(cc + 1, y)]) := by show _ = _; rw [HTK2.out, ← hyz, stepR_same]
          go_wp2
          go_roundw
          case rel => exact ⟨k + 1, by go_num, by omega, by rw [HT3.out]; exact D3.out, below_grown HB.out D4.out hszw (fun q e => by injection e with e; omega)⟩
          case measure => simp [intOf] <;> omega
        · have HT3 : Hid (runs (zs.take (k + 1)) = i ++ [(cc, y)] ++ [(1, z)]) := by show _ = _; rw [HTK2.out, stepR_other _ _ _ _ hyz]
          have hzy : (z != y) = true := by simpa using fun e => hyz e.symm
          have HRL : Hid (World.ownsRow wr w.heap.size 112 2 (.slice (some ⟨g, 0, none⟩) (m + 1) cap) (m + 1) (flR (i ++ [(cc, y)]))) := by
            show World.ownsRow _ _ _ _ _ _ _
            have := HR1.out
            rw [Rn, show (i ++ [(cc, y)]).length = m + 1 by simp [HM.out]] at this
            exact this
          clear d1 d2 D3 D4 hyz
          go_wp2_with (at_builtin; refine wpList_append_lies _ rfl (.tmp 24) (.tmp 27) 109 rfl w.heap.size 112 i0 (.agg #[.int .i64 0, .int .i64 0]) 2 16 Try.underlying109 hi0 hz0 hz1 hz2 rfl (by decide) (.slice (some ⟨g, 0, none⟩) (m + 1) cap) (m + 1) (flR (i ++ [(cc, y)])) rfl (World.ownsRow.alloc HRL.out _) ⟨wr.heap.size, 0, none⟩ 1 1 [.int .i64 0, .int .i64 z] rfl rfl (two_cells_new _ _ _ _) (by simp [Value.oneCell']) (by omega) (by unfold maxLen; omega) (by omega) (by simp; omega) _ rfl ?_)
          intro g1 cap1 w1 hown hgr hat hlt
          have hown' : Rn w1 w.heap.size (.slice (some ⟨g1, 0, none⟩) (m + 1 + 1) cap1) (i ++ [(cc, y)] ++ [(0, z)]) := by
            have e : (i ++ [(cc, y)] ++ [(0, z)]).length = m + 1 + 1 := by simp [HM.out]
            show w1.ownsRow w.heap.size 112 2 (.slice (some ⟨g1, 0, none⟩) (m + 1 + 1) cap1) (i ++ [(cc, y)] ++ [(0, z)]).length (flR (i ++ [(cc, y)] ++ [(0, z)]))
            rw [e, flR_snoc]
            exact hown
          obtain ⟨f1, f2, f3, f4⟩ := Rn.inc hown' (by simp [HM.out])
          rw [show (i ++ [(cc, y)]).length = m + 1 by simp [HM.out]] at f1 f2 f3 f4
          have F3 : Hid (Rn (w1.setCell ⟨g1, (m + 1) * 2, none⟩ (.int .i64 (((0 : Nat) : Int) + 1))) w.heap.size (.slice (some ⟨g1, 0, none⟩) (m + 1 + 1) cap1) (i ++ [(cc, y)] ++ [(0 + 1, z)])) := f3
          have F4 : Hid (w1.grownBy (w1.setCell ⟨g1, (m + 1) * 2, none⟩ (.int .i64 (((0 : Nat) : Int) + 1))) (some g1)) := f4
          have hgb := (hown'.lt g1 rfl).1
          have HB1 : Hid (Below w.heap.size w w1) := below_grown (HB.out.alloc hszw _) hgr (by simp; omega) (fun q e => (HRL.out.lt q e).1)
          have hs1 := HB1.out.size
          clear f3 f4 hown hown' hgr hat
          go_wp2
          go_roundw
          case rel => exact ⟨k + 1, by go_num, by omega, by rw [HT3.out]; exact F3.out, below_grown HB1.out F4.out hs1 (fun q e => by injection e with e; omega)⟩
          case measure => simp [intOf] <;> omega
    · have hkI : ¬ (k : Int) < n := by omega
      go_wp2
      go_ret
      have e : zs.take k = zs := List.take_of_length_le (by have := HN.out; omega)
      have h := HR.out
      rw [e] at h
      exact ⟨_, rfl, h, HB.out⟩
end Go.Proofs.Ytbjabpodkaokjaa
