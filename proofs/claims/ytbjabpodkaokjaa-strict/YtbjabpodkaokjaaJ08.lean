import Derived.Test.YtbjabpodkaokjaaJ07
set_option linter.unusedVariables false
set_option linter.unusedSimpArgs false
namespace Go.Proofs.Ytbjabpodkaokjaa
open Go.RowKit

set_option maxHeartbeats 4000000 in
theorem number4 (w : World) (g : Nat) (big : Bool) (v : Value) (bs : List UInt8) (n : Nat) (hn : n < 4294967296) (h : Wr w g big v bs) (hl : bs.length + 4 ≤ 1000000) :
    Calls Try.prog 47 #[.pointer (some ⟨g, 0, none⟩), .int .u32 n, .int .i64 4] w fun e w' => e = .returned (.tuple #[]) ∧ WrOut g big w (bs ++ num4 big n) w' := by
  have HS : Hid (WrOut g big w bs w) := WrOut.start h
  clear h
  have hpl : (num4 big n).length = 4 := by cases big <;> rfl
  go_enter Try.func47, Try.ntmps47
  go_wp2
  go_loopw [9] (fun i wr => ∃ k : Nat, i = .int .i64 k ∧ k ≤ 4 ∧ WrOut g big w (bs ++ (num4 big n).take k) wr) (fun i _ => 4 - (intOf i).toNat)
  case atStart => exact ⟨0, rfl, by omega, by simpa using HS.out⟩
  case round =>
    obtain ⟨k, rfl, hk, hout⟩ := hrel
    have HO : Hid (WrOut g big w (bs ++ (num4 big n).take k) wr) := hout
    obtain ⟨v1, hv1⟩ := hout.wr
    have hl1 : (bs ++ (num4 big n).take k).length ≤ 1000000 := by simp [hpl]; omega
    have c0 := hv1.c0
    have HV : Hid (Wr wr g big v1 (bs ++ (num4 big n).take k)) := hv1
    clear hv1 hout
    rcases (show k = 0 ∨ k = 1 ∨ k = 2 ∨ k = 3 ∨ k = 4 by omega) with rfl | rfl | rfl | rfl | rfl
    · cases big with
      | false =>
        go_wp2_with (go_at_call 43; refine (small_z _ g _ v1 _ (UInt8.ofNat (n )) _ (by first | (simp; done) | (simp; omega)) HV.out hl1).mono ?_; rintro e w2 ⟨rfl, ho2⟩)
        go_roundw
        case rel => exact ⟨1, by go_num, by omega, by simpa [num4] using HO.out.trans ho2⟩
        case measure => simp [intOf] <;> omega
      | true =>
        go_wp2_with (go_at_call 43; refine (small_z _ g _ v1 _ (UInt8.ofNat (n / 16777216)) _ (by first | (simp; done) | (simp; omega)) HV.out hl1).mono ?_; rintro e w2 ⟨rfl, ho2⟩)
        go_roundw
        case rel => exact ⟨1, by go_num, by omega, by simpa [num4] using HO.out.trans ho2⟩
        case measure => simp [intOf] <;> omega
    · cases big with
      | false =>
        go_wp2_with (go_at_call 43; refine (small_z _ g _ v1 _ (UInt8.ofNat (n / 256)) _ (by first | (simp; done) | (simp; omega)) HV.out hl1).mono ?_; rintro e w2 ⟨rfl, ho2⟩)
        go_roundw
        case rel => exact ⟨2, by go_num, by omega, by simpa [num4] using HO.out.trans ho2⟩
        case measure => simp [intOf] <;> omega
      | true =>
        go_wp2_with (go_at_call 43; refine (small_z _ g _ v1 _ (UInt8.ofNat (n / 65536)) _ (by first | (simp; done) | (simp; omega)) HV.out hl1).mono ?_; rintro e w2 ⟨rfl, ho2⟩)
        go_roundw
        case rel => exact ⟨2, by go_num, by omega, by simpa [num4] using HO.out.trans ho2⟩
        case measure => simp [intOf] <;> omega
    · cases big with
      | false =>
        go_wp2_with (go_at_call 43; refine (small_z _ g _ v1 _ (UInt8.ofNat (n / 65536)) _ (by first | (simp; done) | (simp; omega)) HV.out hl1).mono ?_; rintro e w2 ⟨rfl, ho2⟩)
        go_roundw
        case rel => exact ⟨3, by go_num, by omega, by simpa [num4] using HO.out.trans ho2⟩
        case measure => simp [intOf] <;> omega
      | true =>
        go_wp2_with (go_at_call 43; refine (small_z _ g _ v1 _ (UInt8.ofNat (n / 256)) _ (by first | (simp; done) | (simp; omega)) HV.out hl1).mono ?_; rintro e w2 ⟨rfl, ho2⟩)
        go_roundw
        case rel => exact ⟨3, by go_num, by omega, by simpa [num4] using HO.out.trans ho2⟩
        case measure => simp [intOf] <;> omega
    · cases big with
      | false =>
        go_wp2_with (go_at_call 43; refine (small_z _ g _ v1 _ (UInt8.ofNat (n / 16777216)) _ (by first | (simp; done) | (simp; omega)) HV.out hl1).mono ?_; rintro e w2 ⟨rfl, ho2⟩)
        go_roundw
        case rel => exact ⟨4, by go_num, by omega, by simpa [num4] using HO.out.trans ho2⟩
        case measure => simp [intOf] <;> omega
      | true =>
        go_wp2_with (go_at_call 43; refine (small_z _ g _ v1 _ (UInt8.ofNat (n )) _ (by first | (simp; done) | (simp; omega)) HV.out hl1).mono ?_; rintro e w2 ⟨rfl, ho2⟩)
        go_roundw
        case rel => exact ⟨4, by go_num, by omega, by simpa [num4] using HO.out.trans ho2⟩
        case measure => simp [intOf] <;> omega
    · go_wp2
      go_end0
      have := HO.out
      rw [List.take_of_length_le (by omega)] at this
      exact ⟨rfl, this⟩
set_option maxHeartbeats 1000000 in
theorem pair_w (w : World) (g : Nat) (big : Bool) (v : Value) (bs : List UInt8) (n : Nat) (hn : n < 65536) (h : Wr w g big v bs) (hl : bs.length + 2 ≤ 1000000) :
    Calls Try.prog 45 #[.pointer (some ⟨g, 0, none⟩), .int .i64 n] w fun e w' => e = .returned (.tuple #[]) ∧ WrOut g big w (bs ++ pr big n) w' := by
  have hc := number2 w g big v bs n (by omega) h hl
  have hm : (n : Int) % 4294967296 = n := by omega
  have hw : IntKind.u32.wrap (n : Int) = n := by rw [IntKind.wrap_u32]; omega
  have H : Hid (Calls Try.prog 47 #[.pointer (some ⟨g, 0, none⟩), .int .u32 n, .int .i64 2] w fun e w' => e = .returned (.tuple #[]) ∧ WrOut g big w (bs ++ pr big n) w') := hc
  clear hc h
  go_enter Try.func45, Try.ntmps45
  go_wp2_with (go_at_call 47; refine H.out.mono ?_; rintro e w2 ⟨rfl, ho2⟩)
  go_end0
  exact ⟨rfl, ho2⟩
set_option maxHeartbeats 400000 in
theorem bit_any (b : Bool) (w : World) : Calls Try.prog 44 #[.bool b] w fun e w' => e = .returned (.int .u8 (bt b)) ∧ w' = w := by
  cases b
  · go_enter Try.func44, Try.ntmps44
    go_wp2
    go_ret
    exact ⟨rfl, rfl⟩
  · go_enter Try.func44, Try.ntmps44
    go_wp2
    go_ret
    exact ⟨rfl, rfl⟩
end Go.Proofs.Ytbjabpodkaokjaa

namespace Go.Proofs.Ytbjabpodkaokjaa
open Go.RowKit

def flR (rs : List (Nat × Int)) : List Value := rs.flatMap fun r => [.int .i64 (r.1 : Int), .int .i64 r.2]
theorem flR_len (rs : List (Nat × Int)) : (flR rs).length = rs.length * 2 := by
  induction rs with
  | nil => rfl
  | cons r t ih => simp only [flR, List.flatMap_cons, List.length_append, List.length_cons, List.length_nil] at ih ⊢; omega
theorem flR_snoc (rs : List (Nat × Int)) (c : Nat) (z : Int) : flR (rs ++ [(c, z)]) = flR rs ++ [.int .i64 (c : Int), .int .i64 z] := by simp [flR]
theorem runs_last (row : List Int) (z : Int) : ∃ i c, runs (row ++ [z]) = i ++ [(c, z)] := by
  rw [runs_snoc]
  rcases List.eq_nil_or_concat (runs row) with e | ⟨i, ⟨c, y⟩, e⟩
  · rw [e]; exact ⟨[], 1, rfl⟩
  · rw [e]
    simp only [stepR, List.concat_eq_append, List.getLast?_append, List.getLast?_singleton, Option.some_or, List.dropLast_concat]
    split
    · rename_i h; subst h; exact ⟨i, c + 1, rfl⟩
    · exact ⟨i ++ [(c, y)], 1, rfl⟩
theorem stepR_same (i : List (Nat × Int)) (c : Nat) (z : Int) : stepR (i ++ [(c, z)]) z = i ++ [(c + 1, z)] := by
  simp [stepR]
theorem stepR_other (i : List (Nat × Int)) (c : Nat) (y z : Int) (h : y ≠ z) : stepR (i ++ [(c, y)]) z = i ++ [(c, y)] ++ [(1, z)] := by
  simp [stepR, h]
theorem Try.infoRun : (Try.prog.info? 112).map (fun i => (i.zero, i.size, i.bytes)) = some (some (.agg #[.int .i64 0, .int .i64 0]), 2, 16) := by kernel_rfl
theorem two_cells_new (w : World) (x y : Value) (T : TypeId) : ∀ j u, [x, y][j]? = some u → (w.alloc (.cells #[x, y] T)).cell? ((⟨w.heap.size, 0, none⟩ : Addr).add j) = some u := by
  intro j u hj
  match j, hj with
  | 0, hj => simp at hj; subst hj; simp [Addr.add, go_sem]
  | 1, hj => simp at hj; subst hj; simp [Addr.add, go_sem]
/-- Runs in a row of the call's own. -/
abbrev Rn (w : World) (base : Nat) (v : Value) (rs : List (Nat × Int)) : Prop := w.ownsRow base 112 2 v rs.length (flR rs)
/-- One more of the last run. -/
theorem Rn.inc {w : World} {base g cap n : Nat} {i : List (Nat × Int)} {c : Nat} {z : Int} (h : Rn w base (.slice (some ⟨g, 0, none⟩) n cap) (i ++ [(c, z)])) (hn : n = i.length + 1) :
    w.cell? ⟨g, i.length * 2, none⟩ = some (.int .i64 (c : Int)) ∧ w.frozen? ⟨g, i.length * 2, none⟩ = false ∧ Rn (w.setCell ⟨g, i.length * 2, none⟩ (.int .i64 ((c : Int) + 1))) base (.slice (some ⟨g, 0, none⟩) n cap) (i ++ [(c + 1, z)]) ∧ w.grownBy (w.setCell ⟨g, i.length * 2, none⟩ (.int .i64 ((c : Int) + 1))) (some g) := by
  subst hn
  have hl : (i ++ [(c, z)]).length = i.length + 1 := by simp
  have h' : w.ownsRow base 112 2 (.slice (some ⟨g, 0, none⟩) (i.length + 1) cap) (i.length + 1) (flR (i ++ [(c, z)])) := by rw [← hl]; simpa [Rn] using h
  have e : flR (i ++ [(c, z)]) = flR i ++ [.int .i64 (c : Int), .int .i64 z] := flR_snoc _ _ _
  refine ⟨?_, h'.frozenAt _, ?_, (h'.stored _ _).2⟩
  · rw [h'.cellAt _ (by omega), e, List.getElem?_append_right (by rw [flR_len]; exact Nat.le_refl _), flR_len]; simp
  · have h2 := (h'.stored (i.length * 2) (.int .i64 ((c : Int) + 1))).1
    rw [e, List.set_append_right _ _ (by rw [flR_len]; exact Nat.le_refl _), flR_len] at h2
    simp only [Nat.sub_self, List.set_cons_zero] at h2
    have e2 : flR (i ++ [(c + 1, z)]) = flR i ++ [.int .i64 ((c : Int) + 1), .int .i64 z] := by rw [flR_snoc]; simp
    show World.ownsRow _ _ _ _ _ _ _
    rw [e2]
    simpa using h2
end Go.Proofs.Ytbjabpodkaokjaa
