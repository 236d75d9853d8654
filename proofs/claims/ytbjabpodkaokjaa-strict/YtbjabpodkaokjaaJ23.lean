import Derived.Test.YtbjabpodkaokjaaJ20
import Derived.Test.YtbjabpodkaokjaaJ07
set_option linter.unusedVariables false
set_option linter.unusedSimpArgs false
namespace Go.Proofs.Ytbjabpodkaokjaa
open Go.RowKit

def cntA (n : Nat) (l : List UInt8) : Nat := l.foldl (fun n c => if n ≤ c.toNat then c.toNat + 1 else n) n
theorem cntA_eq : ∀ (l : List UInt8) (n m : Nat), cntC n l = some m → cntA n l = m
  | [], n, m, h => by simp [cntC] at h; simp [cntA, h]
  | c :: t, n, m, h => by
    simp only [cntC] at h
    split at h
    · simp at h
    · have := cntA_eq t _ m h
      have e : max n (c.toNat + 1) = if n ≤ c.toNat then c.toNat + 1 else n := by split <;> omega
      rw [e] at this
      exact this
theorem cntA_le : ∀ (l : List UInt8) (n : Nat), n ≤ 256 → cntA n l ≤ 256
  | [], n, h => h
  | c :: t, n, h => by
    show cntA (if n ≤ c.toNat then c.toNat + 1 else n) t ≤ 256
    refine cntA_le t _ ?_
    have := c.toNat_lt
    split <;> omega
theorem cntA_snoc (n : Nat) (l : List UInt8) (c : UInt8) : cntA n (l ++ [c]) = if cntA n l ≤ c.toNat then c.toNat + 1 else cntA n l := by
  unfold cntA
  rw [List.foldl_append]
  rfl
set_option maxRecDepth 4000 in
set_option maxHeartbeats 1000000 in
theorem count_ref (l : List UInt8) (hl : l.length ≤ maxLen) (w : World) :
    Calls Try.prog 37 #[.string (ba l)] w fun e w' => e = .returned (.int .i64 (cntA 0 l)) ∧ w' = w := by
  unfold maxLen at hl
  have hbs := ba_size l
  obtain ⟨N, hN⟩ : ∃ N, N = l.length := ⟨_, rfl⟩
  rw [← hN] at hl hbs
  have HN : Hid (N = l.length) := hN
  clear hN
  go_enter Try.func37, Try.ntmps37
  go_wp2
  go_loop [3, 4] (fun n i => ∃ k x : Nat, i = .int .i64 k ∧ n = .int .i64 x ∧ k ≤ N ∧ x ≤ 256 ∧ x = cntA 0 (l.take k)) (fun _ i => N - (intOf i).toNat)
  case atStart => exact ⟨0, 0, rfl, rfl, Nat.zero_le _, by omega, rfl⟩
  case round =>
    obtain ⟨k, x, rfl, rfl, hk, hx, hxe⟩ := hrel
    have HX : Hid (x = cntA 0 (l.take k)) := hxe
    clear hxe
    by_cases hlt : k < N
    · have hltI : (k : Int) < N := by omega
      have hlt1 : k < l.length := by have := HN.out; omega
      obtain ⟨b, hb⟩ : ∃ b, b = l[k] := ⟨_, rfl⟩
      have hbz : ∀ h : k < (ba l).size, ((ba l)[k]'h).toNat = b.toNat := fun h => by rw [hb]; rfl
      have hb8 := b.toNat_lt
      have HC : Hid (cntA 0 (l.take (k + 1)) = if x ≤ b.toNat then b.toNat + 1 else x) := by
        show _ = _
        rw [List.take_succ_eq_append_getElem hlt1, cntA_snoc, ← hb, HX.out]
      clear hb
      by_cases hge : (x : Int) ≤ b.toNat
      · have HC2 : Hid (cntA 0 (l.take (k + 1)) = b.toNat + 1) := by show _ = _; rw [HC.out, if_pos (by omega)]
        go_wp2
        go_round
        case rel => exact ⟨k + 1, b.toNat + 1, by go_num, by go_num, by omega, by omega, HC2.out.symm⟩
        case measure => simp [intOf] <;> omega
      · have HC2 : Hid (cntA 0 (l.take (k + 1)) = x) := by show _ = _; rw [HC.out, if_neg (by omega)]
        go_wp2
        go_round
        case rel => exact ⟨k + 1, x, by go_num, rfl, by omega, by omega, HC2.out.symm⟩
        case measure => simp [intOf] <;> omega
    · have hkI : ¬ (k : Int) < N := by omega
      have HE : Hid ((x : Int) = (cntA 0 l : Nat)) := by
        show _ = _
        rw [HX.out, List.take_of_length_le (by have := HN.out; omega)]
      go_wp2
      go_ret
      exact ⟨ret_i HE.out, rfl⟩
set_option maxRecDepth 4000 in
set_option maxHeartbeats 1000000 in
theorem sum_ref (l : List UInt8) (hl : l.length ≤ maxLen) (w : World) :
    Calls Try.prog 39 #[.string (ba l)] w fun e w' => e = .returned (.int .i64 (crc l)) ∧ w' = w := by
  unfold maxLen at hl
  have hbs := ba_size l
  obtain ⟨N, hN⟩ : ∃ N, N = l.length := ⟨_, rfl⟩
  rw [← hN] at hl hbs
  have HN : Hid (N = l.length) := hN
  clear hN
  go_enter Try.func39, Try.ntmps39
  go_wp2
  go_loop [3, 4] (fun r i => ∃ k x : Nat, i = .int .i64 k ∧ r = .int .i64 x ∧ k ≤ N ∧ x < 4294967296 ∧ x = crcF 4294967295 (l.take k)) (fun _ i => N - (intOf i).toNat)
  case atStart => exact ⟨0, 4294967295, rfl, rfl, Nat.zero_le _, by omega, rfl⟩
  case round =>
    obtain ⟨k, x, rfl, rfl, hk, hx, hxe⟩ := hrel
    have HX : Hid (x = crcF 4294967295 (l.take k)) := hxe
    clear hxe
    by_cases hlt : k < N
    · have hltI : (k : Int) < N := by omega
      have hlt1 : k < l.length := by have := HN.out; omega
      obtain ⟨b, hb⟩ : ∃ b, b = l[k] := ⟨_, rfl⟩
      have hbz : ∀ h : k < (ba l).size, ((ba l)[k]'h).toNat = b.toNat := fun h => by rw [hb]; rfl
      have hb8 := b.toNat_lt
      have HZ : Hid (crcF 4294967295 (l.take (k + 1)) = crcN b.toNat 8 x) := by
        show _ = _
        rw [List.take_succ_eq_append_getElem hlt1, crcF_snoc, ← hb, HX.out]
      clear hb
      go_wp2
      go_loop [3, 5] (fun r i => ∃ j y : Nat, i = .int .i64 j ∧ r = .int .i64 y ∧ j ≤ 8 ∧ y < 4294967296 ∧ y = crcN b.toNat j x) (fun _ i => 8 - (intOf i).toNat)
      case atStart => exact ⟨0, x, rfl, rfl, by omega, hx, rfl⟩
      case round =>
        obtain ⟨j, y, rfl, rfl, hj, hy, hye⟩ := hrel
        have HY : Hid (y = crcN b.toNat j x) := hye
        clear hye
        by_cases hj8 : j < 8
        · have hj8I : (j : Int) < 8 := by omega
          have hxl := cStep_lt b.toNat j y hy
          have HS : Hid (crcN b.toNat (j + 1) x = cStep b.toNat j y) := by show _ = _; rw [crcN, HY.out]
          have eb : ((b.toNat : Int) / 2 ^ j).tmod 2 = ((b.toNat / 2 ^ j % 2 : Nat) : Int) := by
            have e : (b.toNat : Int) / 2 ^ j = ((b.toNat / 2 ^ j : Nat) : Int) := by simp
            rw [e, Int.tmod_eq_emod_of_nonneg (Int.natCast_nonneg _)]; simp
          by_cases hq : b.toNat / 2 ^ j % 2 = y % 2
          · have HC : Hid (crcN b.toNat (j + 1) x = y / 2) := by show _ = _; rw [HS.out]; unfold cStep; rw [if_pos hq]
            have hqb : (((b.toNat : Int) / 2 ^ j).tmod 2 != ((y : Int) % 2)) = false := by rw [eb, hq]; simp
            clear hq eb
            go_wp2
            go_round
            case rel => exact ⟨j + 1, y / 2, by go_num, by go_num, by omega, by omega, HC.out.symm⟩
            case measure => simp [intOf] <;> omega
          · have HC : Hid (crcN b.toNat (j + 1) x = y / 2 ^^^ 3988292384) := by show _ = _; rw [HS.out]; unfold cStep; rw [if_neg hq]
            have hqb : (((b.toNat : Int) / 2 ^ j).tmod 2 != ((y : Int) % 2)) = true := by
              rw [eb, bne_iff_ne]
              omega
            have HXX : Hid (bits .xor .i64 ((y : Int) / 2) 3988292384 = ((y / 2 ^^^ 3988292384 : Nat) : Int)) := by
              show _ = _
              have := bits_xor_i64 (y / 2) 3988292384 (by omega) (by omega)
              rw [← this]; congr 1
            have hxl2 : y / 2 ^^^ 3988292384 < 4294967296 := xor32 (by omega) (by omega)
            clear hq eb
            go_wp2
            go_round
            case rel => exact ⟨j + 1, y / 2 ^^^ 3988292384, by go_num, by rw [HXX.out], by omega, hxl2, HC.out.symm⟩
            case measure => simp [intOf] <;> omega
        · have hj8I : ¬ (j : Int) < 8 := by omega
          have HE : Hid (y = crcF 4294967295 (l.take (k + 1))) := by
            show _ = _
            rw [HY.out, HZ.out, show j = 8 by omega]
          go_wp2
          go_round
          case rel => exact ⟨k + 1, y, by go_num, rfl, by omega, hy, HE.out⟩
          case measure => simp [intOf] <;> omega
    · have hkI : ¬ (k : Int) < N := by omega
      have HE : Hid (4294967295 - (x : Int) = ((crc l : Nat) : Int)) := by
        show _ = _
        have e : x = crcF 4294967295 l := by rw [HX.out, List.take_of_length_le (by have := HN.out; omega)]
        rw [crc, ← e]; omega
      go_wp2
      go_ret
      exact ⟨ret_i HE.out, rfl⟩
end Go.Proofs.Ytbjabpodkaokjaa
