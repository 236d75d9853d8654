import Derived.Test.YtbjabpodkaokjaaGreatDoorJ20
import Derived.Test.YtbjabpodkaokjaaGreatDoorJ07
import Derived.Test.YtbjabpodkaokjaaGreatDoorJ11
set_option linter.unusedVariables false
set_option linter.unusedSimpArgs false
namespace Go.Proofs.YtbjabpodkaokjaaGreatDoor
open Go.RowKit

def cntA (n : Nat) (l : List UInt8) : Nat := l.foldl (fun n c => if n ≤ c.toNat then c.toNat + 1 else n) n
theorem cntA_eq : ∀ (l : List UInt8) (n m : Nat), cntC n l = some m → cntA n l = m
  | [], n, m, h => by simp [cntC] at h; simp [cntA, h]
  | c :: t, n, m, h => by
    simp only [cntC] at h
    split at h
    · simp at h
    · have := cntA_eq t _ m h
      have e : max n (c.toNat + 1) = if n ≤ c.toNat then c.toNat + 1 else n := by split <;> omega
      rw [e] at this
      exact this
theorem cntA_le : ∀ (l : List UInt8) (n : Nat), n ≤ 256 → cntA n l ≤ 256
  | [], n, h => h
  | c :: t, n, h => by
    show cntA (if n ≤ c.toNat then c.toNat + 1 else n) t ≤ 256
    refine cntA_le t _ ?_
    have := c.toNat_lt
    split <;> omega
theorem cntA_snoc (n : Nat) (l : List UInt8) (c : UInt8) : cntA n (l ++ [c]) = if cntA n l ≤ c.toNat then c.toNat + 1 else cntA n l := by
  unfold cntA
  rw [List.foldl_append]
  rfl
set_option maxRecDepth 4000 in
set_option maxHeartbeats 1000000 in
theorem count_ref (l : List UInt8) (hl : l.length ≤ maxLen) (w : World) :
    Calls Tryz.prog 168 #[.string (ba l)] w fun e w' => e = .returned (.int .i64 (cntA 0 l)) ∧ w' = w := by
  unfold maxLen at hl
  have hbs := ba_size l
  obtain ⟨N, hN⟩ : ∃ N, N = l.length := ⟨_, rfl⟩
  rw [← hN] at hl hbs
  have HN : Hid (N = l.length) := hN
  clear hN
  go_enter Tryz.func168, Tryz.ntmps168
  go_wp2
  go_loop [3, 4] (fun n i => ∃ k x : Nat, i = .int .i64 k ∧ n = .int .i64 x ∧ k ≤ N ∧ x ≤ 256 ∧ x = cntA 0 (l.take k)) (fun _ i => N - (intOf i).toNat)
  case atStart => exact ⟨0, 0, rfl, rfl, Nat.zero_le _, by omega, rfl⟩
  case round =>
    obtain ⟨k, x, rfl, rfl, hk, hx, hxe⟩ := hrel
    have HX : Hid (x = cntA 0 (l.take k)) := hxe
    clear hxe
    by_cases hlt : k < N
    · have hltI : (k : Int) < N := by omega
      have hlt1 : k < l.length := by have := HN.out; omega
      obtain ⟨b, hb⟩ : ∃ b, b = l[k] := ⟨_, rfl⟩
      have hbz : ∀ h : k < (ba l).size, ((ba l)[k]'h).toNat = b.toNat := fun h => by rw [hb]; rfl
      have hb8 := b.toNat_lt
      have HC : Hid (cntA 0 (l.take (k + 1)) = if x ≤ b.toNat then b.toNat + 1 else x) := by
        show _ = _
        rw [List.take_succ_eq_append_getElem hlt1, cntA_snoc, ← hb, HX.out]
      clear hb
      by_cases hge : (x : Int) ≤ b.toNat
      · have HC2 : Hid (cntA 0 (l.take (k + 1)) = b.toNat + 1) := by show _ = _; rw [HC.out, if_pos (by omega)]
        go_wp2
        go_round
        case rel => exact ⟨k + 1, b.toNat + 1, by go_num, by go_num, by omega, by omega, HC2.out.symm⟩
        case measure => simp [intOf] <;> omega
      · have HC2 : Hid (cntA 0 (l.take (k + 1)) = x) := by show _ = _; rw [HC.out, if_neg (by omega)]
        go_wp2
        go_round
        case rel => exact ⟨k + 1, x, by go_num, rfl, by omega, by omega, HC2.out.symm⟩
        case measure => simp [intOf] <;> omega
    · have hkI : ¬ (k : Int) < N := by omega
      have HE : Hid ((x : Int) = (cntA 0 l : Nat)) := by
        show _ = _
        rw [HX.out, List.take_of_length_le (by have := HN.out; omega)]
      go_wp2
      go_ret
      exact ⟨ret_i HE.out, rfl⟩
set_option maxRecDepth 4000 in
set_option maxHeartbeats 1000000 in
theorem sum_ref (l : List UInt8) (hl : l.length ≤ maxLen) (w : World) :
    Calls Tryz.prog 170 #[.string (ba l)] w fun e w' => e = .returned (.int .i64 (crc l)) ∧ w' = w := by
  unfold maxLen at hl
  have hbs := ba_size l
  obtain ⟨N, hN⟩ : ∃ N, N = l.length := ⟨_, rfl⟩
  rw [← hN] at hl hbs
  have HN : Hid (N = l.length) := hN
  clear hN
  go_enter Tryz.func170, Tryz.ntmps170
  go_wp2
  go_loop [3, 4] (fun r i => ∃ k x : Nat, i = .int .i64 k ∧ r = .int .i64 x ∧ k ≤ N ∧ x < 4294967296 ∧ x = crcF 4294967295 (l.take k)) (fun _ i => N - (intOf i).toNat)
  case atStart => exact ⟨0, 4294967295, rfl, rfl, Nat.zero_le _, by omega, rfl⟩
  case round =>
    obtain ⟨k, x, rfl, rfl, hk, hx, hxe⟩ := hrel
    have HX : Hid (x = crcF 4294967295 (l.take k)) := hxe
    clear hxe
    by_cases hlt : k < N
    · have hltI : (k : Int) < N := by omega
      have hlt1 : k < l.length := by have := HN.out; omega
      obtain ⟨b, hb⟩ : ∃ b, b = l[k] := ⟨_, rfl⟩
      have hbz : ∀ h : k < (ba l).size, ((ba l)[k]'h).toNat = b.toNat := fun h => by rw [hb]; rfl
      have hb8 := b.toNat_lt
      have HZ : Hid (crcF 4294967295 (l.take (k + 1)) = crcN b.toNat 8 x) := by
        show _ = _
        rw [List.take_succ_eq_append_getElem hlt1, crcF_snoc, ← hb, HX.out]
      clear hb
      go_wp2
      go_loop [3, 5] (fun r i => ∃ j y : Nat, i = .int .i64 j ∧ r = .int .i64 y ∧ j ≤ 8 ∧ y < 4294967296 ∧ y = crcN b.toNat j x) (fun _ i => 8 - (intOf i).toNat)
      case atStart => exact ⟨0, x, rfl, rfl, by omega, hx, rfl⟩
      case round =>
        obtain ⟨j, y, rfl, rfl, hj, hy, hye⟩ := hrel
        have HY : Hid (y = crcN b.toNat j x) := hye
        clear hye
        by_cases hj8 : j < 8
        · have hj8I : (j : Int) < 8 := by omega
          have hxl := cStep_lt b.toNat j y hy
          have HS : Hid (crcN b.toNat (j + 1) x = cStep b.toNat j y) := by show _ = _; rw [crcN, HY.out]
          have eb : ((b.toNat : Int) / 2 ^ j).tmod 2 = ((b.toNat / 2 ^ j % 2 : Nat) : Int) := by
            have e : (b.toNat : Int) / 2 ^ j = ((b.toNat / 2 ^ j : Nat) : Int) := by simp
            rw [e, Int.tmod_eq_emod_of_nonneg (Int.natCast_nonneg _)]; simp
          by_cases hq : b.toNat / 2 ^ j % 2 = y % 2
          · have HC : Hid (crcN b.toNat (j + 1) x = y / 2) := by show _ = _; rw [HS.out]; unfold cStep; rw [if_pos hq]
            have hqb : (((b.toNat : Int) / 2 ^ j).tmod 2 != ((y : Int) % 2)) = false := by rw [eb, hq]; simp
            clear hq eb
            go_wp2
            go_round
            case rel => exact ⟨j + 1, y / 2, by go_num, by go_num, by omega, by omega, HC.out.symm⟩
            case measure => simp [intOf] <;> omega
          · have HC : Hid (crcN b.toNat (j + 1) x = y / 2 ^^^ 3988292384) := by show _ = _; rw [HS.out]; unfold cStep; rw [if_neg hq]
            have hqb : (((b.toNat : Int) / 2 ^ j).tmod 2 != ((y : Int) % 2)) = true := by
              rw [eb, bne_iff_ne]
              omega
            have HXX : Hid (bits .xor .i64 ((y : Int) / 2) 3988292384 = ((y / 2 ^^^ 3988292384 : Nat) : Int)) := by
              show _ = _
              have := bits_xor_i64 (y / 2) 3988292384 (by omega) (by omega)
              rw [← this]; congr 1
            have hxl2 : y / 2 ^^^ 3988292384 < 4294967296 := xor32 (by omega) (by omega)
            clear hq eb
            go_wp2
            go_round
            case rel => exact ⟨j + 1, y / 2 ^^^ 3988292384, by go_num, by rw [HXX.out], by omega, hxl2, HC.out.symm⟩
            case measure => simp [intOf] <;> omega
        · have hj8I : ¬ (j : Int) < 8 := by omega
          have HE : Hid (y = crcF 4294967295 (l.take (k + 1))) := by
            show _ = _
            rw [HY.out, HZ.out, show j = 8 by omega]
          go_wp2
          go_round
          case rel => exact ⟨k + 1, y, by go_num, rfl, by omega, hy, HE.out⟩
          case measure => simp [intOf] <;> omega
    · have hkI : ¬ (k : Int) < N := by omega
      have HE : Hid (4294967295 - (x : Int) = ((crc l : Nat) : Int)) := by
        show _ = _
        have e : x = crcF 4294967295 l := by rw [HX.out, List.take_of_length_le (by have := HN.out; omega)]
        rw [crc, ← e]; omega
      go_wp2
      go_ret
      exact ⟨ret_i HE.out, rfl⟩
end Go.Proofs.YtbjabpodkaokjaaGreatDoor

namespace Go.Proofs.YtbjabpodkaokjaaGreatDoor
open Go.RowKit

def idxB (big : Bool) (many j : Nat) : Nat := if big then many - 1 - j else j
def byB (n i : Nat) : UInt8 := UInt8.ofNat (n / 256 ^ i)
def numL (big : Bool) (many n : Nat) : List UInt8 := (List.range many).map fun j => byB n (idxB big many j)
def celB (big : Bool) (many n k j : Nat) : Value := if idxB big many j < k then eU (byB n (idxB big many j)) else .int .u8 0
theorem numL2 (big : Bool) (n : Nat) : numL big 2 n = pr big n := by cases big <;> simp [numL, idxB, byB, pr, List.range, List.range.loop]
theorem numL4 (big : Bool) (n : Nat) : numL big 4 n = num4 big n := by cases big <;> simp [numL, idxB, byB, num4, List.range, List.range.loop]
theorem numL1 (big : Bool) (n : Nat) : numL big 1 n = [UInt8.ofNat n] := by cases big <;> simp [numL, idxB, byB, List.range, List.range.loop]
theorem celB_step {w : World} {g : Nat} {big : Bool} {many n k : Nat} (h : Nw w g many (celB big many n k)) (hk : k < many) (p : Nat) (hp : p = if big then many - 1 - k else k) (z : Int) (hz : z = ((byB n k).toNat : Int)) :
    Nw (w.setCell ⟨g, p, none⟩ (.int .u8 z)) g many (celB big many n (k + 1)) := by
  subst hz
  have hpm : p < many := by rw [hp]; split <;> omega
  refine (h.set p hpm _).congr (fun j hj => ?_)
  have e : (j = p) = (idxB big many j = k) := by
    rw [eq_iff_iff, hp]; unfold idxB; cases big <;> simp <;> omega
  by_cases q : j = p
  · rw [if_pos q]
    have q2 : idxB big many j = k := e ▸ q
    unfold celB
    rw [q2, if_pos (by omega)]
  · rw [if_neg q]
    have q2 : ¬ idxB big many j = k := fun x => q (e ▸ x)
    unfold celB
    by_cases q3 : idxB big many j < k
    · rw [if_pos q3, if_pos (by omega)]
    · rw [if_neg q3, if_neg (by omega)]
theorem celB_done {w : World} {g : Nat} {big : Bool} {many n : Nat} (h : Nw w g many (celB big many n many)) : (convert 73 9 (.slice (some ⟨g, 0, none⟩) many many)).run Tryz.prog w = .ok (.string (ba (numL big many n))) w := by
  have hl : (numL big many n).length = many := by simp [numL]
  have := run_convert_bytes_back (P := Tryz.prog) w 73 9 5 ⟨g, 0, none⟩ many (numL big many n) Tryz.underlying73 und_byte und_str (by
    intro j hj
    have hj' : j < many := by omega
    have e : (⟨g, 0, none⟩ : Addr).add j = ⟨g, j, none⟩ := by unfold Addr.add; split <;> simp_all
    rw [e, h.c j hj']
    have hi : idxB big many j < many := by unfold idxB; split <;> omega
    unfold celB
    rw [if_pos hi]
    simp [numL])
  rw [hl] at this
  exact this
set_option maxRecDepth 4000 in
set_option maxHeartbeats 4000000 in
theorem rnum1 (w : World) (n : Nat) (hn : n < 4294967296) (big : Bool) :
    Calls Tryz.prog 167 #[.int .i64 n, .int .i64 1, .bool big] w fun e w' => e = .returned (.string (ba (numL big 1 n))) ∧ Below w.heap.size w w' := by
  obtain ⟨i0, hi, hz0, hz1, hz2⟩ := info_parts Tryz.infoU8
  have hmk : ∀ w, (Instr.makeSlice 73 (.int .i64 1) (.int .i64 1)).run Tryz.prog w = .ok (.slice (some ⟨w.heap.size, 0, none⟩) 1 1) (w.alloc (.cells (mkA 1 (.int .u8 0)) 5)) := fun w => make_eq Tryz.underlying73 hi hz0 hz1 hz2 1 (by omega) (by unfold maxLen; omega) w
  have HNW : Hid (Nw (w.alloc (.cells (mkA 1 (.int .u8 0)) 5)) w.heap.size 1 (celB big 1 n 0)) := (Nw.new w 1 (.int .u8 0) rfl _).congr (fun j _ => by simp [celB])
  have HB : Hid (Below w.heap.size w (w.alloc (.cells (mkA 1 (.int .u8 0)) 5))) := (Below.refl _ _).alloc (Nat.le_refl _) _
  go_enter Tryz.func167, Tryz.ntmps167
  go_wp2
  go_loopw [8] (fun i wr => ∃ k : Nat, i = .int .i64 k ∧ k ≤ 1 ∧ Nw wr w.heap.size 1 (celB big 1 n k) ∧ Below w.heap.size w wr) (fun i _ => 1 - (intOf i).toNat)
  case atStart => exact ⟨0, rfl, by omega, HNW.out, HB.out⟩
  case round =>
    obtain ⟨k, rfl, hk, hnw, hbl⟩ := hrel
    have HBL : Hid (Below w.heap.size w wr) := hbl
    have HW : Hid (Nw wr w.heap.size 1 (celB big 1 n k)) := hnw
    clear hbl hnw HNW HB
    rcases (show k = 0 ∨ k = 1 by omega) with rfl | rfl
    · cases big with
      | false =>
        have d1 := HW.out.c 0 (by omega)
        have d2 := HW.out.fz 0
        go_wp2
        go_roundw
        case rel => exact ⟨1, by go_num, by omega, celB_step HW.out (by omega) 0 rfl _ (by first | (simp [byB]; done) | (simp [byB]; omega)), HBL.out.setCell (p := ⟨w.heap.size, 0, none⟩) (Nat.le_refl _) _⟩
        case measure => simp [intOf] <;> omega
      | true =>
        have d1 := HW.out.c 0 (by omega)
        have d2 := HW.out.fz 0
        go_wp2
        go_roundw
        case rel => exact ⟨1, by go_num, by omega, celB_step HW.out (by omega) 0 rfl _ (by first | (simp [byB]; done) | (simp [byB]; omega)), HBL.out.setCell (p := ⟨w.heap.size, 0, none⟩) (Nat.le_refl _) _⟩
        case measure => simp [intOf] <;> omega
    · have hcv := celB_done HW.out
      go_wp2
      go_ret
      exact ⟨rfl, HBL.out⟩
set_option maxRecDepth 4000 in
set_option maxHeartbeats 4000000 in
theorem rnum2 (w : World) (n : Nat) (hn : n < 4294967296) (big : Bool) :
    Calls Tryz.prog 167 #[.int .i64 n, .int .i64 2, .bool big] w fun e w' => e = .returned (.string (ba (numL big 2 n))) ∧ Below w.heap.size w w' := by
  obtain ⟨i0, hi, hz0, hz1, hz2⟩ := info_parts Tryz.infoU8
  have hmk : ∀ w, (Instr.makeSlice 73 (.int .i64 2) (.int .i64 2)).run Tryz.prog w = .ok (.slice (some ⟨w.heap.size, 0, none⟩) 2 2) (w.alloc (.cells (mkA 2 (.int .u8 0)) 5)) := fun w => make_eq Tryz.underlying73 hi hz0 hz1 hz2 2 (by omega) (by unfold maxLen; omega) w
  have HNW : Hid (Nw (w.alloc (.cells (mkA 2 (.int .u8 0)) 5)) w.heap.size 2 (celB big 2 n 0)) := (Nw.new w 2 (.int .u8 0) rfl _).congr (fun j _ => by simp [celB])
  have HB : Hid (Below w.heap.size w (w.alloc (.cells (mkA 2 (.int .u8 0)) 5))) := (Below.refl _ _).alloc (Nat.le_refl _) _
  go_enter Tryz.func167, Tryz.ntmps167
  go_wp2
  go_loopw [8] (fun i wr => ∃ k : Nat, i = .int .i64 k ∧ k ≤ 2 ∧ Nw wr w.heap.size 2 (celB big 2 n k) ∧ Below w.heap.size w wr) (fun i _ => 2 - (intOf i).toNat)
  case atStart => exact ⟨0, rfl, by omega, HNW.out, HB.out⟩
  case round =>
    obtain ⟨k, rfl, hk, hnw, hbl⟩ := hrel
    have HBL : Hid (Below w.heap.size w wr) := hbl
    have HW : Hid (Nw wr w.heap.size 2 (celB big 2 n k)) := hnw
    clear hbl hnw HNW HB
    rcases (show k = 0 ∨ k = 1 ∨ k = 2 by omega) with rfl | rfl | rfl
    · cases big with
      | false =>
        have d1 := HW.out.c 0 (by omega)
        have d2 := HW.out.fz 0
        go_wp2
        go_roundw
        case rel => exact ⟨1, by go_num, by omega, celB_step HW.out (by omega) 0 rfl _ (by first | (simp [byB]; done) | (simp [byB]; omega)), HBL.out.setCell (p := ⟨w.heap.size, 0, none⟩) (Nat.le_refl _) _⟩
        case measure => simp [intOf] <;> omega
      | true =>
        have d1 := HW.out.c 1 (by omega)
        have d2 := HW.out.fz 1
        go_wp2
        go_roundw
        case rel => exact ⟨1, by go_num, by omega, celB_step HW.out (by omega) 1 rfl _ (by first | (simp [byB]; done) | (simp [byB]; omega)), HBL.out.setCell (p := ⟨w.heap.size, 1, none⟩) (Nat.le_refl _) _⟩
        case measure => simp [intOf] <;> omega
    · cases big with
      | false =>
        have d1 := HW.out.c 1 (by omega)
        have d2 := HW.out.fz 1
        go_wp2
        go_roundw
        case rel => exact ⟨2, by go_num, by omega, celB_step HW.out (by omega) 1 rfl _ (by first | (simp [byB]; done) | (simp [byB]; omega)), HBL.out.setCell (p := ⟨w.heap.size, 1, none⟩) (Nat.le_refl _) _⟩
        case measure => simp [intOf] <;> omega
      | true =>
        have d1 := HW.out.c 0 (by omega)
        have d2 := HW.out.fz 0
        go_wp2
        go_roundw
        case rel => exact ⟨2, by go_num, by omega, celB_step HW.out (by omega) 0 rfl _ (by first | (simp [byB]; done) | (simp [byB]; omega)), HBL.out.setCell (p := ⟨w.heap.size, 0, none⟩) (Nat.le_refl _) _⟩
        case measure => simp [intOf] <;> omega
    · have hcv := celB_done HW.out
      go_wp2
      go_ret
      exact ⟨rfl, HBL.out⟩
set_option maxRecDepth 4000 in
set_option maxHeartbeats 4000000 in
theorem rnum4 (w : World) (n : Nat) (hn : n < 4294967296) (big : Bool) :
    Calls Tryz.prog 167 #[.int .i64 n, .int .i64 4, .bool big] w fun e w' => e = .returned (.string (ba (numL big 4 n))) ∧ Below w.heap.size w w' := by
  obtain ⟨i0, hi, hz0, hz1, hz2⟩ := info_parts Tryz.infoU8
  have hmk : ∀ w, (Instr.makeSlice 73 (.int .i64 4) (.int .i64 4)).run Tryz.prog w = .ok (.slice (some ⟨w.heap.size, 0, none⟩) 4 4) (w.alloc (.cells (mkA 4 (.int .u8 0)) 5)) := fun w => make_eq Tryz.underlying73 hi hz0 hz1 hz2 4 (by omega) (by unfold maxLen; omega) w
  have HNW : Hid (Nw (w.alloc (.cells (mkA 4 (.int .u8 0)) 5)) w.heap.size 4 (celB big 4 n 0)) := (Nw.new w 4 (.int .u8 0) rfl _).congr (fun j _ => by simp [celB])
  have HB : Hid (Below w.heap.size w (w.alloc (.cells (mkA 4 (.int .u8 0)) 5))) := (Below.refl _ _).alloc (Nat.le_refl _) _
  go_enter Tryz.func167, Tryz.ntmps167
  go_wp2
  go_loopw [8] (fun i wr => ∃ k : Nat, i = .int .i64 k ∧ k ≤ 4 ∧ Nw wr w.heap.size 4 (celB big 4 n k) ∧ Below w.heap.size w wr) (fun i _ => 4 - (intOf i).toNat)
  case atStart => exact ⟨0, rfl, by omega, HNW.out, HB.out⟩
  case round =>
    obtain ⟨k, rfl, hk, hnw, hbl⟩ := hrel
    have HBL : Hid (Below w.heap.size w wr) := hbl
    have HW : Hid (Nw wr w.heap.size 4 (celB big 4 n k)) := hnw
    clear hbl hnw HNW HB
    rcases (show k = 0 ∨ k = 1 ∨ k = 2 ∨ k = 3 ∨ k = 4 by omega) with rfl | rfl | rfl | rfl | rfl
    · cases big with
      | false =>
        have d1 := HW.out.c 0 (by omega)
        have d2 := HW.out.fz 0
        go_wp2
        go_roundw
        case rel => exact ⟨1, by go_num, by omega, celB_step HW.out (by omega) 0 rfl _ (by first | (simp [byB]; done) | (simp [byB]; omega)), HBL.out.setCell (p := ⟨w.heap.size, 0, none⟩) (Nat.le_refl _) _⟩
        case measure => simp [intOf] <;> omega
      | true =>
        have d1 := HW.out.c 3 (by omega)
        have d2 := HW.out.fz 3
        go_wp2
        go_roundw
        case rel => exact ⟨1, by go_num, by omega, celB_step HW.out (by omega) 3 rfl _ (by first | (simp [byB]; done) | (simp [byB]; omega)), HBL.out.setCell (p := ⟨w.heap.size, 3, none⟩) (Nat.le_refl _) _⟩
        case measure => simp [intOf] <;> omega
    · cases big with
      | false =>
        have d1 := HW.out.c 1 (by omega)
        have d2 := HW.out.fz 1
        go_wp2
        go_roundw
        case rel => exact ⟨2, by go_num, by omega, celB_step HW.out (by omega) 1 rfl _ (by first | (simp [byB]; done) | (simp [byB]; omega)), HBL.out.setCell (p := ⟨w.heap.size, 1, none⟩) (Nat.le_refl _) _⟩
        case measure => simp [intOf] <;> omega
      | true =>
        have d1 := HW.out.c 2 (by omega)
        have d2 := HW.out.fz 2
        go_wp2
        go_roundw
        case rel => exact ⟨2, by go_num, by omega, celB_step HW.out (by omega) 2 rfl _ (by first | (simp [byB]; done) | (simp [byB]; omega)), HBL.out.setCell (p := ⟨w.heap.size, 2, none⟩) (Nat.le_refl _) _⟩
        case measure => simp [intOf] <;> omega
    · cases big with
      | false =>
        have d1 := HW.out.c 2 (by omega)
        have d2 := HW.out.fz 2
        go_wp2
        go_roundw
        case rel => exact ⟨3, by go_num, by omega, celB_step HW.out (by omega) 2 rfl _ (by first | (simp [byB]; done) | (simp [byB]; omega)), HBL.out.setCell (p := ⟨w.heap.size, 2, none⟩) (Nat.le_refl _) _⟩
        case measure => simp [intOf] <;> omega
      | true =>
        have d1 := HW.out.c 1 (by omega)
        have d2 := HW.out.fz 1
        go_wp2
        go_roundw
        case rel => exact ⟨3, by go_num, by omega, celB_step HW.out (by omega) 1 rfl _ (by first | (simp [byB]; done) | (simp [byB]; omega)), HBL.out.setCell (p := ⟨w.heap.size, 1, none⟩) (Nat.le_refl _) _⟩
        case measure => simp [intOf] <;> omega
    · cases big with
      | false =>
        have d1 := HW.out.c 3 (by omega)
        have d2 := HW.out.fz 3
        go_wp2
        go_roundw
        case rel => exact ⟨4, by go_num, by omega, celB_step HW.out (by omega) 3 rfl _ (by first | (simp [byB]; done) | (simp [byB]; omega)), HBL.out.setCell (p := ⟨w.heap.size, 3, none⟩) (Nat.le_refl _) _⟩
        case measure => simp [intOf] <;> omega
      | true =>
        have d1 := HW.out.c 0 (by omega)
        have d2 := HW.out.fz 0
        go_wp2
        go_roundw
        case rel => exact ⟨4, by go_num, by omega, celB_step HW.out (by omega) 0 rfl _ (by first | (simp [byB]; done) | (simp [byB]; omega)), HBL.out.setCell (p := ⟨w.heap.size, 0, none⟩) (Nat.le_refl _) _⟩
        case measure => simp [intOf] <;> omega
    · have hcv := celB_done HW.out
      go_wp2
      go_ret
      exact ⟨rfl, HBL.out⟩
end Go.Proofs.YtbjabpodkaokjaaGreatDoor
