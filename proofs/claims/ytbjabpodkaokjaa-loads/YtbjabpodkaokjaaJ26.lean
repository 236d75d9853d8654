import Derived.Test.YtbjabpodkaokjaaJ22
set_option linter.unusedVariables false
set_option linter.unusedSimpArgs false
namespace Go.Proofs.Ytbjabpodkaokjaa
open Go.RowKit

theorem cntC_skip (n : Nat) (c : UInt8) (t : List UInt8) (h : c.toNat < n) : cntC n (c :: t) = cntC n t := by
  simp only [cntC]; rw [if_neg (by omega), Nat.max_eq_left (by omega)]
theorem cntC_next (n : Nat) (c : UInt8) (t : List UInt8) (h : c.toNat = n) : cntC n (c :: t) = cntC (n + 1) t := by
  simp only [cntC]; rw [if_neg (by omega), Nat.max_eq_right (by omega), h]
theorem cntC_no (n : Nat) (c : UInt8) (t : List UInt8) (h : n < c.toNat) : cntC n (c :: t) = none := by
  simp only [cntC]; rw [if_pos h]
set_option maxRecDepth 4000 in
set_option maxHeartbeats 4000000 in
theorem isTable_ref (w : World) (t : Tb) (va vn : Value) (h : TabIn w t va vn) (hs : Small t) :
    Calls Try.prog 21 #[tv t va vn] w fun e w' => e = .returned (.bool (isTb t)) ∧ Below w.heap.size w w' := by
  obtain ⟨ha, hn⟩ := h
  obtain ⟨s1, s2, s3, s4⟩ := hs
  obtain ⟨a, ca, rfl⟩ := ha.form
  obtain ⟨us, hul, hu, hr⟩ := hn
  obtain ⟨f, b, st, cls, acc, next⟩ := t
  simp only at *
  obtain ⟨an, cn, rfl⟩ := hu.form
  obtain ⟨na, hna⟩ : ∃ na, na = acc.length := ⟨_, rfl⟩
  obtain ⟨nn, hnn⟩ : ∃ nn, nn = us.length := ⟨_, rfl⟩
  have HT : Hid (isTb ⟨f, b, st, cls, acc, next⟩ = (decide (1 ≤ na) && (decide (na ≤ 200) && (decide (nn = na) && (isSt st na && match cntR (ba cls) with | none => false | some c => next.all (rowOk c na)))))) := by
    show _ = _
    rw [hna, hnn, hul]; rfl
  rw [← hna] at s1 ⊢
  rw [← hnn] at hul hu ⊢
  obtain ⟨wx, hwx⟩ : ∃ wx, wx = w.alloc (.cells #[.bool f, .bool b, .int .i64 st, .string (ba cls), .slice a na ca, .slice an nn cn] 30) := ⟨_, rfl⟩
  have HB : Hid (Below w.heap.size w wx) := by rw [hwx]; exact (Below.refl _ _).alloc (Nat.le_refl _) _
  have HW : Hid (wx = w.alloc (.cells #[.bool f, .bool b, .int .i64 st, .string (ba cls), .slice a na ca, .slice an nn cn] 30)) := hwx
  have hU : Hid (RowE id wx (.slice an nn cn) us) := hu.below HB.out
  have hRw : Hid (∀ j (h1 : j < us.length) (h2 : j < next.length), RowE eI wx us[j] next[j]) := fun j h1 h2 => (hr j h1 h2).below HB.out
  unfold maxLen at s1 s2 s3 s4
  have HUL : Hid (nn = next.length) := hul
  have HNN : Hid (nn = us.length) := hnn
  have hbz := ba_size cls
  rw [← hul] at s2
  have hblk : wx.heap[w.heap.size]? = some (.cells #[.bool f, .bool b, .int .i64 st, .string (ba cls), .slice a na ca, .slice an nn cn] 30) := by rw [hwx]; exact heap_alloc_new w _
  obtain ⟨p0, p1, p2, p3, p4, p5⟩ := box6 hblk
  clear hna ha hu hr hul hnn hwx p0 p1 hblk
  by_cases h1 : (na : Int) < 1
  · have HF : Hid (isTb ⟨f, b, st, cls, acc, next⟩ = false) := by
      show _ = _
      rw [HT.out, decide_eq_false (by omega)]; rfl
    clear HT
    go_enter Try.func21, Try.ntmps21
    go_wp2
    go_ret
    rw [← HW.out]
    exact ⟨ret_bool HF.out.symm, HB.out⟩
  by_cases h2 : 200 < (na : Int)
  · have HF : Hid (isTb ⟨f, b, st, cls, acc, next⟩ = false) := by
      show _ = _
      rw [HT.out, decide_eq_false (p := na ≤ 200) (by omega)]; simp
    clear HT
    go_enter Try.func21, Try.ntmps21
    go_wp2
    go_ret
    rw [← HW.out]
    exact ⟨ret_bool HF.out.symm, HB.out⟩
  by_cases h3 : (nn : Int) = na
  rotate_left
  · have HF : Hid (isTb ⟨f, b, st, cls, acc, next⟩ = false) := by
      show _ = _
      rw [HT.out, decide_eq_false (p := nn = na) (by omega)]; simp
    have h3' : ((nn : Int) != na) = true := by simpa using h3
    clear HT
    go_enter Try.func21, Try.ntmps21
    go_wp2
    go_ret
    rw [← HW.out]
    exact ⟨ret_bool HF.out.symm, HB.out⟩
  have h3' : ((nn : Int) != na) = false := by simpa using h3
  by_cases h4 : st < 0
  · have HF : Hid (isTb ⟨f, b, st, cls, acc, next⟩ = false) := by
      show _ = _
      rw [HT.out, show isSt st na = false by simp [isSt]; omega]; simp
    clear HT
    go_enter Try.func21, Try.ntmps21
    go_wp2
    go_ret
    rw [← HW.out]
    exact ⟨ret_bool HF.out.symm, HB.out⟩
  by_cases h5 : (na : Int) ≤ st
  · have HF : Hid (isTb ⟨f, b, st, cls, acc, next⟩ = false) := by
      show _ = _
      rw [HT.out, show isSt st na = false by simp [isSt]; omega]; simp
    clear HT
    go_enter Try.func21, Try.ntmps21
    go_wp2
    go_ret
    rw [← HW.out]
    exact ⟨ret_bool HF.out.symm, HB.out⟩
  by_cases h6 : (cls.length : Int) = 256
  rotate_left
  · have HF : Hid (isTb ⟨f, b, st, cls, acc, next⟩ = false) := by
      show _ = _
      rw [HT.out, show cntR (ba cls) = none by unfold cntR; rw [if_neg (by rw [hbz]; omega)]]; simp
    have h6' : ((cls.length : Int) != 256) = true := by simpa using h6
    clear HT
    go_enter Try.func21, Try.ntmps21
    go_wp2
    go_ret
    rw [← HW.out]
    exact ⟨ret_bool HF.out.symm, HB.out⟩
  have h6' : ((cls.length : Int) != 256) = false := by simpa using h6
  have HF : Hid (isTb ⟨f, b, st, cls, acc, next⟩ = (match cntC 0 cls with | none => false | some c => next.all (rowOk c na))) := by
    show _ = _
    rw [HT.out, decide_eq_true (p := 1 ≤ na) (by omega), decide_eq_true (p := na ≤ 200) (by omega), decide_eq_true (p := nn = na) (by omega), show isSt st na = true by simp [isSt]; omega, show cntR (ba cls) = cntC 0 cls by unfold cntR; rw [if_pos (by rw [hbz]; omega)]]; simp
  clear HT
  have hc256 : cls.length = 256 := by omega
  have HC6 : Hid (cls.length = 256) := hc256
  rw [hc256] at hbz
  clear hc256 h6
  go_enter Try.func21, Try.ntmps21
  go_wp2
  rw [← HW.out]
  go_loop [4, 5] (fun top i => ∃ k n : Nat, i = .int .i64 k ∧ top = .int .i64 n ∧ k ≤ 256 ∧ n ≤ 256 ∧ cntC n (cls.drop k) = cntC 0 cls) (fun _ i => 256 - (intOf i).toNat)
  case atStart => exact ⟨0, 0, rfl, rfl, by omega, by omega, rfl⟩
  case round =>
    obtain ⟨k, n, rfl, rfl, hk, hn, heq⟩ := hrel
    have HE : Hid (cntC n (cls.drop k) = cntC 0 cls) := heq
    clear heq
    by_cases hlt : k < 256
    · have hltI : (k : Int) < 256 := by omega
      have hlt1 : k < cls.length := by have := HC6.out; omega
      obtain ⟨bb, hb⟩ : ∃ b, b = cls[k] := ⟨_, rfl⟩
      have hbx : ∀ h : k < (ba cls).size, ((ba cls)[k]'h).toNat = bb.toNat := fun h => by rw [hb]; rfl
      have hb8 := bb.toNat_lt
      have HD : Hid (cntC n (bb :: cls.drop (k + 1)) = cntC 0 cls) := by
        show _ = _
        rw [← HE.out, List.drop_eq_getElem_cons hlt1, hb]
      clear hb
      by_cases hgt : (n : Int) < bb.toNat
      · have HN : Hid (cntC 0 cls = none) := by show _ = _; rw [← HD.out, cntC_no _ _ _ (by omega)]
        go_wp2
        go_ret
        exact ⟨ret_bool (by rw [HF.out, HN.out]), HB.out⟩
      by_cases heq : (bb.toNat : Int) = n
      · have HN : Hid (cntC (n + 1) (cls.drop (k + 1)) = cntC 0 cls) := by show _ = _; rw [← HD.out, cntC_next _ _ _ (by omega)]
        have hqb : ((bb.toNat : Int) == n) = true := by simpa using heq
        have hn1 : n ≤ 255 := by omega
        clear heq
        go_wp2
        go_round
        case rel => exact ⟨k + 1, n + 1, by go_num, by go_num, by omega, by omega, HN.out⟩
        case measure => simp [intOf] <;> omega
      · have HN : Hid (cntC n (cls.drop (k + 1)) = cntC 0 cls) := by show _ = _; rw [← HD.out, cntC_skip _ _ _ (by omega)]
        have hqb : ((bb.toNat : Int) == n) = false := by simpa using heq
        go_wp2
        go_round
        case rel => exact ⟨k + 1, n, by go_num, rfl, by omega, by omega, HN.out⟩
        case measure => simp [intOf] <;> omega
    · have hkI : ¬ (k : Int) < 256 := by omega
      have HN : Hid (isTb ⟨f, b, st, cls, acc, next⟩ = next.all (rowOk n na)) := by
        show _ = _
        have e := HE.out
        rw [List.drop_of_length_le (by have := HC6.out; omega)] at e
        simp only [cntC] at e
        rw [HF.out, ← e]
      obtain ⟨bn, on, cn', hvn, hcell⟩ := hU.out.nonnil (by have := HNN.out; omega)
      injection hvn with e1 e2 e3
      subst e1
      have HC : Hid (∀ j (hj : j < us.length), wx.cell? ⟨bn, on + j, none⟩ = some us[j]) := hcell
      clear hcell e2 e3 hU HE
      go_wp2
      go_loop [6, 7] (fun i _ => ∃ k : Nat, i = .int .i64 k ∧ k ≤ na ∧ next.all (rowOk n na) = (next.drop k).all (rowOk n na)) (fun i _ => na - (intOf i).toNat)
      case atStart => exact ⟨0, rfl, Nat.zero_le _, rfl⟩
      case round =>
        obtain ⟨i, rfl, hi, heq⟩ := hrel
        have HE : Hid (next.all (rowOk n na) = (next.drop i).all (rowOk n na)) := heq
        clear heq
        by_cases hilt : i < na
        · have hlt1 : i < us.length := by have := HNN.out; omega
          have hlt2 : i < next.length := by have := HUL.out; omega
          have hltI : (i : Int) < na := by omega
          have hltN : (i : Int) < nn := by omega
          have hck := HC.out i hlt1
          have hrk := hRw.out i hlt1 hlt2
          have hlen : next[i].length ≤ 9223372036854775807 := s3 _ (List.getElem_mem hlt2)
          obtain ⟨u, hu⟩ : ∃ u, u = us[i] := ⟨_, rfl⟩
          obtain ⟨r, hre⟩ : ∃ r, r = next[i] := ⟨_, rfl⟩
          rw [← hu] at hck hrk
          rw [← hre] at hrk hlen
          have HD : Hid (next.all (rowOk n na) = (rowOk n na r && (next.drop (i + 1)).all (rowOk n na))) := by
            show _ = _
            have := HE.out; rw [List.drop_eq_getElem_cons hlt2, ← hre] at this; simpa only [List.all_cons] using this
          obtain ⟨au, cu, hform⟩ := hrk.form
          subst hform
          have HRK : Hid (RowE eI wx (.slice au r.length cu) r) := hrk
          clear hu hre hrk
          by_cases hrl : (r.length : Int) = n
          rotate_left
          · have hrb : ((r.length : Int) != n) = true := by simpa using hrl
            have HQ : Hid (next.all (rowOk n na) = false) := by
              show _ = _
              rw [HD.out]; simp only [rowOk]; rw [show (r.length == n) = false by simp; omega]; simp
            go_wp2
            go_ret
            exact ⟨ret_bool (by rw [HN.out, HQ.out]), HB.out⟩
          have hrb : ((r.length : Int) != n) = false := by simpa using hrl
          have HRL : Hid (r.length = n) := by show _ = _; omega
          have HD2 : Hid (next.all (rowOk n na) = ((r.all fun z => isSt z na) && (next.drop (i + 1)).all (rowOk n na))) := by
            show _ = _
            rw [HD.out]; simp only [rowOk]; rw [show (r.length == n) = true by simp; omega]; simp
          clear hrl HD
          go_wp2
          go_loop [7] (fun q => ∃ j : Nat, q = .int .i64 j ∧ j ≤ n ∧ (r.all fun z => isSt z na) = ((r.drop j).all fun z => isSt z na)) (fun q => n - (intOf q).toNat)
          case atStart => exact ⟨0, rfl, Nat.zero_le _, rfl⟩
          case round =>
            obtain ⟨j, rfl, hj, hjeq⟩ := hrel
            have HJ : Hid ((r.all fun z => isSt z na) = ((r.drop j).all fun z => isSt z na)) := hjeq
            clear hjeq
            by_cases hjl : j < n
            · have hjlI : (j : Int) < n := by omega
              have hjr : j < r.length := by have := HRL.out; omega
              have hjrI : (j : Int) < r.length := by omega
              obtain ⟨ab, ob, cb, hf2, hcz⟩ := HRK.out.nonnil (by omega)
              injection hf2 with e1 e2 e3
              subst e1
              have hcj := hcz j hjr
              obtain ⟨z, hz⟩ : ∃ z, z = r[j] := ⟨_, rfl⟩
              rw [← hz] at hcj
              have HZ : Hid ((r.all fun z => isSt z na) = (isSt z na && ((r.drop (j + 1)).all fun z => isSt z na))) := by
                show _ = _
                have := HJ.out; rw [List.drop_eq_getElem_cons hjr, ← hz] at this; simpa only [List.all_cons] using this
              clear hz hcz e2 e3
              by_cases z1 : z < 0
              · have HQ : Hid (next.all (rowOk n na) = false) := by
                  show _ = _
                  rw [HD2.out, HZ.out, show isSt z na = false by simp [isSt]; omega]; simp
                have z1d : decide (z < 0) = true := by simpa using z1
                go_wp2
                go_ret
                exact ⟨ret_bool (by rw [HN.out, HQ.out]), HB.out⟩
              by_cases z2 : (na : Int) ≤ z
              · have HQ : Hid (next.all (rowOk n na) = false) := by
                  show _ = _
                  rw [HD2.out, HZ.out, show isSt z na = false by simp [isSt]; omega]; simp
                have z1d : decide (z < 0) = false := by simpa using z1
                go_wp2
                go_ret
                exact ⟨ret_bool (by rw [HN.out, HQ.out]), HB.out⟩
              · have HQ : Hid ((r.all fun z => isSt z na) = ((r.drop (j + 1)).all fun z => isSt z na)) := by
                  show _ = _
                  rw [HZ.out, show isSt z na = true by simp [isSt]; omega]; simp
                have z1d : decide (z < 0) = false := by simpa using z1
                go_wp2
                go_round
                case rel => exact ⟨j + 1, by go_num, by omega, HQ.out⟩
                case measure => simp [intOf] <;> omega
            · have hjlI : ¬ (j : Int) < n := by omega
              have HQ : Hid (next.all (rowOk n na) = (next.drop (i + 1)).all (rowOk n na)) := by
                show _ = _
                rw [HD2.out, HJ.out, List.drop_of_length_le (by have := HRL.out; omega)]; simp
              go_wp2
              go_round
              case rel => exact ⟨i + 1, by go_num, by omega, HQ.out⟩
              case measure => simp [intOf] <;> omega
        · have hiI : ¬ (i : Int) < na := by omega
          have HQ : Hid (next.all (rowOk n na) = true) := by
            show _ = _
            rw [HE.out, List.drop_of_length_le (by have := HUL.out; omega)]; rfl
          go_wp2
          go_ret
          exact ⟨ret_bool (by rw [HN.out, HQ.out]), HB.out⟩
end Go.Proofs.Ytbjabpodkaokjaa
