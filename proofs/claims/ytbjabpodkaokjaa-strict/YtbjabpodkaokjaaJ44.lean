/- For every input the law haspkeep.Strict answers true. -/
import Derived.Test.YtbjabpodkaokjaaJ43
import Derived.Test.YtbjabpodkaokjaaJ42
import Derived.SizedLaws
set_option linter.unusedVariables false
set_option linter.unusedSimpArgs false
namespace Go.Proofs.Ytbjabpodkaokjaa
open Go.RowKit

set_option maxRecDepth 4000 in
set_option maxHeartbeats 4000000 in
theorem strict_no (w : World) (b : List UInt8) (x : ByteArray) (hb : b.length ≤ maxLen) (h : loadM isTb b = none) :
    Calls Try.prog 4 #[.string (ba b), .string x] w fun e w' => e = .returned (.bool true) ∧ Below w.heap.size w w' := by
  have HK : Hid (∀ w, Calls Try.prog 11 #[] w fun e w' => e = .returned (.bool true) ∧ Below w.heap.size w w') := built_yes
  have HL : Hid (∀ w, Calls Try.prog 6 #[.string (ba b)] w fun e w' => e = .returned (.tuple #[.pointer none, .int .i64 6]) ∧ Below w.heap.size w w') := fun w => load_none w b hb h
  clear hb h
  go_enter Try.func4, Try.ntmps4
  go_wp2_with (first | (go_at_call 11; refine (HK.out _).mono ?_; rintro e w1 ⟨rfl, hb1⟩; have HB1 : Hid (Below w.heap.size w w1) := hb1; clear hb1) | (go_at_call 6; refine (HL.out _).mono ?_; rintro e w2 ⟨rfl, hb2⟩; have HB2 : Hid (Below w.heap.size w w2) := HB1.out.trans (hb2.mono HB1.out.size); clear hb2))
  go_ret
  exact ⟨rfl, HB2.out⟩

/-- The ends that are met before the place k, with the last one where k is behind it. -/
def eK (t : Tb) (l : List UInt8) (k : Nat) : List Nat := if k ≤ l.length then eP t l k else endsL t l
theorem eK_zero (t : Tb) (l : List UInt8) : eK t l 0 = [] := by unfold eK; rw [if_pos (Nat.zero_le _)]; simp [eP]
theorem eK_end (t : Tb) (l : List UInt8) : eK t l (l.length + 1) = endsL t l := by unfold eK; rw [if_neg (by omega)]
theorem eK_hit {t : Tb} {l : List UInt8} {k : Nat} (hk : k ≤ l.length) (ha : accN t (stL t (l.take k)) = true) (hb : t.back = false ∨ k = l.length) : eK t l (k + 1) = eK t l k ++ [k] := by
  unfold eK
  rw [if_pos hk]
  by_cases h : k = l.length
  · rw [if_neg (by omega)]
    unfold endsL
    rw [h, List.take_length] at ha
    rw [if_pos ha, h]
  · rw [if_pos (by omega), eP_succ]
    have : t.back = false := by rcases hb with q | q; exact q; exact absurd q h
    rw [this, ha]; simp
theorem eK_miss {t : Tb} {l : List UInt8} {k : Nat} (hk : k ≤ l.length) (h : accN t (stL t (l.take k)) = false ∨ (t.back = true ∧ k < l.length)) : eK t l (k + 1) = eK t l k := by
  unfold eK
  rw [if_pos hk]
  by_cases hq : k = l.length
  · rw [if_neg (by omega)]
    have ha : accN t (stL t (l.take k)) = false := by rcases h with q | q; exact q; omega
    rw [hq, List.take_length] at ha
    unfold endsL
    rw [ha, hq]; simp
  · rw [if_pos (by omega), eP_succ]
    rcases h with q | q
    · rw [q]; simp
    · rw [q.1]; simp
theorem RowE.at {α : Type} {enc : α → Value} {w : World} {b o n c : Nat} {l : List α} (h : RowE enc w (.slice (some ⟨b, o, none⟩) n c) l) (j : Nat) (hj : j < l.length) : w.cell? ⟨b, o + j, none⟩ = some (enc l[j]) := by
  obtain ⟨b', o', c', hf, hc⟩ := h.nonnil (by omega)
  injection hf with e1 _ _
  injection e1 with e1
  injection e1 with e1 e2 e3
  subst e1
  subst e2
  exact hc j hj
theorem firstI_new {l : List Nat} (k : Nat) (h : firstI l < 0) : firstI (l ++ [k]) = k := by
  cases l with
  | nil => rfl
  | cons x r => simp only [firstI] at h; omega
theorem firstI_old {l : List Nat} (k : Nat) (h : ¬ firstI l < 0) : firstI (l ++ [k]) = firstI l := by
  cases l with
  | nil => simp [firstI] at h
  | cons x r => rfl
theorem firstI_is (l : List Nat) : (!l.isEmpty) = decide (0 ≤ firstI l) := by
  cases l with
  | nil => simp [firstI]
  | cons x r => simp [firstI]
set_option maxRecDepth 4000 in
set_option maxHeartbeats 4000000 in
theorem strict_yes (w : World) (b tx : List UInt8) (hb : b.length ≤ maxLen) (htx : tx.length ≤ 281474976710656) (t : Tb) (h : loadM isTb b = some t) :
    Calls Try.prog 4 #[.string (ba b), .string (ba tx)] w fun e w' => e = .returned (.bool true) ∧ Below w.heap.size w w' := by
  have HK : Hid (∀ w, Calls Try.prog 11 #[] w fun e w' => e = .returned (.bool true) ∧ Below w.heap.size w w') := built_yes
  have HL : Hid (∀ w, Calls Try.prog 6 #[.string (ba b)] w fun e w' => ∃ m c, e = .returned (.tuple #[.pointer (some ⟨m, 0, none⟩), .int .i64 0]) ∧ Mch w' m t c ∧ w.heap.size ≤ m ∧ Below w.heap.size w w') := fun w => load_some w b hb t h
  obtain ⟨k1, k2, k3⟩ := load_enc h
  have hlong := load_long h
  have a5 := byA_at b 5 (by omega)
  have a7 := byA_at b 7 (by omega)
  have b7 := byA_lt b 7
  obtain ⟨x5, hx5⟩ : ∃ x, x = byA b 5 := ⟨_, rfl⟩
  obtain ⟨x7, hx7⟩ : ∃ x, x = byA b 7 := ⟨_, rfl⟩
  obtain ⟨big, hbig⟩ : ∃ g, g = (x7 == 1) := ⟨_, rfl⟩
  have HE : Hid (x5 ≤ 1 ∧ enc t x5 big = b) := by rw [hbig, hx5, hx7]; exact ⟨k1, k2⟩
  rw [← hx5] at a5
  rw [← hx7] at a7 b7
  have hx1 : x5 ≤ 1 := HE.out.1
  have z5 : ∀ h : 5 < (ba b).size, ((ba b)[5]'h).toNat = x5 := fun h => by rw [a5]; rfl
  have z7 : ∀ h : 7 < (ba b).size, ((ba b)[7]'h).toNat = x7 := fun h => by rw [a7]; rfl
  have hbs := ba_size b
  obtain ⟨N, hN⟩ : ∃ N, N = b.length := ⟨_, rfl⟩
  rw [← hN] at hbs hlong hb
  have hbigI : ((x7 : Int) == 1) = big := by rw [hbig, Bool.eq_iff_iff]; simp; omega
  have i5 : (5 : Int) < N := by omega
  have i7 : (7 : Int) < N := by omega
  have i270 : decide ((N : Int) < 270) = false := by simp; omega
  have hbeq : (ba b).toList = b := ByteArray.toList_mk b
  have HTX : Hid (tx.length ≤ maxLen) := by show tx.length ≤ maxLen; unfold maxLen; omega
  unfold maxLen at hb
  have hts := ba_size tx
  obtain ⟨n, hn⟩ : ∃ n, n = tx.length := ⟨_, rfl⟩
  rw [← hn] at hts htx
  have HN : Hid (n = tx.length) := hn
  clear h k1 k2 k3 a5 a7 hx5 hx7 hbig hN hlong hn
  have HWR : Hid (IntKind.i64.wrap (x5 : Int) = x5) := by show IntKind.i64.wrap (x5 : Int) = x5; rw [IntKind.wrap_i64]; omega
  have HEN : Hid (∀ w m c, Mch w m t c → Calls Try.prog 9 #[.pointer (some ⟨m, 0, none⟩), .int .i64 x5, .bool big] w.drew fun e w' => e = .returned (.tuple #[.string (ba b), .int .i64 0]) ∧ Below w.heap.size w w') := fun w m c hm => by
    refine (encode_any w.drew m t c (hm.below ((Below.refl _ _).drew)) x5 HE.out.1 big).mono ?_
    rintro e w' ⟨rfl, hb'⟩
    rw [HE.out.2]
    exact ⟨rfl, (Below.refl _ _).drew.trans hb'⟩
  go_enter Try.func4, Try.ntmps4
  go_upto_region 9 with (first | (go_at_call 11; refine (HK.out _).mono ?_; rintro e w1 ⟨rfl, hb1⟩; have HB1 : Hid (Below w.heap.size w w1) := hb1; clear hb1) | (go_at_call 6; refine (HL.out _).mono ?_; rintro e w2 ⟨m, c, rfl, hm, _, hb2⟩; have HM : Hid (Mch w2 m t c) := hm; have HB2 : Hid (Below w.heap.size w w2) := HB1.out.trans (hb2.mono HB1.out.size); clear hb2 hm))
  go_cut [8, 9] from 42 to 52 (fun u8 u9 wc => u8 = .string (ba b) ∧ u9 = .int .i64 0 ∧ Below w.heap.size w wc ∧ Mch wc m t c)
  case first =>
    go_region_held3 (fun w' => True) (trivial) ((go_at_call 9; rw [HWR.out]; refine (HEN.out _ _ _ HM.out).mono ?_; rintro e w3 ⟨rfl, hb3⟩; have HB3 : Hid (Below w.heap.size w w3) := HB2.out.trans (hb3.mono HB2.out.size); have HM3 : Hid (Mch w3 m t c) := HM.out.below hb3; clear hb3))
    all_goals
      go_wp2
      go_meet
      exact ⟨rfl, rfl, HB3.out, HM3.out⟩
  case rest =>
  obtain ⟨rfl, rfl, hb3, hm3⟩ := hcut
  have HB3 : Hid (Below w.heap.size w wc) := hb3
  have HM3 : Hid (Mch wc m t c) := hm3
  have HOK : Hid (TbOk t c) := by obtain ⟨_, _, _, h3⟩ := hm3; exact h3
  clear hb3 hm3 HL HK HEN HE HWR z5 z7 hbigI i5 i7 HM HB2 HB1
  go_upto_region 11 with (go_at_call 8; refine (mtable_any _ m t c HM3.out).mono ?_; rintro e w4 ⟨tA, tB, gs, rfl, htn, hb4⟩; have HN4 : Hid (TabIn w4 t (.slice (some ⟨tA, 0, none⟩) t.acc.length t.acc.length) (.slice (some ⟨tB, 0, none⟩) t.next.length t.next.length)) := htn.tab; have HM4 : Hid (Mch w4 m t c) := HM3.out.below hb4; have HB4 : Hid (Below w.heap.size w w4) := HB3.out.trans (hb4.mono HB3.out.size); clear hb4 htn)
  obtain ⟨w5, hw5⟩ : ∃ w5, w5 = w4.alloc (.cells #[.bool t.front, .bool t.back, .int .i64 t.start, .string (ba t.cls), .slice (some ⟨tA, 0, none⟩) t.acc.length t.acc.length, .slice (some ⟨tB, 0, none⟩) t.next.length t.next.length] 30) := ⟨_, rfl⟩
  rw [← hw5]
  have hb5 : Below w4.heap.size w4 w5 := by rw [hw5]; exact (Below.refl _ _).alloc (Nat.le_refl _) _
  have HX5 : Hid (∀ w', Below w5.heap.size w5 w' → w'.heap[w4.heap.size]? = some (.cells #[.bool t.front, .bool t.back, .int .i64 t.start, .string (ba t.cls), .slice (some ⟨tA, 0, none⟩) t.acc.length t.acc.length, .slice (some ⟨tB, 0, none⟩) t.next.length t.next.length] 30)) := fun w' hb => by
    rw [hb.block _ (by rw [hw5]; simp), hw5]
    exact heap_alloc_new w4 _
  have HB5 : Hid (Below w.heap.size w w5) := HB4.out.trans (hb5.mono HB4.out.size)
  have HM5 : Hid (Mch w5 m t c) := HM4.out.below hb5
  have HN5 : Hid (TabIn w5 t (.slice (some ⟨tA, 0, none⟩) t.acc.length t.acc.length) (.slice (some ⟨tB, 0, none⟩) t.next.length t.next.length)) := HN4.out.below hb5
  have HRI : Hid (Calls Try.prog 12 #[tv t (.slice (some ⟨tA, 0, none⟩) t.acc.length t.acc.length) (.slice (some ⟨tB, 0, none⟩) t.next.length t.next.length)] w5 fun e w' => e = .returned (.bool true) ∧ Below w5.heap.size w5 w') := right_yes w5 t c _ _ HN5.out HOK.out
  obtain ⟨p0, p1, p2, p3, p4, p5⟩ := box6 (HX5.out w5 (Below.refl _ _))
  clear hw5 hb5 HN4 HM4 HB4 HM3 HB3
  go_wp2_with (go_at_call 12; refine HRI.out.mono ?_; rintro e w6 ⟨rfl, hb6⟩; have HB6 : Hid (Below w5.heap.size w5 w6) := hb6; obtain ⟨q0, q1, q2, q3, q4, q5⟩ := box6 (HX5.out w6 hb6); clear hb6)
  clear p0 p1 p2 p3 p4 p5 q0 q1 q2 q3 q4 q5
  go_loopw [13, 14, 15, 16] (fun f l s i wr => ∃ k : Nat, i = .int .i64 k ∧ k ≤ n + 1 ∧ f = .int .i64 (firstI (eK t tx k)) ∧ l = .int .i64 (lastI (eK t tx k)) ∧ s = .int .i64 (stL t (tx.take k)) ∧ Below w5.heap.size w5 wr) (fun _ _ _ i _ => n + 1 - (intOf i).toNat)
  case atStart => 
    refine ⟨0, rfl, by omega, by rw [eK_zero]; rfl, by rw [eK_zero]; rfl, ?_, HB6.out⟩
    have := HOK.out.s1
    show Value.int .i64 t.start = .int .i64 (t.start.toNat : Int)
    rw [Int.toNat_of_nonneg this]
  case round =>
    obtain ⟨k, rfl, hk, rfl, rfl, rfl, hbl⟩ := hrel
    have HBL : Hid (Below w5.heap.size w5 wr) := hbl
    by_cases hle : k ≤ n
    · have hleI : (k : Int) ≤ n := by omega
      have hkl : k ≤ tx.length := by have := HN.out; omega
      have hsl := HOK.out.stL (tx.take k)
      have h256 := HOK.out.c256
      have hnx := HOK.out.n
      obtain ⟨t0, q1, t2, q3, q4, q5⟩ := box6 (HX5.out wr hbl)
      clear t0 t2
      have d1 := (HN5.out.acc.below hbl).at (stL t (tx.take k)) hsl
      have hav : accN t (stL t (tx.take k)) = t.acc[stL t (tx.take k)] := by simp [accN, hsl]
      obtain ⟨av, hae⟩ : ∃ av, av = t.acc[stL t (tx.take k)] := ⟨_, rfl⟩
      rw [← hae] at d1 hav
      rw [Nat.zero_add] at d1
      have HAV : Hid (accN t (stL t (tx.take k)) = av) := hav
      obtain ⟨s, hs⟩ : ∃ s, s = stL t (tx.take k) := ⟨_, rfl⟩
      obtain ⟨bk, hbk⟩ : ∃ bk, bk = t.back := ⟨_, rfl⟩
      have HBK : Hid (t.back = bk) := hbk.symm
      rw [← hs] at hsl d1 ⊢
      rw [← hbk] at q1
      have hsI : (s : Int) < t.acc.length := by omega
      have hsN : (s : Int) < t.next.length := by omega
      obtain ⟨F, hF⟩ : ∃ F, F = firstI (eK t tx k) := ⟨_, rfl⟩
      obtain ⟨L, hL⟩ : ∃ L, L = lastI (eK t tx k) := ⟨_, rfl⟩
      have HFL : Hid (F = firstI (eK t tx k) ∧ L = lastI (eK t tx k)) := ⟨hF, hL⟩
      rw [← hF, ← hL]
      by_cases hlt : k < n
      · have hltI : (k : Int) < n := by omega
        have hneI : ((k : Int) == n) = false := by simp; omega
        have hl1 : k < tx.length := by have := HN.out; omega
        obtain ⟨bb, hb'⟩ : ∃ b, b = tx[k] := ⟨_, rfl⟩
        have hbx : ∀ h : k < (ba tx).size, ((ba tx)[k]'h).toNat = bb.toNat := fun h => by rw [hb']; rfl
        have hb8 := bb.toNat_lt
        have hcl : bb.toNat < t.cls.length := by omega
        have hxc := HOK.out.cls bb
        rw [List.getElem?_eq_getElem hcl, Option.getD_some] at hxc
        have hcz : (ba t.cls).size = 256 := by rw [ba_size]; omega
        obtain ⟨us, hul, hu, hr⟩ := HN5.out.next
        have hsu : s < us.length := by omega
        have hsx : s < t.next.length := by omega
        have d2 := (hu.below hbl).at s hsu
        rw [Nat.zero_add] at d2
        simp only [id] at d2
        have hrow := HOK.out.r t.next[s] (List.getElem_mem hsx)
        obtain ⟨rb, ro, rc, hform, hcell⟩ := ((hr s hsu hsx).below hbl).nonnil (by rw [hrow.1]; omega)
        have hxr : t.cls[bb.toNat].toNat < t.next[s].length := by rw [hrow.1]; exact hxc
        have d3 := hcell _ hxr
        have hz := hrow.2 _ (List.getElem_mem hxr)
        have HST : Hid (stL t (tx.take (k + 1)) = stp t s bb) := by
          show _ = _
          rw [List.take_succ_eq_append_getElem hl1, stL_snoc, ← hs, ← hb']
        have hstp : (stp t s bb : Int) = t.next[s][t.cls[bb.toNat].toNat] := by
          unfold stp
          rw [List.getElem?_eq_getElem hsx, Option.getD_some, List.getElem?_eq_getElem hcl, Option.getD_some, List.getElem?_eq_getElem hxr, Option.getD_some]
          omega
        rw [← hstp] at d3
        rw [hform, hrow.1] at d2
        obtain ⟨xx, hxx⟩ : ∃ x, x = t.cls[bb.toNat].toNat := ⟨_, rfl⟩
        have hcx : ∀ h : bb.toNat < (ba t.cls).size, ((ba t.cls)[bb.toNat]'h).toNat = xx := fun h => by rw [hxx]; rfl
        rw [← hxx] at d3 hxc
        have hx8 : xx < 256 := by omega
        have hxI : (xx : Int) < c := by omega
        have hbI : (bb.toNat : Int) < 256 := by omega
        simp only [eI] at d3
        generalize stp t s bb = s2 at *
        clear hnx h256 hsl hb' hcl us hul hu hr hsu hsx hrow hform hcell hxr hz hstp hxx hae hav hs hbk hF hL hbl hl1
        cases av with
        | false =>
          have HM : Hid (eK t tx (k + 1) = eK t tx k) := eK_miss hkl (.inl HAV.out)
          go_wp2
          go_quiet (fail)
          go_wp2
          go_roundw
          case rel => exact ⟨k + 1, by go_num, by omega, by rw [HM.out, HFL.out.1], by rw [HM.out, HFL.out.2], by rw [HST.out], belowN2 HBL.out nq⟩
          case measure => simp [intOf] <;> omega
        | true =>
          cases bk with
          | true =>
            have HM : Hid (eK t tx (k + 1) = eK t tx k) := eK_miss hkl (.inr ⟨HBK.out, by have := HN.out; omega⟩)
            go_wp2
            go_quiet (fail)
            go_wp2
            go_roundw
            case rel => exact ⟨k + 1, by go_num, by omega, by rw [HM.out, HFL.out.1], by rw [HM.out, HFL.out.2], by rw [HST.out], belowN2 HBL.out nq⟩
            case measure => simp [intOf] <;> omega
          | false =>
            have HM : Hid (eK t tx (k + 1) = eK t tx k ++ [k]) := eK_hit hkl HAV.out (.inl HBK.out)
            by_cases hF0 : F < 0
            · have HF2 : Hid (firstI (eK t tx k ++ [k]) = k) := firstI_new k (by rw [← HFL.out.1]; exact hF0)
              go_wp2
              go_quiet (fail)
              go_wp2
              go_roundw
              case rel => exact ⟨k + 1, by go_num, by omega, by rw [HM.out, HF2.out], by rw [HM.out, lastI_snoc], by rw [HST.out], belowN2 HBL.out nq⟩
              case measure => simp [intOf] <;> omega
            · have HF2 : Hid (firstI (eK t tx k ++ [k]) = F) := by show _ = _; rw [firstI_old k (by rw [← HFL.out.1]; exact hF0)]; exact HFL.out.1.symm
              go_wp2
              go_quiet (fail)
              go_wp2
              go_roundw
              case rel => exact ⟨k + 1, by go_num, by omega, by rw [HM.out, HF2.out], by rw [HM.out, lastI_snoc], by rw [HST.out], belowN2 HBL.out nq⟩
              case measure => simp [intOf] <;> omega
      · have hke : k = n := by omega
        have hltI : ¬ (k : Int) < n := by omega
        have hneI : ((k : Int) == n) = true := by simp; omega
        have hkt : k = tx.length := by have := HN.out; omega
        have HST : Hid (stL t (tx.take (k + 1)) = s) := by
          show _ = _
          rw [hs, List.take_of_length_le (by omega), List.take_of_length_le (by omega)]
        have HKT : Hid (k = tx.length) := hkt
        clear hnx h256 hsl hae hav hs hbk hF hL hbl hkt hke
        cases av with
        | false =>
          have HM : Hid (eK t tx (k + 1) = eK t tx k) := eK_miss hkl (.inl HAV.out)
          go_wp2
          go_roundw
          case rel => exact ⟨k + 1, by go_num, by omega, by rw [HM.out, HFL.out.1], by rw [HM.out, HFL.out.2], by rw [HST.out], HBL.out⟩
          case measure => simp [intOf] <;> omega
        | true =>
          have HM : Hid (eK t tx (k + 1) = eK t tx k ++ [k]) := eK_hit hkl HAV.out (.inr HKT.out)
          by_cases hF0 : F < 0
          · have HF2 : Hid (firstI (eK t tx k ++ [k]) = k) := firstI_new k (by rw [← HFL.out.1]; exact hF0)
            cases bk
            all_goals
              go_wp2
              go_roundw
              case rel => exact ⟨k + 1, by go_num, by omega, by rw [HM.out, HF2.out], by rw [HM.out, lastI_snoc], by rw [HST.out], HBL.out⟩
              case measure => simp [intOf] <;> omega
          · have HF2 : Hid (firstI (eK t tx k ++ [k]) = F) := by show _ = _; rw [firstI_old k (by rw [← HFL.out.1]; exact hF0)]; exact HFL.out.1.symm
            cases bk
            all_goals
              go_wp2
              go_roundw
              case rel => exact ⟨k + 1, by go_num, by omega, by rw [HM.out, HF2.out], by rw [HM.out, lastI_snoc], by rw [HST.out], HBL.out⟩
              case measure => simp [intOf] <;> omega
    · have hleI : ¬ (k : Int) ≤ n := by omega
      have hkn : k = n + 1 := by omega
      have HEE : Hid (eK t tx k = endsL t tx) := by show _ = _; rw [hkn, HN.out, eK_end]
      rw [HEE.out]
      have HIM : Hid (Calls Try.prog 13 #[.pointer (some ⟨m, 0, none⟩), .string (ba tx)] wr fun e w' => e = .returned (.tuple #[.bool (decide (0 ≤ firstI (endsL t tx))), .int .i64 0]) ∧ Below wr.heap.size wr w') := by
        have := ismatch_any wr m t c (HM5.out.below hbl) tx HTX.out
        rw [firstI_is] at this
        exact this
      have HSH : Hid (∀ w', Below wr.heap.size wr w' → Calls Try.prog 14 #[.pointer (some ⟨m, 0, none⟩), .string (ba tx)] w' fun e w'' => e = .returned (.tuple #[.int .i64 (firstI (endsL t tx)), .int .i64 0]) ∧ Below wr.heap.size wr w'') := fun w' hb => by
        refine (shortest_any w' m t c ((HM5.out.below hbl).below hb) tx HTX.out).mono ?_
        rintro e w'' ⟨rfl, hb'⟩
        exact ⟨rfl, hb.trans (hb'.mono hb.size)⟩
      have HLN : Hid (∀ w', Below wr.heap.size wr w' → Calls Try.prog 15 #[.pointer (some ⟨m, 0, none⟩), .string (ba tx)] w' fun e w'' => e = .returned (.tuple #[.int .i64 (lastI (endsL t tx)), .int .i64 0]) ∧ Below wr.heap.size wr w'') := fun w' hb => by
        refine (longest_any w' m t c ((HM5.out.below hbl).below hb) tx HTX.out).mono ?_
        rintro e w'' ⟨rfl, hb'⟩
        exact ⟨rfl, hb.trans (hb'.mono hb.size)⟩
      generalize firstI (endsL t tx) = F at *
      generalize lastI (endsL t tx) = L at *
      clear hbl hkn HEE
      by_cases hF : 0 ≤ F
      all_goals
        go_wp2_with (first | (go_at_call 13; refine HIM.out.mono ?_; rintro e w7 ⟨rfl, hb7⟩; have HB7 : Hid (Below wr.heap.size wr w7) := hb7; clear hb7) | (go_at_call 14; refine (HSH.out _ HB7.out).mono ?_; rintro e w8 ⟨rfl, hb8⟩; have HB8 : Hid (Below wr.heap.size wr w8) := hb8; clear hb8) | (go_at_call 15; refine (HLN.out _ HB8.out).mono ?_; rintro e w9 ⟨rfl, hb9⟩; have HB9 : Hid (Below wr.heap.size wr w9) := hb9; clear hb9))
        go_ret
        exact ⟨rfl, (HB5.out.trans (HBL.out.mono HB5.out.size)).trans (HB9.out.mono (by have h1 := HB5.out.size; have h2 := HBL.out.size; omega))⟩
end Go.Proofs.Ytbjabpodkaokjaa

namespace Go.Proofs.Ytbjabpodkaokjaa
open Go.ChangeShapes Go.WideShapes Go.ChangeAt Go.WideMaps Go.WideElems Go.RowKit

theorem strict_any (w : World) (b tx : List UInt8) (hb : b.length ≤ maxLen) (htx : tx.length ≤ 281474976710656) :
    Calls Try.prog 4 #[.string (ba b), .string (ba tx)] w fun e w' => e = .returned (.bool true) ∧ Below w.heap.size w w' := by
  cases h : loadM isTb b with
  | none => exact strict_no w b _ hb h
  | some t => exact strict_yes w b tx hb htx t h
set_option maxRecDepth 100000 in
theorem strict_lifted (os : Os) (started : os.Started) (H : Type) (enc : TypeId × Value → H) :
    ReturnsInHanded {} Try.checked os 4 .any (Rows.strictSpec.pre6 enc Try.prog Try.f4 Rows.strictRow.domain false) (Rows.strictSpec.post enc Try.prog Try.f4 false true false false) := by
  refine returnsInHanded_of_change_sized (C := Try.checked) own started (by kernel_rfl) Try.func4
    (ChangeSpec.witness6 (enc := enc) (C := Try.checked) false ⟨#[], #[.string ⟨#[]⟩, .string ⟨#[]⟩], []⟩ 8 (by kernel_rfl) (by kernel_rfl) (by kernel_rfl) (by kernel_rfl)) ?_
  intro W base args ds gs before hval0 hW _ hwt _
  have hval : ∀ (j : Nat) t v, Try.f4.params[j]? = some t → args[j]? = some v → Value.okWide Try.prog W .any base t v := hval0
  have hW' := hW
  obtain ⟨p, q, hA0, hV, rfl, hfz, hnd⟩ := hW
  have hA : DataW.TrodAll enc Try.prog W 0 (fun _ => true) true Try.f4.params.toList args.toList ds p := hA0
  rw [Try.params4] at hA hval
  obtain ⟨v0, v1, d0, d1, p0, p1, rfl, rfl, rfl, h0, h1⟩ := trodAll_two hA
  obtain ⟨rfl, rfl⟩ := trodVars_none hV
  obtain ⟨s, rfl, rfl, rfl, hs⟩ := Go.ChangeMaps.open_string Try.underlying9 (hval 0 9 v0 rfl rfl) h0
  obtain ⟨x, rfl, rfl, rfl, hx⟩ := Go.ChangeMaps.open_string Try.underlying9 (hval 1 9 v1 rfl rfl) h1
  have hx48 : x.data.toList.length ≤ 281474976710656 := by
    have := sized_string hwt (j := 1) (t := 9) (by kernel_rfl) rfl
    have := reachBytes_lt
    omega
  clear hA0 hval0 hwt
  have law := strict_any W s.data.toList x.data.toList (by simpa using hs) hx48
  have es : ba s.data.toList = s := rfl
  have ex : ba x.data.toList = x := rfl
  rw [es, ex] at law
  refine law.mono fun e W' ⟨he, bel⟩ => ?_
  subst he
  exact ⟨_, rfl, _, _, _, [], _, [], hW', trodAll_mk1 (shut_bool Try.underlying4 _), trodAll_mk2 (Go.ChangeMaps.shut_string Try.underlying9 hs) (Go.ChangeMaps.shut_string Try.underlying9 hx), rfl, bel.frame _, fun h => by cases h⟩

theorem strict_said : Rows.StrictSaid :=
  OpenClaim.holds_of_wide 4 Try.f4 rfl rfl rfl rfl rfl rfl rfl ⟨rfl, rfl, rfl, rfl, rfl⟩ rfl rfl rfl rfl rfl (by kernel_rfl) Try.func4 (by kernel_rfl)
    (of_decide_eq_true (by kernel_rfl)) (by unfold Func.isWrapper; first | (rw [if_pos (by decide +kernel)]; kernel_rfl) | (rw [if_neg (by decide +kernel)]; exact ⟨rfl, rfl⟩))
    (fun os started H enc _ => strict_lifted os started H enc)
end Go.Proofs.Ytbjabpodkaokjaa
