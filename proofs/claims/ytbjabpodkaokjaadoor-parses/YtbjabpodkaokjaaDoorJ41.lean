import Derived.Test.YtbjabpodkaokjaaDoorJ40
set_option linter.unusedVariables false
set_option linter.unusedSimpArgs false
namespace Go.Proofs.YtbjabpodkaokjaaDoor
open Go.RowKit

theorem ba_app (a b : List UInt8) : (⟨a.toArray⟩ ++ ⟨b.toArray⟩ : ByteArray) = ⟨(a ++ b).toArray⟩ := by
  apply ByteArray.ext
  rw [ByteArray.data_append]
  simp
abbrev bs (l : List UInt8) : ByteArray := ⟨l.toArray⟩
theorem ba_toList (l : List UInt8) : (bs l).toList = l := by
  rw [ByteArray.toList_eq]
theorem spanE_step {S : Nat → Bool} {n k : Nat} (h : 255 < n + k) (hk : k < 255) (hS : S (k + 1) = true) : ∃ n', n = n' + 1 ∧ spanE S n k = spanE S n' (k + 1) := by
  cases n with
  | zero => omega
  | succ n => exact ⟨n, rfl, by simp [spanE, hk, hS]⟩
theorem spanE_stop {S : Nat → Bool} {n k : Nat} (h : ¬ (k < 255 ∧ S (k + 1) = true)) : spanE S n k = k := by
  cases n with
  | zero => rfl
  | succ n => simp only [spanE, h, if_false]

set_option maxRecDepth 20000 in
set_option maxHeartbeats 8000000 in
theorem told_ok (S : Nat → Bool) (w : World) :
    Calls Tryd.prog 16 #[.agg (bA S)] w fun e w' => e = .returned (.string (bs (tBytes S))) ∧ Below w.heap.size w w' := by
  obtain ⟨T0, hT0⟩ : ∃ T, T = tLoop S 257 0 false := ⟨_, rfl⟩
  have htb : tBytes S = [60] ++ T0 ++ [62] := by rw [hT0]; rfl
  have HT0 : Hid (T0 = tLoop S 257 0 false) := hT0
  have HTB : Hid (tBytes S = [60] ++ T0 ++ [62]) := htb
  clear hT0 htb
  go_enter Tryd.func16, Tryd.ntmps16
  go_wp2_with (refine Great.wpList_boxTo rfl 52 (.tmp 0) rfl _ rfl w.heap.size rfl (bA S) rfl ?_; generalize hw1 : World.alloc w _ = w1; have b1 : Bs w1 w.heap.size S := (by rw [← hw1]; exact bA_new _ _ _); have l1 : Below w.heap.size w w1 := (by rw [← hw1]; exact (Below.refl _ _).alloc (Nat.le_refl _) _); clear hw1)
  go_loopw [3, 4] (fun out i wq => ∃ (n low : Nat) (acc : List UInt8), out = .string (bs acc) ∧ i = .int .i64 low ∧ low ≤ 256 ∧ 256 < n + low ∧ acc ++ tLoop S n low (!acc.isEmpty) = T0 ∧ Bs wq w.heap.size S ∧ Below w.heap.size w wq ∧ acc.length ≤ 6 * low) (fun _ i _ => 256 - (intOf i).toNat)
  case atStart => exact ⟨257, 0, [], rfl, rfl, by omega, by omega, by rw [HT0.out]; rfl, b1, l1, by simp⟩
  case round =>
    obtain ⟨n, low, acc, rfl, rfl, hlow, hn, heq, hb, hl, hlen⟩ := hrel
    obtain ⟨o, hO⟩ : ∃ o, o = bs acc := ⟨_, rfl⟩
    rw [← hO]
    have HO : Hid (o = bs acc) := hO
    have hos : o.size ≤ 1600 := by rw [hO]; simp only [bs, ByteArray.size, List.size_toArray]; omega
    clear hO
    have HE : Hid (acc ++ tLoop S n low (!acc.isEmpty) = T0) := heq
    clear heq
    obtain ⟨n', rfl⟩ : ∃ n', n = n' + 1 := ⟨n - 1, by omega⟩
    by_cases hlt : low < 256
    · have hltI : (low : Int) < 256 := by omega
      have cS := hb.cB low hlt
      cases hS : S low with
      | false =>
        rw [hS] at cS
        have HN : Hid (acc ++ tLoop S n' (low + 1) (!acc.isEmpty) = T0) := by
          have := HE.out; simp only [tLoop] at this; rw [if_neg (by omega), if_neg (by simp [hS])] at this; exact this
        go_wp2
        go_roundw
        case rel => exact ⟨n', low + 1, acc, by rw [HO.out], by go_num, by omega, by omega, HN.out, hb, hl, by omega⟩
        case measure => simp [intOf] <;> omega
      | true =>
        rw [hS] at cS
        go_wp2
        have two1 := two_x low hlt
        go_loopw [5] (fun kk wq => ∃ (m k : Nat), kk = .int .i64 k ∧ low ≤ k ∧ k ≤ 255 ∧ 255 < m + k ∧ spanE S m k = spanE S 256 low ∧ Bs wq w.heap.size S ∧ Below w.heap.size w wq) (fun kk _ => 256 - (intOf kk).toNat)
        case atStart => exact ⟨256, low, rfl, Nat.le_refl _, by omega, by omega, rfl, hb, hl⟩
        case round =>
          clear hb hl
          obtain ⟨m, k, rfl, hk1, hk2, hm, hsp, hb, hl⟩ := hrel
          have HSP : Hid (spanE S m k = spanE S 256 low) := hsp
          clear hsp
          by_cases hgo : k < 255 ∧ S (k + 1) = true
          · obtain ⟨g1, g2⟩ := hgo
            have cK := hb.cB (k + 1) (by omega)
            rw [g2] at cK
            obtain ⟨m', rfl, hs2⟩ := spanE_step hm g1 g2
            have HS2 : Hid (spanE S m' (k + 1) = spanE S 256 low) := hs2.symm.trans HSP.out
            clear hs2
            go_wp2
            go_roundw
            case rel => exact ⟨m', k + 1, by go_num, by omega, by omega, by omega, HS2.out, hb, hl⟩
            case measure => simp [intOf] <;> omega
          · have HK : Hid (k = spanE S 256 low) := (spanE_stop hgo).symm.trans HSP.out
            have two2 := two_x k (by omega)
            have HA : Hid (acc ++ (if !acc.isEmpty then [32] else []) ++ tSpan low k ++ tLoop S n' (k + 1) true = T0) := by
              have := HE.out
              simp only [tLoop] at this
              rw [if_neg (by omega), if_pos hS, ← HK.out] at this
              show acc ++ _ ++ _ ++ _ = T0
              rw [← this]; simp [List.append_assoc]
            have hkS : k < 255 → S (k + 1) = false := fun h => by
              cases q : S (k + 1) with
              | false => rfl
              | true => exact absurd ⟨h, q⟩ hgo
            clear hgo
            have key : ∀ (out : ByteArray) (wz : World), out = bs (acc ++ (if !acc.isEmpty then [32] else []) ++ tSpan low k) → Bs wz w.heap.size S → Below w.heap.size w wz → ∃ (n low' : Nat) (acc' : List UInt8), Value.string out = .string (bs acc') ∧ (Value.int .i64 ((k : Int) + 1) : Value) = .int .i64 low' ∧ low' ≤ 256 ∧ 256 < n + low' ∧ acc' ++ tLoop S n low' (!acc'.isEmpty) = T0 ∧ Bs wz w.heap.size S ∧ Below w.heap.size w wz ∧ acc'.length ≤ 6 * low' := by
              intro out wz ho hb' hl'
              have hts : 2 ≤ (tSpan low k).length ∧ (tSpan low k).length ≤ 5 := by unfold tSpan; split <;> simp
              refine ⟨n', k + 1, acc ++ (if !acc.isEmpty then [32] else []) ++ tSpan low k, by rw [ho], by simp, by omega, by omega, ?_, hb', hl', ?_⟩
              · have he : (acc ++ (if !acc.isEmpty then [32] else []) ++ tSpan low k).isEmpty = false := by
                  cases q : tSpan low k with
                  | nil => rw [q] at hts; simp at hts
                  | cons a l => simp
                rw [he]; exact HA.out
              · have : (if !acc.isEmpty then [32] else [] : List UInt8).length ≤ 1 := by split <;> simp
                simp only [List.length_append]; omega
            have KEY : Hid _ := key
            clear key
            have hmeas : 256 - (k + 1) < 256 - low := by omega
            by_cases hend : k < 255
            · have cK := hb.cB (k + 1) (by omega)
              rw [hkS hend] at cK
              clear hkS
              by_cases hne : acc = []
              · have hcmp : o.toList.isEmpty = true := by rw [HO.out, hne, ba_toList]; rfl
                by_cases hgt : low < k
                · have hgtI : (low : Int) < k := by omega
                  go_wp2_with ((first | (go_at_call 30; have := hmark; refine (two2 _).mono ?_; rintro e w3 ⟨rfl, n3, hw3⟩; subst hw3) | (go_at_call 30; refine (two1 _).mono ?_; rintro e w3 ⟨rfl, n2, hw3⟩; subst hw3; have hmark : True := trivial)))
                  go_roundw
                  case rel => exact KEY.out _ _ (by rw [HO.out, hne]; show bs [] ++ bs [_, _] ++ bs [45] ++ bs [_, _] = _; rw [ba_app, ba_app, ba_app]; simp [tSpan, hgt]) (hb.drewN _) (belowN hl _)
                  case measure => simp [intOf] <;> omega
                · have hgtI : ¬ (low : Int) < k := by omega
                  go_wp2_with ((first | (go_at_call 30; have := hmark; refine (two2 _).mono ?_; rintro e w3 ⟨rfl, n3, hw3⟩; subst hw3) | (go_at_call 30; refine (two1 _).mono ?_; rintro e w3 ⟨rfl, n2, hw3⟩; subst hw3; have hmark : True := trivial)))
                  go_roundw
                  case rel => exact KEY.out _ _ (by rw [HO.out, hne]; show bs [] ++ bs [_, _] = _; rw [ba_app]; simp [tSpan, hgt]) (hb.drewN _) (belowN hl _)
                  case measure => simp [intOf] <;> omega
              · have hcmp : o.toList.isEmpty = false := by
                  rw [HO.out, ba_toList]
                  cases acc with
                  | nil => exact absurd rfl hne
                  | cons a l => rfl
                have HI : Hid (acc.isEmpty = false) := by show _ = _; cases acc with | nil => exact absurd rfl hne | cons a l => rfl
                by_cases hgt : low < k
                · have hgtI : (low : Int) < k := by omega
                  go_wp2_with ((first | (go_at_call 30; have := hmark; refine (two2 _).mono ?_; rintro e w3 ⟨rfl, n3, hw3⟩; subst hw3) | (go_at_call 30; refine (two1 _).mono ?_; rintro e w3 ⟨rfl, n2, hw3⟩; subst hw3; have hmark : True := trivial)))
                  go_roundw
                  case rel => exact KEY.out _ _ (by rw [HO.out]; show bs acc ++ bs [32] ++ bs [_, _] ++ bs [45] ++ bs [_, _] = _; rw [ba_app, ba_app, ba_app, ba_app]; simp [tSpan, hgt, HI.out]) (hb.drewN _) (belowN hl _)
                  case measure => simp [intOf] <;> omega
                · have hgtI : ¬ (low : Int) < k := by omega
                  go_wp2_with ((first | (go_at_call 30; have := hmark; refine (two2 _).mono ?_; rintro e w3 ⟨rfl, n3, hw3⟩; subst hw3) | (go_at_call 30; refine (two1 _).mono ?_; rintro e w3 ⟨rfl, n2, hw3⟩; subst hw3; have hmark : True := trivial)))
                  go_roundw
                  case rel => exact KEY.out _ _ (by rw [HO.out]; show bs acc ++ bs [32] ++ bs [_, _] = _; rw [ba_app, ba_app]; simp [tSpan, hgt, HI.out]) (hb.drewN _) (belowN hl _)
                  case measure => simp [intOf] <;> omega
            · clear hkS
              have hend2 : ¬ (k : Int) < 255 := by omega
              by_cases hne : acc = []
              · have hcmp : o.toList.isEmpty = true := by rw [HO.out, hne, ba_toList]; rfl
                by_cases hgt : low < k
                · have hgtI : (low : Int) < k := by omega
                  go_wp2_with ((first | (go_at_call 30; have := hmark; refine (two2 _).mono ?_; rintro e w3 ⟨rfl, n3, hw3⟩; subst hw3) | (go_at_call 30; refine (two1 _).mono ?_; rintro e w3 ⟨rfl, n2, hw3⟩; subst hw3; have hmark : True := trivial)))
                  go_roundw
                  case rel => exact KEY.out _ _ (by rw [HO.out, hne]; show bs [] ++ bs [_, _] ++ bs [45] ++ bs [_, _] = _; rw [ba_app, ba_app, ba_app]; simp [tSpan, hgt]) (hb.drewN _) (belowN hl _)
                  case measure => simp [intOf] <;> omega
                · have hgtI : ¬ (low : Int) < k := by omega
                  go_wp2_with ((first | (go_at_call 30; have := hmark; refine (two2 _).mono ?_; rintro e w3 ⟨rfl, n3, hw3⟩; subst hw3) | (go_at_call 30; refine (two1 _).mono ?_; rintro e w3 ⟨rfl, n2, hw3⟩; subst hw3; have hmark : True := trivial)))
                  go_roundw
                  case rel => exact KEY.out _ _ (by rw [HO.out, hne]; show bs [] ++ bs [_, _] = _; rw [ba_app]; simp [tSpan, hgt]) (hb.drewN _) (belowN hl _)
                  case measure => simp [intOf] <;> omega
              · have hcmp : o.toList.isEmpty = false := by
                  rw [HO.out, ba_toList]
                  cases acc with
                  | nil => exact absurd rfl hne
                  | cons a l => rfl
                have HI : Hid (acc.isEmpty = false) := by show _ = _; cases acc with | nil => exact absurd rfl hne | cons a l => rfl
                by_cases hgt : low < k
                · have hgtI : (low : Int) < k := by omega
                  go_wp2_with ((first | (go_at_call 30; have := hmark; refine (two2 _).mono ?_; rintro e w3 ⟨rfl, n3, hw3⟩; subst hw3) | (go_at_call 30; refine (two1 _).mono ?_; rintro e w3 ⟨rfl, n2, hw3⟩; subst hw3; have hmark : True := trivial)))
                  go_roundw
                  case rel => exact KEY.out _ _ (by rw [HO.out]; show bs acc ++ bs [32] ++ bs [_, _] ++ bs [45] ++ bs [_, _] = _; rw [ba_app, ba_app, ba_app, ba_app]; simp [tSpan, hgt, HI.out]) (hb.drewN _) (belowN hl _)
                  case measure => simp [intOf] <;> omega
                · have hgtI : ¬ (low : Int) < k := by omega
                  go_wp2_with ((first | (go_at_call 30; have := hmark; refine (two2 _).mono ?_; rintro e w3 ⟨rfl, n3, hw3⟩; subst hw3) | (go_at_call 30; refine (two1 _).mono ?_; rintro e w3 ⟨rfl, n2, hw3⟩; subst hw3; have hmark : True := trivial)))
                  go_roundw
                  case rel => exact KEY.out _ _ (by rw [HO.out]; show bs acc ++ bs [32] ++ bs [_, _] = _; rw [ba_app, ba_app]; simp [tSpan, hgt, HI.out]) (hb.drewN _) (belowN hl _)
                  case measure => simp [intOf] <;> omega
    · have HF : Hid (acc = T0) := by
        show acc = T0
        have := HE.out; simp only [tLoop] at this; rw [if_pos (by omega)] at this; simpa using this
      have hs256 : low = 256 := by omega
      subst hs256
      go_wp2
      go_ret
      refine ⟨?_, hl⟩
      rw [HTB.out, ← HF.out, HO.out]
      show Ending.returned (Value.string (bs [60] ++ bs acc ++ bs [62])) = _
      rw [ba_app, ba_app]
end Go.Proofs.YtbjabpodkaokjaaDoor
