import Derived.Test.YtbjabpodkaokjaaJ29
import Derived.Deep.RegionHeld3
set_option linter.unusedVariables false
set_option linter.unusedSimpArgs false
namespace Go.Proofs.Ytbjabpodkaokjaa
open Go.RowKit

set_option maxRecDepth 4000 in
set_option maxHeartbeats 8000000 in
theorem encode_fff (w : World) (t : Tb) (c : Nat) (va vn : Value) (kind : Nat) (big : Bool) (hk : kind ≤ 1) (h : TabIn w t va vn) (hok : TbOk t c) (hF : t.front = false) (hK : t.back = false) (hG : big = false) :
    Calls Try.prog 22 #[tv t va vn, .int .i64 kind, .bool big] w fun e w' => e = .returned (.string (ba (enc t kind big))) ∧ Below w.heap.size w w' := by
  have hw := hok.wok
  obtain ⟨w1, hw1⟩ : ∃ w1, w1 = w.alloc (.cells #[.bool t.front, .bool t.back, .int .i64 t.start, .string (ba t.cls), va, vn] 30) := ⟨_, rfl⟩
  have HBX : Hid (∀ w', Below w1.heap.size w1 w' → w'.heap[w.heap.size]? = some (.cells #[.bool t.front, .bool t.back, .int .i64 t.start, .string (ba t.cls), va, vn] 30)) := fun w' hb => by
    rw [hb.block _ (by rw [hw1]; simp), hw1]
    exact heap_alloc_new _ _
  have hB1 : Below w.heap.size w w1 := by rw [hw1]; exact (Below.refl _ _).alloc (Nat.le_refl _) _
  have HB1 : Hid (Below w.heap.size w w1) := hB1
  have HW1 : Hid (w1 = w.alloc (.cells #[.bool t.front, .bool t.back, .int .i64 t.start, .string (ba t.cls), va, vn] 30)) := hw1
  have hz1 : w1.heap.size = w.heap.size + 1 := by rw [hw1]; simp
  have HSTB : Hid (∀ w', Below w1.heap.size w1 w' → Below w.heap.size w w') := fun w' hb => hB1.trans (hb.mono (by omega))
  have HE : Hid (enc t kind big = hd t kind big ++ t.acc.map wrA ++ t.next.flatMap (wrRow kind big) ++ num4 big (crc (hd t kind big ++ t.acc.map wrA ++ t.next.flatMap (wrRow kind big)))) := by show _ = _; rfl
  have hhl := hd_len t kind big hw.cl
  have hrl := rowsW_len kind big
  have hcc : cntA 0 t.cls = c := by
    have h5 := hok.cc
    unfold cntR at h5
    split at h5
    · exact cntA_eq _ _ _ h5
    · simp at h5
  have hhd : (t.next.headD []).length = c := by
    have hl : 1 ≤ t.next.length := by rw [hok.n]; exact hok.a1
    cases hq : t.next with
    | nil => rw [hq] at hl; simp at hl
    | cons r rr => exact (hok.r r (by rw [hq]; simp)).1
  have hc6 := hok.c256
  obtain ⟨f, b, st, cls, acc, next⟩ := t
  obtain ⟨s1, s2, s3, s4, s5, s6⟩ := hw
  obtain ⟨hacc, ⟨us, hul, hu, hr⟩⟩ := h
  simp only at *
  obtain ⟨aa, ca, rfl⟩ := hacc.form
  obtain ⟨bn, on, cn, hvn, hcell⟩ := hu.nonnil (by omega)
  subst hvn
  rw [hul] at HBX HW1 ⊢
  have HUN : Hid (∀ w', Below w1.heap.size w1 w' → ∀ j (hj : j < us.length), w'.cell? ⟨bn, on + j, none⟩ = some us[j]) := fun w' hb j hj => cell_below (HSTB.out w' hb) (hcell j hj)
  have HRW : Hid (∀ w', Below w1.heap.size w1 w' → ∀ j (h1 : j < us.length) (h2 : j < next.length), RowE eI w' us[j] next[j]) := fun w' hb j h1 h2 => (hr j h1 h2).below (HSTB.out w' hb)
  have HAC : Hid (∀ w', Below w1.heap.size w1 w' → RowE eB w' (.slice aa acc.length ca) acc) := fun w' hb => hacc.below (HSTB.out w' hb)
  have HUL : Hid (us.length = next.length) := hul
  have HS5 : Hid (∀ r ∈ next, r.length ≤ 256 ∧ ∀ z ∈ r, okZ z) := s5
  have HRL : Hid (∀ l : List (List Int), (∀ r ∈ l, r.length ≤ 256) → (l.flatMap (wrRow kind big)).length ≤ 1026 * l.length) := hrl
  obtain ⟨B5, hB5⟩ : ∃ B, B = h1 ⟨f, b, st, cls, acc, next⟩ kind big := ⟨_, rfl⟩
  have HB5 : Hid (B5 = mk5 ++ [UInt8.ofNat kind] ++ [UInt8.ofNat (bt f + 2 * bt b)] ++ [wrA big]) := hB5
  have hl5 : B5.length = 8 := by rw [hB5]; rfl
  obtain ⟨B9, hB9⟩ : ∃ B, B = hd ⟨f, b, st, cls, acc, next⟩ kind big := ⟨_, rfl⟩
  have HB9 : Hid (B9 = B5 ++ pr big acc.length ++ pr big c ++ pr big st.toNat ++ cls) := by show _ = _; rw [hB9, hd_eq, ← hB5, hhd]
  have HE9 : Hid (enc ⟨f, b, st, cls, acc, next⟩ kind big = B9 ++ acc.map wrA ++ next.flatMap (wrRow kind big) ++ num4 big (crc (B9 ++ acc.map wrA ++ next.flatMap (wrRow kind big)))) := by show _ = _; rw [HE.out, ← hB9]
  rw [← hB9] at hhl
  have hst1 := s4.1
  have hst2 := s4.2
  have HSN : Hid (st = ((st.toNat : Nat) : Int)) := by show _ = _; omega
  have HCN : Hid (∀ w, Calls Try.prog 37 #[.string (ba cls)] w fun e w' => e = .returned (.int .i64 c) ∧ w' = w) := fun w => by
    have := count_ref cls (by unfold maxLen; omega) w
    rw [hcc] at this
    exact this
  have hpl := pr_len big
  have hc1 := hc6.1
  have hcls := ba_size cls
  have hc2 := hc6.2
  rw [hc2] at hcls
  clear hw1 hB1 s4 hul hu hr hacc hcell s5 hrl hB5 hB9 HE hcc hhd hc6 hok
  have p1 : ∀ n, (ba (pr big n)).size = 2 := fun n => by rw [ba_size, pr_len]
  obtain ⟨FL, hFL⟩ : ∃ FL, FL = bt f + 2 * bt b := ⟨_, rfl⟩
  have hflb : FL < 4294967296 := by rw [hFL]; cases f <;> cases b <;> decide
  have HFL : Hid (FL = bt f + 2 * bt b) := hFL
  rw [← hFL] at HB5
  clear hFL
  subst hF
  subst hK
  subst hG
  obtain ⟨q0, q1, q2, q3, q4, q5⟩ := box6 (HBX.out w1 (Below.refl _ _))
  go_enter Try.func22, Try.ntmps22
  go_wp2_with (first | (go_at_call 36; refine (rnum1z w2 FL _ (by rw [HFL.out]; rfl) hflb _).mono ?_; rintro e w3 ⟨rfl, hb3⟩; have HB3 : Hid (Below w1.heap.size w1 w3) := HB2.out.trans (hb3.mono HB2.out.size); clear hb3) | (go_at_call 36; rw [← HW1.out]; refine (rnum1z w1 kind _ rfl (by omega) _).mono ?_; rintro e w2 ⟨rfl, hb2⟩; have HB2 : Hid (Below w1.heap.size w1 w2) := hb2; clear hb2))
  first | rw [show ((⟨#[72, 65, 83, 80, 1]⟩ : ByteArray) ++ ba [UInt8.ofNat kind] ++ ba [UInt8.ofNat FL] ++ ⟨#[1]⟩) = ba B5 by rw [HB5.out, ← ba_app, ← ba_app, ← ba_app]; rfl] | rw [show ((⟨#[72, 65, 83, 80, 1]⟩ : ByteArray) ++ ba [UInt8.ofNat kind] ++ ba [UInt8.ofNat FL] ++ ⟨#[0]⟩) = ba B5 by rw [HB5.out, ← ba_app, ← ba_app, ← ba_app]; rfl]
  have hs5 : (ba B5).size = 8 := by rw [ba_size, hl5]
  clear q0 q1 q2 q3 q4 q5
  obtain ⟨q0, q1, q2, q3, q4, q5⟩ := box6 (HBX.out w3 HB3.out)
  go_region_held3 (fun w' => w'.cell? ⟨w.heap.size, 2, none⟩ = some (.int .i64 st) ∧ w'.cell? ⟨w.heap.size, 3, none⟩ = some (.string (ba cls)) ∧ w'.cell? ⟨w.heap.size, 4, none⟩ = some (.slice aa acc.length ca)) (go_keep) (first | (go_at_call 36; refine (rnum2z w7 st.toNat _ HSN.out (by omega) _).mono ?_; rintro e w8 ⟨rfl, hb8⟩; have HB8 : Hid (Below w1.heap.size w1 w8) := HB7.out.trans (hb8.mono HB7.out.size); obtain ⟨r0, r1, r2, r3, r4, r5⟩ := box6 (HBX.out w8 HB8.out); clear hb8) | (go_at_call 36; refine (rnum2z w5 c _ rfl (by omega) _).mono ?_; rintro e w7 ⟨rfl, hb7⟩; have HB7 : Hid (Below w1.heap.size w1 w7) := HMK.out.trans (hb7.mono HMK.out.size); obtain ⟨s0, s1', s2', s3', s4', s5'⟩ := box6 (HBX.out w7 HB7.out); clear hb7) | (go_at_call 37; refine (HCN.out _).mono ?_; rintro e wq ⟨rfl, hwq⟩; obtain rfl := hwq.symm; have HMK : Hid (Below w1.heap.size w1 w5) := HBN.out) | (go_at_call 36; refine (rnum2z _ acc.length _ rfl (by omega) _).mono ?_; rintro e w5 ⟨rfl, hb5⟩; have HBN : Hid (Below w1.heap.size w1 w5) := HB3.out.drew.trans (hb5.mono HB3.out.size); obtain ⟨t0, t1, t2, t3, t4, t5⟩ := box6 (HBX.out w5 HBN.out); clear hb5))
  rename_i hheld
  clear hheld
  have hT9 : ∀ big, B9 = B5 ++ pr big acc.length ++ pr big c ++ pr big st.toNat ++ cls → ba B5 ++ ba (pr big acc.length) ++ ba (pr big c) ++ ba (pr big st.toNat) ++ ba cls = ba B9 := fun big e => by rw [e, ← ba_app, ← ba_app, ← ba_app, ← ba_app]
  rw [hT9 _ HB9.out]
  clear hT9 q0 q1 q2 q3 q4 q5 s0 s1' s2' s3' s4' s5' t0 t1 t2 t3 t4 t5 r0 r1 r2 r3 r4 r5
  go_wp2
  go_loopw [8, 9] (fun s i wr => ∃ k : Nat, i = .int .i64 k ∧ k ≤ acc.length ∧ s = .string (ba (B9 ++ (acc.take k).map wrA)) ∧ Below w1.heap.size w1 wr) (fun _ i _ => acc.length - (intOf i).toNat)
  case atStart => exact ⟨0, rfl, Nat.zero_le _, by simp, HB8.out⟩
  case round =>
    obtain ⟨k, rfl, hk1, rfl, hbl⟩ := hrel
    clear HB8
    have HBL : Hid (Below w1.heap.size w1 wr) := hbl
    have hlk : (B9 ++ (acc.take k).map wrA).length ≤ 500 := by simp; omega
    obtain ⟨B, hB⟩ : ∃ B, B = B9 ++ (acc.take k).map wrA := ⟨_, rfl⟩
    have HBq : Hid (B = B9 ++ (acc.take k).map wrA) := hB
    rw [← hB] at hlk ⊢
    have hbs := ba_size B
    obtain ⟨q0, q1, q2, q3, q4, q5⟩ := box6 (HBX.out wr hbl)
    clear hB
    by_cases hlt : k < acc.length
    · have hltI : (k : Int) < acc.length := by omega
      obtain ⟨b', o', c', hform, hcell⟩ := (HAC.out wr hbl).nonnil (by omega)
      injection hform with e1 e2 e3
      subst e1
      have hck := hcell k hlt
      obtain ⟨z, hz⟩ : ∃ z, z = acc[k] := ⟨_, rfl⟩
      rw [← hz] at hck
      have HT : Hid ((acc.take (k + 1)).map wrA = (acc.take k).map wrA ++ [wrA z]) := by
        show _ = _
        rw [List.take_succ_eq_append_getElem hlt, ← hz]; simp
      clear hz e2 e3 hcell hbl
      cases z
      · go_wp2
        go_roundw
        case rel => exact ⟨k + 1, by go_num, by omega, by rw [HT.out, ← List.append_assoc, ← HBq.out, ← ba_app]; rfl, HBL.out⟩
        case measure => simp [intOf] <;> omega
      · go_wp2
        go_roundw
        case rel => exact ⟨k + 1, by go_num, by omega, by rw [HT.out, ← List.append_assoc, ← HBq.out, ← ba_app]; rfl, HBL.out⟩
        case measure => simp [intOf] <;> omega
    · have hkI : ¬ (k : Int) < acc.length := by omega
      obtain ⟨C, hC⟩ : ∃ C, C = B9 ++ acc.map wrA := ⟨_, rfl⟩
      have HC : Hid (B9 ++ acc.map wrA = C) := hC.symm
      have hlc : C.length ≤ 500 := by rw [hC]; simp; omega
      have hBC : B = C := by rw [HBq.out, List.take_of_length_le (by omega), ← hC]
      subst hBC
      clear hC HBq hbl
      go_wp2
      go_loopw [8, 10] (fun s i wr => ∃ k : Nat, i = .int .i64 k ∧ k ≤ next.length ∧ s = .string (ba (B ++ (next.take k).flatMap (wrRow kind false))) ∧ Below w1.heap.size w1 wr) (fun _ i _ => next.length - (intOf i).toNat)
      case atStart => exact ⟨0, rfl, Nat.zero_le _, by simp, HBL.out⟩
      case round =>
        obtain ⟨k, rfl, hk2, rfl, hbl⟩ := hrel
        clear HBL q0 q1 q2 q3 q4 q5
        have HBL : Hid (Below w1.heap.size w1 wr) := hbl
        have hlk : (B ++ (next.take k).flatMap (wrRow kind false)).length + 2000 ≤ 1000000 := by
          have := HRL.out (next.take k) (fun r hr => (HS5.out r (List.mem_of_mem_take hr)).1)
          have h2 : (next.take k).length ≤ 200 := by simp; omega
          rw [List.length_append]; omega
        obtain ⟨E, hE⟩ : ∃ E, E = B ++ (next.take k).flatMap (wrRow kind false) := ⟨_, rfl⟩
        have HEq : Hid (E = B ++ (next.take k).flatMap (wrRow kind false)) := hE
        rw [← hE] at hlk ⊢
        have hes := ba_size E
        obtain ⟨q0, q1, q2, q3, q4, q5⟩ := box6 (HBX.out wr hbl)
        clear hE
        by_cases hlt : k < next.length
        · have hltI : (k : Int) < next.length := by omega
          have hlt1 : k < us.length := by have := HUL.out; omega
          have hck : wr.cell? ⟨bn, on + k, none⟩ = some us[k] := HUN.out wr hbl k hlt1
          have hrk := HRW.out wr hbl k hlt1 hlt
          have hr5 := HS5.out next[k] (List.getElem_mem hlt)
          obtain ⟨u, hu⟩ : ∃ u, u = us[k] := ⟨_, rfl⟩
          obtain ⟨r, hr⟩ : ∃ r, r = next[k] := ⟨_, rfl⟩
          rw [← hu] at hck hrk
          rw [← hr] at hrk hr5
          have HT : Hid ((next.take (k + 1)).flatMap (wrRow kind false) = (next.take k).flatMap (wrRow kind false) ++ wrRow kind false r) := by
            show _ = _
            rw [List.take_succ_eq_append_getElem hlt, List.flatMap_append, ← hr]; simp
          have HRK : Hid (RowE eI wr u r) := hrk
          have HR5 : Hid (r.length ≤ 256 ∧ ∀ z ∈ r, okZ z) := hr5
          have hwl := wrRow_len kind false r hr5.1
          have hws := ba_size (wrRow kind false r)
          clear hu hr hrk hr5 hbl
          go_wp2_with (go_at_call 38; refine (row_ref _ false _ r kind _ rfl hk HRK.out HR5.out.1 HR5.out.2).mono ?_; rintro e w9 ⟨rfl, hb9⟩; have HB10 : Hid (Below w1.heap.size w1 w9) := HBL.out.trans (hb9.mono HBL.out.size); clear hb9)
          go_roundw
          case rel => exact ⟨k + 1, by go_num, by omega, by rw [HT.out, ← List.append_assoc, ← HEq.out, ← ba_app], HB10.out⟩
          case measure => simp [intOf] <;> omega
        · have hkI : ¬ (k : Int) < next.length := by omega
          have HD : Hid (enc ⟨false, false, st, cls, acc, next⟩ kind false = E ++ num4 false (crc E)) := by
            show _ = _
            have e : E = B ++ next.flatMap (wrRow kind false) := by rw [HEq.out, List.take_of_length_le (by omega)]
            rw [HE9.out, HC.out, e]
          have hsum := sum_ref E (by unfold maxLen; omega)
          have hcl := crc_lt E
          have hn4 : (ba (num4 false (crc E))).size = 4 := by rw [ba_size]; rfl
          have HR4 : Hid (∀ w, Calls Try.prog 36 #[.int .i64 (crc E), .int .i64 4, .bool false] w fun e w' => e = .returned (.string (ba (num4 false (crc E)))) ∧ Below w.heap.size w w') := fun w => rnum4z w (crc E) hcl false
          clear hbl
          go_wp2_with (first | (go_at_call 36; refine (HR4.out _).mono ?_; rintro e w9 ⟨rfl, hb9⟩; have HB10 : Hid (Below w1.heap.size w1 w9) := HBL.out.trans (hb9.mono HBL.out.size); clear hb9) | (go_at_call 39; refine (hsum _).mono ?_; rintro e wq ⟨rfl, hwq⟩; obtain rfl := hwq.symm))
          go_ret
          refine ⟨?_, HSTB.out _ HB10.out⟩
          rw [HD.out, ← ba_app]; rfl
end Go.Proofs.Ytbjabpodkaokjaa
