import Derived.Test.YtbjabpodkaokjaaJ11
set_option linter.unusedVariables false
set_option linter.unusedSimpArgs false
namespace Go.Proofs.Ytbjabpodkaokjaa
open Go.RowKit

set_option maxRecDepth 4000 in
set_option maxHeartbeats 8000000 in
theorem write_any (w : World) (t : Tb) (va vn : Value) (kind : Nat) (big : Bool) (hk : kind ≤ 1) (h : TabIn w t va vn) (hw : Wok t) :
    Calls Try.prog 24 #[tv t va vn, .int .i64 kind, .bool big] w fun e w' => e = .returned (.string (ba (enc t kind big))) ∧ Below w.heap.size w w' := by
  obtain ⟨w1, hw1⟩ : ∃ w1, w1 = (w.alloc (.cells #[.bool t.front, .bool t.back, .int .i64 t.start, .string (ba t.cls), va, vn] 30)).alloc (.cells #[.bool big, .slice none 0 0] 88) := ⟨_, rfl⟩
  obtain ⟨g, hg⟩ : ∃ g, g = w.heap.size + 1 := ⟨_, rfl⟩
  have hwr1 : WrOut g big w1 [] w1 := by
    have := Wr.new (w.alloc (.cells #[.bool t.front, .bool t.back, .int .i64 t.start, .string (ba t.cls), va, vn] 30)) big
    rw [← hw1, World.size_alloc, ← hg] at this
    exact WrOut.start this
  have HBX : Hid (Stb g w1 fun w' => w'.heap[w.heap.size]? = some (.cells #[.bool t.front, .bool t.back, .int .i64 t.start, .string (ba t.cls), va, vn] 30)) := fun w' hb => by
    show w'.heap[w.heap.size]? = _
    rw [hb.block _ (by omega), hw1, Below.heap_alloc _ _ _ (by simp)]
    exact heap_alloc_new _ _
  have hB1 : Below w.heap.size w w1 := by rw [hw1]; exact ((Below.refl _ _).alloc (Nat.le_refl _) _).alloc (by simp) _
  have HB1 : Hid (Below w.heap.size w w1) := hB1
  have HW1 : Hid (w1 = (w.alloc (.cells #[.bool t.front, .bool t.back, .int .i64 t.start, .string (ba t.cls), va, vn] 30)).alloc (.cells #[.bool big, .slice none 0 0] 88)) := hw1
  have HG : Hid (g = w.heap.size + 1) := hg
  have HE : Hid (enc t kind big = hd t kind big ++ t.acc.map wrA ++ t.next.flatMap (wrRow kind big) ++ num4 big (crc (hd t kind big ++ t.acc.map wrA ++ t.next.flatMap (wrRow kind big)))) := by show _ = _; rfl
  have hhl := hd_len t kind big hw.cl
  have hrl := rowsW_len kind big
  have hstb : ∀ w', Below g w1 w' → Below w.heap.size w w' := fun w' hb => hB1.trans (hb.mono (by omega))
  obtain ⟨f, b, st, cls, acc, next⟩ := t
  obtain ⟨s1, s2, s3, s4, s5, s6⟩ := hw
  obtain ⟨hacc, ⟨us, hul, hu, hr⟩⟩ := h
  simp only at *
  obtain ⟨aa, ca, rfl⟩ := hacc.form
  obtain ⟨bn, on, cn, hvn, hcell⟩ := hu.nonnil (by omega)
  subst hvn
  rw [hul] at HBX HW1 ⊢
  have HUN : Hid (Stb g w1 fun w' => ∀ j (hj : j < us.length), w'.cell? ⟨bn, on + j, none⟩ = some us[j]) := fun w' hb j hj => cell_below (hstb w' hb) (hcell j hj)
  have HRW : Hid (Stb g w1 fun w' => ∀ j (h1 : j < us.length) (h2 : j < next.length), RowE eI w' us[j] next[j]) := fun w' hb j h1 h2 => (hr j h1 h2).below (hstb w' hb)
  have HAC : Hid (Stb g w1 fun w' => RowE eB w' (.slice aa acc.length ca) acc) := fun w' hb => hacc.below (hstb w' hb)
  have HUL : Hid (us.length = next.length) := hul
  obtain ⟨l0, hl0⟩ : ∃ l0, l0 = (next.headD []).length := ⟨_, rfl⟩
  obtain ⟨a0, c0, hu0⟩ : ∃ a0 c0, us[0]'(by omega) = .slice a0 l0 c0 := by
    obtain ⟨a0, c0, e⟩ := (hr 0 (by omega) (by omega)).form
    refine ⟨a0, c0, ?_⟩
    rw [e, hl0]
    cases next with
    | nil => simp at s2
    | cons r t => rfl
  have hl256 : l0 ≤ 256 := by
    rw [hl0]
    cases next with
    | nil => simp
    | cons r t => exact (s5 r (by simp)).1
  have HQ0 : Hid (Stb g w1 fun w' => w'.cell? ⟨bn, on, none⟩ = some (.slice a0 l0 c0)) := fun w' hb => by
    have := cell_below (hstb w' hb) (hcell 0 (by omega))
    rw [← hu0]; exact this
  have HS5 : Hid (∀ r ∈ next, r.length ≤ 256 ∧ ∀ z ∈ r, okZ z) := s5
  have HRL : Hid (∀ l : List (List Int), (∀ r ∈ l, r.length ≤ 256) → (l.flatMap (wrRow kind big)).length ≤ 1026 * l.length) := hrl
  obtain ⟨B5, hB5⟩ : ∃ B, B = h1 ⟨f, b, st, cls, acc, next⟩ kind big := ⟨_, rfl⟩
  have HB5 : Hid (B5 = mk5 ++ [UInt8.ofNat kind] ++ [UInt8.ofNat (bt f + 2 * bt b)] ++ [wrA big]) := hB5
  have hl5 : B5.length = 8 := by rw [hB5]; rfl
  obtain ⟨B9, hB9⟩ : ∃ B, B = hd ⟨f, b, st, cls, acc, next⟩ kind big := ⟨_, rfl⟩
  have HB9 : Hid (B9 = B5 ++ pr big acc.length ++ pr big l0 ++ pr big st.toNat ++ cls) := by show _ = _; rw [hB9, hd_eq, ← hB5, ← hl0]
  have HE9 : Hid (enc ⟨f, b, st, cls, acc, next⟩ kind big = B9 ++ acc.map wrA ++ next.flatMap (wrRow kind big) ++ num4 big (crc (B9 ++ acc.map wrA ++ next.flatMap (wrRow kind big)))) := by show _ = _; rw [HE.out, ← hB9]
  rw [← hB9] at hhl
  have hst1 := s4.1
  have hst2 := s4.2
  have HSN : Hid (st = ((st.toNat : Nat) : Int)) := by show _ = _; omega
  have HO1 : Hid (WrOut g big w1 [] w1) := hwr1
  have hpl := pr_len big
  clear hw1 hg hwr1 hB1 s4 hul hu hr hacc hcell hu0 hl0 s5 hrl hB5 hB9 HE hstb
  go_enter Try.func24, Try.ntmps24
  go_wp2_with (first | (go_at_call 43; refine (small_o _ g big _ (UInt8.ofNat kind) _ (by first | (simp; done) | (simp; omega)) HO2.out.wr (by simp [mk5])).mono ?_; rintro e w3 ⟨rfl, ho3⟩; have HO3 : Hid (WrOut g big w1 (mk5 ++ [UInt8.ofNat kind]) w3) := HO2.out.trans ho3; clear ho3; obtain ⟨p0, p1, p2, p3, p4, p5⟩ := box6 (HBX.out w3 HO3.out.2.bl); have q0 : w3.cell? ⟨bn, on, none⟩ = some (.slice a0 l0 c0) := HQ0.out w3 HO3.out.2.bl) | (go_at_call 42; rw [← HW1.out, ← HG.out]; refine (text_o _ g big [] mk5 _ rfl HO1.out.wr (by simp [mk5]) (by simp [mk5])).mono ?_; rintro e w2 ⟨rfl, ho2⟩; have HO2 : Hid (WrOut g big w1 mk5 w2) := HO1.out.trans (by simpa using ho2); clear ho2))
  go_region_held3 (fun w' => w'.cell? ⟨w.heap.size, 0, none⟩ = some (.bool f) ∧ w'.cell? ⟨w.heap.size, 1, none⟩ = some (.bool b)) (go_keep) (first | (go_at_call 43; refine (small_o _ g big _ (UInt8.ofNat (bt f + 2 * bt b)) _ (by cases f <;> cases b <;> rfl) (HO3.out.below ((Below.refl _ _).drew)).wr (by simp [mk5])).mono ?_; rintro e w4 ⟨rfl, ho4⟩; have HO4 : Hid (WrOut g big w1 (mk5 ++ [UInt8.ofNat kind] ++ [UInt8.ofNat (bt f + 2 * bt b)]) w4) := (HO3.out.below ((Below.refl _ _).drew)).trans ho4; clear ho4; obtain ⟨p0, p1, p2, p3, p4, p5⟩ := box6 (HBX.out w4 HO4.out.2.bl); have q0 : w4.cell? ⟨bn, on, none⟩ = some (.slice a0 l0 c0) := HQ0.out w4 HO4.out.2.bl) | (go_at_call 44; refine (bit_any _ _).mono ?_; rintro e wq ⟨rfl, hwq⟩; obtain rfl := hwq.symm))
  rename_i hheld
  clear hheld
  go_wp2_with (first | (go_at_call 42; refine (text_o _ g big (B5 ++ pr big acc.length ++ pr big l0 ++ pr big st.toNat) cls _ rfl HO8.out.wr (by simp [hpl, hl5]; omega) (by first | (simp [hpl, hl5]; done) | (simp [hpl, hl5]; omega))).mono ?_; rintro e w9 ⟨rfl, ho9⟩; have HO9 : Hid (WrOut g big w1 B9 w9) := (by show WrOut _ _ _ _ _; rw [HB9.out]; exact HO8.out.trans ho9); clear ho9; obtain ⟨p0, p1, p2, p3, p4, p5⟩ := box6 (HBX.out w9 HO9.out.2.bl); have q0 : w9.cell? ⟨bn, on, none⟩ = some (.slice a0 l0 c0) := HQ0.out w9 HO9.out.2.bl) | (go_at_call 45; refine (pair_z _ g big (B5 ++ pr big acc.length ++ pr big l0) st.toNat _ HSN.out (by omega) HO7.out.wr (by simp [hpl, hl5])).mono ?_; rintro e w8 ⟨rfl, ho8⟩; have HO8 : Hid (WrOut g big w1 (B5 ++ pr big acc.length ++ pr big l0 ++ pr big st.toNat) w8) := HO7.out.trans ho8; clear ho8; obtain ⟨p0, p1, p2, p3, p4, p5⟩ := box6 (HBX.out w8 HO8.out.2.bl); have q0 : w8.cell? ⟨bn, on, none⟩ = some (.slice a0 l0 c0) := HQ0.out w8 HO8.out.2.bl) | (go_at_call 45; refine (pair_z _ g big (B5 ++ pr big acc.length) l0 _ rfl (by omega) HO6.out.wr (by simp [hpl, hl5])).mono ?_; rintro e w7 ⟨rfl, ho7⟩; have HO7 : Hid (WrOut g big w1 (B5 ++ pr big acc.length ++ pr big l0) w7) := HO6.out.trans ho7; clear ho7; obtain ⟨p0, p1, p2, p3, p4, p5⟩ := box6 (HBX.out w7 HO7.out.2.bl); have q0 : w7.cell? ⟨bn, on, none⟩ = some (.slice a0 l0 c0) := HQ0.out w7 HO7.out.2.bl) | (go_at_call 45; refine (pair_z _ g big B5 acc.length _ rfl (by omega) HO5.out.wr (by omega)).mono ?_; rintro e w6 ⟨rfl, ho6⟩; have HO6 : Hid (WrOut g big w1 (B5 ++ pr big acc.length) w6) := HO5.out.trans ho6; clear ho6; obtain ⟨p0, p1, p2, p3, p4, p5⟩ := box6 (HBX.out w6 HO6.out.2.bl); have q0 : w6.cell? ⟨bn, on, none⟩ = some (.slice a0 l0 c0) := HQ0.out w6 HO6.out.2.bl) | (go_at_call 43; refine (small_o _ g big _ (wrA big) _ (by cases big <;> rfl) HM5.out.wr (by simp [mk5])).mono ?_; rintro e w5 ⟨rfl, ho5⟩; have HO5 : Hid (WrOut g big w1 B5 w5) := (by show WrOut _ _ _ _ _; rw [HB5.out]; exact HM5.out.trans ho5); clear ho5; obtain ⟨p0, p1, p2, p3, p4, p5⟩ := box6 (HBX.out w5 HO5.out.2.bl); have q0 : w5.cell? ⟨bn, on, none⟩ = some (.slice a0 l0 c0) := HQ0.out w5 HO5.out.2.bl) | (go_at_call 44; refine (bit_any _ _).mono ?_; rintro e wq ⟨rfl, hwq⟩; obtain rfl := hwq.symm; have HM5 := HO4))
  clear HO1 HO2 HO3 HO4 HO5 HO6 HO7 HO8 HM5
  go_loopw [59] (fun i wr => ∃ k : Nat, i = .int .i64 k ∧ k ≤ acc.length ∧ WrOut g big w1 (B9 ++ (acc.take k).map wrA) wr) (fun i _ => acc.length - (intOf i).toNat)
  case atStart => exact ⟨0, rfl, Nat.zero_le _, by simpa using HO9.out⟩
  case round =>
    obtain ⟨k, rfl, hk1, hout⟩ := hrel
    clear HO9
    have hlk : (B9 ++ (acc.take k).map wrA).length ≤ 500 := by simp; omega
    obtain ⟨B, hB⟩ : ∃ B, B = B9 ++ (acc.take k).map wrA := ⟨_, rfl⟩
    have HBq : Hid (B = B9 ++ (acc.take k).map wrA) := hB
    rw [← hB] at hlk hout
    have HW : Hid (WrOut g big w1 B wr) := hout
    clear hout hB
    by_cases hlt : k < acc.length
    · have hltI : (k : Int) < acc.length := by omega
      obtain ⟨b', o', c', hform, hcell⟩ := (HAC.out wr HW.out.2.bl).nonnil (by omega)
      injection hform with e1 e2 e3
      subst e1
      have hck := hcell k hlt
      obtain ⟨z, hz⟩ : ∃ z, z = acc[k] := ⟨_, rfl⟩
      rw [← hz] at hck
      have HT : Hid ((acc.take (k + 1)).map wrA = (acc.take k).map wrA ++ [wrA z]) := by
        show _ = _
        rw [List.take_succ_eq_append_getElem hlt, ← hz]; simp
      clear hz e2 e3 hcell
      go_wp2_with (first | (go_at_call 43; refine (small_o _ g big B (wrA z) _ (by cases z <;> rfl) HW.out.wr (by omega)).mono ?_; rintro e w3 ⟨rfl, ho3⟩; have HO3 : Hid (WrOut g big wr (B ++ [wrA z]) w3) := ho3; clear ho3) | (go_at_call 44; refine (bit_any _ _).mono ?_; rintro e wq ⟨rfl, hwq⟩; obtain rfl := hwq.symm))
      go_roundw
      case rel =>
        refine ⟨k + 1, by go_num, by omega, ?_⟩
        rw [HT.out, ← List.append_assoc, ← HBq.out]
        exact HW.out.trans HO3.out
      case measure => simp [intOf] <;> omega
    · have hkI : ¬ (k : Int) < acc.length := by omega
      obtain ⟨C, hC⟩ : ∃ C, C = B9 ++ acc.map wrA := ⟨_, rfl⟩
      have HC : Hid (B9 ++ acc.map wrA = C) := hC.symm
      have hlc : C.length ≤ 500 := by rw [hC]; simp; omega
      have HO9 : Hid (WrOut g big w1 C wr) := by
        show WrOut _ _ _ _ _
        have h := HW.out
        rw [HBq.out, List.take_of_length_le (by omega), ← hC] at h
        exact h
      clear hC HW HBq p0 p1 p2 p3 p4 p5 q0
      obtain ⟨p0, p1, p2, p3, p4, p5⟩ := box6 (HBX.out wr HO9.out.2.bl)
      go_wp2
      go_loopw [71] (fun i wr => ∃ k : Nat, i = .int .i64 k ∧ k ≤ next.length ∧ WrOut g big w1 (C ++ (next.take k).flatMap (wrRow kind big)) wr) (fun i _ => next.length - (intOf i).toNat)
      case atStart => exact ⟨0, rfl, Nat.zero_le _, by simpa using HO9.out⟩
      case round =>
        obtain ⟨k, rfl, hk2, hout⟩ := hrel
        clear p0 p1 p2 p3 p4 p5 HO9
        have hlk : (C ++ (next.take k).flatMap (wrRow kind big)).length + 2000 ≤ 1000000 := by
          have := HRL.out (next.take k) (fun r hr => (HS5.out r (List.mem_of_mem_take hr)).1)
          have h2 : (next.take k).length ≤ 200 := by simp; omega
          rw [List.length_append]; omega
        obtain ⟨B, hB⟩ : ∃ B, B = C ++ (next.take k).flatMap (wrRow kind big) := ⟨_, rfl⟩
        have HBq : Hid (B = C ++ (next.take k).flatMap (wrRow kind big)) := hB
        rw [← hB] at hlk hout
        have HW : Hid (WrOut g big w1 B wr) := hout
        clear hout hB
        by_cases hlt : k < next.length
        · have hltI : (k : Int) < next.length := by omega
          have hlt1 : k < us.length := by have := HUL.out; omega
          have hck : wr.cell? ⟨bn, on + k, none⟩ = some us[k] := HUN.out wr HW.out.2.bl k hlt1
          have hrk : Stb g wr fun w' => RowE eI w' us[k] next[k] := fun w' hb => HRW.out w' (HW.out.2.bl.trans hb) k hlt1 hlt
          have hr5 := HS5.out next[k] (List.getElem_mem hlt)
          obtain ⟨a2, c2, hform⟩ := hrk.now.form
          obtain ⟨u, hu⟩ : ∃ u, u = us[k] := ⟨_, rfl⟩
          obtain ⟨r, hr⟩ : ∃ r, r = next[k] := ⟨_, rfl⟩
          rw [← hu] at hck hrk hform
          rw [← hr] at hrk hr5 hform
          subst hform
          have HT : Hid ((next.take (k + 1)).flatMap (wrRow kind big) = (next.take k).flatMap (wrRow kind big) ++ wrRow kind big r) := by
            show _ = _
            rw [List.take_succ_eq_append_getElem hlt, List.flatMap_append, ← hr]; simp
          have HRK : Hid (Stb g wr fun w' => RowE eI w' (.slice a2 r.length c2) r) := hrk
          have HR5 : Hid (r.length ≤ 256 ∧ ∀ z ∈ r, okZ z) := hr5
          clear hu hr hrk hr5
          go_wp2_with (go_at_call 46; refine (row_w _ g big B _ r kind _ rfl hk HW.out.wr HRK.out HR5.out.1 HR5.out.2 hlk).mono ?_; rintro e w3 ⟨rfl, ho3⟩; have HO3 : Hid (WrOut g big wr (B ++ wrRow kind big r) w3) := ho3; clear ho3)
          go_roundw
          case rel =>
            refine ⟨k + 1, by go_num, by omega, ?_⟩
            rw [HT.out, ← List.append_assoc, ← HBq.out]
            exact HW.out.trans HO3.out
          case measure => simp [intOf] <;> omega
        · have hkI : ¬ (k : Int) < next.length := by omega
          obtain ⟨D, hD⟩ : ∃ D, D = C ++ next.flatMap (wrRow kind big) := ⟨_, rfl⟩
          have HD : Hid (enc ⟨f, b, st, cls, acc, next⟩ kind big = D ++ num4 big (crc D)) := by
            show _ = _
            rw [HE9.out, HC.out, hD]
          have hBD : B = D := by rw [HBq.out, hD, List.take_of_length_le (by omega)]
          subst hBD
          obtain ⟨v5, hv5⟩ := HW.out.wr
          have d1 := hv5.c1
          have hsum := sum_any wr v5 B (bf_row hv5.buf) (by omega)
          have hcl := crc_lt B
          have hn4 := number4 wr g big v5 B (crc B) hcl hv5 (by omega)
          have HN4 : Hid (Calls Try.prog 47 #[.pointer (some ⟨g, 0, none⟩), .int .u32 (crc B), .int .i64 4] wr fun e w' => e = .returned (.tuple #[]) ∧ WrOut g big wr (B ++ num4 big (crc B)) w') := hn4
          clear hn4 hD hv5
          go_wp2_with (first | (go_at_call 47; refine HN4.out.mono ?_; rintro e w6 ⟨rfl, ho6⟩; obtain ⟨v6, hv6⟩ := ho6.wr; have d6 := hv6.c1; have hcv := conv_bf hv6.buf; have HO6 : Hid (WrOut g big wr (B ++ num4 big (crc B)) w6) := ho6; clear ho6 hv6) | (go_at_call 48; refine hsum.mono ?_; rintro e wq ⟨rfl, hwq⟩; obtain rfl := hwq.symm))
          go_ret
          refine ⟨?_, HB1.out.trans ((HW.out.2.bl.trans HO6.out.2.bl).mono (by rw [HG.out]; omega))⟩
          rw [HD.out]; rfl
end Go.Proofs.Ytbjabpodkaokjaa
