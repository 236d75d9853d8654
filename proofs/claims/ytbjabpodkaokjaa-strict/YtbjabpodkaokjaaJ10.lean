import Derived.Test.YtbjabpodkaokjaaJ09
set_option linter.unusedVariables false
set_option linter.unusedSimpArgs false
namespace Go.Proofs.Ytbjabpodkaokjaa
open Go.RowKit

theorem Rn.cells2 {w : World} {base : Nat} {v : Value} {rs : List (Nat × Int)} (h : Rn w base v rs) (hp : 0 < rs.length) : ∃ g cap, v = .slice (some ⟨g, 0, none⟩) rs.length cap ∧ base ≤ g ∧ ∀ k (hk : k < rs.length), w.cell? ⟨g, k * 2, none⟩ = some (.int .i64 (rs[k].1 : Int)) ∧ w.cell? ⟨g, k * 2 + 1, none⟩ = some (.int .i64 rs[k].2) := by
  obtain ⟨g, cap, rfl, h1, h2⟩ := h.form hp
  refine ⟨g, cap, rfl, h1, fun k hk => ?_⟩
  have e : ∀ (l : List (Nat × Int)) (k : Nat) (hk : k < l.length), (flR l)[k * 2]? = some (.int .i64 (l[k].1 : Int)) ∧ (flR l)[k * 2 + 1]? = some (.int .i64 l[k].2) := by
    intro l
    induction l with
    | nil => intro k hk; simp at hk
    | cons r t ih =>
      intro k hk
      cases k with
      | zero => simp [flR]
      | succ k =>
        have := ih k (by simpa using hk)
        simp only [flR, List.flatMap_cons, List.cons_append, List.nil_append, show (k + 1) * 2 = k * 2 + 1 + 1 by omega, List.getElem?_cons_succ, List.getElem_cons_succ] at this ⊢
        exact this
  have := e rs k hk
  exact ⟨(h.cellAt _ (by omega)).trans this.1, (h.cellAt _ (by omega)).trans this.2⟩
theorem Rn.shape {w : World} {base n : Nat} {v : Value} {rs : List (Nat × Int)} (h : Rn w base v rs) (hn : n = rs.length) : ∃ a c, v = .slice a n c := by
  subst hn
  rcases h.2 with ⟨rfl, h0⟩ | ⟨q, cap, cur, rfl, _⟩
  · exact ⟨none, 0, by rw [h0]⟩
  · exact ⟨_, cap, rfl⟩
theorem Rn.wst {w w' : World} {g base : Nat} {v : Value} {rs : List (Nat × Int)} (h : Rn w base v rs) (hb : g < base) (hw : Wst g w w') : Rn w' base v rs := by
  refine ⟨h.1, ?_⟩
  rcases h.2 with hn | ⟨q, cap, cur, rfl, hq, hh, rest⟩
  · exact .inl hn
  · refine .inr ⟨q, cap, cur, rfl, hq, (hw.kp q (Array.getElem?_eq_some_iff.1 hh).1 (by omega) (fun cur' e => ?_)).trans hh, rest⟩
    rw [hh] at e
    injection e with e
    injection e with _ e
    exact absurd e (by decide)
theorem Rn.below {w w' : World} {base : Nat} {v : Value} {rs : List (Nat × Int)} (h : Rn w base v rs) (hb : Below w.heap.size w w') : Rn w' base v rs :=
  World.ownsRow.kept h (row := none) ⟨hb.os, hb.tape, hb.output, hb.size, fun k hk _ => hb.block k hk⟩ (by
    cases e : v.ownBlock with
    | none => exact .inl rfl
    | some k => exact .inr (by simp))
theorem WrOut.below {g : Nat} {big : Bool} {x y z : World} {bs : List UInt8} (h : WrOut g big x bs y) (hb : Below y.heap.size y z) : WrOut g big x bs z := by
  obtain ⟨⟨v, hv⟩, h2⟩ := h
  exact ⟨⟨v, hv.below hb⟩, h2.below hb (Nat.le_of_lt hv.lt)⟩
theorem pair_z (w : World) (g : Nat) (big : Bool) (bs : List UInt8) (n : Nat) (z : Int) (hz : z = (n : Int)) (hn : n < 65536) (h : ∃ v, Wr w g big v bs) (hl : bs.length + 2 ≤ 1000000) :
    Calls Try.prog 45 #[.pointer (some ⟨g, 0, none⟩), .int .i64 z] w fun e w' => e = .returned (.tuple #[]) ∧ WrOut g big w (bs ++ pr big n) w' := by
  subst hz
  obtain ⟨v, h⟩ := h
  exact pair_w w g big v bs n hn h hl
theorem pr_len (big : Bool) (n : Nat) : (pr big n).length = 2 := by cases big <;> rfl
theorem wrRs_len (big : Bool) (rs : List (Nat × Int)) : (rs.flatMap (wrR big)).length = 4 * rs.length := by
  induction rs with
  | nil => rfl
  | cons r t ih => simp only [List.flatMap_cons, List.length_append, ih, wrR, pr_len, List.length_cons]; omega
/-- A block that is no row of bytes stays. -/
theorem Wst.blk {g : Nat} {w w' : World} {b : Nat} {cs : Array Value} {T : TypeId} {fr : Nat × Nat} (h : Wst g w w') (hb : w.heap[b]? = some (.cells cs T fr)) (hne : b ≠ g) (hT : T ≠ 5) : w'.heap[b]? = some (.cells cs T fr) :=
  (h.kp b (Array.getElem?_eq_some_iff.1 hb).1 hne (fun cur e => by rw [hb] at e; injection e with e; injection e with _ e _; exact hT e)).trans hb

set_option maxRecDepth 4000 in
set_option maxHeartbeats 2000000 in
theorem sparse_w (w : World) (g : Nat) (big : Bool) (bs : List UInt8) (v : Value) (zs : List Int) (h : ∃ v, Wr w g big v bs) (hv : RowE eI w v zs) (hl : zs.length ≤ 256) (ho : ∀ z ∈ zs, okZ z) (hbl : bs.length + 2000 ≤ 1000000) :
    Calls Try.prog 54 #[.pointer (some ⟨g, 0, none⟩), v] w fun e w' => e = .returned (.tuple #[]) ∧ WrOut g big w (bs ++ wrRow 1 big zs) w' := by
  have hru := runsOf_any w v zs hv (by omega)
  have hm := runs_mem zs
  have hln := runs_len zs
  obtain ⟨rs, hrs⟩ : ∃ rs, rs = runs zs := ⟨_, rfl⟩
  rw [← hrs] at hru hm hln
  have HE : Hid (wrRow 1 big zs = pr big rs.length ++ rs.flatMap (wrR big)) := by show _ = _; rw [hrs]; rfl
  have HM : Hid (∀ r ∈ rs, r.1 ≤ 256 ∧ okZ r.2) := fun r hr => ⟨by have := (hm r hr).1; omega, ho _ (hm r hr).2⟩
  obtain ⟨n, hn⟩ : ∃ n, n = rs.length := ⟨_, rfl⟩
  have HN : Hid (n = rs.length) := hn
  have hn256 : n ≤ 256 := by omega
  have H : Hid (∃ v, Wr w g big v bs) := h
  have hgl : g < w.heap.size := by obtain ⟨v, h⟩ := h; exact h.lt
  have hnl : (pr big n).length = 2 := pr_len _ _
  clear hm hln hrs ho hl hn h
  go_enter Try.func54, Try.ntmps54
  go_wp2_with (first | (go_at_call 45; refine (pair_z w1 g big bs n _ rfl (by omega) HV1.out (by omega)).mono ?_; rintro e w2 ⟨rfl, ho2⟩; have HO2 : Hid _ := ho2; clear ho2) | (go_at_call 56; refine hru.mono ?_; rintro e w1 ⟨v1, rfl, hrn, hb1⟩; obtain ⟨a1, c1, hform⟩ := hrn.shape HN.out; subst hform; have HV1 : Hid (∃ v, Wr w1 g big v bs) := (by obtain ⟨v, h⟩ := H.out; exact ⟨v, h.below hb1⟩); have HRN : Hid (Rn w1 w.heap.size (.slice a1 n c1) rs) := hrn; have HB1 : Hid (Below w.heap.size w w1) := hb1; clear hrn hb1))
  have HO3 : Hid (WrOut g big w (bs ++ pr big n) w2) := ⟨HO2.out.1, ((Wst.refl g w).below HB1.out (by omega)).trans HO2.out.2⟩
  have HR3 : Hid (Rn w2 w.heap.size (.slice a1 n c1) rs) := HRN.out.wst hgl HO2.out.2
  clear HO2 HRN HV1 HB1
  go_loopw [15] (fun i wr => ∃ k : Nat, i = .int .i64 k ∧ k ≤ n ∧ WrOut g big w (bs ++ pr big n ++ (rs.take k).flatMap (wrR big)) wr ∧ Rn wr w.heap.size (.slice a1 n c1) rs) (fun i _ => n - (intOf i).toNat)
  case atStart => exact ⟨0, rfl, Nat.zero_le _, by simpa using HO3.out, HR3.out⟩
  case round =>
    obtain ⟨k, rfl, hk, hout, hrn⟩ := hrel
    have HO : Hid (WrOut g big w (bs ++ pr big n ++ (rs.take k).flatMap (wrR big)) wr) := hout
    have HRN : Hid (Rn wr w.heap.size (.slice a1 n c1) rs) := hrn
    have hlk : (bs ++ pr big n ++ (rs.take k).flatMap (wrR big)).length + 4 ≤ 1000000 := by
      rw [List.length_append, List.length_append, wrRs_len, hnl]; simp; have := HN.out; omega
    have hgw : g < wr.heap.size := by obtain ⟨v, h⟩ := hout.wr; exact h.lt
    clear hout hrn HO3 HR3
    by_cases hlt : k < n
    · have hlt1 : k < rs.length := by have := HN.out; omega
      have hltI : (k : Int) < n := by omega
      obtain ⟨q, cap, hform, hq, hcs⟩ := HRN.out.cells2 (by omega)
      injection hform with e1 e2 e3
      subst e1
      obtain ⟨d1, d2⟩ := hcs k hlt1
      have hmr := HM.out rs[k] (List.getElem_mem hlt1)
      obtain ⟨r, hr⟩ : ∃ r, r = rs[k] := ⟨_, rfl⟩
      rw [← hr] at d1 d2 hmr
      obtain ⟨c, z⟩ := r
      simp only at d1 d2 hmr
      have HT : Hid ((rs.take (k + 1)).flatMap (wrR big) = (rs.take k).flatMap (wrR big) ++ (pr big c ++ pr big z.toNat)) := by
        show _ = _
        rw [List.take_succ_eq_append_getElem hlt1, List.flatMap_append, ← hr]; simp [wrR]
      clear hcs e2 e3 hr
      obtain ⟨B, hB⟩ : ∃ B, B = bs ++ pr big n ++ (rs.take k).flatMap (wrR big) := ⟨_, rfl⟩
      have HBq : Hid (B = bs ++ pr big n ++ (rs.take k).flatMap (wrR big)) := hB
      have HO' : Hid (WrOut g big w B wr) := by show WrOut _ _ _ _ _; rw [hB]; exact HO.out
      rw [← hB] at hlk
      clear hB HO
      have hBA : Below wr.heap.size wr (wr.alloc (.cells #[.int .i64 c, .int .i64 z] 112)) := (Below.refl _ _).alloc (Nat.le_refl _) _
      have HV : Hid (WrOut g big w B (wr.alloc (.cells #[.int .i64 c, .int .i64 z] 112))) := HO'.out.below hBA
      have HRA : Hid (Rn (wr.alloc (.cells #[.int .i64 c, .int .i64 z] 112)) w.heap.size (.slice (some ⟨q, 0, none⟩) n c1) rs) := HRN.out.below hBA
      have hzN : z = ((z.toNat : Nat) : Int) := by have := hmr.2.1; omega
      have HZN : Hid (z = ((z.toNat : Nat) : Int)) := hzN
      have hz1 := hmr.2.1
      have hz2 := hmr.2.2
      have hc1 := hmr.1
      clear hBA hzN hmr HRN HO'
      go_wp2_with (first | (go_at_call 45; refine (pair_z w2 g big (B ++ pr big c) z.toNat _ HZN.out (by omega) HO2.out.wr (by rw [List.length_append, pr_len]; omega)).mono ?_; rintro e w3 ⟨rfl, ho3⟩; have HO3 : Hid (WrOut g big w2 (B ++ pr big c ++ pr big z.toNat) w3) := ho3; clear ho3) | (go_at_call 45; refine (pair_z _ g big B c _ rfl (by omega) HV.out.wr (by omega)).mono ?_; rintro e w2 ⟨rfl, ho2⟩; have hb2 := ho2.2.blk (heap_alloc_new wr _) (by omega) (by decide); have f0 : w2.cell? ⟨wr.heap.size, 0, none⟩ = some (.int .i64 c) := (by simp [World.cell?, hb2]); have f1 : w2.cell? ⟨wr.heap.size, 1, none⟩ = some (.int .i64 z) := (by simp [World.cell?, hb2]); have HO2 : Hid (WrOut g big (wr.alloc (.cells #[.int .i64 c, .int .i64 z] 112)) (B ++ pr big c) w2) := ho2; clear ho2 hb2))
      go_roundw
      case rel =>
        refine ⟨k + 1, by go_num, by omega, ?_, (HRA.out.wst hgl HO2.out.2).wst hgl HO3.out.2⟩
        rw [HT.out, ← List.append_assoc, ← HBq.out, ← List.append_assoc]
        exact (HV.out.trans HO2.out).trans HO3.out
      case measure => simp [intOf] <;> omega
    · have hkI : ¬ (k : Int) < n := by omega
      go_wp2
      go_end0
      refine ⟨rfl, ?_⟩
      have h := HO.out
      rw [List.take_of_length_le (by have := HN.out; omega), List.append_assoc] at h
      rw [HE.out, ← HN.out]
      exact h
end Go.Proofs.Ytbjabpodkaokjaa

namespace Go.Proofs.Ytbjabpodkaokjaa
open Go.RowKit

/-- P holds as long as what lies below g stands. -/
def Stb (g : Nat) (w : World) (P : World → Prop) : Prop := ∀ w', Below g w w' → P w'
theorem Stb.now {g : Nat} {w : World} {P : World → Prop} (h : Stb g w P) : P w := h w (Below.refl _ _)
theorem Stb.on {g : Nat} {w w' : World} {P : World → Prop} (h : Stb g w P) (hb : Below g w w') : Stb g w' P := fun w2 h2 => h w2 (hb.trans h2)
theorem prs_len (big : Bool) (zs : List Int) : (zs.flatMap fun z => pr big z.toNat).length = 2 * zs.length := by
  induction zs with
  | nil => rfl
  | cons r t ih => simp only [List.flatMap_cons, List.length_append, ih, pr_len, List.length_cons]; omega
set_option maxRecDepth 4000 in
set_option maxHeartbeats 2000000 in
theorem dense_w (w : World) (g : Nat) (big : Bool) (bs : List UInt8) (v : Value) (zs : List Int) (h : ∃ v, Wr w g big v bs) (hv : Stb g w fun w => RowE eI w v zs) (hl : zs.length ≤ 256) (ho : ∀ z ∈ zs, okZ z) (hbl : bs.length + 2000 ≤ 1000000) :
    Calls Try.prog 46 #[.pointer (some ⟨g, 0, none⟩), v, .int .i64 0] w fun e w' => e = .returned (.tuple #[]) ∧ WrOut g big w (bs ++ wrRow 0 big zs) w' := by
  obtain ⟨a, c, hform⟩ := hv.now.form
  subst hform
  obtain ⟨n, hn⟩ : ∃ n, n = zs.length := ⟨_, rfl⟩
  have HN : Hid (n = zs.length) := hn
  rw [← hn] at hl ⊢
  have HV : Hid (Stb g w fun w => RowE eI w (.slice a n c) zs) := by show Stb _ _ _; rw [hn]; exact hv
  have HE : Hid (wrRow 0 big zs = zs.flatMap fun z => pr big z.toNat) := by show _ = _; rfl
  have HO : Hid (∀ z ∈ zs, okZ z) := ho
  have H : Hid (∃ v, Wr w g big v bs) := h
  clear hn hv ho h
  go_enter Try.func46, Try.ntmps46
  go_wp2
  go_loopw [15] (fun i wr => ∃ k : Nat, i = .int .i64 k ∧ k ≤ n ∧ WrOut g big w (bs ++ (zs.take k).flatMap fun z => pr big z.toNat) wr) (fun i _ => n - (intOf i).toNat)
  case atStart => exact ⟨0, rfl, Nat.zero_le _, by obtain ⟨v, h⟩ := H.out; simpa using WrOut.start h⟩
  case round =>
    obtain ⟨k, rfl, hk, hout⟩ := hrel
    have hlk : (bs ++ (zs.take k).flatMap fun z => pr big z.toNat).length + 2 ≤ 1000000 := by
      rw [List.length_append, prs_len]; simp; have := HN.out; omega
    obtain ⟨B, hB⟩ : ∃ B, B = bs ++ (zs.take k).flatMap fun z => pr big z.toNat := ⟨_, rfl⟩
    have HBq : Hid (B = bs ++ (zs.take k).flatMap fun z => pr big z.toNat) := hB
    rw [← hB] at hlk hout
    have HW : Hid (WrOut g big w B wr) := hout
    clear hout hB
    by_cases hlt : k < n
    · have hlt1 : k < zs.length := by have := HN.out; omega
      have hltI : (k : Int) < n := by omega
      obtain ⟨b, o, c', hform, hcell⟩ := (HV.out wr HW.out.2.bl).nonnil (by omega)
      injection hform with e1 e2 e3
      subst e1
      have hck := hcell k hlt1
      have hoz := HO.out zs[k] (List.getElem_mem hlt1)
      obtain ⟨z, hz⟩ : ∃ z, z = zs[k] := ⟨_, rfl⟩
      rw [← hz] at hck hoz
      have HT : Hid (((zs.take (k + 1)).flatMap fun z => pr big z.toNat) = ((zs.take k).flatMap fun z => pr big z.toNat) ++ pr big z.toNat) := by
        show _ = _
        rw [List.take_succ_eq_append_getElem hlt1, List.flatMap_append, ← hz]; simp
      have HZN : Hid (z = ((z.toNat : Nat) : Int)) := by show _ = _; have := hoz.1; omega
      have hz1 := hoz.1
      have hz2 := hoz.2
      clear hz e2 e3 hcell hoz
      go_wp2_with (go_at_call 45; refine (pair_z _ g big B z.toNat _ HZN.out (by omega) HW.out.wr (by omega)).mono ?_; rintro e w3 ⟨rfl, ho3⟩; have HO3 : Hid (WrOut g big wr (B ++ pr big z.toNat) w3) := ho3; clear ho3)
      go_roundw
      case rel =>
        refine ⟨k + 1, by go_num, by omega, ?_⟩
        rw [HT.out, ← List.append_assoc, ← HBq.out]
        exact HW.out.trans HO3.out
      case measure => simp [intOf] <;> omega
    · have hkI : ¬ (k : Int) < n := by omega
      go_wp2
      go_end0
      refine ⟨rfl, ?_⟩
      have h := HW.out
      rw [HBq.out, List.take_of_length_le (by have := HN.out; omega)] at h
      rw [HE.out]
      exact h
set_option maxHeartbeats 1000000 in
theorem row1_w (w : World) (g : Nat) (big : Bool) (bs : List UInt8) (v : Value) (zs : List Int) (h : ∃ v, Wr w g big v bs) (hv : RowE eI w v zs) (hl : zs.length ≤ 256) (ho : ∀ z ∈ zs, okZ z) (hbl : bs.length + 2000 ≤ 1000000) :
    Calls Try.prog 46 #[.pointer (some ⟨g, 0, none⟩), v, .int .i64 1] w fun e w' => e = .returned (.tuple #[]) ∧ WrOut g big w (bs ++ wrRow 1 big zs) w' := by
  have HC : Hid (Calls Try.prog 54 #[.pointer (some ⟨g, 0, none⟩), v] w fun e w' => e = .returned (.tuple #[]) ∧ WrOut g big w (bs ++ wrRow 1 big zs) w') := sparse_w w g big bs v zs h hv hl ho hbl
  clear h hv hl ho hbl
  go_enter Try.func46, Try.ntmps46
  go_wp2_with (go_at_call 54; refine HC.out.mono ?_; rintro e w3 ⟨rfl, ho3⟩)
  refine bodyPost_ret (results_none rfl _ _ _) rfl ?_
  exact ⟨rfl, ho3⟩
theorem row_w (w : World) (g : Nat) (big : Bool) (bs : List UInt8) (v : Value) (zs : List Int) (kind : Nat) (z : Int) (hz : z = (kind : Int)) (hk : kind ≤ 1) (h : ∃ v, Wr w g big v bs) (hv : Stb g w fun w => RowE eI w v zs) (hl : zs.length ≤ 256) (ho : ∀ z ∈ zs, okZ z) (hbl : bs.length + 2000 ≤ 1000000) :
    Calls Try.prog 46 #[.pointer (some ⟨g, 0, none⟩), v, .int .i64 z] w fun e w' => e = .returned (.tuple #[]) ∧ WrOut g big w (bs ++ wrRow kind big zs) w' := by
  subst hz
  rcases (show kind = 0 ∨ kind = 1 by omega) with rfl | rfl
  · exact dense_w w g big bs v zs h hv hl ho hbl
  · exact row1_w w g big bs v zs h hv.now hl ho hbl
theorem wrRow_len (kind : Nat) (big : Bool) (zs : List Int) (h : zs.length ≤ 256) : (wrRow kind big zs).length ≤ 1026 := by
  unfold wrRow
  split
  · rw [List.length_append, wrRs_len, pr_len]; have := runs_len zs; omega
  · rw [prs_len]; omega
end Go.Proofs.Ytbjabpodkaokjaa
