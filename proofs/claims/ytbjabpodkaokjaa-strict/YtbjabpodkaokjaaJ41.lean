import Derived.Test.YtbjabpodkaokjaaJ40
set_option linter.unusedVariables false
set_option linter.unusedSimpArgs false
namespace Go.Proofs.Ytbjabpodkaokjaa
open Go.RowKit

set_option maxRecDepth 4000 in
set_option maxHeartbeats 1000000 in
theorem sameI_eq (w : World) (va vb : Value) (zs : List Int) (ha : RowE eI w va zs) (hb : RowE eI w vb zs) (hl : zs.length ≤ maxLen) :
    Calls Try.prog 26 #[va, vb] w fun e w' => e = .returned (.bool true) ∧ Below w.heap.size w w' := by
  unfold maxLen at hl
  obtain ⟨a, c, hform⟩ := ha.form
  obtain ⟨a', c', hform'⟩ := hb.form
  subst hform
  subst hform'
  obtain ⟨n, hn⟩ : ∃ n, n = zs.length := ⟨_, rfl⟩
  have HN : Hid (n = zs.length) := hn
  rw [← hn] at hl ⊢
  have HA : Hid (RowE eI w (.slice a n c) zs) := by show RowE _ _ _ _; rw [hn]; exact ha
  have HB : Hid (RowE eI w (.slice a' n c') zs) := by show RowE _ _ _ _; rw [hn]; exact hb
  clear hn ha hb
  go_enter Try.func26, Try.ntmps26
  go_wp2
  go_loopw [5] (fun i wr => ∃ k : Nat, i = .int .i64 k ∧ k ≤ n ∧ Below w.heap.size w wr) (fun i _ => n - (intOf i).toNat)
  case atStart => exact ⟨0, rfl, Nat.zero_le _, Below.refl _ _⟩
  case round =>
    obtain ⟨k, rfl, hk, hbl⟩ := hrel
    have HBL : Hid (Below w.heap.size w wr) := hbl
    by_cases hlt : k < n
    · have hlt1 : k < zs.length := by have := HN.out; omega
      have hltI : (k : Int) < n := by omega
      obtain ⟨b, o, q, hform, hcell⟩ := (HA.out.below hbl).nonnil (by omega)
      injection hform with e1 e2 e3
      subst e1
      obtain ⟨b', o', q', hform', hcell'⟩ := (HB.out.below hbl).nonnil (by omega)
      injection hform' with e1' e2' e3'
      subst e1'
      have d1 := hcell k hlt1
      have d2 := hcell' k hlt1
      obtain ⟨z, hz⟩ : ∃ z, z = zs[k] := ⟨_, rfl⟩
      rw [← hz] at d1 d2
      clear hcell hcell' e2 e3 e2' e3' hz hbl
      go_wp2
      go_quiet (fail)
      go_wp2
      go_roundw
      case rel => exact ⟨k + 1, by go_num, by omega, belowN2 HBL.out nq⟩
      case measure => simp [intOf] <;> omega
    · have hkI : ¬ (k : Int) < n := by omega
      clear hbl
      go_wp2
      go_ret
      exact ⟨rfl, HBL.out⟩
set_option maxRecDepth 4000 in
set_option maxHeartbeats 1000000 in
theorem sameB_eq (w : World) (va vb : Value) (zs : List Bool) (ha : RowE eB w va zs) (hb : RowE eB w vb zs) (hl : zs.length ≤ maxLen) :
    Calls Try.prog 25 #[va, vb] w fun e w' => e = .returned (.bool true) ∧ Below w.heap.size w w' := by
  unfold maxLen at hl
  obtain ⟨a, c, hform⟩ := ha.form
  obtain ⟨a', c', hform'⟩ := hb.form
  subst hform
  subst hform'
  obtain ⟨n, hn⟩ : ∃ n, n = zs.length := ⟨_, rfl⟩
  have HN : Hid (n = zs.length) := hn
  rw [← hn] at hl ⊢
  have HA : Hid (RowE eB w (.slice a n c) zs) := by show RowE _ _ _ _; rw [hn]; exact ha
  have HB : Hid (RowE eB w (.slice a' n c') zs) := by show RowE _ _ _ _; rw [hn]; exact hb
  clear hn ha hb
  go_enter Try.func25, Try.ntmps25
  go_wp2
  go_loopw [5] (fun i wr => ∃ k : Nat, i = .int .i64 k ∧ k ≤ n ∧ Below w.heap.size w wr) (fun i _ => n - (intOf i).toNat)
  case atStart => exact ⟨0, rfl, Nat.zero_le _, Below.refl _ _⟩
  case round =>
    obtain ⟨k, rfl, hk, hbl⟩ := hrel
    have HBL : Hid (Below w.heap.size w wr) := hbl
    by_cases hlt : k < n
    · have hlt1 : k < zs.length := by have := HN.out; omega
      have hltI : (k : Int) < n := by omega
      obtain ⟨b, o, q, hform, hcell⟩ := (HA.out.below hbl).nonnil (by omega)
      injection hform with e1 e2 e3
      subst e1
      obtain ⟨b', o', q', hform', hcell'⟩ := (HB.out.below hbl).nonnil (by omega)
      injection hform' with e1' e2' e3'
      subst e1'
      have d1 := hcell k hlt1
      have d2 := hcell' k hlt1
      obtain ⟨z, hz⟩ : ∃ z, z = zs[k] := ⟨_, rfl⟩
      rw [← hz] at d1 d2
      clear hcell hcell' e2 e3 e2' e3' hz hbl
      cases z
      all_goals
        go_wp2
        go_quiet (fail)
        go_wp2
        go_roundw
        case rel => exact ⟨k + 1, by go_num, by omega, belowN2 HBL.out nq⟩
        case measure => simp [intOf] <;> omega
    · have hkI : ¬ (k : Int) < n := by omega
      clear hbl
      go_wp2
      go_ret
      exact ⟨rfl, HBL.out⟩
set_option maxRecDepth 4000 in
set_option maxHeartbeats 4000000 in
theorem sameT_eq (w : World) (t : Tb) (va vn va' vn' : Value) (h : TabIn w t va vn) (h' : TabIn w t va' vn') (hs : Small t) :
    Calls Try.prog 10 #[tv t va vn, tv t va' vn'] w fun e w' => e = .returned (.bool true) ∧ Below w.heap.size w w' := by
  obtain ⟨f, b, st, cls, acc, next⟩ := t
  obtain ⟨ha, ⟨us, hul, hu, hr⟩⟩ := h
  obtain ⟨ha', ⟨us', hul', hu', hr'⟩⟩ := h'
  obtain ⟨s1, s2, s3, s4⟩ := hs
  simp only at *
  obtain ⟨a, ca, rfl⟩ := ha.form
  obtain ⟨a', ca', rfl⟩ := ha'.form
  obtain ⟨an, cn, rfl⟩ := hu.form
  obtain ⟨an', cn', rfl⟩ := hu'.form
  rw [hul] at hu ⊢
  rw [hul'] at hu' ⊢
  obtain ⟨n, hn⟩ : ∃ n, n = next.length := ⟨_, rfl⟩
  rw [← hn] at hu hu' hul hul' s2 ⊢
  have HN : Hid (n = next.length ∧ us.length = n ∧ us'.length = n) := ⟨hn, hul, hul'⟩
  obtain ⟨w1, hw1⟩ : ∃ w1, w1 = (w.alloc (.cells #[.bool f, .bool b, .int .i64 st, .string (ba cls), .slice a acc.length ca, .slice an n cn] 30)).alloc (.cells #[.bool f, .bool b, .int .i64 st, .string (ba cls), .slice a' acc.length ca', .slice an' n cn'] 30) := ⟨_, rfl⟩
  have hB1 : Below w.heap.size w w1 := by rw [hw1]; exact ((Below.refl _ _).alloc (Nat.le_refl _) _).alloc (by simp) _
  have hz1 : w1.heap.size = w.heap.size + 2 := by rw [hw1]; simp
  have HX1 : Hid (∀ w', Below w1.heap.size w1 w' → w'.heap[w.heap.size]? = some (.cells #[.bool f, .bool b, .int .i64 st, .string (ba cls), .slice a acc.length ca, .slice an n cn] 30)) := fun w' hb => by
    rw [hb.block _ (by omega), hw1]
    exact (Below.heap_alloc (w.alloc _) _ _ (by simp)).trans (heap_alloc_new w _)
  have HX2 : Hid (∀ w', Below w1.heap.size w1 w' → w'.heap[w.heap.size + 1]? = some (.cells #[.bool f, .bool b, .int .i64 st, .string (ba cls), .slice a' acc.length ca', .slice an' n cn'] 30)) := fun w' hb => by
    rw [hb.block _ (by omega), hw1]
    have := heap_alloc_new (w.alloc (.cells #[.bool f, .bool b, .int .i64 st, .string (ba cls), .slice a acc.length ca, .slice an n cn] 30)) (.cells #[.bool f, .bool b, .int .i64 st, .string (ba cls), .slice a' acc.length ca', .slice an' n cn'] 30)
    rw [World.size_alloc] at this
    exact this
  have HW1 : Hid (w1 = (w.alloc (.cells #[.bool f, .bool b, .int .i64 st, .string (ba cls), .slice a acc.length ca, .slice an n cn] 30)).alloc (.cells #[.bool f, .bool b, .int .i64 st, .string (ba cls), .slice a' acc.length ca', .slice an' n cn'] 30)) := hw1
  have HST : Hid (∀ w', Below w1.heap.size w1 w' → Below w.heap.size w w') := fun w' hb => hB1.trans (hb.mono (by omega))
  have HU : Hid (RowE id w (.slice an n cn) us) := hu
  have HU' : Hid (RowE id w (.slice an' n cn') us') := hu'
  have HR : Hid (∀ j (h1 : j < us.length) (h2 : j < next.length), RowE eI w us[j] next[j]) := hr
  have HR' : Hid (∀ j (h1 : j < us'.length) (h2 : j < next.length), RowE eI w us'[j] next[j]) := hr'
  have HSB : Hid (Calls Try.prog 25 #[.slice a acc.length ca, .slice a' acc.length ca'] w1 fun e w' => e = .returned (.bool true) ∧ Below w1.heap.size w1 w') := sameB_eq w1 _ _ acc (ha.below hB1) (ha'.below hB1) s1
  have HS3 : Hid (∀ r ∈ next, r.length ≤ maxLen) := s3
  unfold maxLen at s1 s2
  clear hw1 hB1 hu hu' hr hr' ha ha' hul hul' hn s3
  have hbeq : (ba cls).toList = cls := ByteArray.toList_mk cls
  go_enter Try.func10, Try.ntmps10
  go_wp2_with (go_at_call 25; rw [← HW1.out]; refine HSB.out.mono ?_; rintro e w2 ⟨rfl, hb2⟩; have HB2 : Hid (Below w1.heap.size w1 w2) := hb2; obtain ⟨p0, p1, p2, p3, p4, p5⟩ := box6 (HX1.out w2 hb2); obtain ⟨q0, q1, q2, q3, q4, q5⟩ := box6 (HX2.out w2 hb2); clear hb2)
  clear p0 p1 p2 p3 p4 p5 q0 q1 q2 q3 q4 q5
  go_loopw [6, 7] (fun i _ wr => ∃ k : Nat, i = .int .i64 k ∧ k ≤ n ∧ Below w1.heap.size w1 wr) (fun i _ _ => n - (intOf i).toNat)
  case atStart => exact ⟨0, rfl, Nat.zero_le _, HB2.out⟩
  case round =>
    obtain ⟨k, rfl, hk, hbl⟩ := hrel
    have HBL : Hid (Below w1.heap.size w1 wr) := hbl
    obtain ⟨t0, t1, t2, t3, t4, p5⟩ := box6 (HX1.out wr hbl)
    obtain ⟨t0', t1', t2', t3', t4', q5⟩ := box6 (HX2.out wr hbl)
    clear t0 t1 t2 t3 t4 t0' t1' t2' t3' t4'
    by_cases hlt : k < n
    · have hltI : (k : Int) < n := by omega
      have hl1 : k < us.length := by have := HN.out; omega
      have hl2 : k < us'.length := by have := HN.out; omega
      have hl3 : k < next.length := by have := HN.out; omega
      have hbw := HST.out wr hbl
      obtain ⟨b1, o1, x1, hform, hcell⟩ := (HU.out.below hbw).nonnil (by omega)
      injection hform with e1 e2 e3
      subst e1
      obtain ⟨b2, o2, x2, hform', hcell'⟩ := (HU'.out.below hbw).nonnil (by omega)
      injection hform' with e1' e2' e3'
      subst e1'
      have d1 := hcell k hl1
      have d2 := hcell' k hl2
      have r1 := (HR.out k hl1 hl3).below hbw
      have r2 := (HR'.out k hl2 hl3).below hbw
      have hsm := HS3.out next[k] (List.getElem_mem hl3)
      obtain ⟨u1, hu1⟩ : ∃ u1, u1 = us[k] := ⟨_, rfl⟩
      obtain ⟨u2, hu2⟩ : ∃ u2, u2 = us'[k] := ⟨_, rfl⟩
      obtain ⟨r, hr⟩ : ∃ r, r = next[k] := ⟨_, rfl⟩
      rw [← hu1] at d1 r1
      rw [← hu2] at d2 r2
      rw [← hr] at r1 r2 hsm
      simp only [id] at d1 d2
      have HSI : Hid (Calls Try.prog 26 #[u1, u2] wr.drew fun e w' => e = .returned (.bool true) ∧ Below wr.drew.heap.size wr.drew w') := sameI_eq _ _ _ r (r1.below ((Below.refl _ _).drew)) (r2.below ((Below.refl _ _).drew)) hsm
      clear hcell hcell' e2 e3 e2' e3' hu1 hu2 hr hbl hbw r1 r2 hsm
      go_wp2
      clear hl1 hl2 hl3 hk hlt
      go_region_held3 (fun w' => w'.cell? ⟨w.heap.size, 5, none⟩ = some (.slice (some ⟨b1, o1, none⟩) n cn) ∧ w'.cell? ⟨w.heap.size + 1, 5, none⟩ = some (.slice (some ⟨b2, o2, none⟩) n cn') ∧ w'.cell? ⟨b1, o1 + k, none⟩ = some u1 ∧ w'.cell? ⟨b2, o2 + k, none⟩ = some u2) (go_keep) ((go_at_call 26; refine HSI.out.mono ?_; rintro e w3 ⟨rfl, hb3⟩; have HB3 : Hid (Below w1.heap.size w1 w3) := HBL.out.drew.trans (hb3.mono HBL.out.size); have hbr : Below wr.heap.size wr w3 := (Below.refl _ _).drew.trans hb3; have p5' := cell_below hbr p5; have q5' := cell_below hbr q5; have d1' := cell_below hbr d1; have d2' := cell_below hbr d2; clear hb3 hbr))
      go_wp2
      go_roundw
      case rel => exact ⟨k + 1, by go_num, by omega, HB3.out⟩
      case measure => simp [intOf] <;> omega
    · have hkI : ¬ (k : Int) < n := by omega
      clear hbl
      go_wp2
      go_ret
      exact ⟨rfl, HST.out _ HBL.out⟩
end Go.Proofs.Ytbjabpodkaokjaa

namespace Go.Proofs.Ytbjabpodkaokjaa
open Go.RowKit

def T0 : Tb := ⟨false, false, 1, List.replicate 256 0, [true, false], [[1], [0]]⟩
set_option maxRecDepth 100000 in
theorem T0_is : isTb T0 = true := by kernel_rfl
theorem T0_last : lastI (endsL T0 [120, 120, 120, 120]) = 3 := by kernel_rfl
theorem T0_small : Small T0 := ⟨by decide, by decide, by decide, by unfold T0; rw [List.length_replicate]; unfold maxLen; omega⟩
theorem conv0 {w : World} {g n : Nat} (h : Nw w g n (fun _ => .int .u8 0)) : (convert 46 9 (.slice (some ⟨g, 0, none⟩) n n)).run Try.prog w = .ok (.string (ba (List.replicate n 0))) w := by
  have := run_convert_bytes_back (P := Try.prog) w 46 9 5 ⟨g, 0, none⟩ n (List.replicate n 0) Try.underlying46 und_byte und_str (by
    intro j hj
    have hj' : j < n := by simpa using hj
    have e : (⟨g, 0, none⟩ : Addr).add j = ⟨g, j, none⟩ := by unfold Addr.add; split <;> simp_all
    rw [e, h.c j hj']
    simp)
  rw [List.length_replicate] at this
  exact this
def kw (w : World) : World :=
  ((((w.alloc (.cells (mkA 256 (.int .u8 0)) 5)).alloc (.cells #[.bool true, .bool false] 4)).alloc (.cells #[.int .i64 1] 3)).alloc (.cells #[.int .i64 0] 3)).alloc (.cells #[.slice (some ⟨w.heap.size + 1 + 1, 0, none⟩) 1 1, .slice (some ⟨w.heap.size + 1 + 1 + 1, 0, none⟩) 1 1] 39)
theorem kw_below (w : World) : Below w.heap.size w (kw w) :=
  (((((Below.refl _ _).alloc (Nat.le_refl _) _).alloc (by simp) _).alloc (by simp; omega) _).alloc (by simp; omega) _).alloc (by simp; omega) _
theorem cell_new {w : World} {k j : Nat} (cs : Array Value) (t : TypeId) (hk : k = w.heap.size) : (w.alloc (.cells cs t)).cell? ⟨k, j, none⟩ = cs[j]? := World.cell?_alloc_at _ _ _ _ hk
theorem cell_up {w : World} {k j : Nat} {v : Value} (o : Obj) (h : w.cell? ⟨k, j, none⟩ = some v) : (w.alloc o).cell? ⟨k, j, none⟩ = some v := cell_below ((Below.refl _ _).alloc (Nat.le_refl _) _) h
theorem kw_tab (w : World) (z : List UInt8) : TabIn (kw w) ⟨false, false, 1, z, [true, false], [[1], [0]]⟩ (.slice (some ⟨w.heap.size + 1, 0, none⟩) 2 2) (.slice (some ⟨w.heap.size + 1 + 1 + 1 + 1, 0, none⟩) 2 2) := by
  refine ⟨.inr ⟨_, 0, 2, rfl, fun j hj => ?_⟩, [.slice (some ⟨w.heap.size + 1 + 1, 0, none⟩) 1 1, .slice (some ⟨w.heap.size + 1 + 1 + 1, 0, none⟩) 1 1], rfl, .inr ⟨_, 0, 2, rfl, fun j hj => ?_⟩, fun j h1 h2 => .inr ?_⟩
  · unfold kw
    refine cell_up _ (cell_up _ (cell_up _ ?_))
    rw [cell_new _ _ (by simp)]
    match j, hj with
    | 0, _ => rfl
    | 1, _ => rfl
  · unfold kw
    rw [cell_new _ _ (by simp)]
    match j, hj with
    | 0, _ => rfl
    | 1, _ => rfl
  · match j, h1 with
    | 0, _ =>
      refine ⟨_, 0, 1, rfl, fun j hj => ?_⟩
      unfold kw
      refine cell_up _ (cell_up _ ?_)
      rw [cell_new _ _ (by simp)]
      match j, hj with
      | 0, _ => rfl
    | 1, _ =>
      refine ⟨_, 0, 1, rfl, fun j hj => ?_⟩
      unfold kw
      refine cell_up _ ?_
      rw [cell_new _ _ (by simp)]
      match j, hj with
      | 0, _ => rfl
set_option maxRecDepth 4000 in
set_option maxHeartbeats 4000000 in
theorem known_yes (w : World) : Calls Try.prog 5 #[] w fun e w' => e = .returned (.bool true) ∧ Below w.heap.size w w' := by
  obtain ⟨i0, hi, hz0, hz1, hz2⟩ := info_parts Try.infoU8
  have hmk : ∀ w, (Instr.makeSlice 46 (.int .i64 256) (.int .i64 256)).run Try.prog w = .ok (.slice (some ⟨w.heap.size, 0, none⟩) 256 256) (w.alloc (.cells (mkA 256 (.int .u8 0)) 5)) := fun w => make_eq Try.underlying46 hi hz0 hz1 hz2 256 (by omega) (by unfold maxLen; omega) w
  have hcv := conv0 (Nw.new w 256 (.int .u8 0) rfl 5)
  obtain ⟨z, hz⟩ : ∃ z, z = List.replicate 256 (0 : UInt8) := ⟨_, rfl⟩
  rw [← hz] at hcv
  clear hi hz0 hz1 hz2
  have HBY : Hid (Calls Try.prog 16 #[tv ⟨false, false, 1, z, [true, false], [[1], [0]]⟩ (.slice (some ⟨w.heap.size + 1, 0, none⟩) 2 2) (.slice (some ⟨w.heap.size + 1 + 1 + 1 + 1, 0, none⟩) 2 2)] (kw w) fun e w' => ∃ m c, e = .returned (.tuple #[.pointer (some ⟨m, 0, none⟩), .int .i64 0]) ∧ Mch w' m T0 c ∧ Below w.heap.size w w') := by
    subst hz
    refine (build_yes (kw w) T0 _ _ (kw_tab w _) T0_small T0_is).mono ?_
    rintro e w' ⟨m, c, rfl, hm, _, hb⟩
    exact ⟨m, c, rfl, hm, (kw_below w).trans (hb.mono (kw_below w).size)⟩
  clear hz
  have HLA : Hid (∀ w m c, Mch w m T0 c → Calls Try.prog 15 #[.pointer (some ⟨m, 0, none⟩), .string ⟨#[120, 120, 120, 120]⟩] w fun e w' => e = .returned (.tuple #[.int .i64 3, .int .i64 0]) ∧ Below w.heap.size w w') := fun w m c h => by
    have := longest_any w m T0 c h [120, 120, 120, 120] (by simp [maxLen])
    rw [T0_last] at this
    exact this
  go_enter Try.func5, Try.ntmps5
  go_wp2_with (first | (go_at_call 16; refine HBY.out.mono ?_; rintro e w1 ⟨m, c, rfl, hm, hb⟩; have HM : Hid (Mch w1 m T0 c) := hm; have HB : Hid (Below w.heap.size w w1) := hb; clear hm hb) | (go_at_call 15; refine (HLA.out _ _ _ HM.out).mono ?_; rintro e w2 ⟨rfl, hb2⟩; have HB2 : Hid (Below w.heap.size w w2) := HB.out.trans (hb2.mono HB.out.size); clear hb2))
  go_ret
  exact ⟨rfl, HB2.out⟩
end Go.Proofs.Ytbjabpodkaokjaa
