import Derived.Test.YtbjabpodkaokjaaGreatDoorJ21
import Derived.Test.YtbjabpodkaokjaaGreatDoorJ25
import Derived.Test.YtbjabpodkaokjaaGreatDoorJ24
import Derived.Test.YtbjabpodkaokjaaGreatDoorJ17
import Derived.Test.YtbjabpodkaokjaaGreatDoorJ22
set_option linter.unusedVariables false
set_option linter.unusedSimpArgs false
namespace Go.Proofs.YtbjabpodkaokjaaGreatDoor
open Go.RowKit

/-- The ends that are met before the place k, with the last one where k is behind it. -/
def eK (t : Tb) (l : List UInt8) (k : Nat) : List Nat := if k ≤ l.length then eP t l k else endsL t l
theorem eK_zero (t : Tb) (l : List UInt8) : eK t l 0 = [] := by unfold eK; rw [if_pos (Nat.zero_le _)]; simp [eP]
theorem eK_end (t : Tb) (l : List UInt8) : eK t l (l.length + 1) = endsL t l := by unfold eK; rw [if_neg (by omega)]
theorem eK_hit {t : Tb} {l : List UInt8} {k : Nat} (hk : k ≤ l.length) (ha : accN t (stL t (l.take k)) = true) (hb : t.back = false ∨ k = l.length) : eK t l (k + 1) = eK t l k ++ [k] := by
  unfold eK
  rw [if_pos hk]
  by_cases h : k = l.length
  · rw [if_neg (by omega)]
    unfold endsL
    rw [h, List.take_length] at ha
    rw [if_pos ha, h]
  · rw [if_pos (by omega), eP_succ]
    have : t.back = false := by rcases hb with q | q; exact q; exact absurd q h
    rw [this, ha]; simp
theorem eK_miss {t : Tb} {l : List UInt8} {k : Nat} (hk : k ≤ l.length) (h : accN t (stL t (l.take k)) = false ∨ (t.back = true ∧ k < l.length)) : eK t l (k + 1) = eK t l k := by
  unfold eK
  rw [if_pos hk]
  by_cases hq : k = l.length
  · rw [if_neg (by omega)]
    have ha : accN t (stL t (l.take k)) = false := by rcases h with q | q; exact q; omega
    rw [hq, List.take_length] at ha
    unfold endsL
    rw [ha, hq]; simp
  · rw [if_pos (by omega), eP_succ]
    rcases h with q | q
    · rw [q]; simp
    · rw [q.1]; simp
theorem RowE.at {α : Type} {enc : α → Value} {w : World} {b o n c : Nat} {l : List α} (h : RowE enc w (.slice (some ⟨b, o, none⟩) n c) l) (j : Nat) (hj : j < l.length) : w.cell? ⟨b, o + j, none⟩ = some (enc l[j]) := by
  obtain ⟨b', o', c', hf, hc⟩ := h.nonnil (by omega)
  injection hf with e1 _ _
  injection e1 with e1
  injection e1 with e1 e2 e3
  subst e1
  subst e2
  exact hc j hj
theorem firstI_new {l : List Nat} (k : Nat) (h : firstI l < 0) : firstI (l ++ [k]) = k := by
  cases l with
  | nil => rfl
  | cons x r => simp only [firstI] at h; omega
theorem firstI_old {l : List Nat} (k : Nat) (h : ¬ firstI l < 0) : firstI (l ++ [k]) = firstI l := by
  cases l with
  | nil => simp [firstI] at h
  | cons x r => rfl
theorem firstI_is (l : List Nat) : (!l.isEmpty) = decide (0 ≤ firstI l) := by
  cases l with
  | nil => simp [firstI]
  | cons x r => simp [firstI]
end Go.Proofs.YtbjabpodkaokjaaGreatDoor

namespace Go.Proofs.YtbjabpodkaokjaaGreatDoor
open Go.RowKit

def iL (l : List Nat) : List Int := l.map fun n : Nat => (n : Int)
theorem iL_snoc (l : List Nat) (k : Nat) : iL (l ++ [k]) = iL l ++ [(k : Int)] := by simp [iL]
theorem eK_len (t : Tb) (l : List UInt8) (k : Nat) (hk : k ≤ l.length) : (eK t l k).length ≤ k := by unfold eK; rw [if_pos hk]; exact eP_len t l k
theorem ownsRow_drewN {w : World} {base n size : Nat} {v : Value} {e : TypeId} {xs : List Value} (h : w.ownsRow base e size v n xs) (q : Nat) : (w.drewN q).ownsRow base e size v n xs :=
  h.kept (w' := w.drewN q) (row := none) ⟨rfl, rfl, rfl, Nat.le_refl _, fun _ _ _ => rfl⟩ (by cases v.ownBlock <;> simp)
set_option maxRecDepth 4000 in
set_option maxHeartbeats 4000000 in
theorem ends_ref (w : World) (t : Tb) (c : Nat) (va vn : Value) (h : TabIn w t va vn) (hok : TbOk t c) (tx : List UInt8) (htx : tx.length ≤ 1048576) :
    Calls Tryz.prog 119 #[tv t va vn, .string (ba tx)] w fun e w' => ∃ v, e = .returned v ∧ IRow w' w.heap.size v (iL (endsL t tx)) ∧ Below w.heap.size w w' := by
  obtain ⟨i0, hi0, hz0, hz1, hz2⟩ := info_parts Tryz.infoI
  have hts := ba_size tx
  obtain ⟨n, hn⟩ : ∃ n, n = tx.length := ⟨_, rfl⟩
  rw [← hn] at hts htx
  have HN : Hid (n = tx.length) := hn
  have HOK : Hid (TbOk t c) := hok
  obtain ⟨ha, us, hul, hu, hr⟩ := h
  obtain ⟨a, ca, rfl⟩ := ha.form
  obtain ⟨an, cn, rfl⟩ := hu.form
  rw [hul] at hu ⊢
  obtain ⟨w1, hw1⟩ : ∃ w1, w1 = w.alloc (.cells #[.bool t.front, .bool t.back, .int .i64 t.start, .string (ba t.cls), .slice a t.acc.length ca, .slice an t.next.length cn] 33) := ⟨_, rfl⟩
  have hb1 : Below w.heap.size w w1 := by rw [hw1]; exact (Below.refl _ _).alloc (Nat.le_refl _) _
  have hs1 : w1.heap.size = w.heap.size + 1 := by rw [hw1]; simp
  have HX : Hid (∀ w', Below w1.heap.size w1 w' → w'.heap[w.heap.size]? = some (.cells #[.bool t.front, .bool t.back, .int .i64 t.start, .string (ba t.cls), .slice a t.acc.length ca, .slice an t.next.length cn] 33)) := fun w' hb => by
    rw [hb.block _ (by omega), hw1]
    exact heap_alloc_new w _
  have HST : Hid (∀ w', Below w1.heap.size w1 w' → Below w.heap.size w w') := fun w' hb => hb1.trans (hb.mono (by omega))
  have HW : Hid (w1 = w.alloc (.cells #[.bool t.front, .bool t.back, .int .i64 t.start, .string (ba t.cls), .slice a t.acc.length ca, .slice an t.next.length cn] 33)) := hw1
  have HA : Hid (RowE eB w (.slice a t.acc.length ca) t.acc) := ha
  have HU : Hid (RowE id w (.slice an t.next.length cn) us) := hu
  have HR : Hid (∀ j (h1 : j < us.length) (h2 : j < t.next.length), RowE eI w us[j] t.next[j]) := hr
  have HUL : Hid (us.length = t.next.length) := hul
  obtain ⟨aB, aO, aC, hfa, hca⟩ := ha.nonnil (by have := hok.a1; omega)
  obtain ⟨nB, nO, nC, hfn, hcn⟩ := hu.nonnil (by have := hok.a1; have := hok.n; omega)
  injection hfa with e1 e2 e3
  injection hfn with f1 f2 f3
  subst e1 f1
  have HS1 : Hid (w1.heap.size = w.heap.size + 1) := hs1
  clear hca hcn e2 e3 f2 f3 hw1 hb1 ha hu hr hok hn hul hs1
  obtain ⟨p0, p1, p2, p3, p4, p5⟩ := box6 (HX.out w1 (Below.refl _ _))
  go_enter Tryz.func119, Tryz.ntmps119
  go_wp2
  rw [← HW.out]
  clear p0 p1 p2 p3 p4 p5
  go_loopw [5, 6, 7] (fun v s i wr => ∃ k : Nat, i = .int .i64 k ∧ k ≤ n + 1 ∧ IRow wr w1.heap.size v (iL (eK t tx k)) ∧ s = .int .i64 (stL t (tx.take k)) ∧ Below w1.heap.size w1 wr) (fun _ _ i _ => n + 1 - (intOf i).toNat)
  case atStart =>
    refine ⟨0, rfl, by omega, by rw [eK_zero]; exact World.ownsRow_nil _ _ _ _, ?_, Below.refl _ _⟩
    have := HOK.out.s1
    show Value.int .i64 t.start = .int .i64 (t.start.toNat : Int)
    rw [Int.toNat_of_nonneg this]
  case round =>
    obtain ⟨k, rfl, hk, hir, rfl, hbl⟩ := hrel
    have HBL : Hid (Below w1.heap.size w1 wr) := hbl
    have hsw := hbl.size
    by_cases hle : k ≤ n
    · have hleI : (k : Int) ≤ n := by omega
      have hkl : k ≤ tx.length := by have := HN.out; omega
      have hel : (iL (eK t tx k)).length ≤ n := by have := eK_len t tx k hkl; simp [iL]; omega
      have hsl := HOK.out.stL (tx.take k)
      have h256 := HOK.out.c256
      have hnx := HOK.out.n
      have hbw := HST.out wr hbl
      obtain ⟨t0, q1, t2, t3, q4, t5⟩ := box6 (HX.out wr hbl)
      clear t0 t2 t3 t5
      have d1 := (HA.out.below hbw).at (stL t (tx.take k)) hsl
      have hav : accN t (stL t (tx.take k)) = t.acc[stL t (tx.take k)] := by simp [accN, hsl]
      obtain ⟨av, hae⟩ : ∃ av, av = t.acc[stL t (tx.take k)] := ⟨_, rfl⟩
      rw [← hae] at d1 hav
      have HAV : Hid (accN t (stL t (tx.take k)) = av) := hav
      obtain ⟨s, hs⟩ : ∃ s, s = stL t (tx.take k) := ⟨_, rfl⟩
      obtain ⟨bk, hbk⟩ : ∃ bk, bk = t.back := ⟨_, rfl⟩
      have HBK : Hid (t.back = bk) := hbk.symm
      rw [← hs] at hsl d1 ⊢
      rw [← hbk] at q1
      have hsI : (s : Int) < t.acc.length := by omega
      have hsN : (s : Int) < t.next.length := by omega
      obtain ⟨S, hSS⟩ : ∃ S, S = iL (eK t tx k) := ⟨_, rfl⟩
      have HSS : Hid (S = iL (eK t tx k)) := hSS
      rw [← hSS] at hir hel
      obtain ⟨a5, c5, hform5⟩ := ownsRow_shape hir
      subst hform5
      have HIR : Hid (IRow wr w1.heap.size (.slice a5 S.length c5) S) := hir
      by_cases hlt : k < n
      · have hltI : (k : Int) < n := by omega
        have hneI : ((k : Int) == n) = false := by simp; omega
        have hl1 : k < tx.length := by have := HN.out; omega
        obtain ⟨bb, hb'⟩ : ∃ b, b = tx[k] := ⟨_, rfl⟩
        have hbx : ∀ h : k < (ba tx).size, ((ba tx)[k]'h).toNat = bb.toNat := fun h => by rw [hb']; rfl
        have hb8 := bb.toNat_lt
        have hcl : bb.toNat < t.cls.length := by omega
        have hxc := HOK.out.cls bb
        rw [List.getElem?_eq_getElem hcl, Option.getD_some] at hxc
        have hcz : (ba t.cls).size = 256 := by rw [ba_size]; omega
        have hsu : s < us.length := by have := HUL.out; omega
        have hsx : s < t.next.length := by omega
        have hrow := HOK.out.r t.next[s] (List.getElem_mem hsx)
        obtain ⟨rb, ro, rc, hform, hcell⟩ := (HR.out s hsu hsx).nonnil (by rw [hrow.1]; omega)
        have hxr : t.cls[bb.toNat].toNat < t.next[s].length := by rw [hrow.1]; exact hxc
        have d3 := hcell _ hxr
        have hz := hrow.2 _ (List.getElem_mem hxr)
        have d2 := HU.out.at s hsu
        simp only [id] at d2
        have HST2 : Hid (stL t (tx.take (k + 1)) = stp t s bb) := by
          show _ = _
          rw [List.take_succ_eq_append_getElem hl1, stL_snoc, ← hs, ← hb']
        have hstp : (stp t s bb : Int) = t.next[s][t.cls[bb.toNat].toNat] := by
          unfold stp
          rw [List.getElem?_eq_getElem hsx, Option.getD_some, List.getElem?_eq_getElem hcl, Option.getD_some, List.getElem?_eq_getElem hxr, Option.getD_some]
          omega
        rw [← hstp] at d3
        rw [hform, hrow.1] at d2
        obtain ⟨xx, hxx⟩ : ∃ x, x = t.cls[bb.toNat].toNat := ⟨_, rfl⟩
        have hcx : ∀ h : bb.toNat < (ba t.cls).size, ((ba t.cls)[bb.toNat]'h).toNat = xx := fun h => by rw [hxx]; rfl
        rw [← hxx] at d3 hxc
        have hx8 : xx < 256 := by omega
        have hxI : (xx : Int) < c := by omega
        have hbI : (bb.toNat : Int) < 256 := by omega
        simp only [eI] at d3
        generalize stp t s bb = s2 at *
        have HCE : Hid (∀ w', Below w1.heap.size w1 w' → (w'.cell? ⟨w.heap.size, 3, none⟩ = some (.string (ba t.cls)) ∧ w'.cell? ⟨w.heap.size, 5, none⟩ = some (.slice (some ⟨nB, nO, none⟩) t.next.length cn)) ∧ w'.cell? ⟨nB, nO + s, none⟩ = some (.slice (some ⟨rb, ro, none⟩) c rc) ∧ w'.cell? ⟨rb, ro + xx, none⟩ = some (.int .i64 s2)) := fun w' hb => by
          obtain ⟨_, _, _, g3, _, g5⟩ := box6 (HX.out w' hb)
          exact ⟨⟨g3, g5⟩, cell_below (HST.out w' hb) d2, cell_below (HST.out w' hb) d3⟩
        clear hnx h256 hsl hb' hcl hsu hsx hrow hform hcell hxr hz hstp hxx hae hav hs hbk hSS hir hbl hbw hl1 d2 d3
        cases av with
        | false =>
          have HM : Hid (eK t tx (k + 1) = eK t tx k) := eK_miss hkl (.inl HAV.out)
          obtain ⟨⟨q3, q5⟩, d2, d3⟩ := HCE.out wr HBL.out
          go_wp2
          go_quiet (fail)
          go_wp2
          go_roundw
          case rel => exact ⟨k + 1, by go_num, by omega, by rw [HM.out, ← HSS.out]; exact ownsRow_drewN HIR.out nq, by rw [HST2.out], belowN2 HBL.out nq⟩
          case measure => simp [intOf] <;> omega
        | true =>
          cases bk with
          | true =>
            have HM : Hid (eK t tx (k + 1) = eK t tx k) := eK_miss hkl (.inr ⟨HBK.out, by have := HN.out; omega⟩)
            obtain ⟨⟨q3, q5⟩, d2, d3⟩ := HCE.out wr HBL.out
            go_wp2
            go_quiet (fail)
            go_wp2
            go_roundw
            case rel => exact ⟨k + 1, by go_num, by omega, by rw [HM.out, ← HSS.out]; exact ownsRow_drewN HIR.out nq, by rw [HST2.out], belowN2 HBL.out nq⟩
            case measure => simp [intOf] <;> omega
          | false =>
            have HM : Hid (eK t tx (k + 1) = eK t tx k ++ [k]) := eK_hit hkl HAV.out (.inl HBK.out)
            go_wp2_with (at_builtin; refine wpList_append_lies _ rfl (.tmp 32) (.tmp 34) 40 rfl w1.heap.size 3 i0 (.int .i64 0) 1 8 Tryz.underlying40 hi0 hz0 hz1 hz2 rfl (by decide) (.slice a5 S.length c5) S.length (S.map eI) rfl (World.ownsRow.alloc HIR.out _) ⟨wr.heap.size, 0, none⟩ 1 1 [.int .i64 (k : Int)] rfl rfl (one_cell_new _ _ _) (by simp [Value.oneCell']) (by omega) (by unfold maxLen; omega) (by omega) (by simp; omega) _ rfl ?_)
            intro g1 cap1 w4 hown hgr hat hlt4
            have HI4 : Hid (IRow w4 w1.heap.size (.slice (some ⟨g1, 0, none⟩) (S.length + 1) cap1) (S ++ [(k : Int)])) := irow_snoc hown rfl
            have HB4 : Hid (Below w1.heap.size w1 w4) := below_grown (HBL.out.alloc hsw _) hgr (by simp; omega) (fun q e => (HIR.out.lt q e).1)
            obtain ⟨⟨q3, q5⟩, d2, d3⟩ := HCE.out w4 HB4.out
            clear hown hgr hat q1 q4 d1
            go_wp2
            go_quiet (fail)
            go_wp2
            go_roundw
            case rel => exact ⟨k + 1, by go_num, by omega, by rw [HM.out, iL_snoc, ← HSS.out]; exact ownsRow_drewN HI4.out nq, by rw [HST2.out], belowN2 HB4.out nq⟩
            case measure => simp [intOf] <;> omega
      · have hke : k = n := by omega
        have hltI : ¬ (k : Int) < n := by omega
        have hneI : ((k : Int) == n) = true := by simp; omega
        have hkt : k = tx.length := by have := HN.out; omega
        have HST2 : Hid (stL t (tx.take (k + 1)) = s) := by
          show _ = _
          rw [hs, List.take_of_length_le (by omega), List.take_of_length_le (by omega)]
        have HKT : Hid (k = tx.length) := hkt
        clear hnx h256 hsl hae hav hs hbk hSS hir hbl hbw hkt hke
        cases av with
        | false =>
          have HM : Hid (eK t tx (k + 1) = eK t tx k) := eK_miss hkl (.inl HAV.out)
          go_wp2
          go_roundw
          case rel => exact ⟨k + 1, by go_num, by omega, by rw [HM.out, ← HSS.out]; exact HIR.out, by rw [HST2.out], HBL.out⟩
          case measure => simp [intOf] <;> omega
        | true =>
          have HM : Hid (eK t tx (k + 1) = eK t tx k ++ [k]) := eK_hit hkl HAV.out (.inr HKT.out)
          cases bk
          all_goals
            go_wp2_with (at_builtin; refine wpList_append_lies _ rfl (.tmp 32) (.tmp 34) 40 rfl w1.heap.size 3 i0 (.int .i64 0) 1 8 Tryz.underlying40 hi0 hz0 hz1 hz2 rfl (by decide) (.slice a5 S.length c5) S.length (S.map eI) rfl (World.ownsRow.alloc HIR.out _) ⟨wr.heap.size, 0, none⟩ 1 1 [.int .i64 (k : Int)] rfl rfl (one_cell_new _ _ _) (by simp [Value.oneCell']) (by omega) (by unfold maxLen; omega) (by omega) (by simp; omega) _ rfl ?_)
            intro g1 cap1 w4 hown hgr hat hlt4
            have HI4 : Hid (IRow w4 w1.heap.size (.slice (some ⟨g1, 0, none⟩) (S.length + 1) cap1) (S ++ [(k : Int)])) := irow_snoc hown rfl
            have HB4 : Hid (Below w1.heap.size w1 w4) := below_grown (HBL.out.alloc hsw _) hgr (by simp; omega) (fun q e => (HIR.out.lt q e).1)
            clear hown hgr hat q1 q4 d1
            go_wp2
            go_roundw
            case rel => exact ⟨k + 1, by go_num, by omega, by rw [HM.out, iL_snoc, ← HSS.out]; exact HI4.out, by rw [HST2.out], HB4.out⟩
            case measure => simp [intOf] <;> omega
    · have hleI : ¬ (k : Int) ≤ n := by omega
      have hkn : k = n + 1 := by omega
      have HEE : Hid (eK t tx k = endsL t tx) := by show _ = _; rw [hkn, HN.out, eK_end]
      have HIR : Hid (IRow wr w.heap.size u5 (iL (endsL t tx))) := by rw [← HEE.out]; exact ow_mono hir (by have := HS1.out; omega)
      clear hkn hbl hir
      go_wp2
      go_ret
      exact ⟨_, rfl, HIR.out, HST.out _ HBL.out⟩
end Go.Proofs.YtbjabpodkaokjaaGreatDoor

namespace Go.Proofs.YtbjabpodkaokjaaGreatDoor
open Go.RowKit

set_option maxHeartbeats 1000000 in
theorem ismatch_nil (w : World) (x : ByteArray) :
    Calls Tryz.prog 39 #[.pointer none, .string x] w fun e w' => e = .returned (.tuple #[.bool false, .int .i64 1]) ∧ Below w.heap.size w w' := by
  go_enter Tryz.func39, Tryz.ntmps39
  go_wp2
  go_ret2
  exact ⟨rfl, Below.refl _ _⟩
set_option maxHeartbeats 1000000 in
theorem shortest_nil (w : World) (x : ByteArray) :
    Calls Tryz.prog 55 #[.pointer none, .string x] w fun e w' => e = .returned (.tuple #[.int .i64 0, .int .i64 1]) ∧ Below w.heap.size w w' := by
  go_enter Tryz.func55, Tryz.ntmps55
  go_wp2
  go_ret2
  exact ⟨rfl, Below.refl _ _⟩
set_option maxHeartbeats 1000000 in
theorem longest_nil (w : World) (x : ByteArray) :
    Calls Tryz.prog 56 #[.pointer none, .string x] w fun e w' => e = .returned (.tuple #[.int .i64 0, .int .i64 1]) ∧ Below w.heap.size w w' := by
  go_enter Tryz.func56, Tryz.ntmps56
  go_wp2
  go_ret2
  exact ⟨rfl, Below.refl _ _⟩
set_option maxHeartbeats 1000000 in
theorem encode_nil (w : World) (k : Int) (big : Bool) :
    Calls Tryz.prog 34 #[.pointer none, .int .i64 k, .bool big] w fun e w' => e = .returned (.tuple #[.string ⟨#[]⟩, .int .i64 1]) ∧ Below w.heap.size w w' := by
  go_enter Tryz.func34, Tryz.ntmps34
  go_wp2
  go_ret2
  exact ⟨rfl, Below.refl _ _⟩
set_option maxHeartbeats 1000000 in
theorem encode_arg (w : World) (m : Nat) (k : Int) (big : Bool) (h0 : k ≠ 0) (h1 : k ≠ 1) :
    Calls Tryz.prog 34 #[.pointer (some ⟨m, 0, none⟩), .int .i64 k, .bool big] w fun e w' => e = .returned (.tuple #[.string ⟨#[]⟩, .int .i64 2]) ∧ Below w.heap.size w w' := by
  have z0 : (k != 0) = true := by simpa using h0
  have z1 : (k != 1) = true := by simpa using h1
  go_enter Tryz.func34, Tryz.ntmps34
  go_wp2
  go_ret2
  exact ⟨rfl, Below.refl _ _⟩
set_option maxHeartbeats 1000000 in
theorem mtable_nil (w : World) :
    Calls Tryz.prog 16 #[.pointer none] w fun e w' => e = .returned (.tuple #[tv0, .int .i64 1]) ∧ Below w.heap.size w w' := by
  have HB : Hid (Below w.heap.size w (w.alloc (.cells tc0 33))) := (Below.refl _ _).alloc (Nat.le_refl _) _
  go_enter Tryz.func16, Tryz.ntmps16
  go_wp2
  refine bodyPost_ret (v := .tuple #[tv0, .int .i64 1]) (by simp [results, Tryz.results16, go_sem]) rfl ?_
  exact ⟨rfl, HB.out⟩
def pickN (c : Int) (n : Nat) : Nat := ((if c < 0 then -(c + 1) else c) % n).toNat
theorem pickN_lt (c : Int) (n : Nat) (h : 0 < n) : pickN c n < n := by
  unfold pickN
  have := Int.emod_lt_of_pos (if c < 0 then -(c + 1) else c) (b := n) (by omega)
  have := Int.emod_nonneg (if c < 0 then -(c + 1) else c) (b := n) (by omega)
  omega
set_option maxHeartbeats 1000000 in
theorem pick_any (w : World) (c : Int) (n : Nat) (h1 : -9223372036854775808 ≤ c) (h2 : c ≤ 9223372036854775807) (hn : 0 < n) (hn2 : n ≤ 9223372036854775807) :
    Calls Tryz.prog 65 #[.int .i64 c, .int .i64 n] w fun e w' => e = .returned (.int .i64 (pickN c n)) ∧ w' = w := by
  have hz : ((n : Int) == 0) = false := by simp; omega
  by_cases h0 : c < 0
  · go_enter Tryz.func65, Tryz.ntmps65
    go_wp2
    go_ret
    have e : -((c + 1).tmod (n : Int)) = (pickN c n : Int) := by
      unfold pickN
      rw [if_pos h0, ← Int.neg_tmod, Int.tmod_eq_emod_of_nonneg (by omega), Int.toNat_of_nonneg (Int.emod_nonneg _ (by omega))]
    rw [← e]
    exact ⟨rfl, rfl⟩
  · go_enter Tryz.func65, Tryz.ntmps65
    go_wp2
    go_ret
    have e : c % (n : Int) = (pickN c n : Int) := by
      unfold pickN
      rw [if_neg (by omega), Int.toNat_of_nonneg (Int.emod_nonneg _ (by omega))]
    rw [← e]
    exact ⟨rfl, rfl⟩
end Go.Proofs.YtbjabpodkaokjaaGreatDoor
