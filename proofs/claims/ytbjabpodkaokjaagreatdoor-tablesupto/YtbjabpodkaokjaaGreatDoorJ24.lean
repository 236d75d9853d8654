import Derived.Test.YtbjabpodkaokjaaGreatDoorJ23
import Derived.Test.YtbjabpodkaokjaaGreatDoorJ10
import Derived.Test.YtbjabpodkaokjaaGreatDoorJ13
import Derived.BigQuiet
import Derived.Deep.QuietTactic
import Derived.Deep.RegionHeld3
import Derived.Test.YtbjabpodkaokjaaGreatDoorJ22
set_option linter.unusedVariables false
set_option linter.unusedSimpArgs false
namespace Go.Proofs.YtbjabpodkaokjaaGreatDoor
open Go.RowKit

theorem belowN2 {B : Nat} {w w' : World} (h : Below B w w') (n : Nat) : Below B w (w'.drewN n) := ⟨h.os, h.tape, h.output, h.size, h.block⟩
theorem ba_app (a b : List UInt8) : ba a ++ ba b = ba (a ++ b) := by
  apply ByteArray.ext
  simp [ByteArray.data_append]
theorem rnum2z (w : World) (n : Nat) (z : Int) (hz : z = (n : Int)) (hn : n < 4294967296) (big : Bool) :
    Calls Tryz.prog 167 #[.int .i64 z, .int .i64 2, .bool big] w fun e w' => e = .returned (.string (ba (pr big n))) ∧ Below w.heap.size w w' := by
  subst hz
  rw [← numL2]
  exact rnum2 w n hn big
set_option maxRecDepth 4000 in
set_option maxHeartbeats 1000000 in
theorem dense_ref (w : World) (big : Bool) (v : Value) (zs : List Int) (hv : RowE eI w v zs) (hl : zs.length ≤ 256) (ho : ∀ z ∈ zs, okZ z) :
    Calls Tryz.prog 169 #[v, .int .i64 0, .bool big] w fun e w' => e = .returned (.string (ba (wrRow 0 big zs))) ∧ Below w.heap.size w w' := by
  obtain ⟨a, c, hform⟩ := hv.form
  subst hform
  obtain ⟨n, hn⟩ : ∃ n, n = zs.length := ⟨_, rfl⟩
  have HN : Hid (n = zs.length) := hn
  rw [← hn] at hl ⊢
  have HV : Hid (RowE eI w (.slice a n c) zs) := by show RowE _ _ _ _; rw [hn]; exact hv
  have HE : Hid (wrRow 0 big zs = zs.flatMap fun z => pr big z.toNat) := by show _ = _; rfl
  have HO : Hid (∀ z ∈ zs, okZ z) := ho
  clear hn hv ho
  go_enter Tryz.func169, Tryz.ntmps169
  go_wp2
  go_loopw [7, 8] (fun s i wr => ∃ k : Nat, i = .int .i64 k ∧ k ≤ n ∧ s = .string (ba ((zs.take k).flatMap fun z => pr big z.toNat)) ∧ Below w.heap.size w wr) (fun _ i _ => n - (intOf i).toNat)
  case atStart => exact ⟨0, rfl, Nat.zero_le _, rfl, Below.refl _ _⟩
  case round =>
    obtain ⟨k, rfl, hk, rfl, hbl⟩ := hrel
    have hlk : ((zs.take k).flatMap fun z => pr big z.toNat).length ≤ 1000 := by
      rw [prs_len]; simp; have := HN.out; omega
    obtain ⟨B, hB⟩ : ∃ B, B = (zs.take k).flatMap fun z => pr big z.toNat := ⟨_, rfl⟩
    have HBq : Hid (B = (zs.take k).flatMap fun z => pr big z.toNat) := hB
    rw [← hB] at hlk ⊢
    have hbs := ba_size B
    clear hB
    have HBL : Hid (Below w.heap.size w wr) := hbl
    by_cases hlt : k < n
    · have hlt1 : k < zs.length := by have := HN.out; omega
      have hltI : (k : Int) < n := by omega
      obtain ⟨b, o, c', hform, hcell⟩ := (HV.out.below hbl).nonnil (by omega)
      injection hform with e1 e2 e3
      subst e1
      have hck := hcell k hlt1
      have hoz := HO.out zs[k] (List.getElem_mem hlt1)
      obtain ⟨z, hz⟩ : ∃ z, z = zs[k] := ⟨_, rfl⟩
      rw [← hz] at hck hoz
      have HT : Hid (((zs.take (k + 1)).flatMap fun z => pr big z.toNat) = B ++ pr big z.toNat) := by
        show _ = _
        rw [List.take_succ_eq_append_getElem hlt1, List.flatMap_append, ← hz, HBq.out]; simp
      have HZN : Hid (z = ((z.toNat : Nat) : Int)) := by show _ = _; have := hoz.1; omega
      have hz1 := hoz.1
      have hz2 := hoz.2
      have hps : (ba (pr big z.toNat)).size = 2 := by rw [ba_size, pr_len]
      clear hz e2 e3 hcell hoz hbl
      go_wp2_with (go_at_call 167; refine (rnum2z _ z.toNat _ HZN.out (by omega) big).mono ?_; rintro e w3 ⟨rfl, hb3⟩; have HB3 : Hid (Below w.heap.size w w3) := HBL.out.trans (hb3.mono HBL.out.size); clear hb3)
      go_roundw
      case rel => exact ⟨k + 1, by go_num, by omega, by rw [HT.out, ← ba_app], HB3.out⟩
      case measure => simp [intOf] <;> omega
    · have hkI : ¬ (k : Int) < n := by omega
      clear hbl
      go_wp2
      go_ret
      refine ⟨ret_s ?_, HBL.out⟩
      rw [HE.out, HBq.out, List.take_of_length_le (by have := HN.out; omega)]
/-- At a place where a run begins. -/
def Bnd (zs : List Int) (i : Nat) : Prop := ∀ (h : i < zs.length) R c y, runs (zs.take i) = R ++ [(c, y)] → y ≠ zs[i]
theorem bnd_step {zs : List Int} {i : Nat} (h : i < zs.length) (hb : Bnd zs i) : runs (zs.take (i + 1)) = runs (zs.take i) ++ [(1, zs[i])] := by
  rw [List.take_succ_eq_append_getElem h, runs_snoc]
  rcases List.eq_nil_or_concat (runs (zs.take i)) with e | ⟨R, ⟨c, y⟩, e⟩
  · rw [e]; rfl
  · rw [List.concat_eq_append] at e
    rw [e, stepR_other _ _ _ _ (hb h R c y e)]
theorem same_step {zs : List Int} {i k : Nat} {R : List (Nat × Int)} {z : Int} (h : k < zs.length) (hr : runs (zs.take k) = R ++ [(k - i, z)]) (hz : zs[k] = z) (hi : i ≤ k) : runs (zs.take (k + 1)) = R ++ [(k + 1 - i, z)] := by
  rw [List.take_succ_eq_append_getElem h, runs_snoc, hr, hz, stepR_same, show k - i + 1 = k + 1 - i by omega]
theorem bnd_next {zs : List Int} {i k : Nat} {R : List (Nat × Int)} {z : Int} (hr : runs (zs.take k) = R ++ [(k - i, z)]) (hz : ∀ h : k < zs.length, zs[k] ≠ z) : Bnd zs k := by
  intro h R' c y e
  rw [hr] at e
  have := List.append_inj' e rfl
  simp at this
  rw [← this.2.2]
  exact fun q => hz h q.symm
theorem bnd_zero (zs : List Int) : Bnd zs 0 := by
  intro h R c y e
  simp [runs] at e
set_option maxRecDepth 4000 in
set_option maxHeartbeats 4000000 in
theorem sparse_ref (w : World) (big : Bool) (v : Value) (zs : List Int) (hv : RowE eI w v zs) (hl : zs.length ≤ 256) (ho : ∀ z ∈ zs, okZ z) :
    Calls Tryz.prog 169 #[v, .int .i64 1, .bool big] w fun e w' => e = .returned (.string (ba (wrRow 1 big zs))) ∧ Below w.heap.size w w' := by
  obtain ⟨a, c, hform⟩ := hv.form
  subst hform
  obtain ⟨n, hn⟩ : ∃ n, n = zs.length := ⟨_, rfl⟩
  have HN : Hid (n = zs.length) := hn
  rw [← hn] at hl ⊢
  have HV : Hid (RowE eI w (.slice a n c) zs) := by show RowE _ _ _ _; rw [hn]; exact hv
  have HE : Hid (wrRow 1 big zs = pr big (runs zs).length ++ (runs zs).flatMap (wrR big)) := by show _ = _; rfl
  have HO : Hid (∀ z ∈ zs, okZ z) := ho
  clear hn hv ho
  go_enter Tryz.func169, Tryz.ntmps169
  go_wp2
  go_loopw [7, 9, 10, 11] (fun s r i _ wr => ∃ k : Nat, i = .int .i64 k ∧ k ≤ n ∧ Bnd zs k ∧ s = .string (ba ((runs (zs.take k)).flatMap (wrR big))) ∧ r = .int .i64 ((runs (zs.take k)).length : Nat) ∧ Below w.heap.size w wr) (fun _ _ i _ _ => n - (intOf i).toNat)
  case atStart => exact ⟨0, rfl, Nat.zero_le _, bnd_zero _, rfl, rfl, Below.refl _ _⟩
  case round =>
    obtain ⟨i, rfl, hi, hbnd, rfl, rfl, hbl⟩ := hrel
    have hrl := runs_le zs i
    obtain ⟨R, hR⟩ : ∃ R, R = runs (zs.take i) := ⟨_, rfl⟩
    rw [← hR] at hrl ⊢
    have HR : Hid (R = runs (zs.take i)) := hR
    have HBN : Hid (Bnd zs i) := hbnd
    have HBL : Hid (Below w.heap.size w wr) := hbl
    have hBl : (R.flatMap (wrR big)).length ≤ 1100 := by rw [wrRs_len]; omega
    obtain ⟨B, hB⟩ : ∃ B, B = R.flatMap (wrR big) := ⟨_, rfl⟩
    rw [← hB] at hBl ⊢
    have HB : Hid (B = R.flatMap (wrR big)) := hB
    have hbs := ba_size B
    obtain ⟨rl, hrl2⟩ : ∃ rl, rl = R.length := ⟨_, rfl⟩
    rw [← hrl2] at hrl ⊢
    have HRL : Hid (rl = R.length) := hrl2
    clear hR hB hrl2 hbnd
    by_cases hlt : i < n
    · have hlt1 : i < zs.length := by have := HN.out; omega
      have hltI : (i : Int) < n := by omega
      have h0I : (0 : Int) ≤ (i : Int) := by omega
      obtain ⟨b, o, c', hform, hcell⟩ := HV.out.nonnil (by omega)
      injection hform with e1 e2 e3
      subst e1
      have HCE : Hid (∀ j (hj : j < zs.length), w.cell? ⟨b, o + j, none⟩ = some (eI zs[j])) := hcell
      have hoz := HO.out zs[i] (List.getElem_mem hlt1)
      obtain ⟨z, hz⟩ : ∃ z, z = zs[i] := ⟨_, rfl⟩
      have HCI : Hid (w.cell? ⟨b, o + i, none⟩ = some (eI z)) := by rw [hz]; exact hcell i hlt1
      rw [← hz] at hoz
      have HZ : Hid (z = zs[i]) := hz
      have HZN : Hid (z = ((z.toNat : Nat) : Int)) := by show _ = _; have := hoz.1; omega
      have hz1 := hoz.1
      have hz2 := hoz.2
      clear hz e2 e3 hcell hoz hbl
      go_wp2
      go_loopw [11] (fun k wr => ∃ j : Nat, k = .int .i64 j ∧ i ≤ j ∧ j ≤ n ∧ (j = i ∨ runs (zs.take j) = R ++ [(j - i, z)]) ∧ Below w.heap.size w wr) (fun k _ => n - (intOf k).toNat)
      case atStart => exact ⟨i, rfl, Nat.le_refl _, by omega, .inl rfl, HBL.out⟩
      case round =>
        obtain ⟨j, rfl, hij, hjn, hjr, hbl⟩ := hrel
        clear HBL
        have HBL : Hid (Below w.heap.size w wr) := hbl
        have HJR : Hid (j = i ∨ runs (zs.take j) = R ++ [(j - i, z)]) := hjr
        clear hjr
        by_cases hjl : j < n
        · have hjl1 : j < zs.length := by have := HN.out; omega
          have hjlI : (j : Int) < n := by omega
          have hjd : decide ((j : Int) < n) = true := by simpa using hjl
          have h0j : (0 : Int) ≤ (j : Int) := by omega
          have hcj := cell_below hbl (HCE.out j hjl1)
          have hci := cell_below hbl HCI.out
          obtain ⟨y, hy⟩ : ∃ y, y = zs[j] := ⟨_, rfl⟩
          rw [← hy] at hcj
          have HY : Hid (y = zs[j]) := hy
          clear hy hbl
          by_cases hyz : y = z
          · have hyb : (y == z) = true := by simpa using hyz
            have HJ2 : Hid (runs (zs.take (j + 1)) = R ++ [(j + 1 - i, z)]) := by
              show _ = _
              rcases HJR.out with rfl | q
              · rw [bnd_step hjl1 HBN.out, ← HR.out, ← HZ.out]; simp
              · exact same_step hjl1 q (by rw [← HY.out]; exact hyz) hij
            have hcj2 : wr.cell? ⟨b, o + j, none⟩ = some (eI z) := by rw [← hyz]; exact hcj
            clear hcj hyz hyb
            go_wp2
            go_quiet (fail)
            go_wp2
            go_roundw
            case rel => exact ⟨j + 1, by go_num, by omega, by omega, .inr HJ2.out, belowN2 HBL.out _⟩
            case measure => simp [intOf] <;> omega
          · have hyb : (y == z) = false := by simpa using hyz
            have hji : j ≠ i := by
              rintro rfl
              exact hyz (by rw [HY.out, HZ.out])
            have HRJ : Hid (runs (zs.take j) = R ++ [(j - i, z)]) := by
              rcases HJR.out with q | q
              · exact absurd q hji
              · exact q
            have HBJ : Hid (Bnd zs j) := bnd_next HRJ.out (fun _ => by rw [← HY.out]; exact hyz)
            clear HJR
            go_wp2
            go_quiet (fail)
            go_wp2
            clear hcj hci
            have HBD : Hid (Below w.heap.size w (wr.drewN nq)) := belowN2 HBL.out nq
            generalize (wr.drewN nq) = wd at HBD ⊢
            have hci2 := cell_below HBD.out HCI.out
            have hps1 : (ba (pr big (j - i))).size = 2 := by rw [ba_size, pr_len]
            have hps2 : (ba (pr big z.toNat)).size = 2 := by rw [ba_size, pr_len]
            have hij2 : i < j := by omega
            have sa1 : ¬ 9223372036854775807 < B.length + 2 := by omega
            have sa2 : ¬ 9223372036854775807 < B.length + 2 + 2 := by omega
            have hw1 : IntKind.i64.wrap ((j : Int) - i) = (j : Int) - i := by rw [IntKind.wrap_i64]; omega
            go_region_held3 (fun w' => w'.cell? ⟨b, o + i, none⟩ = some (eI z)) (go_keep) (first | (go_at_call 167; refine (rnum2z w5 z.toNat _ HZN.out (by omega) big).mono ?_; rintro e w6 ⟨rfl, hb6⟩; have f6 := cell_below hb6 f5; have HB6 : Hid (Below w.heap.size w w6) := HB5.out.trans (hb6.mono HB5.out.size); clear hb6) | (go_at_call 167; refine (rnum2z _ (j - i) _ (by omega) (by omega) big).mono ?_; rintro e w5 ⟨rfl, hb5⟩; have f5 := cell_below hb5 hci2; have HB5 : Hid (Below w.heap.size w w5) := HBD.out.drew.trans (hb5.mono HBD.out.size); clear hb5))
            rename_i hheld
            clear hheld
            go_wp2
            go_roundw
            case rel =>
              refine ⟨j, rfl, hjn, HBJ.out, ?_, ?_, HB6.out⟩
              · rw [HRJ.out, List.flatMap_append, ← HB.out, ba_app, ba_app, List.append_assoc]; simp [wrR]
              · rw [HRJ.out, HRL.out]; simp
            case measure => simp [intOf] <;> omega
        · have hjlI : ¬ (j : Int) < n := by omega
          have hjd : decide ((j : Int) < n) = false := by simpa using hjl
          have hji : j ≠ i := by omega
          have HRJ : Hid (runs (zs.take j) = R ++ [(j - i, z)]) := by
            rcases HJR.out with q | q
            · exact absurd q hji
            · exact q
          have HBJ : Hid (Bnd zs j) := bnd_next HRJ.out (fun h => by have := HN.out; omega)
          clear HJR hbl
          go_wp2
          go_quiet (fail)
          go_wp2
          have HBD : Hid (Below w.heap.size w (wr.drewN nq)) := belowN2 HBL.out nq
          generalize (wr.drewN nq) = wd at HBD ⊢
          have hci2 := cell_below HBD.out HCI.out
          have hps1 : (ba (pr big (j - i))).size = 2 := by rw [ba_size, pr_len]
          have hps2 : (ba (pr big z.toNat)).size = 2 := by rw [ba_size, pr_len]
          have hij2 : i < j := by omega
          have sa1 : ¬ 9223372036854775807 < B.length + 2 := by omega
          have sa2 : ¬ 9223372036854775807 < B.length + 2 + 2 := by omega
          have hw1 : IntKind.i64.wrap ((j : Int) - i) = (j : Int) - i := by rw [IntKind.wrap_i64]; omega
          go_region_held3 (fun w' => w'.cell? ⟨b, o + i, none⟩ = some (eI z)) (go_keep) (first | (go_at_call 167; refine (rnum2z w5 z.toNat _ HZN.out (by omega) big).mono ?_; rintro e w6 ⟨rfl, hb6⟩; have f6 := cell_below hb6 f5; have HB6 : Hid (Below w.heap.size w w6) := HB5.out.trans (hb6.mono HB5.out.size); clear hb6) | (go_at_call 167; refine (rnum2z _ (j - i) _ (by omega) (by omega) big).mono ?_; rintro e w5 ⟨rfl, hb5⟩; have f5 := cell_below hb5 hci2; have HB5 : Hid (Below w.heap.size w w5) := HBD.out.drew.trans (hb5.mono HBD.out.size); clear hb5))
          rename_i hheld
          clear hheld
          go_wp2
          go_roundw
          case rel =>
            refine ⟨j, rfl, hjn, HBJ.out, ?_, ?_, HB6.out⟩
            · rw [HRJ.out, List.flatMap_append, ← HB.out, ba_app, ba_app, List.append_assoc]; simp [wrR]
            · rw [HRJ.out, HRL.out]; simp
          case measure => simp [intOf] <;> omega
    · have hkI : ¬ (i : Int) < n := by omega
      have hin : zs.take i = zs := List.take_of_length_le (by have := HN.out; omega)
      have hps1 : (ba (pr big rl)).size = 2 := by rw [ba_size, pr_len]
      have HBL2 : Hid (Below w.heap.size w wr) := hbl
      have HF : Hid (wrRow 1 big zs = pr big rl ++ B) := by
        show _ = _
        have q := HR.out
        rw [hin] at q
        rw [HE.out, ← q, HRL.out, HB.out]
      clear hbl hin
      go_wp2_with (go_at_call 167; refine (rnum2z _ rl _ rfl (by omega) big).mono ?_; rintro e w3 ⟨rfl, hb3⟩; have HB3 : Hid (Below w.heap.size w w3) := HBL2.out.trans (hb3.mono HBL2.out.size); clear hb3)
      go_ret
      exact ⟨ret_s (by rw [HF.out, ← ba_app]), HB3.out⟩
end Go.Proofs.YtbjabpodkaokjaaGreatDoor

namespace Go.Proofs.YtbjabpodkaokjaaGreatDoor
open Go.RowKit

theorem cntC_skip (n : Nat) (c : UInt8) (t : List UInt8) (h : c.toNat < n) : cntC n (c :: t) = cntC n t := by
  simp only [cntC]; rw [if_neg (by omega), Nat.max_eq_left (by omega)]
theorem cntC_next (n : Nat) (c : UInt8) (t : List UInt8) (h : c.toNat = n) : cntC n (c :: t) = cntC (n + 1) t := by
  simp only [cntC]; rw [if_neg (by omega), Nat.max_eq_right (by omega), h]
theorem cntC_no (n : Nat) (c : UInt8) (t : List UInt8) (h : n < c.toNat) : cntC n (c :: t) = none := by
  simp only [cntC]; rw [if_pos h]
set_option maxRecDepth 4000 in
set_option maxHeartbeats 4000000 in
theorem isTable_ref (w : World) (t : Tb) (va vn : Value) (h : TabIn w t va vn) (hs : Small t) :
    Calls Tryz.prog 114 #[tv t va vn] w fun e w' => e = .returned (.bool (isTb t)) ∧ Below w.heap.size w w' := by
  obtain ⟨ha, hn⟩ := h
  obtain ⟨s1, s2, s3, s4⟩ := hs
  obtain ⟨a, ca, rfl⟩ := ha.form
  obtain ⟨us, hul, hu, hr⟩ := hn
  obtain ⟨f, b, st, cls, acc, next⟩ := t
  simp only at *
  obtain ⟨an, cn, rfl⟩ := hu.form
  obtain ⟨na, hna⟩ : ∃ na, na = acc.length := ⟨_, rfl⟩
  obtain ⟨nn, hnn⟩ : ∃ nn, nn = us.length := ⟨_, rfl⟩
  have HT : Hid (isTb ⟨f, b, st, cls, acc, next⟩ = (decide (1 ≤ na) && (decide (na ≤ 200) && (decide (nn = na) && (isSt st na && match cntR (ba cls) with | none => false | some c => next.all (rowOk c na)))))) := by
    show _ = _
    rw [hna, hnn, hul]; rfl
  rw [← hna] at s1 ⊢
  rw [← hnn] at hul hu ⊢
  obtain ⟨wx, hwx⟩ : ∃ wx, wx = w.alloc (.cells #[.bool f, .bool b, .int .i64 st, .string (ba cls), .slice a na ca, .slice an nn cn] 33) := ⟨_, rfl⟩
  have HB : Hid (Below w.heap.size w wx) := by rw [hwx]; exact (Below.refl _ _).alloc (Nat.le_refl _) _
  have HW : Hid (wx = w.alloc (.cells #[.bool f, .bool b, .int .i64 st, .string (ba cls), .slice a na ca, .slice an nn cn] 33)) := hwx
  have hU : Hid (RowE id wx (.slice an nn cn) us) := hu.below HB.out
  have hRw : Hid (∀ j (h1 : j < us.length) (h2 : j < next.length), RowE eI wx us[j] next[j]) := fun j h1 h2 => (hr j h1 h2).below HB.out
  unfold maxLen at s1 s2 s3 s4
  have HUL : Hid (nn = next.length) := hul
  have HNN : Hid (nn = us.length) := hnn
  have hbz := ba_size cls
  rw [← hul] at s2
  have hblk : wx.heap[w.heap.size]? = some (.cells #[.bool f, .bool b, .int .i64 st, .string (ba cls), .slice a na ca, .slice an nn cn] 33) := by rw [hwx]; exact heap_alloc_new w _
  obtain ⟨p0, p1, p2, p3, p4, p5⟩ := box6 hblk
  clear hna ha hu hr hul hnn hwx p0 p1 hblk
  by_cases h1 : (na : Int) < 1
  · have HF : Hid (isTb ⟨f, b, st, cls, acc, next⟩ = false) := by
      show _ = _
      rw [HT.out, decide_eq_false (by omega)]; rfl
    clear HT
    go_enter Tryz.func114, Tryz.ntmps114
    go_wp2
    go_ret
    rw [← HW.out]
    exact ⟨ret_bool HF.out.symm, HB.out⟩
  by_cases h2 : 200 < (na : Int)
  · have HF : Hid (isTb ⟨f, b, st, cls, acc, next⟩ = false) := by
      show _ = _
      rw [HT.out, decide_eq_false (p := na ≤ 200) (by omega)]; simp
    clear HT
    go_enter Tryz.func114, Tryz.ntmps114
    go_wp2
    go_ret
    rw [← HW.out]
    exact ⟨ret_bool HF.out.symm, HB.out⟩
  by_cases h3 : (nn : Int) = na
  rotate_left
  · have HF : Hid (isTb ⟨f, b, st, cls, acc, next⟩ = false) := by
      show _ = _
      rw [HT.out, decide_eq_false (p := nn = na) (by omega)]; simp
    have h3' : ((nn : Int) != na) = true := by simpa using h3
    clear HT
    go_enter Tryz.func114, Tryz.ntmps114
    go_wp2
    go_ret
    rw [← HW.out]
    exact ⟨ret_bool HF.out.symm, HB.out⟩
  have h3' : ((nn : Int) != na) = false := by simpa using h3
  by_cases h4 : st < 0
  · have HF : Hid (isTb ⟨f, b, st, cls, acc, next⟩ = false) := by
      show _ = _
      rw [HT.out, show isSt st na = false by simp [isSt]; omega]; simp
    clear HT
    go_enter Tryz.func114, Tryz.ntmps114
    go_wp2
    go_ret
    rw [← HW.out]
    exact ⟨ret_bool HF.out.symm, HB.out⟩
  by_cases h5 : (na : Int) ≤ st
  · have HF : Hid (isTb ⟨f, b, st, cls, acc, next⟩ = false) := by
      show _ = _
      rw [HT.out, show isSt st na = false by simp [isSt]; omega]; simp
    clear HT
    go_enter Tryz.func114, Tryz.ntmps114
    go_wp2
    go_ret
    rw [← HW.out]
    exact ⟨ret_bool HF.out.symm, HB.out⟩
  by_cases h6 : (cls.length : Int) = 256
  rotate_left
  · have HF : Hid (isTb ⟨f, b, st, cls, acc, next⟩ = false) := by
      show _ = _
      rw [HT.out, show cntR (ba cls) = none by unfold cntR; rw [if_neg (by rw [hbz]; omega)]]; simp
    have h6' : ((cls.length : Int) != 256) = true := by simpa using h6
    clear HT
    go_enter Tryz.func114, Tryz.ntmps114
    go_wp2
    go_ret
    rw [← HW.out]
    exact ⟨ret_bool HF.out.symm, HB.out⟩
  have h6' : ((cls.length : Int) != 256) = false := by simpa using h6
  have HF : Hid (isTb ⟨f, b, st, cls, acc, next⟩ = (match cntC 0 cls with | none => false | some c => next.all (rowOk c na))) := by
    show _ = _
    rw [HT.out, decide_eq_true (p := 1 ≤ na) (by omega), decide_eq_true (p := na ≤ 200) (by omega), decide_eq_true (p := nn = na) (by omega), show isSt st na = true by simp [isSt]; omega, show cntR (ba cls) = cntC 0 cls by unfold cntR; rw [if_pos (by rw [hbz]; omega)]]; simp
  clear HT
  have hc256 : cls.length = 256 := by omega
  have HC6 : Hid (cls.length = 256) := hc256
  rw [hc256] at hbz
  clear hc256 h6
  go_enter Tryz.func114, Tryz.ntmps114
  go_wp2
  rw [← HW.out]
  go_loop [4, 5] (fun top i => ∃ k n : Nat, i = .int .i64 k ∧ top = .int .i64 n ∧ k ≤ 256 ∧ n ≤ 256 ∧ cntC n (cls.drop k) = cntC 0 cls) (fun _ i => 256 - (intOf i).toNat)
  case atStart => exact ⟨0, 0, rfl, rfl, by omega, by omega, rfl⟩
  case round =>
    obtain ⟨k, n, rfl, rfl, hk, hn, heq⟩ := hrel
    have HE : Hid (cntC n (cls.drop k) = cntC 0 cls) := heq
    clear heq
    by_cases hlt : k < 256
    · have hltI : (k : Int) < 256 := by omega
      have hlt1 : k < cls.length := by have := HC6.out; omega
      obtain ⟨bb, hb⟩ : ∃ b, b = cls[k] := ⟨_, rfl⟩
      have hbx : ∀ h : k < (ba cls).size, ((ba cls)[k]'h).toNat = bb.toNat := fun h => by rw [hb]; rfl
      have hb8 := bb.toNat_lt
      have HD : Hid (cntC n (bb :: cls.drop (k + 1)) = cntC 0 cls) := by
        show _ = _
        rw [← HE.out, List.drop_eq_getElem_cons hlt1, hb]
      clear hb
      by_cases hgt : (n : Int) < bb.toNat
      · have HN : Hid (cntC 0 cls = none) := by show _ = _; rw [← HD.out, cntC_no _ _ _ (by omega)]
        go_wp2
        go_ret
        exact ⟨ret_bool (by rw [HF.out, HN.out]), HB.out⟩
      by_cases heq : (bb.toNat : Int) = n
      · have HN : Hid (cntC (n + 1) (cls.drop (k + 1)) = cntC 0 cls) := by show _ = _; rw [← HD.out, cntC_next _ _ _ (by omega)]
        have hqb : ((bb.toNat : Int) == n) = true := by simpa using heq
        have hn1 : n ≤ 255 := by omega
        clear heq
        go_wp2
        go_round
        case rel => exact ⟨k + 1, n + 1, by go_num, by go_num, by omega, by omega, HN.out⟩
        case measure => simp [intOf] <;> omega
      · have HN : Hid (cntC n (cls.drop (k + 1)) = cntC 0 cls) := by show _ = _; rw [← HD.out, cntC_skip _ _ _ (by omega)]
        have hqb : ((bb.toNat : Int) == n) = false := by simpa using heq
        go_wp2
        go_round
        case rel => exact ⟨k + 1, n, by go_num, rfl, by omega, by omega, HN.out⟩
        case measure => simp [intOf] <;> omega
    · have hkI : ¬ (k : Int) < 256 := by omega
      have HN : Hid (isTb ⟨f, b, st, cls, acc, next⟩ = next.all (rowOk n na)) := by
        show _ = _
        have e := HE.out
        rw [List.drop_of_length_le (by have := HC6.out; omega)] at e
        simp only [cntC] at e
        rw [HF.out, ← e]
      obtain ⟨bn, on, cn', hvn, hcell⟩ := hU.out.nonnil (by have := HNN.out; omega)
      injection hvn with e1 e2 e3
      subst e1
      have HC : Hid (∀ j (hj : j < us.length), wx.cell? ⟨bn, on + j, none⟩ = some us[j]) := hcell
      clear hcell e2 e3 hU HE
      go_wp2
      go_loop [6, 7] (fun i _ => ∃ k : Nat, i = .int .i64 k ∧ k ≤ na ∧ next.all (rowOk n na) = (next.drop k).all (rowOk n na)) (fun i _ => na - (intOf i).toNat)
      case atStart => exact ⟨0, rfl, Nat.zero_le _, rfl⟩
      case round =>
        obtain ⟨i, rfl, hi, heq⟩ := hrel
        have HE : Hid (next.all (rowOk n na) = (next.drop i).all (rowOk n na)) := heq
        clear heq
        by_cases hilt : i < na
        · have hlt1 : i < us.length := by have := HNN.out; omega
          have hlt2 : i < next.length := by have := HUL.out; omega
          have hltI : (i : Int) < na := by omega
          have hltN : (i : Int) < nn := by omega
          have hck := HC.out i hlt1
          have hrk := hRw.out i hlt1 hlt2
          have hlen : next[i].length ≤ 9223372036854775807 := s3 _ (List.getElem_mem hlt2)
          obtain ⟨u, hu⟩ : ∃ u, u = us[i] := ⟨_, rfl⟩
          obtain ⟨r, hre⟩ : ∃ r, r = next[i] := ⟨_, rfl⟩
          rw [← hu] at hck hrk
          rw [← hre] at hrk hlen
          have HD : Hid (next.all (rowOk n na) = (rowOk n na r && (next.drop (i + 1)).all (rowOk n na))) := by
            show _ = _
            have := HE.out; rw [List.drop_eq_getElem_cons hlt2, ← hre] at this; simpa only [List.all_cons] using this
          obtain ⟨au, cu, hform⟩ := hrk.form
          subst hform
          have HRK : Hid (RowE eI wx (.slice au r.length cu) r) := hrk
          clear hu hre hrk
          by_cases hrl : (r.length : Int) = n
          rotate_left
          · have hrb : ((r.length : Int) != n) = true := by simpa using hrl
            have HQ : Hid (next.all (rowOk n na) = false) := by
              show _ = _
              rw [HD.out]; simp only [rowOk]; rw [show (r.length == n) = false by simp; omega]; simp
            go_wp2
            go_ret
            exact ⟨ret_bool (by rw [HN.out, HQ.out]), HB.out⟩
          have hrb : ((r.length : Int) != n) = false := by simpa using hrl
          have HRL : Hid (r.length = n) := by show _ = _; omega
          have HD2 : Hid (next.all (rowOk n na) = ((r.all fun z => isSt z na) && (next.drop (i + 1)).all (rowOk n na))) := by
            show _ = _
            rw [HD.out]; simp only [rowOk]; rw [show (r.length == n) = true by simp; omega]; simp
          clear hrl HD
          go_wp2
          go_loop [7] (fun q => ∃ j : Nat, q = .int .i64 j ∧ j ≤ n ∧ (r.all fun z => isSt z na) = ((r.drop j).all fun z => isSt z na)) (fun q => n - (intOf q).toNat)
          case atStart => exact ⟨0, rfl, Nat.zero_le _, rfl⟩
          case round =>
            obtain ⟨j, rfl, hj, hjeq⟩ := hrel
            have HJ : Hid ((r.all fun z => isSt z na) = ((r.drop j).all fun z => isSt z na)) := hjeq
            clear hjeq
            by_cases hjl : j < n
            · have hjlI : (j : Int) < n := by omega
              have hjr : j < r.length := by have := HRL.out; omega
              have hjrI : (j : Int) < r.length := by omega
              obtain ⟨ab, ob, cb, hf2, hcz⟩ := HRK.out.nonnil (by omega)
              injection hf2 with e1 e2 e3
              subst e1
              have hcj := hcz j hjr
              obtain ⟨z, hz⟩ : ∃ z, z = r[j] := ⟨_, rfl⟩
              rw [← hz] at hcj
              have HZ : Hid ((r.all fun z => isSt z na) = (isSt z na && ((r.drop (j + 1)).all fun z => isSt z na))) := by
                show _ = _
                have := HJ.out; rw [List.drop_eq_getElem_cons hjr, ← hz] at this; simpa only [List.all_cons] using this
              clear hz hcz e2 e3
              by_cases z1 : z < 0
              · have HQ : Hid (next.all (rowOk n na) = false) := by
                  show _ = _
                  rw [HD2.out, HZ.out, show isSt z na = false by simp [isSt]; omega]; simp
                have z1d : decide (z < 0) = true := by simpa using z1
                go_wp2
                go_ret
                exact ⟨ret_bool (by rw [HN.out, HQ.out]), HB.out⟩
              by_cases z2 : (na : Int) ≤ z
              · have HQ : Hid (next.all (rowOk n na) = false) := by
                  show _ = _
                  rw [HD2.out, HZ.out, show isSt z na = false by simp [isSt]; omega]; simp
                have z1d : decide (z < 0) = false := by simpa using z1
                go_wp2
                go_ret
                exact ⟨ret_bool (by rw [HN.out, HQ.out]), HB.out⟩
              · have HQ : Hid ((r.all fun z => isSt z na) = ((r.drop (j + 1)).all fun z => isSt z na)) := by
                  show _ = _
                  rw [HZ.out, show isSt z na = true by simp [isSt]; omega]; simp
                have z1d : decide (z < 0) = false := by simpa using z1
                go_wp2
                go_round
                case rel => exact ⟨j + 1, by go_num, by omega, HQ.out⟩
                case measure => simp [intOf] <;> omega
            · have hjlI : ¬ (j : Int) < n := by omega
              have HQ : Hid (next.all (rowOk n na) = (next.drop (i + 1)).all (rowOk n na)) := by
                show _ = _
                rw [HD2.out, HJ.out, List.drop_of_length_le (by have := HRL.out; omega)]; simp
              go_wp2
              go_round
              case rel => exact ⟨i + 1, by go_num, by omega, HQ.out⟩
              case measure => simp [intOf] <;> omega
        · have hiI : ¬ (i : Int) < na := by omega
          have HQ : Hid (next.all (rowOk n na) = true) := by
            show _ = _
            rw [HE.out, List.drop_of_length_le (by have := HUL.out; omega)]; rfl
          go_wp2
          go_ret
          exact ⟨ret_bool (by rw [HN.out, HQ.out]), HB.out⟩
end Go.Proofs.YtbjabpodkaokjaaGreatDoor
