import Derived.Test.YtbjabpodkaokjaaJ24
import Derived.Test.YtbjabpodkaokjaaJ10
import Derived.Test.YtbjabpodkaokjaaJ13
import Derived.BigQuiet
import Derived.Deep.QuietTactic
import Derived.Deep.RegionHeld3
set_option linter.unusedVariables false
set_option linter.unusedSimpArgs false
namespace Go.Proofs.Ytbjabpodkaokjaa
open Go.RowKit

theorem belowN2 {B : Nat} {w w' : World} (h : Below B w w') (n : Nat) : Below B w (w'.drewN n) := ⟨h.os, h.tape, h.output, h.size, h.block⟩
theorem ba_app (a b : List UInt8) : ba a ++ ba b = ba (a ++ b) := by
  apply ByteArray.ext
  simp [ByteArray.data_append]
theorem rnum2z (w : World) (n : Nat) (z : Int) (hz : z = (n : Int)) (hn : n < 4294967296) (big : Bool) :
    Calls Try.prog 36 #[.int .i64 z, .int .i64 2, .bool big] w fun e w' => e = .returned (.string (ba (pr big n))) ∧ Below w.heap.size w w' := by
  subst hz
  rw [← numL2]
  exact rnum2 w n hn big
set_option maxRecDepth 4000 in
set_option maxHeartbeats 1000000 in
theorem dense_ref (w : World) (big : Bool) (v : Value) (zs : List Int) (hv : RowE eI w v zs) (hl : zs.length ≤ 256) (ho : ∀ z ∈ zs, okZ z) :
    Calls Try.prog 38 #[v, .int .i64 0, .bool big] w fun e w' => e = .returned (.string (ba (wrRow 0 big zs))) ∧ Below w.heap.size w w' := by
  obtain ⟨a, c, hform⟩ := hv.form
  subst hform
  obtain ⟨n, hn⟩ : ∃ n, n = zs.length := ⟨_, rfl⟩
  have HN : Hid (n = zs.length) := hn
  rw [← hn] at hl ⊢
  have HV : Hid (RowE eI w (.slice a n c) zs) := by show RowE _ _ _ _; rw [hn]; exact hv
  have HE : Hid (wrRow 0 big zs = zs.flatMap fun z => pr big z.toNat) := by show _ = _; rfl
  have HO : Hid (∀ z ∈ zs, okZ z) := ho
  clear hn hv ho
  go_enter Try.func38, Try.ntmps38
  go_wp2
  go_loopw [7, 8] (fun s i wr => ∃ k : Nat, i = .int .i64 k ∧ k ≤ n ∧ s = .string (ba ((zs.take k).flatMap fun z => pr big z.toNat)) ∧ Below w.heap.size w wr) (fun _ i _ => n - (intOf i).toNat)
  case atStart => exact ⟨0, rfl, Nat.zero_le _, rfl, Below.refl _ _⟩
  case round =>
    obtain ⟨k, rfl, hk, rfl, hbl⟩ := hrel
    have hlk : ((zs.take k).flatMap fun z => pr big z.toNat).length ≤ 1000 := by
      rw [prs_len]; simp; have := HN.out; omega
    obtain ⟨B, hB⟩ : ∃ B, B = (zs.take k).flatMap fun z => pr big z.toNat := ⟨_, rfl⟩
    have HBq : Hid (B = (zs.take k).flatMap fun z => pr big z.toNat) := hB
    rw [← hB] at hlk ⊢
    have hbs := ba_size B
    clear hB
    have HBL : Hid (Below w.heap.size w wr) := hbl
    by_cases hlt : k < n
    · have hlt1 : k < zs.length := by have := HN.out; omega
      have hltI : (k : Int) < n := by omega
      obtain ⟨b, o, c', hform, hcell⟩ := (HV.out.below hbl).nonnil (by omega)
      injection hform with e1 e2 e3
      subst e1
      have hck := hcell k hlt1
      have hoz := HO.out zs[k] (List.getElem_mem hlt1)
      obtain ⟨z, hz⟩ : ∃ z, z = zs[k] := ⟨_, rfl⟩
      rw [← hz] at hck hoz
      have HT : Hid (((zs.take (k + 1)).flatMap fun z => pr big z.toNat) = B ++ pr big z.toNat) := by
        show _ = _
        rw [List.take_succ_eq_append_getElem hlt1, List.flatMap_append, ← hz, HBq.out]; simp
      have HZN : Hid (z = ((z.toNat : Nat) : Int)) := by show _ = _; have := hoz.1; omega
      have hz1 := hoz.1
      have hz2 := hoz.2
      have hps : (ba (pr big z.toNat)).size = 2 := by rw [ba_size, pr_len]
      clear hz e2 e3 hcell hoz hbl
      go_wp2_with (go_at_call 36; refine (rnum2z _ z.toNat _ HZN.out (by omega) big).mono ?_; rintro e w3 ⟨rfl, hb3⟩; have HB3 : Hid (Below w.heap.size w w3) := HBL.out.trans (hb3.mono HBL.out.size); clear hb3)
      go_roundw
      case rel => exact ⟨k + 1, by go_num, by omega, by rw [HT.out, ← ba_app], HB3.out⟩
      case measure => simp [intOf] <;> omega
    · have hkI : ¬ (k : Int) < n := by omega
      clear hbl
      go_wp2
      go_ret
      refine ⟨ret_s ?_, HBL.out⟩
      rw [HE.out, HBq.out, List.take_of_length_le (by have := HN.out; omega)]
/-- At a place where a run begins. -/
def Bnd (zs : List Int) (i : Nat) : Prop := ∀ (h : i < zs.length) R c y, runs (zs.take i) = R ++ [(c, y)] → y ≠ zs[i]
theorem bnd_step {zs : List Int} {i : Nat} (h : i < zs.length) (hb : Bnd zs i) : runs (zs.take (i + 1)) = runs (zs.take i) ++ [(1, zs[i])] := by
  rw [List.take_succ_eq_append_getElem h, runs_snoc]
  rcases List.eq_nil_or_concat (runs (zs.take i)) with e | ⟨R, ⟨c, y⟩, e⟩
  · rw [e]; rfl
  · rw [List.concat_eq_append] at e
    rw [e, stepR_other _ _ _ _ (hb h R c y e)]
theorem same_step {zs : List Int} {i k : Nat} {R : List (Nat × Int)} {z : Int} (h : k < zs.length) (hr : runs (zs.take k) = R ++ [(k - i, z)]) (hz : zs[k] = z) (hi : i ≤ k) : runs (zs.take (k + 1)) = R ++ [(k + 1 - i, z)] := by
  rw [List.take_succ_eq_append_getElem h, runs_snoc, hr, hz, stepR_same, show k - i + 1 = k + 1 - i by omega]
theorem bnd_next {zs : List Int} {i k : Nat} {R : List (Nat × Int)} {z : Int} (hr : runs (zs.take k) = R ++ [(k - i, z)]) (hz : ∀ h : k < zs.length, zs[k] ≠ z) : Bnd zs k := by
  intro h R' c y e
  rw [hr] at e
  have := List.append_inj' e rfl
  simp at this
  rw [← this.2.2]
  exact fun q => hz h q.symm
theorem bnd_zero (zs : List Int) : Bnd zs 0 := by
  intro h R c y e
  simp [runs] at e
set_option maxRecDepth 4000 in
set_option maxHeartbeats 4000000 in
theorem sparse_ref (w : World) (big : Bool) (v : Value) (zs : List Int) (hv : RowE eI w v zs) (hl : zs.length ≤ 256) (ho : ∀ z ∈ zs, okZ z) :
    Calls Try.prog 38 #[v, .int .i64 1, .bool big] w fun e w' => e = .returned (.string (ba (wrRow 1 big zs))) ∧ Below w.heap.size w w' := by
  obtain ⟨a, c, hform⟩ := hv.form
  subst hform
  obtain ⟨n, hn⟩ : ∃ n, n = zs.length := ⟨_, rfl⟩
  have HN : Hid (n = zs.length) := hn
  rw [← hn] at hl ⊢
  have HV : Hid (RowE eI w (.slice a n c) zs) := by show RowE _ _ _ _; rw [hn]; exact hv
  have HE : Hid (wrRow 1 big zs = pr big (runs zs).length ++ (runs zs).flatMap (wrR big)) := by show _ = _; rfl
  have HO : Hid (∀ z ∈ zs, okZ z) := ho
  clear hn hv ho
  go_enter Try.func38, Try.ntmps38
  go_wp2
  go_loopw [7, 9, 10, 11] (fun s r i _ wr => ∃ k : Nat, i = .int .i64 k ∧ k ≤ n ∧ Bnd zs k ∧ s = .string (ba ((runs (zs.take k)).flatMap (wrR big))) ∧ r = .int .i64 ((runs (zs.take k)).length : Nat) ∧ Below w.heap.size w wr) (fun _ _ i _ _ => n - (intOf i).toNat)
  case atStart => exact ⟨0, rfl, Nat.zero_le _, bnd_zero _, rfl, rfl, Below.refl _ _⟩
  case round =>
    obtain ⟨i, rfl, hi, hbnd, rfl, rfl, hbl⟩ := hrel
    have hrl := runs_le zs i
    obtain ⟨R, hR⟩ : ∃ R, R = runs (zs.take i) := ⟨_, rfl⟩
    rw [← hR] at hrl ⊢
    have HR : Hid (R = runs (zs.take i)) := hR
    have HBN : Hid (Bnd zs i) := hbnd
    have HBL : Hid (Below w.heap.size w wr) := hbl
    have hBl : (R.flatMap (wrR big)).length ≤ 1100 := by rw [wrRs_len]; omega
    obtain ⟨B, hB⟩ : ∃ B, B = R.flatMap (wrR big) := ⟨_, rfl⟩
    rw [← hB] at hBl ⊢
    have HB : Hid (B = R.flatMap (wrR big)) := hB
    have hbs := ba_size B
    obtain ⟨rl, hrl2⟩ : ∃ rl, rl = R.length := ⟨_, rfl⟩
    rw [← hrl2] at hrl ⊢
    have HRL : Hid (rl = R.length) := hrl2
    clear hR hB hrl2 hbnd
    by_cases hlt : i < n
    · have hlt1 : i < zs.length := by have := HN.out; omega
      have hltI : (i : Int) < n := by omega
      have h0I : (0 : Int) ≤ (i : Int) := by omega
      obtain ⟨b, o, c', hform, hcell⟩ := HV.out.nonnil (by omega)
      injection hform with e1 e2 e3
      subst e1
      have HCE : Hid (∀ j (hj : j < zs.length), w.cell? ⟨b, o + j, none⟩ = some (eI zs[j])) := hcell
      have hoz := HO.out zs[i] (List.getElem_mem hlt1)
      obtain ⟨z, hz⟩ : ∃ z, z = zs[i] := ⟨_, rfl⟩
      have HCI : Hid (w.cell? ⟨b, o + i, none⟩ = some (eI z)) := by rw [hz]; exact hcell i hlt1
      rw [← hz] at hoz
      have HZ : Hid (z = zs[i]) := hz
      have HZN : Hid (z = ((z.toNat : Nat) : Int)) := by show _ = _; have := hoz.1; omega
      have hz1 := hoz.1
      have hz2 := hoz.2
      clear hz e2 e3 hcell hoz hbl
      go_wp2
      go_loopw [11] (fun k wr => ∃ j : Nat, k = .int .i64 j ∧ i ≤ j ∧ j ≤ n ∧ (j = i ∨ runs (zs.take j) = R ++ [(j - i, z)]) ∧ Below w.heap.size w wr) (fun k _ => n - (intOf k).toNat)
      case atStart => exact ⟨i, rfl, Nat.le_refl _, by omega, .inl rfl, HBL.out⟩
      case round =>
        obtain ⟨j, rfl, hij, hjn, hjr, hbl⟩ := hrel
        clear HBL
        have HBL : Hid (Below w.heap.size w wr) := hbl
        have HJR : Hid (j = i ∨ runs (zs.take j) = R ++ [(j - i, z)]) := hjr
        clear hjr
        by_cases hjl : j < n
        · have hjl1 : j < zs.length := by have := HN.out; omega
          have hjlI : (j : Int) < n := by omega
          have hjd : decide ((j : Int) < n) = true := by simpa using hjl
          have h0j : (0 : Int) ≤ (j : Int) := by omega
          have hcj := cell_below hbl (HCE.out j hjl1)
          have hci := cell_below hbl HCI.out
          obtain ⟨y, hy⟩ : ∃ y, y = zs[j] := ⟨_, rfl⟩
          rw [← hy] at hcj
          have HY : Hid (y = zs[j]) := hy
          clear hy hbl
          by_cases hyz : y = z
          · have hyb : (y == z) = true := by simpa using hyz
            have HJ2 : Hid (runs (zs.take (j + 1)) = R ++ [(j + 1 - i, z)]) := by
              show _ = _
              rcases HJR.out with rfl | q
              · rw [bnd_step hjl1 HBN.out, ← HR.out, ← HZ.out]; simp
              · exact same_step hjl1 q (by rw [← HY.out]; exact hyz) hij
            have hcj2 : wr.cell? ⟨b, o + j, none⟩ = some (eI z) := by rw [← hyz]; exact hcj
            clear hcj hyz hyb
            go_wp2
            go_quiet (fail)
            go_wp2
            go_roundw
            case rel => exact ⟨j + 1, by go_num, by omega, by omega, .inr HJ2.out, belowN2 HBL.out _⟩
            case measure => simp [intOf] <;> omega
          · have hyb : (y == z) = false := by simpa using hyz
            have hji : j ≠ i := by
              rintro rfl
              exact hyz (by rw [HY.out, HZ.out])
            have HRJ : Hid (runs (zs.take j) = R ++ [(j - i, z)]) := by
              rcases HJR.out with q | q
              · exact absurd q hji
              · exact q
            have HBJ : Hid (Bnd zs j) := bnd_next HRJ.out (fun _ => by rw [← HY.out]; exact hyz)
            clear HJR
            go_wp2
            go_quiet (fail)
            go_wp2
            clear hcj hci
            have HBD : Hid (Below w.heap.size w (wr.drewN nq)) := belowN2 HBL.out nq
            generalize (wr.drewN nq) = wd at HBD ⊢
            have hci2 := cell_below HBD.out HCI.out
            have hps1 : (ba (pr big (j - i))).size = 2 := by rw [ba_size, pr_len]
            have hps2 : (ba (pr big z.toNat)).size = 2 := by rw [ba_size, pr_len]
            have hij2 : i < j := by omega
            have sa1 : ¬ 9223372036854775807 < B.length + 2 := by omega
            have sa2 : ¬ 9223372036854775807 < B.length + 2 + 2 := by omega
            have hw1 : IntKind.i64.wrap ((j : Int) - i) = (j : Int) - i := by rw [IntKind.wrap_i64]; omega
            go_region_held3 (fun w' => w'.cell? ⟨b, o + i, none⟩ = some (eI z)) (go_keep) (first | (go_at_call 36; refine (rnum2z w5 z.toNat _ HZN.out (by omega) big).mono ?_; rintro e w6 ⟨rfl, hb6⟩; have f6 := cell_below hb6 f5; have HB6 : Hid (Below w.heap.size w w6) := HB5.out.trans (hb6.mono HB5.out.size); clear hb6) | (go_at_call 36; refine (rnum2z _ (j - i) _ (by omega) (by omega) big).mono ?_; rintro e w5 ⟨rfl, hb5⟩; have f5 := cell_below hb5 hci2; have HB5 : Hid (Below w.heap.size w w5) := HBD.out.drew.trans (hb5.mono HBD.out.size); clear hb5))
            rename_i hheld
            clear hheld
            go_wp2
            go_roundw
            case rel =>
              refine ⟨j, rfl, hjn, HBJ.out, ?_, ?_, HB6.out⟩
              · rw [HRJ.out, List.flatMap_append, ← HB.out, ba_app, ba_app, List.append_assoc]; simp [wrR]
              · rw [HRJ.out, HRL.out]; simp
            case measure => simp [intOf] <;> omega
        · have hjlI : ¬ (j : Int) < n := by omega
          have hjd : decide ((j : Int) < n) = false := by simpa using hjl
          have hji : j ≠ i := by omega
          have HRJ : Hid (runs (zs.take j) = R ++ [(j - i, z)]) := by
            rcases HJR.out with q | q
            · exact absurd q hji
            · exact q
          have HBJ : Hid (Bnd zs j) := bnd_next HRJ.out (fun h => by have := HN.out; omega)
          clear HJR hbl
          go_wp2
          go_quiet (fail)
          go_wp2
          have HBD : Hid (Below w.heap.size w (wr.drewN nq)) := belowN2 HBL.out nq
          generalize (wr.drewN nq) = wd at HBD ⊢
          have hci2 := cell_below HBD.out HCI.out
          have hps1 : (ba (pr big (j - i))).size = 2 := by rw [ba_size, pr_len]
          have hps2 : (ba (pr big z.toNat)).size = 2 := by rw [ba_size, pr_len]
          have hij2 : i < j := by omega
          have sa1 : ¬ 9223372036854775807 < B.length + 2 := by omega
          have sa2 : ¬ 9223372036854775807 < B.length + 2 + 2 := by omega
          have hw1 : IntKind.i64.wrap ((j : Int) - i) = (j : Int) - i := by rw [IntKind.wrap_i64]; omega
          go_region_held3 (fun w' => w'.cell? ⟨b, o + i, none⟩ = some (eI z)) (go_keep) (first | (go_at_call 36; refine (rnum2z w5 z.toNat _ HZN.out (by omega) big).mono ?_; rintro e w6 ⟨rfl, hb6⟩; have f6 := cell_below hb6 f5; have HB6 : Hid (Below w.heap.size w w6) := HB5.out.trans (hb6.mono HB5.out.size); clear hb6) | (go_at_call 36; refine (rnum2z _ (j - i) _ (by omega) (by omega) big).mono ?_; rintro e w5 ⟨rfl, hb5⟩; have f5 := cell_below hb5 hci2; have HB5 : Hid (Below w.heap.size w w5) := HBD.out.drew.trans (hb5.mono HBD.out.size); clear hb5))
          rename_i hheld
          clear hheld
          go_wp2
          go_roundw
          case rel =>
            refine ⟨j, rfl, hjn, HBJ.out, ?_, ?_, HB6.out⟩
            · rw [HRJ.out, List.flatMap_append, ← HB.out, ba_app, ba_app, List.append_assoc]; simp [wrR]
            · rw [HRJ.out, HRL.out]; simp
          case measure => simp [intOf] <;> omega
    · have hkI : ¬ (i : Int) < n := by omega
      have hin : zs.take i = zs := List.take_of_length_le (by have := HN.out; omega)
      have hps1 : (ba (pr big rl)).size = 2 := by rw [ba_size, pr_len]
      have HBL2 : Hid (Below w.heap.size w wr) := hbl
      have HF : Hid (wrRow 1 big zs = pr big rl ++ B) := by
        show _ = _
        have q := HR.out
        rw [hin] at q
        rw [HE.out, ← q, HRL.out, HB.out]
      clear hbl hin
      go_wp2_with (go_at_call 36; refine (rnum2z _ rl _ rfl (by omega) big).mono ?_; rintro e w3 ⟨rfl, hb3⟩; have HB3 : Hid (Below w.heap.size w w3) := HBL2.out.trans (hb3.mono HBL2.out.size); clear hb3)
      go_ret
      exact ⟨ret_s (by rw [HF.out, ← ba_app]), HB3.out⟩
end Go.Proofs.Ytbjabpodkaokjaa
