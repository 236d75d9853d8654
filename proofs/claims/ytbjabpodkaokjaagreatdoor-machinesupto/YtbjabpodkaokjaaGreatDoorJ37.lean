import Derived.Test.YtbjabpodkaokjaaGreatDoorJ36
import Derived.Laws.CopyOwn
set_option linter.unusedVariables false
set_option linter.unusedSimpArgs false
namespace Go.Proofs.YtbjabpodkaokjaaGreatDoor
open Go.RowKit

theorem rep_snoc (n : Nat) (m : Int) : (List.replicate n m).map eI ++ [eI m] = (List.replicate (n + 1) m).map eI := by
  rw [List.replicate_succ', List.map_append]; rfl
theorem cells_one (w : World) (x : Value) (T : TypeId) : (w.alloc (.cells #[x] T)).cell? ⟨w.heap.size, 0, none⟩ = some x := by simp [go_sem]
theorem one_cell_at (w : World) (x : Value) (T : TypeId) {k : Nat} (h : w.heap.size = k) : ∀ j u, [x][j]? = some u → (w.alloc (.cells #[x] T)).cell? ((⟨k, 0, none⟩ : Addr).add j) = some u := by
  subst h; exact one_cell_new w x T
theorem cells_at (w : World) (x : Value) (T : TypeId) {k : Nat} (h : w.heap.size = k) : (w.alloc (.cells #[x] T)).cell? ⟨k, 0, none⟩ = some x := by
  subst h; exact cells_one w x T
theorem size_set (w : World) (a : Addr) (v : Value) : (w.setCell a v).heap.size = w.heap.size := by simp [World.setCell]
set_option maxRecDepth 4000 in
set_option maxHeartbeats 4000000 in
theorem ints_any (X : World → Prop) (B : Nat) (w : World) (g : Nat) (ρ : Nat → Nat) (N : Int) (vs : Nat → Value) (d : Bd) (tw : List Tw) (q0 n : Nat) (f : Nat → Value) (hb : Bk B w g ρ N vs d tw) (hf : Fct X ρ 0 0 w d tw) (hq : ρ q0 = 9) (hql : q0 < w.heap.size) (hn : Nw w q0 n f)
    (hn2 : n ≤ 1048576) (hN1 : 0 ≤ N) (hN2 : N < 1000000000000) (hs : d.ls.length ≤ 1000000000000) :
    Calls Tryz.prog 53 #[.pointer (some ⟨g, 1, none⟩), .slice (some ⟨q0, 0, none⟩) n n] w fun e w' => e = .returned (.tuple #[]) ∧ ∃ ρ' vs' es mm, Bk B w' g ρ' (N + 1) vs' { d with ls := d.ls ++ es, ms := d.ms ++ mm } tw ∧ Fct X ρ' 0 0 w' { d with ls := d.ls ++ es, ms := d.ms ++ mm } tw ∧ es.length = 4 ∧ mm.length = 4 ∧ Below B w w' ∧ w.heap.size ≤ w'.heap.size ∧ ∀ b, b < w.heap.size → 9 ≤ ρ b → b ≠ q0 → w'.heap[b]? = w.heap[b]? ∧ ρ' b = ρ b := by
  obtain ⟨s1, s2, s3, s4, s5, s6⟩ := IJ.start hb hf hq hql hn (N + 1)
  obtain ⟨w1, hw1⟩ : ∃ w1, w1 = w.setCell ⟨g, 1, none⟩ (.int .i64 (N + 1)) := ⟨_, rfl⟩
  rw [← hw1] at s1 s2 s3 s4 s5 s6
  have HW : Hid (w1 = w.setCell ⟨g, 1, none⟩ (.int .i64 (N + 1))) := hw1
  have HL : Hid (LJ X B w w1 g ρ (N + 1) vs d tw q0 n f) := ⟨s1, s2, s3, s4, by omega, hq, by omega, fun b hb' h9 _ => s5 b (by rintro rfl; have := hb.rg; omega)⟩
  have cN := hb.cn
  have cF := hb.fz 1
  obtain ⟨m, hm⟩ : ∃ m, m = -1000 - (N + 1) := ⟨_, rfl⟩
  have HM : Hid (m = -1000 - (N + 1)) := hm
  have HML : Hid (d.ms.length = d.ls.length) := hf.lI
  obtain ⟨i1, hi1, h10, h11, h12⟩ := info_parts Tryz.infoLI
  obtain ⟨i2, hi2, h20, h21, h22⟩ := info_parts Tryz.infoI
  clear s1 s2 s3 s4 s5 s6 hw1 hb hf hn hm
  go_enter Tryz.func53, Tryz.ntmps53
  go_wp2
  rw [← HW.out]
  go_loopw [5] (fun i wr => ∃ k : Nat, i = .int .i64 k ∧ k ≤ n ∧ LJ X B w wr g ρ (N + 1) vs d tw q0 n (fun j => if j < k then eI m else f j)) (fun i _ => n - (intOf i).toNat)
  case atStart => exact ⟨0, rfl, Nat.zero_le _, HL.out.congr (fun j _ => by simp)⟩
  case round =>
    obtain ⟨k, rfl, hk, hl⟩ := hrel
    clear HL HW
    have HL : Hid (LJ X B w wr g ρ (N + 1) vs d tw q0 n (fun j => if j < k then eI m else f j)) := hl
    clear hl
    by_cases hlt : k < n
    · have hltI : (k : Int) < n := by omega
      have c1 := HL.out.nw.c k hlt
      have f1 := HL.out.nw.fz k
      go_wp2
      go_roundw
      case rel =>
        refine ⟨k + 1, by go_num, by omega, ?_⟩
        have := HL.out.set k hlt (eI m)
        rw [HM.out] at this ⊢
        exact this.congr (fun j _ => by
          by_cases e1 : j = k
          · subst e1; simp
          · by_cases e2 : j < k
            · simp [e1, e2, Nat.lt_succ_of_lt e2]
            · simp [e1, e2, show ¬ j < k + 1 by omega])
      case measure => simp [intOf] <;> omega
    · have hkI : ¬ (k : Int) < n := by omega
      have hkn : k = n := by omega
      have HJ : Hid (IJ X B w wr g ρ (N + 1) d d tw q0 n 3 ((List.replicate n m).map eI) ρ vs q0 n) := HL.out.done (by simp) (fun j u hu => by
        obtain ⟨hj, e⟩ := List.getElem?_eq_some_iff.1 hu
        simp at hj e
        rw [if_pos (by omega), ← e])
      clear HL hkn
      go_wp2
      rw [← HM.out]
      go_loopw [1, 6] (fun l i wr => ∃ (kk : Nat) (ρ' : Nat → Nat) (vs' : Nat → Value) (q cap : Nat) (es : List Value) (mm : List Int), l = .slice (some ⟨q, 0, none⟩) (n + kk) cap ∧ i = .int .i64 kk ∧ kk ≤ 4 ∧ es.length = kk ∧ mm.length = kk ∧ IJ X B w wr g ρ (N + 1) { d with ls := d.ls ++ es, ms := d.ms ++ mm } { d with ls := d.ls ++ es, ms := d.ms ++ mm } tw q0 (n + kk) 3 ((List.replicate (n + kk) m).map eI) ρ' vs' q cap) (fun _ i _ => 4 - (intOf i).toNat)
      case atStart => exact ⟨0, ρ, vs, q0, n, [], [], rfl, rfl, by omega, rfl, rfl, by simpa using HJ.out⟩
      case round =>
        clear HJ hkI hk
        obtain ⟨kk, ρ', vs', q, cap, es, mm, rfl, rfl, hk4, hel, hml, hj⟩ := hrel
        have HJ : Hid (IJ X B w wr g ρ (N + 1) { d with ls := d.ls ++ es, ms := d.ms ++ mm } { d with ls := d.ls ++ es, ms := d.ms ++ mm } tw q0 (n + kk) 3 ((List.replicate (n + kk) m).map eI) ρ' vs' q cap) := hj
        clear hj
        obtain ⟨nn, hnn⟩ : ∃ nn, nn = n + kk := ⟨_, rfl⟩
        rw [← hnn] at HJ ⊢
        have HNN : Hid (nn = n + kk) := hnn
        have hnn2 : nn ≤ 1048580 := by omega
        clear hnn
        by_cases hlt : kk < 4
        · have hltI : (kk : Int) < 4 := by omega
          have c2 := HJ.out.bk.cl 1 (by omega)
          obtain ⟨v1, hv1⟩ : ∃ v, v = vs' 1 := ⟨_, rfl⟩
          obtain ⟨v2, hv2⟩ : ∃ v, v = vs' 2 := ⟨_, rfl⟩
          rw [← hv1] at c2
          simp only [spO] at c2
          obtain ⟨nI, hnI⟩ : ∃ k, k = (d.ls ++ es).length := ⟨_, rfl⟩
          obtain ⟨nM, hnM⟩ : ∃ k, k = (d.ms ++ mm).length := ⟨_, rfl⟩
          have hnI2 : nI ≤ 1000000000004 := by rw [hnI, List.length_append]; omega
          have hnM2 : nM ≤ 1000000000004 := by rw [hnM, List.length_append, HML.out]; omega
          have HNI : Hid (nI = (d.ls ++ es).length) := hnI
          have HNM : Hid (nM = (d.ms ++ mm).length) := hnM
          have HV1 : Hid (v1 = vs' 1) := hv1
          have HV2 : Hid (v2 = vs' 2) := hv2
          have HO1 : Hid (wr.ownsRow 0 40 1 v1 nI (d.ls ++ es)) := by
            show World.ownsRow _ _ _ _ _ _ _
            rw [hv1, hnI]; exact HJ.out.bk.own 1 (by omega)
          clear hv1 hv2 hnI hnM
          go_wp2_with (first | (at_builtin; refine wpList_append_lst _ rfl (.tmp 53) (.tmp 55) 40 rfl 3 i2 (.int .i64 0) 8 Tryz.underlying40 hi2 h20 h21 h22 rfl q nn cap ((List.replicate nn m).map eI) rfl ((HB.out.row).of_block (Below.heap_alloc _ _ _ HB.out.ql)) ⟨w6.heap.size, 0, none⟩ 1 (.int .i64 m) rfl (cells_at _ _ _ (size_set _ _ _)) rfl (by unfold maxLen; omega) (by omega) ?_; intro g3 k3 w8 ho3 hc3 hl3; have HC : Hid (IJ X B w w8 g ρ (N + 1) { d with ls := d.ls ++ es ++ [.slice (some ⟨q, 0, none⟩) nn cap], ms := d.ms ++ mm ++ [m] } { d with ls := d.ls ++ es ++ [.slice (some ⟨q, 0, none⟩) nn cap], ms := d.ms ++ mm ++ [m] } tw q0 (nn + 1) 3 ((List.replicate (nn + 1) m).map eI) (upd (upd (upd (upd ρ' g1 3) g2 4) q 0) g3 9) (upd (upd vs' 1 (.slice (some ⟨g1, 0, none⟩) (nI + 1) k1)) 2 (.slice (some ⟨g2, 0, none⟩) (nM + 1) k2)) g3 k3) := ((HB.out.fact (HB.out.fc.addI (n := nn) (by omega) (kp_row (by simp) HB.out.row))).below ((Below.refl _ _).alloc (Nat.le_refl _) _)).grow (rep_snoc nn m) ho3 hl3 hc3; clear ho3 hc3) | (at_builtin; refine wpList_append_str _ rfl (.tmp 47) (.tmp 49) 40 rfl 0 3 i2 (.int .i64 0) 1 8 Tryz.underlying40 hi2 h20 h21 h22 rfl (by decide) v2 nM ((d.ms ++ mm).map eI) rfl (World.ownsRow.alloc HO2.out _) ⟨w4.heap.size, 0, none⟩ 1 1 [.int .i64 m] rfl rfl (one_cell_at _ _ _ (size_set _ _ _)) (by simp [Value.oneCell']) (by omega) (by unfold maxLen; omega) (by omega) (Nat.zero_le _) _ rfl ?_; intro g2 k2 w6 ho2 hc2 hl2; obtain ⟨hB1, c3, f3, _, _⟩ := (HA.out.below ((Below.refl _ _).alloc (Nat.le_refl _) _)).put 2 (by omega) (dB' := { d with ls := d.ls ++ es ++ [.slice (some ⟨q, 0, none⟩) nn cap], ms := d.ms ++ mm ++ [m] }) (fun j hj => by match j with | 0 => exact ⟨rfl, rfl⟩ | 1 => exact ⟨rfl, rfl⟩ | 2 => exact absurd rfl hj | 3 => exact ⟨rfl, rfl⟩ | 4 => exact ⟨rfl, rfl⟩ | 5 => exact ⟨rfl, rfl⟩ | 6 => exact ⟨rfl, rfl⟩ | _ + 7 => exact ⟨rfl, rfl⟩) (n' := nM + 1) (xs' := (d.ms ++ mm).map eI ++ [.int .i64 m]) (by rw [HNM.out]; simp [spN]; omega) (by simp [spX]) ho2 hl2 (by rw [upd_ne _ _ (by omega), ← HV2.out]; exact hc2); rw [upd_ne _ _ (by omega), ← HV2.out] at c3; have HB : Hid (IJ X B w (w6.setCell ⟨g, 3, none⟩ (.slice (some ⟨g2, 0, none⟩) (nM + 1) k2)) g ρ (N + 1) { d with ls := d.ls ++ es ++ [.slice (some ⟨q, 0, none⟩) nn cap], ms := d.ms ++ mm ++ [m] } { d with ls := d.ls ++ es, ms := d.ms ++ mm } tw q0 nn 3 ((List.replicate nn m).map eI) (upd (upd ρ' g1 3) g2 4) (upd (upd vs' 1 (.slice (some ⟨g1, 0, none⟩) (nI + 1) k1)) 2 (.slice (some ⟨g2, 0, none⟩) (nM + 1) k2)) q cap) := hB1; simp only [spO] at c3 f3; clear ho2 hc2 hB1) | (at_builtin; refine wpList_append_str _ rfl (.tmp 37) (.tmp 39) 31 rfl 0 40 i1 (.slice none 0 0) 1 24 Tryz.underlying31 hi1 h10 h11 h12 rfl (by decide) v1 nI (d.ls ++ es) rfl (World.ownsRow.alloc HO1.out _) ⟨wr.heap.size, 0, none⟩ 1 1 [.slice (some ⟨q, 0, none⟩) nn cap] rfl rfl (one_cell_new _ _ _) (by simp [Value.oneCell']) (by omega) (by unfold maxLen; omega) (by omega) (Nat.zero_le _) _ rfl ?_; intro g1 k1 w4 ho1 hc1 hl1; obtain ⟨hA1, c2', f2, cc, _⟩ := (HJ.out.below ((Below.refl _ _).alloc (Nat.le_refl _) _)).put 1 (by omega) (dB' := { d with ls := d.ls ++ es ++ [.slice (some ⟨q, 0, none⟩) nn cap], ms := d.ms ++ mm }) (fun j hj => by match j with | 0 => exact ⟨rfl, rfl⟩ | 1 => exact absurd rfl hj | 2 => exact ⟨rfl, rfl⟩ | 3 => exact ⟨rfl, rfl⟩ | 4 => exact ⟨rfl, rfl⟩ | 5 => exact ⟨rfl, rfl⟩ | 6 => exact ⟨rfl, rfl⟩ | _ + 7 => exact ⟨rfl, rfl⟩) (n' := nI + 1) (xs' := d.ls ++ es ++ [.slice (some ⟨q, 0, none⟩) nn cap]) (by rw [HNI.out]; simp [spN]; omega) rfl ho1 hl1 (by rw [← HV1.out]; exact hc1); rw [← HV1.out] at c2'; have c3' := cc 2 (by omega) (by omega); rw [← HV2.out] at c3'; have HA : Hid (IJ X B w (w4.setCell ⟨g, 2, none⟩ (.slice (some ⟨g1, 0, none⟩) (nI + 1) k1)) g ρ (N + 1) { d with ls := d.ls ++ es ++ [.slice (some ⟨q, 0, none⟩) nn cap], ms := d.ms ++ mm } { d with ls := d.ls ++ es, ms := d.ms ++ mm } tw q0 nn 3 ((List.replicate nn m).map eI) (upd ρ' g1 3) (upd vs' 1 (.slice (some ⟨g1, 0, none⟩) (nI + 1) k1)) q cap) := hA1; have HO2 : Hid ((w4.setCell ⟨g, 2, none⟩ (.slice (some ⟨g1, 0, none⟩) (nI + 1) k1)).ownsRow 0 3 1 v2 nM ((d.ms ++ mm).map eI)) := (by show World.ownsRow _ _ _ _ _ _ _; rw [HV2.out, HNM.out]; exact HA.out.bk.own 2 (by omega)); simp only [spO] at c2' f2 c3'; clear ho1 hc1 hA1 cc))
          go_roundw
          case rel =>
            have hC := HC.out
            have hnk : nn + 1 = n + (kk + 1) := by have := HNN.out; omega
            rw [List.append_assoc, List.append_assoc, hnk] at hC
            exact ⟨kk + 1, _, _, g3, k3, _, _, by rw [hnk], by go_num, by omega, by simp [hel], by simp [hml], hC⟩
          case measure => simp [intOf] <;> omega
        · have hkI : ¬ (kk : Int) < 4 := by omega
          go_wp2
          refine bodyPost_end (results_none rfl _ _ _) rfl ?_
          obtain ⟨r1, r2, r3⟩ := HJ.out.rest
          exact ⟨rfl, _, _, es, mm, r1, r2, by omega, by omega, HJ.out.bl, HJ.out.sz, r3⟩
end Go.Proofs.YtbjabpodkaokjaaGreatDoor

namespace Go.Proofs.YtbjabpodkaokjaaGreatDoor
open Go.RowKit

theorem Tryz.infoLB : (Tryz.prog.info? 30).map (fun i => (i.zero, i.size, i.bytes)) = some (some (.slice none 0 0), 1, 24) := by kernel_rfl
section
variable {X : World → Prop} {B : Nat} {w wr wa w4 : World} {g : Nat} {ρ0 : Nat → Nat} {N : Int} {dB dF : Bd} {tw : List Tw} {q0 n : Nat} {e : TypeId} {xs : List Value} {ρ : Nat → Nat} {vs : Nat → Value} {q cap : Nat}
theorem IJ.put_far (h : IJ X B w wr g ρ0 N dB dF tw q0 n e xs ρ vs q cap) (k : Nat) (hk : k < 7) {dB' : Bd} {g4 c4 n' : Nat} {xs' : List Value} (hX : ∀ j, j ≠ k → spX dB' tw j = spX dB tw j ∧ spN dB' tw j = spN dB tw j) (hn' : spN dB' tw k = n') (hx' : spX dB' tw k = xs')
    (hown : w4.ownsRow 0 (spT k) (spZ k) (.slice (some ⟨g4, 0, none⟩) n' c4) n' xs') (hlt : g4 < w4.heap.size)
    (hch : ((vs k).ownBlock = some g4 ∧ wr.grownBy w4 (some g4)) ∨ (g4 = wr.heap.size ∧ wr.grownBy w4 none)) :
    ∀ b, b < wr.heap.size → (ρ b = 0 ∨ 9 ≤ ρ b) → (w4.setCell ⟨g, spO k, none⟩ (.slice (some ⟨g4, 0, none⟩) n' c4)).heap[b]? = wr.heap[b]? ∧ upd ρ g4 (k + 2) b = ρ b := by
  subst hn' hx'
  exact (h.bk.put hk hX hown hlt hch).2.2.1
theorem IJ.grow_far (h : IJ X B w wr g ρ0 N dB dF tw q0 n e xs ρ vs q cap) {g4 cap4 : Nat} {ys : List Value} (ho4 : w4.ownsRow 0 e 1 (.slice (some ⟨g4, 0, none⟩) (n + 1) cap4) (n + 1) (xs ++ ys)) (hlt : g4 < w4.heap.size)
    (hch : (some q = some g4 ∧ wr.grownBy w4 (some g4)) ∨ (g4 = wr.heap.size ∧ wr.grownBy w4 none)) : ∀ b, b < wr.heap.size → b ≠ q → (ρ b = 0 ∨ 9 ≤ ρ b) → w4.heap[b]? = wr.heap[b]? ∧ upd (upd ρ q 0) g4 9 b = ρ b := by
  obtain ⟨b1, b2, b3, b4, b5, b6⟩ := h.bk.grow h.rq h.ql h.row ho4 hlt hch
  intro b hb hne h9
  refine ⟨?_, b6 b hb hne⟩
  rcases b5 b hb hne with e | ⟨e1, e2⟩
  · exact e
  · omega
end
/-- A list of the call's own that no fact speaks of: role 10. -/
structure Wa (w wr : World) (ρ : Nat → Nat) (v : Value) (n : Nat) (xs : List Value) : Prop where
  own : wr.ownsRow 0 4 1 v n xs
  rol : ∀ b, v.ownBlock = some b → ρ b = 10 ∧ w.heap.size ≤ b
theorem owns_of_block {w w' : World} {base : Nat} {e : TypeId} {size : Nat} {v : Value} {n : Nat} {xs : List Value} (h : w.ownsRow base e size v n xs) (hb : ∀ b, v.ownBlock = some b → w'.heap[b]? = w.heap[b]?) : w'.ownsRow base e size v n xs := by
  refine ⟨h.1, ?_⟩
  rcases h.2 with q | ⟨g, cap, cur, rfl, h1, h2, r⟩
  · exact .inl q
  · exact .inr ⟨g, cap, cur, rfl, h1, (hb g rfl).trans h2, r⟩
theorem Wa.far {w wr w' : World} {ρ ρ' : Nat → Nat} {v : Value} {n : Nat} {xs : List Value} (h : Wa w wr ρ v n xs) (hf : ∀ b, b < wr.heap.size → ρ b = 10 → w'.heap[b]? = wr.heap[b]? ∧ ρ' b = ρ b) : Wa w w' ρ' v n xs :=
  ⟨owns_of_block h.own fun b hb => (hf b (h.own.lt b hb).2 (h.rol b hb).1).1, fun b hb => by rw [(hf b (h.own.lt b hb).2 (h.rol b hb).1).2]; exact h.rol b hb⟩
section
variable {X : World → Prop} {B : Nat} {w wr w4 : World} {g : Nat} {ρ0 : Nat → Nat} {N : Int} {dB dF : Bd} {tw : List Tw} {q0 n : Nat} {e : TypeId} {xs : List Value} {ρ : Nat → Nat} {vs : Nat → Value} {q cap : Nat}
/-- That list has grown. -/
theorem IJ.own (h : IJ X B w wr g ρ0 N dB dF tw q0 n e xs ρ vs q cap) {v : Value} {k g4 c4 : Nat} {ys zs : List Value} (hw : Wa w wr ρ v k ys) (ho : w4.ownsRow 0 4 1 (.slice (some ⟨g4, 0, none⟩) (k + 1) c4) (k + 1) zs) (hlt : g4 < w4.heap.size)
    (hch : (v.ownBlock = some g4 ∧ wr.grownBy w4 (some g4)) ∨ (g4 = wr.heap.size ∧ wr.grownBy w4 none)) :
    IJ X B w w4 g ρ0 N dB dF tw q0 n e xs (upd ρ g4 10) vs q cap ∧ Wa w w4 (upd ρ g4 10) (.slice (some ⟨g4, 0, none⟩) (k + 1) c4) (k + 1) zs ∧ w4.heap[q]? = wr.heap[q]? := by
  have hBl := h.bk.B_le
  have hrole : ρ g4 = 10 ∧ w.heap.size ≤ g4 ∨ wr.heap.size ≤ g4 := by
    rcases hch with ⟨e, _⟩ | ⟨e, _⟩
    · exact .inl (hw.rol _ e)
    · exact .inr (by omega)
  obtain ⟨r, hr, hgr⟩ : ∃ r, (r = some g4 ∧ ρ g4 = 10 ∨ r = none) ∧ wr.grownBy w4 r := by
    rcases hch with ⟨e, q⟩ | ⟨_, q⟩
    · exact ⟨_, .inl ⟨rfl, (hw.rol _ e).1⟩, q⟩
    · exact ⟨_, .inr rfl, q⟩
  have far : ∀ b, b < wr.heap.size → b ≠ g4 → w4.heap[b]? = wr.heap[b]? := fun b hb hne => hgr.block b hb (by
    rcases hr with ⟨rfl, _⟩ | rfl
    · simpa using hne
    · simp)
  have hqg : q ≠ g4 := by
    rintro rfl
    have := h.rq
    have := h.ql
    rcases hrole with e | e <;> omega
  have hws := h.sz
  refine ⟨⟨?_, ?_, by rw [upd_ne _ _ hqg]; exact h.rq, Nat.lt_of_lt_of_le h.ql hgr.size, h.row.of_block (far q h.ql hqg), h.bl.trans (Below.grown (Below.refl _ _) hgr hBl fun b e => ?_), Nat.le_trans h.sz hgr.size, fun b hb h9 hne => ?_⟩, ⟨ho, fun b hb => ?_⟩, far q h.ql hqg⟩
  · refine (h.bk.away hgr (fun b e => ?_)).role (fun b h1 h2 => ?_) (fun b hb => ?_) (fun b hb => ?_)
    · rcases hr with ⟨rfl, h10⟩ | rfl
      · injection e with e; subst e; omega
      · simp at e
    · rw [upd_ne _ _ (by rintro rfl; rcases hrole with q | q <;> first | omega | (have := h.bk.new _ q; omega))]
    · rw [upd_ne _ _ (by omega)]; exact h.bk.new b (Nat.le_trans hgr.size hb)
    · by_cases e : b = g4
      · subst e
        rcases hrole with q | q
        · exact h.bk.lo b (by omega)
        · omega
      · rw [upd_ne _ _ e] at hb; exact h.bk.lo b hb
  · refine h.fc.to fun w'' o => Off.comp hgr.size (fun b hb hr0 => ?_) (fun i hi => ⟨cell_of_block (far q h.ql hqg) _, .inl ⟨rfl, hi⟩⟩) o
    have hne : b ≠ g4 := by
      rintro rfl
      rcases hrole with q | q <;> omega
    exact ⟨far b hb hne, (upd_ne _ _ hne).trans hr0⟩
  · rcases hr with ⟨rfl, h10⟩ | rfl
    · injection e with e; subst e; exact h.bk.lo g4 (by omega)
    · simp at e
  · obtain ⟨e1, e2, e3⟩ := h.oth b hb h9 hne
    have hbg : b ≠ g4 := by rcases hrole with q | q <;> omega
    exact ⟨(far b (by omega) hbg).trans e1, (upd_ne _ _ hbg).trans e2, e3⟩
  · simp [Value.ownBlock] at hb
    subst hb
    refine ⟨upd_same _ _ _, ?_⟩
    rcases hrole with q | q <;> omega
/-- A cell of the list in hand is written, while no fact speaks of it. -/
theorem IJ.setq (h : IJ X B w wr g ρ0 N dB dF tw q0 0 e [] ρ vs q 0) (k : Nat) (v : Value) : IJ X B w (wr.setCell ⟨q, k, none⟩ v) g ρ0 N dB dF tw q0 0 e [] ρ vs q 0 := by
  have hs : (wr.setCell ⟨q, k, none⟩ v).heap.size = wr.heap.size := by simp [World.setCell]
  have hBq : B ≤ q := h.bk.lo q (by have := h.rq; omega)
  refine ⟨h.bk.away (r := some q) (grown_set _ _ _ _) (fun b e => by injection e with e; subst e; have := h.rq; omega), h.fc.to fun w'' o => ?_, h.rq, by rw [hs]; exact h.ql, ⟨rfl, fun j u hu => by simp at hu, .inl rfl⟩, h.bl.setCell (by simpa using hBq) _, by rw [hs]; exact h.sz, fun b hb h9 hne => ?_⟩
  · exact Off.comp (by rw [hs]; exact Nat.le_refl _) (fun b hb' hr => ⟨heap_set_other (by rintro rfl; have := h.rq; omega), hr⟩) (fun i hi => by omega) o
  · obtain ⟨e1, e2, e3⟩ := h.oth b hb h9 hne
    exact ⟨(heap_set_other e3).trans e1, e2, e3⟩
theorem IJ.begin {d : Bd} (hb : Bk B w g ρ N vs d tw) (hf : Fct X ρ 0 0 w d tw) (hq : ρ q = 9) (hql : q < w.heap.size) : IJ X B w w g ρ N d d tw q 0 e [] ρ vs q 0 :=
  ⟨hb, hf.to fun w'' o => ⟨o.size, o.block, fun i hi => by omega⟩, hq, hql, ⟨rfl, fun j u hu => by simp at hu, .inl rfl⟩, Below.refl _ _, Nat.le_refl _, fun b _ _ hne => ⟨rfl, rfl, hne⟩⟩
theorem IJ.take (h : IJ X B w wr g ρ0 N dB dF tw q0 0 e [] ρ vs q 0) {n : Nat} {xs : List Value} (hl : Lst wr e q n n xs) : IJ X B w wr g ρ0 N dB dF tw q0 n e xs ρ vs q n :=
  ⟨h.bk, h.fc.to fun w'' o => ⟨o.size, o.block, fun i hi => by omega⟩, h.rq, h.ql, hl, h.bl, h.sz, h.oth⟩
end
/-- A list that is known whole and changes no more. -/
def Ow (ρ : Nat → Nat) (o : Nat) (C : Obj) (w : World) : Prop := ρ o = 0 ∧ o < w.heap.size ∧ w.heap[o]? = some C
section
variable {X : World → Prop} {B : Nat} {w wr wa w4 : World} {g : Nat} {ρ0 : Nat → Nat} {N : Int} {dB dF : Bd} {tw : List Tw} {q0 n : Nat} {e : TypeId} {xs : List Value} {ρ : Nat → Nat} {vs : Nat → Value} {q cap : Nat}
theorem Wa.below {v : Value} {m : Nat} {ys : List Value} (hw : Wa w wr ρ v m ys) (ha : Below wr.heap.size wr wa) : Wa w wa ρ v m ys := hw.far fun b hb _ => ⟨ha.block b hb, rfl⟩
theorem Ow.below {o : Nat} {C : Obj} (h : Ow ρ o C wr) (ha : Below wr.heap.size wr wa) : Ow ρ o C wa := ⟨h.1, Nat.lt_of_lt_of_le h.2.1 ha.size, (ha.block o h.2.1).trans h.2.2⟩
theorem IJ.put2 (h : IJ X B w wr g ρ0 N dB dF tw q0 n e xs ρ vs q cap) (k : Nat) (hk : k < 7) {dB' : Bd} {g4 c4 n' : Nat} {xs' : List Value} (hX : ∀ j, j ≠ k → spX dB' tw j = spX dB tw j ∧ spN dB' tw j = spN dB tw j) (hn' : spN dB' tw k = n') (hx' : spX dB' tw k = xs')
    (hown : w4.ownsRow 0 (spT k) (spZ k) (.slice (some ⟨g4, 0, none⟩) n' c4) n' xs') (hlt : g4 < w4.heap.size)
    (hch : ((vs k).ownBlock = some g4 ∧ wr.grownBy w4 (some g4)) ∨ (g4 = wr.heap.size ∧ wr.grownBy w4 none)) {v : Value} {m o : Nat} {ys : List Value} {C : Obj} (hw : Wa w wr ρ v m ys) (ho : Ow ρ o C wr) :
    Wa w (w4.setCell ⟨g, spO k, none⟩ (.slice (some ⟨g4, 0, none⟩) n' c4)) (upd ρ g4 (k + 2)) v m ys ∧ Ow (upd ρ g4 (k + 2)) o C (w4.setCell ⟨g, spO k, none⟩ (.slice (some ⟨g4, 0, none⟩) n' c4)) := by
  have far := h.put_far k hk hX hn' hx' hown hlt hch
  refine ⟨hw.far fun b hb h10 => far b hb (.inr (by omega)), ?_⟩
  obtain ⟨e1, e2⟩ := far o ho.2.1 (.inl ho.1)
  refine ⟨e2.trans ho.1, ?_, e1.trans ho.2.2⟩
  rw [size_set]
  have := ho.2.1
  rcases hch with ⟨_, q⟩ | ⟨_, q⟩ <;> exact Nat.lt_of_lt_of_le this q.size
theorem IJ.grow2 (h : IJ X B w wr g ρ0 N dB dF tw q0 n e xs ρ vs q cap) {g4 cap4 : Nat} {ys : List Value} (ho4 : w4.ownsRow 0 e 1 (.slice (some ⟨g4, 0, none⟩) (n + 1) cap4) (n + 1) (xs ++ ys)) (hlt : g4 < w4.heap.size)
    (hch : (some q = some g4 ∧ wr.grownBy w4 (some g4)) ∨ (g4 = wr.heap.size ∧ wr.grownBy w4 none)) {v : Value} {m : Nat} {zs : List Value} (hw : Wa w wr ρ v m zs) : Wa w w4 (upd (upd ρ q 0) g4 9) v m zs :=
  hw.far fun b hb h10 => h.grow_far ho4 hlt hch b hb (by rintro rfl; have := h.rq; omega) (.inr (by omega))
theorem Ow.kp {α : Type} {enc : α → Value} {l : List α} {o c : Nat} {t : TypeId} (h : Ow ρ o (.cells (l.map enc).toArray t (0, 0)) w) : Kp ρ q n w fun w' => RowE enc w' (.slice (some ⟨o, 0, none⟩) l.length c) l := by
  intro w' k
  refine .inr ⟨o, 0, c, rfl, fun j hj => ?_⟩
  have e := (k.block o h.2.1 h.1).trans h.2.2
  rw [Nat.zero_add]
  simp [World.cell?, e, hj]
end
theorem splice_all (n : Nat) (z : Value) (cs : List Value) (h : cs.length = n) : splice (List.replicate n z) 0 cs = cs := by
  simp [splice, h]
end Go.Proofs.YtbjabpodkaokjaaGreatDoor
