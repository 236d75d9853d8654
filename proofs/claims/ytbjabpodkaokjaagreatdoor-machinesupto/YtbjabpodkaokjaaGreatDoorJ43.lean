import Derived.Test.YtbjabpodkaokjaaGreatDoorJ42
set_option linter.unusedVariables false
set_option linter.unusedSimpArgs false
namespace Go.Proofs.YtbjabpodkaokjaaGreatDoor
open Go.RowKit

/-- The lent blocks may change, up to k rows of them. -/
structure KP (H : Nat) (w wr : World) (k : Nat) : Prop where
  bl : Below H w wr
  far : ∀ b, b < w.heap.size → b ≠ H + 3 → (b < H + 5 ∨ H + 5 + k ≤ b) → wr.heap[b]? = w.heap[b]?
theorem KP.refl (H : Nat) (w : World) (k : Nat) : KP H w w k := ⟨Below.refl _ _, fun _ _ _ _ => rfl⟩
theorem KP.set {H : Nat} {w wr : World} {k : Nat} (h : KP H w wr k) {b : Nat} (hb : H ≤ b) (h2 : b = H + 3 ∨ (H + 5 ≤ b ∧ b < H + 5 + k)) (o : Nat) (v : Value) : KP H w (wr.setCell ⟨b, o, none⟩ v) k :=
  ⟨h.bl.setCell (by simpa using hb) _, fun q h3 h4 h5 => (heap_set_other (by omega)).trans (h.far q h3 h4 h5)⟩
theorem KP.below {H : Nat} {w wr w' : World} {k : Nat} (h : KP H w wr k) (hH : H ≤ w.heap.size) (hb : Below wr.heap.size wr w') : KP H w w' k :=
  ⟨h.bl.trans (hb.mono (Nat.le_trans hH h.bl.size)), fun q h3 h4 h5 => (hb.block q (Nat.lt_of_lt_of_le h3 h.bl.size)).trans (h.far q h3 h4 h5)⟩
theorem KP.mono {H : Nat} {w wr : World} {k k' : Nat} (h : KP H w wr k) (hk : k ≤ k') : KP H w wr k' := ⟨h.bl, fun q h3 h4 h5 => h.far q h3 h4 (by omega)⟩
theorem KP.drewN {H : Nat} {w wr : World} {k : Nat} (h : KP H w wr k) (n : Nat) : KP H w (wr.drewN n) k := ⟨belowN2 h.bl n, h.far⟩
theorem small_of {t : Tb} (ha : t.acc.length ≤ 1048576) (hn : t.next.length ≤ 1048576) (hr : ∀ r ∈ t.next, r.length ≤ 1048576) (hc : t.cls.length ≤ 1048576) : Small t :=
  ⟨by unfold maxLen; omega, by unfold maxLen; omega, fun r h => by have := hr r h; unfold maxLen; omega, by unfold maxLen; omega⟩
set_option maxRecDepth 4000 in
set_option maxHeartbeats 4000000 in
theorem kept_any (w0 w : World) (t : Tb) (va vn : Value) (h0 : TabIn w0 t va vn) (hb : Below w0.heap.size w0 w) (hl : Lnt w0.heap.size w t) (ha : t.acc.length ≤ 1048576) (hn : t.next.length ≤ 1048576) (hr : ∀ r ∈ t.next, r.length ≤ 1048576) (hc : t.cls.length ≤ 1048576) :
    Calls Tryz.prog 113 #[tv t (.slice (some ⟨w0.heap.size + 3, 0, none⟩) t.acc.length (t.acc.length + 8)) (.slice (some ⟨w0.heap.size + 4, 0, none⟩) t.next.length (t.next.length + 8)), tv t va vn] w fun e w' => e = .returned (.bool true) ∧ KP w0.heap.size w w' t.next.length := by
  have hS := small_of ha hn hr hc
  obtain ⟨H, hH⟩ : ∃ H, H = w0.heap.size := ⟨_, rfl⟩
  rw [← hH] at hl hb ⊢
  have hHw : H + 13 + t.next.length ≤ w.heap.size := hl.sz
  have htab := hl.tab
  have hold : TabIn w t va vn := h0.below (hH ▸ hb)
  obtain ⟨f, bk, st, cls, acc, next⟩ := t
  obtain ⟨hac, us0, hul, hu, hrw⟩ := h0
  simp only at *
  obtain ⟨an0, cn0, hvn⟩ := hu.form
  obtain ⟨n, hnn⟩ : ∃ n, n = us0.length := ⟨_, rfl⟩
  rw [← hnn] at hvn
  obtain ⟨aa0, ca0, hva⟩ := hac.form
  obtain ⟨na, hna⟩ : ∃ n, n = acc.length := ⟨_, rfl⟩
  rw [← hna] at hva
  subst hva hvn
  have hnn2 : n = next.length := by omega
  rw [← hna, ← hnn2] at htab ⊢
  have HNA : Hid (na = acc.length) := hna
  have HNN : Hid (n = us0.length ∧ n = next.length) := ⟨hnn, hnn2⟩
  obtain ⟨w1, hw1⟩ : ∃ w1, w1 = (w.alloc (.cells #[.bool f, .bool bk, .int .i64 st, .string (ba cls), .slice (some ⟨H + 3, 0, none⟩) na (na + 8), .slice (some ⟨H + 4, 0, none⟩) n (n + 8)] 33)).alloc (.cells #[.bool f, .bool bk, .int .i64 st, .string (ba cls), .slice aa0 na ca0, .slice an0 n cn0] 33) := ⟨_, rfl⟩
  have hb1 : Below w.heap.size w w1 := by rw [hw1]; exact ((Below.refl _ _).alloc (Nat.le_refl _) _).alloc (by simp) _
  have hs1 : w1.heap.size = w.heap.size + 2 := by rw [hw1]; simp
  have hXb : w1.heap[w.heap.size]? = some (.cells #[.bool f, .bool bk, .int .i64 st, .string (ba cls), .slice (some ⟨H + 3, 0, none⟩) na (na + 8), .slice (some ⟨H + 4, 0, none⟩) n (n + 8)] 33) := by
    rw [hw1, Below.heap_alloc _ _ _ (by simp)]; exact heap_alloc_new w _
  have hTb : w1.heap[w.heap.size + 1]? = some (.cells #[.bool f, .bool bk, .int .i64 st, .string (ba cls), .slice aa0 na ca0, .slice an0 n cn0] 33) := by
    rw [hw1]; have := heap_alloc_new (w.alloc (.cells #[.bool f, .bool bk, .int .i64 st, .string (ba cls), .slice (some ⟨H + 3, 0, none⟩) na (na + 8), .slice (some ⟨H + 4, 0, none⟩) n (n + 8)] 33)) (.cells #[.bool f, .bool bk, .int .i64 st, .string (ba cls), .slice aa0 na ca0, .slice an0 n cn0] 33); simpa using this
  have HW : Hid (w1 = (w.alloc (.cells #[.bool f, .bool bk, .int .i64 st, .string (ba cls), .slice (some ⟨H + 3, 0, none⟩) na (na + 8), .slice (some ⟨H + 4, 0, none⟩) n (n + 8)] 33)).alloc (.cells #[.bool f, .bool bk, .int .i64 st, .string (ba cls), .slice aa0 na ca0, .slice an0 n cn0] 33)) := hw1
  have hl1 := hl.below hb1
  have HSM : Hid (Calls Tryz.prog 17 #[tv ⟨f, bk, st, cls, acc, next⟩ (.slice (some ⟨H + 3, 0, none⟩) na (na + 8)) (.slice (some ⟨H + 4, 0, none⟩) n (n + 8)), tv ⟨f, bk, st, cls, acc, next⟩ (.slice aa0 na ca0) (.slice an0 n cn0)] w1 fun e w' => e = .returned (.bool true) ∧ Below w1.heap.size w1 w') := sameT_eq w1 _ _ _ _ _ (htab.below hb1) (hold.below hb1) hS
  have HKX : Hid (∀ w' : World, (w'.heap[w.heap.size]? = w1.heap[w.heap.size]?) → w'.cell? ⟨w.heap.size, 4, none⟩ = some (.slice (some ⟨H + 3, 0, none⟩) na (na + 8)) ∧ w'.cell? ⟨w.heap.size, 5, none⟩ = some (.slice (some ⟨H + 4, 0, none⟩) n (n + 8))) := fun w' e => by
    obtain ⟨y0, y1, y2, y3, y4, y5⟩ := box6 (e.trans hXb)
    exact ⟨y4, y5⟩
  have HKT : Hid (∀ w' : World, (w'.heap[w.heap.size + 1]? = w1.heap[w.heap.size + 1]?) → w'.cell? ⟨w.heap.size + 1, 4, none⟩ = some (.slice aa0 na ca0) ∧ w'.cell? ⟨w.heap.size + 1, 5, none⟩ = some (.slice an0 n cn0)) := fun w' e => by
    obtain ⟨y0, y1, y2, y3, y4, y5⟩ := box6 (e.trans hTb)
    exact ⟨y4, y5⟩
  have HLN : Hid (Lnt H w1 ⟨f, bk, st, cls, acc, next⟩) := hl1
  have HS1 : Hid (w1.heap.size = w.heap.size + 2 ∧ H + 13 + n ≤ w.heap.size ∧ H = w0.heap.size) := ⟨hs1, by rw [hnn2]; exact hHw, hH⟩
  have HB1 : Hid (Below w.heap.size w w1) := hb1
  have HU : Hid (RowE id w0 (.slice an0 n cn0) us0) := hu
  have HRW : Hid (∀ j (h1 : j < us0.length) (h2 : j < next.length), RowE eI w0 us0[j] next[j]) := hrw
  have HR : Hid (∀ r ∈ next, r.length ≤ 1048576) := hr
  have HBO : Hid (Below w0.heap.size w0 w1) := (hH ▸ hb).trans (hb1.mono (by omega))
  have hn2 : n ≤ 1048576 := by omega
  have ha2 : na ≤ 1048576 := by omega
  obtain ⟨x0, x1, x2, x3, x4, x5⟩ := box6 hXb
  obtain ⟨y0, y1, y2, y3, y4, y5⟩ := box6 hTb
  clear hac hul hu hrw hb1 hs1 hXb hTb hw1 hnn hna hH hl1 hl hold htab hS hb hnn2 hHw
  go_enter Tryz.func113, Tryz.ntmps113
  go_upto_region 2 with (go_at_call 17; rw [← HW.out]; refine HSM.out.mono ?_; rintro e w2 ⟨rfl, hb2⟩; have HB2 : Hid (Below w1.heap.size w1 w2) := hb2; clear hb2)
  have HK2 : Hid (KP H w w2 n) := ((KP.refl H w n).below (by have := HS1.out; omega) HB1.out).below (by have := HS1.out; omega) HB2.out
  have HL2 : Hid (Lnt H w2 ⟨f, bk, st, cls, acc, next⟩) := HLN.out.below HB2.out
  have HFX : Hid (∀ wr, KP H w2 wr n → wr.cell? ⟨w.heap.size, 4, none⟩ = some (.slice (some ⟨H + 3, 0, none⟩) na (na + 8)) ∧ wr.cell? ⟨w.heap.size, 5, none⟩ = some (.slice (some ⟨H + 4, 0, none⟩) n (n + 8)) ∧ wr.cell? ⟨w.heap.size + 1, 4, none⟩ = some (.slice aa0 na ca0) ∧ wr.cell? ⟨w.heap.size + 1, 5, none⟩ = some (.slice an0 n cn0)) := fun wr h => by
    have := HS1.out
    have hz := HB2.out.size
    obtain ⟨p1, p2⟩ := HKX.out wr ((h.far _ (by omega) (by omega) (by omega)).trans (HB2.out.block _ (by omega)))
    obtain ⟨p3, p4⟩ := HKT.out wr ((h.far _ (by omega) (by omega) (by omega)).trans (HB2.out.block _ (by omega)))
    exact ⟨p1, p2, p3, p4⟩
  obtain ⟨p1, p2, p3, p4⟩ := HFX.out w2 (KP.refl _ _ _)
  clear x0 x1 x2 x3 x4 x5 y0 y1 y2 y3 y4 y5
  go_wp2
  go_loopw [5, 7] (fun ok i wr => ∃ k : Nat, ok = .bool true ∧ i = .int .i64 k ∧ k ≤ na + 8 ∧ KP H w2 wr 0 ∧ ∃ F, Nw wr (H + 3) (na + 8) F ∧ (∀ j, k ≤ j → F j = lntA acc j) ∧ ∀ j, ∃ b, F j = .bool b) (fun _ i _ => na + 8 - (intOf i).toNat)
  case atStart => exact ⟨0, rfl, rfl, Nat.zero_le _, KP.refl _ _ _, _, by have := HL2.out.a; simp only at this; rw [← HNA.out] at this; exact this, fun _ _ => rfl, fun j => by unfold lntA; split <;> exact ⟨_, rfl⟩⟩
  case round =>
    clear p1 p2 p3 p4
    obtain ⟨k, rfl, rfl, hk, hkp, F, hnw, hF, hFb⟩ := hrel
    have HK : Hid (KP H w2 wr 0) := hkp
    have HN : Hid (Nw wr (H + 3) (na + 8) F) := hnw
    obtain ⟨p1, p2, p3, p4⟩ := HFX.out wr (hkp.mono (Nat.zero_le _))
    clear hkp hnw
    by_cases hlt : k < na + 8
    · have hltI : (k : Int) < na + 8 := by omega
      have c1 := HN.out.c k hlt
      have f1 := HN.out.fz k
      have HSX : Hid (∀ v : Bool, KP H w2 (wr.setCell ⟨H + 3, k, none⟩ (.bool v)) 0 ∧ ∃ F, Nw (wr.setCell ⟨H + 3, k, none⟩ (.bool v)) (H + 3) (na + 8) F ∧ (∀ j, k + 1 ≤ j → F j = lntA acc j) ∧ ∀ j, ∃ b, F j = .bool b) := fun v => ⟨HK.out.set (by omega) (.inl rfl) _ _, _, HN.out.set k hlt _, fun j hj => by rw [if_neg (by omega)]; exact hF j (by omega), fun j => by
        by_cases e : j = k
        · rw [if_pos e]; exact ⟨_, rfl⟩
        · rw [if_neg e]; exact hFb j⟩
      by_cases hka : k < na
      · have hkaI : (k : Int) < na := by omega
        obtain ⟨b, hb⟩ := hFb k
        rw [hb] at c1
        clear hF hFb hb
        go_wp2
        go_roundw
        case rel => exact ⟨k + 1, rfl, by go_num, by omega, HSX.out _⟩
        case measure => simp [intOf] <;> omega
      · have hkaI : ¬ (k : Int) < na := by omega
        rw [hF k (Nat.le_refl _)] at c1
        have hka' : ¬ k < acc.length := by rw [← HNA.out]; exact hka
        simp only [lntA, hka', if_false] at c1
        clear hF hFb hka'
        go_wp2
        go_roundw
        case rel => exact ⟨k + 1, rfl, by go_num, by omega, HSX.out _⟩
        case measure => simp [intOf] <;> omega
    · have hkI : ¬ (k : Int) < na + 8 := by omega
      clear hF hFb HN
      go_wp2
      rename World => w3
      clear p1 p2 p3 p4 hk
      have hHn := HS1.out.2.1
      go_loopw [5, 9] (fun ok i wr => ∃ k : Nat, ok = .bool true ∧ i = .int .i64 k ∧ n ≤ k ∧ k ≤ n + 8 ∧ KP H w2 wr 0) (fun _ i _ => n + 8 - (intOf i).toNat)
      case atStart => exact ⟨n, rfl, rfl, Nat.le_refl _, by omega, HK.out⟩
      case round =>
        clear HK
        obtain ⟨q, rfl, rfl, hq1, hq2, hkp⟩ := hrel
        have HK : Hid (KP H w2 wr 0) := hkp
        clear hkp
        have hz2 : w.heap.size + 2 ≤ w2.heap.size := by have h1 := HB2.out.size; have h2 := HS1.out.1; omega
        by_cases hql : q < n + 8
        · have hqI : (q : Int) < n + 8 := by omega
          have hqn : ¬ q < next.length := by have := HNN.out.2; omega
          have c1 := (cell_of_block (HK.out.far (H + 4) (by omega) (by omega) (by omega)) q).trans (HL2.out.l.c q (by show q < next.length + 8; have := HNN.out.2; omega))
          simp only [lntL, hqn, if_false] at c1
          have c2 := HL2.out.s (q - n) (by omega)
          simp only at c2
          rw [← HNN.out.2, show H + 5 + n + (q - n) = H + 5 + q by omega] at c2
          have c3 := (cell_of_block (HK.out.far (H + 5 + q) (by omega) (by omega) (by omega)) 0).trans c2
          clear c2 hqn
          go_wp2
          go_roundw
          case rel => exact ⟨q + 1, rfl, by go_num, by omega, by omega, HK.out⟩
          case measure => simp [intOf] <;> omega
        · have hqI : ¬ (q : Int) < n + 8 := by omega
          clear hq1 hq2
          obtain ⟨p1, p2, p3, p4⟩ := HFX.out wr (HK.out.mono (Nat.zero_le _))
          go_wp2
          rename World => w4
          clear p1 p2 p3 p4
          go_loopw [5, 10, 11, 12] (fun ok i _ _ wr => ∃ k : Nat, ok = .bool true ∧ i = .int .i64 k ∧ k ≤ n ∧ KP H w2 wr k) (fun _ i _ _ _ => n - (intOf i).toNat)
          case atStart => exact ⟨0, rfl, rfl, Nat.zero_le _, HK.out⟩
          case round =>
            clear HK
            obtain ⟨k3, rfl, rfl, hk3, hkp⟩ := hrel
            rename World => w5
            have HK : Hid (KP H w2 w5 k3) := hkp
            clear hkp
            obtain ⟨p1, p2, p3, p4⟩ := HFX.out w5 (HK.out.mono hk3)
            by_cases hlt : k3 < n
            · have hltI : (k3 : Int) < n := by omega
              have hj1 : k3 < us0.length := by rw [← HNN.out.1]; exact hlt
              have hj2 : k3 < next.length := by rw [← HNN.out.2]; exact hlt
              obtain ⟨bn, on, cn1, hvn, hcell⟩ := HU.out.nonnil (by omega)
              injection hvn with e1 e2 e3
              subst e1
              obtain ⟨ar, cr, hform⟩ := (HRW.out k3 hj1 hj2).form
              obtain ⟨r, hre⟩ : ∃ r, r = next[k3] := ⟨_, rfl⟩
              obtain ⟨lr, hlr⟩ : ∃ lr, lr = r.length := ⟨_, rfl⟩
              rw [← hre, ← hlr] at hform
              have hlr2 : lr ≤ 1048576 := by rw [hlr, hre]; exact HR.out _ (List.getElem_mem hj2)
              have hbn : bn < w0.heap.size := cell_lt (hcell k3 hj1)
              have huk : w2.cell? ⟨bn, on + k3, none⟩ = some (.slice ar lr cr) := by
                have := cell_below (HBO.out.trans (HB2.out.mono HBO.out.size)) (hcell k3 hj1)
                simp only [id] at this
                rw [hform] at this
                exact this
              have HUK : Hid (∀ wr, KP H w2 wr n → wr.cell? ⟨bn, on + k3, none⟩ = some (.slice ar lr cr)) := fun wr h => (cell_of_block (h.far bn (by have := HS1.out.2.2; omega) (by have := HS1.out.2.2; omega) (by have := HS1.out.2.2; omega)) _).trans huk
              have uk := HUK.out w5 (HK.out.mono hk3)
              have c4 := (cell_of_block (HK.out.far (H + 4) (by omega) (by omega) (by omega)) k3).trans (HL2.out.l.c k3 (by show k3 < next.length + 8; omega))
              simp only [lntL, hj2, if_true, List.getElem?_eq_getElem hj2, Option.getD_some] at c4
              rw [← hre, ← hlr] at c4
              have HNr : Hid (Nw w5 (H + 5 + k3) (lr + 8) (lntR r)) := by
                have h1 := (HL2.out.r k3 hj2).of_block (HK.out.far (H + 5 + k3) (by omega) (by omega) (by omega))
                simp only at h1
                rw [← hre, ← hlr] at h1
                exact h1
              have hn8 : (k3 : Int) < n + 8 := by omega
              have HLR : Hid (lr = r.length) := hlr
              clear e2 e3 hcell hform hre hlr huk hbn
              go_wp2
              go_quiet (fail)
              go_wp2
              go_loopw [5, 12] (fun ok i wr => ∃ q : Nat, ok = .bool true ∧ i = .int .i64 q ∧ q ≤ lr + 8 ∧ KP H w2 wr (k3 + 1) ∧ ∃ F, Nw wr (H + 5 + k3) (lr + 8) F ∧ (∀ j, q ≤ j → F j = lntR r j) ∧ ∀ j, ∃ z, F j = .int .i64 z) (fun _ i _ => lr + 8 - (intOf i).toNat)
              case atStart => exact ⟨0, rfl, rfl, Nat.zero_le _, (HK.out.mono (by omega)).drewN nq, _, HNr.out.of_block rfl, fun _ _ => rfl, fun j => by unfold lntR; split <;> exact ⟨_, rfl⟩⟩
              case round =>
                clear p1 p2 p3 p4 uk c4 HK HNr
                obtain ⟨q, rfl, rfl, hq, hkp, F, hnw, hF, hFb⟩ := hrel
                have HK : Hid (KP H w2 wr (k3 + 1)) := hkp
                have HN : Hid (Nw wr (H + 5 + k3) (lr + 8) F) := hnw
                obtain ⟨p1, p2, p3, p4⟩ := HFX.out wr (hkp.mono (by omega))
                have uk := HUK.out wr (hkp.mono (by omega))
                clear hkp hnw
                by_cases hql : q < lr + 8
                · have hqI : (q : Int) < lr + 8 := by omega
                  have c1 := HN.out.c q hql
                  have f1 := HN.out.fz q
                  have HSX : Hid (KP H w2 (wr.setCell ⟨H + 5 + k3, q, none⟩ (.int .i64 (-79))) (k3 + 1) ∧ ∃ F, Nw (wr.setCell ⟨H + 5 + k3, q, none⟩ (.int .i64 (-79))) (H + 5 + k3) (lr + 8) F ∧ (∀ j, q + 1 ≤ j → F j = lntR r j) ∧ ∀ j, ∃ z, F j = .int .i64 z) := ⟨HK.out.set (by omega) (.inr ⟨by omega, by omega⟩) _ _, _, HN.out.set q hql _, fun j hj => by rw [if_neg (by omega)]; exact hF j (by omega), fun j => by
                    by_cases e : j = q
                    · rw [if_pos e]; exact ⟨_, rfl⟩
                    · rw [if_neg e]; exact hFb j⟩
                  by_cases hka : q < lr
                  · have hkaI : (q : Int) < lr := by omega
                    obtain ⟨z, hz⟩ := hFb q
                    rw [hz] at c1
                    clear hF hFb hz
                    go_wp2
                    go_roundw
                    case rel => exact ⟨q + 1, rfl, by go_num, by omega, HSX.out⟩
                    case measure => simp [intOf] <;> omega
                  · have hkaI : ¬ (q : Int) < lr := by omega
                    rw [hF q (Nat.le_refl _)] at c1
                    have hka' : ¬ q < r.length := by rw [← HLR.out]; exact hka
                    simp only [lntR, hka', if_false] at c1
                    clear hF hFb hka'
                    go_wp2
                    go_roundw
                    case rel => exact ⟨q + 1, rfl, by go_num, by omega, HSX.out⟩
                    case measure => simp [intOf] <;> omega
                · have hqI : ¬ (q : Int) < lr + 8 := by omega
                  clear hF hFb HN
                  go_wp2
                  go_roundw
                  case rel => exact ⟨k3 + 1, rfl, by go_num, by omega, HK.out⟩
                  case measure => simp [intOf] <;> omega
            · have hkI : ¬ (k3 : Int) < n := by omega
              go_wp2
              go_ret
              refine ⟨rfl, ?_⟩
              have hk := HK.out.mono hk3
              have hz := HK2.out
              have hs2 := hz.bl.size
              exact ⟨hz.bl.trans hk.bl, fun b h1 h2 h3 => (hk.far b (by omega) h2 h3).trans (hz.far b h1 h2 h3)⟩
end Go.Proofs.YtbjabpodkaokjaaGreatDoor
