import Derived.Test.YtbjabpodkaokjaaGreatDoorJ37
set_option linter.unusedVariables false
set_option linter.unusedSimpArgs false
namespace Go.Proofs.YtbjabpodkaokjaaGreatDoor
open Go.RowKit

theorem owns_form {w : World} {base : Nat} {e : TypeId} {size : Nat} {v : Value} {n : Nat} {xs : List Value} (h : w.ownsRow base e size v n xs) : ∃ sp cp, v = .slice sp n cp := by
  rcases h.2 with ⟨rfl, rfl⟩ | ⟨g, cap, cur, rfl, _⟩
  · exact ⟨_, _, rfl⟩
  · exact ⟨_, _, rfl⟩
theorem mkA_rep (n : Nat) (z : Value) (hz : z.cells = #[z]) : mkA n z = (List.replicate n z).toArray := by
  apply Array.ext
  · simp [mkA, madeCells, hz]
  · intro i h1 h2
    have := made_one hz n i (by simpa using h2)
    rw [Array.getElem?_eq_getElem h1] at this
    simpa using this
theorem eB_one (L : List Bool) : ∀ v ∈ L.map eB, v.oneCell' = true := by
  intro v hv
  obtain ⟨b, _, rfl⟩ := List.mem_map.1 hv
  rfl
theorem sz_bool : (Tryz.prog.info? 4).map (·.size) = some 1 := by
  obtain ⟨i, h1, h2, h3, h4⟩ := info_parts Tryz.infoBo
  rw [h1]; simp [h3]
theorem notTake (a : List Bool) (k : Nat) (h : k < a.length) : ((a.map (!·)).take k).map eB ++ [eB (!a[k])] = ((a.map (!·)).take (k + 1)).map eB := by
  rw [List.take_add_one, List.map_append]
  simp [h]
set_option maxRecDepth 4000 in
set_option maxHeartbeats 4000000 in
theorem bools_any (X : World → Prop) (B : Nat) (w : World) (g : Nat) (ρ : Nat → Nat) (N : Int) (vs : Nat → Value) (d : Bd) (tw : List Tw) (q0 n : Nat) (a : List Bool) (hb : Bk B w g ρ N vs d tw) (hf : Fct X ρ 0 0 w d tw) (hq : ρ q0 = 9) (hql : q0 < w.heap.size) (hal : a.length = n) (hn : Nw w q0 n (fun j => eB (a[j]?.getD false)))
    (hn2 : n ≤ 1048576) (hN1 : 0 ≤ N) (hN2 : N < 1000000000000) (hs : d.bs.length ≤ 1000000000000) :
    Calls Tryz.prog 54 #[.pointer (some ⟨g, 1, none⟩), .slice (some ⟨q0, 0, none⟩) n n] w fun e w' => e = .returned (.tuple #[]) ∧ ∃ ρ' vs' es us, Bk B w' g ρ' N vs' { d with bs := d.bs ++ es, ws := d.ws ++ us } tw ∧ Fct X ρ' 0 0 w' { d with bs := d.bs ++ es, ws := d.ws ++ us } tw ∧ es.length = 4 ∧ us.length = 4 ∧ Below B w w' ∧ w.heap.size ≤ w'.heap.size ∧ ∀ b, b < w.heap.size → 9 ≤ ρ b → b ≠ q0 → w'.heap[b]? = w.heap[b]? ∧ ρ' b = ρ b := by
  have HJ : Hid (IJ X B w w g ρ N d d tw q0 0 4 [] ρ vs q0 0) := IJ.begin hb hf hq hql
  have HNW : Hid (Nw w q0 n (fun j => if j < 0 then eB (!(a[j]?.getD false)) else eB (a[j]?.getD false))) := hn.congr (fun j _ => by simp)
  have HAL : Hid (a.length = n) := hal
  have HLB : Hid (d.ws.length = d.bs.length) := hf.lB
  have hN0 := hb.cn
  obtain ⟨i1, hi1, h10, h11, h12⟩ := info_parts Tryz.infoLB
  obtain ⟨i2, hi2, h20, h21, h22⟩ := info_parts Tryz.infoBo
  have hmk := fun k h1 h2 w => make_eq Tryz.underlying30 hi2 h20 h21 h22 k h1 h2 w
  clear hb hf hn hal hN0
  go_enter Tryz.func54, Tryz.ntmps54
  go_wp2
  go_loopw [4, 5] (fun wv i wr => ∃ (k : Nat) (ρ' : Nat → Nat), i = .int .i64 k ∧ k ≤ n ∧ IJ X B w wr g ρ N d d tw q0 0 4 [] ρ' vs q0 0 ∧ Nw wr q0 n (fun j => if j < k then eB (!(a[j]?.getD false)) else eB (a[j]?.getD false)) ∧ Wa w wr ρ' wv k (((a.map (!·)).take k).map eB)) (fun _ i _ => n - (intOf i).toNat)
  case atStart => exact ⟨0, ρ, rfl, Nat.zero_le _, HJ.out, HNW.out, World.ownsRow_nil _ _ _ _, fun b hb => by simp [Value.ownBlock] at hb⟩
  case round =>
    obtain ⟨k, ρ', rfl, hk, hj, hnw, hwa⟩ := hrel
    clear HJ HNW
    have HJ : Hid (IJ X B w wr g ρ N d d tw q0 0 4 [] ρ' vs q0 0) := hj
    have HNW : Hid (Nw wr q0 n (fun j => if j < k then eB (!(a[j]?.getD false)) else eB (a[j]?.getD false))) := hnw
    have HWA : Hid (Wa w wr ρ' u4 k (((a.map (!·)).take k).map eB)) := hwa
    clear hj hnw hwa
    by_cases hlt : k < n
    · have hltI : (k : Int) < n := by omega
      have hka : k < a.length := by rw [HAL.out]; exact hlt
      have c1 := HNW.out.c k hlt
      have f1 := HNW.out.fz k
      simp only [Nat.lt_irrefl, if_false, List.getElem?_eq_getElem hka, Option.getD_some] at c1
      obtain ⟨x, hx⟩ : ∃ x, x = a[k] := ⟨_, rfl⟩
      rw [← hx] at c1
      have HX : Hid (x = a[k]) := hx
      have HW1 : Hid (Wa w (wr.setCell ⟨q0, k, none⟩ (.bool !x)) ρ' u4 k (((a.map (!·)).take k).map eB)) := HWA.out.far (fun b hb h10 => ⟨heap_set_other (by rintro rfl; have := HJ.out.rq; omega), rfl⟩)
      have HJ1 : Hid (IJ X B w (wr.setCell ⟨q0, k, none⟩ (.bool !x)) g ρ N d d tw q0 0 4 [] ρ' vs q0 0) := HJ.out.setq k _
      clear hx
      go_wp2_with (at_builtin; refine wpList_append_str _ rfl (.tmp 23) (.tmp 28) 30 rfl 0 4 i2 (.bool false) 1 1 Tryz.underlying30 hi2 h20 h21 h22 rfl (by decide) u4 k (((a.map (!·)).take k).map eB) rfl (World.ownsRow.alloc HW1.out.own _) ⟨wr.heap.size, 0, none⟩ 1 1 [.bool !x] rfl rfl (one_cell_at _ _ _ (size_set _ _ _)) (by simp [Value.oneCell']) (by omega) (by unfold maxLen; omega) (by omega) (Nat.zero_le _) _ rfl ?_; intro g4 k4 w4 ho4 hc4 hl4; obtain ⟨hJ4, hW4, hq4⟩ := (HJ1.out.below ((Below.refl _ _).alloc (Nat.le_refl _) _)).own (HW1.out.far (w' := (wr.setCell ⟨q0, k, none⟩ (.bool !x)).alloc (.cells #[.bool !x] 4)) (ρ' := ρ') (fun b hb _ => ⟨Below.heap_alloc _ _ _ hb, rfl⟩)) ho4 hl4 hc4; have HJ4 : Hid (IJ X B w w4 g ρ N d d tw q0 0 4 [] (upd ρ' g4 10) vs q0 0) := hJ4; have HW4 : Hid (Wa w w4 (upd ρ' g4 10) (.slice (some ⟨g4, 0, none⟩) (k + 1) k4) (k + 1) ((((a.map (!·)).take k).map eB) ++ [.bool !x])) := hW4; have HN4 : Hid (Nw w4 q0 n (fun j => if j = k then .bool !x else if j < k then eB (!(a[j]?.getD false)) else eB (a[j]?.getD false))) := (HNW.out.set k hlt _).of_block (hq4.trans (Below.heap_alloc _ _ _ (by rw [size_set]; exact HJ.out.ql))); clear ho4 hc4 hJ4 hW4 hq4)
      go_roundw
      case rel =>
        refine ⟨k + 1, upd ρ' g4 10, by go_num, by omega, HJ4.out, HN4.out.congr (fun j hj => ?_), ?_⟩
        · by_cases e1 : j = k
          · subst e1; rw [if_pos rfl, if_pos (by omega), HX.out]; simp [hka]
          · rw [if_neg e1]
            by_cases e2 : j < k
            · rw [if_pos e2, if_pos (by omega)]
            · rw [if_neg e2, if_neg (by omega)]
        · have := HW4.out
          rw [HX.out, notTake a k hka] at this
          exact this
      case measure => simp [intOf] <;> omega
    · have hkI : ¬ (k : Int) < n := by omega
      have hkn : k = n := by omega
      subst hkn
      obtain ⟨L, hL⟩ : ∃ L, L = a.map (!·) := ⟨_, rfl⟩
      have hLl : L.length = k := by rw [hL, List.length_map]; exact HAL.out
      have HW2 : Hid (Wa w wr ρ' u4 k (L.map eB)) := by
        have := HWA.out
        rw [← hL, List.take_of_length_le (by omega)] at this
        exact this
      have HJ2 : Hid (IJ X B w wr g ρ N d d tw q0 k 4 (L.map eB) ρ' vs q0 k) := HJ.out.take ⟨by simp [hLl], fun j u hu => by
        obtain ⟨hj, e⟩ := List.getElem?_eq_some_iff.1 hu
        have hjk : j < k := by simpa [hLl] using hj
        rw [HNW.out.c j hjk, if_pos hjk, ← e]
        have hja : j < a.length := by rw [HAL.out]; exact hjk
        simp [hL, hja], .inl rfl⟩
      clear HWA HJ HNW hL HAL
      go_wp2
      go_loopw [1, 4, 6, 7, 8] (fun l wv i _ _ wr => ∃ (kk : Nat) (ρ' : Nat → Nat) (vs' : Nat → Value) (q cap : Nat) (L : List Bool) (es us : List Value), l = .slice (some ⟨q, 0, none⟩) (k + kk) cap ∧ i = .int .i64 kk ∧ kk ≤ 4 ∧ L.length = k + kk ∧ es.length = kk ∧ us.length = kk ∧ IJ X B w wr g ρ N { d with bs := d.bs ++ es, ws := d.ws ++ us } { d with bs := d.bs ++ es, ws := d.ws ++ us } tw q0 (k + kk) 4 (L.map eB) ρ' vs' q cap ∧ Wa w wr ρ' wv (k + kk) (L.map eB)) (fun _ _ i _ _ _ => 4 - (intOf i).toNat)
      case atStart => exact ⟨0, ρ', vs, q0, k, L, [], [], rfl, rfl, by omega, hLl, rfl, rfl, by simpa using HJ2.out, HW2.out⟩
      case round =>
        clear HJ2 HW2 hkI hk hLl
        obtain ⟨kk, ρ', vs', q, cap, L, es, us, rfl, rfl, hk4, hLl, hel, hul, hj, hwa⟩ := hrel
        obtain ⟨sp, cp, hwv⟩ := owns_form hwa.own
        subst hwv
        obtain ⟨nn, hnn⟩ : ∃ nn, nn = k + kk := ⟨_, rfl⟩
        rw [← hnn] at hj hwa hLl ⊢
        have HNN : Hid (nn = k + kk) := hnn
        have HLL : Hid (L.length = nn) := hLl
        have hnn2 : nn ≤ 1048580 := by omega
        have HJ : Hid (IJ X B w wr g ρ N { d with bs := d.bs ++ es, ws := d.ws ++ us } { d with bs := d.bs ++ es, ws := d.ws ++ us } tw q0 nn 4 (L.map eB) ρ' vs' q cap) := hj
        have HWA : Hid (Wa w wr ρ' (.slice sp nn cp) nn (L.map eB)) := hwa
        have HO0 : Hid (ρ' wr.heap.size = 0) := hj.bk.new _ (Nat.le_refl _)
        have HCP : Hid (0 < (L.map eB).length → ∃ ad, sp = some ad ∧ ∀ j v, (L.map eB)[j]? = some v → (wr.alloc (.cells (mkA nn (.bool false)) 4)).cell? (ad.add j) = some v) := fun hp => by
          have ho := hwa.own
          rcases ho.2 with ⟨e, h0⟩ | ⟨gw, cw, cur, e, _, hgw, _⟩
          · rw [List.length_map, hLl] at hp; omega
          · injection e with e
            refine ⟨_, e, fun j v hv => ?_⟩
            have h1 := (Lst.of_owns (by rw [e] at ho; exact ho)).2.1 j v hv
            rw [add_at]
            exact cell_below ((Below.refl _ _).alloc (Nat.le_refl _) _) h1
        obtain ⟨v3, hv3⟩ : ∃ v, v = vs' 3 := ⟨_, rfl⟩
        obtain ⟨v4, hv4⟩ : ∃ v, v = vs' 4 := ⟨_, rfl⟩
        obtain ⟨nB, hnB⟩ : ∃ k, k = (d.bs ++ es).length := ⟨_, rfl⟩
        obtain ⟨nW, hnW⟩ : ∃ k, k = (d.ws ++ us).length := ⟨_, rfl⟩
        have hnB2 : nB ≤ 1000000000004 := by rw [hnB, List.length_append]; omega
        have hnW2 : nW ≤ 1000000000004 := by rw [hnW, List.length_append, HLB.out]; omega
        have HNB : Hid (nB = (d.bs ++ es).length) := hnB
        have HNW : Hid (nW = (d.ws ++ us).length) := hnW
        have HV3 : Hid (v3 = vs' 3) := hv3
        have HV4 : Hid (v4 = vs' 4) := hv4
        have HEL : Hid (es.length = kk ∧ us.length = kk) := ⟨hel, hul⟩
        have hmk' := hmk nn (by omega) (by unfold maxLen; omega)
        clear hnn hLl hj hwa hv3 hv4 hnB hnW hel hul
        by_cases hlt : kk < 4
        · have hltI : (kk : Int) < 4 := by omega
          go_wp2_with (first | (at_builtin; refine wpList_append_str _ rfl (.tmp 72) (.tmp 74) 30 rfl 0 4 i2 (.bool false) 1 1 Tryz.underlying30 hi2 h20 h21 h22 rfl (by decide) (.slice sp nn cp) nn (L.map eB) rfl (World.ownsRow.alloc HCW.out.own _) ⟨w8.heap.size, 0, none⟩ 1 1 [.bool ((N + (kk : Int)) % 2 == 0)] rfl rfl (one_cell_new _ _ _) (by simp [Value.oneCell']) (by omega) (by unfold maxLen; omega) (by omega) (Nat.zero_le _) _ rfl ?_; intro g5 k5 w10 ho5 hc5 hl5; obtain ⟨hD, hDW, _⟩ := (HC.out.below ((Below.refl _ _).alloc (Nat.le_refl _) _)).own (zs := (L ++ [((N + (kk : Int)) % 2 == 0)]).map eB) (HCW.out.below ((Below.refl _ _).alloc (Nat.le_refl _) _)) (by simpa using ho5) hl5 hc5; have HD : Hid (IJ X B w w10 g ρ N { d with bs := d.bs ++ es ++ [.slice (some ⟨q, 0, none⟩) nn cap], ws := d.ws ++ us ++ [.slice (some ⟨wr.heap.size, 0, none⟩) nn nn] } { d with bs := d.bs ++ es ++ [.slice (some ⟨q, 0, none⟩) nn cap], ws := d.ws ++ us ++ [.slice (some ⟨wr.heap.size, 0, none⟩) nn nn] } tw q0 (nn + 1) 4 ((L ++ [((N + (kk : Int)) % 2 == 0)]).map eB) (upd (upd (upd (upd (upd ρ' g1 5) g2 6) q 0) g3 9) g5 10) (upd (upd vs' 3 (.slice (some ⟨g1, 0, none⟩) (nB + 1) k1)) 4 (.slice (some ⟨g2, 0, none⟩) (nW + 1) k2)) g3 k3) := hD; have HDW : Hid (Wa w w10 (upd (upd (upd (upd (upd ρ' g1 5) g2 6) q 0) g3 9) g5 10) (.slice (some ⟨g5, 0, none⟩) (nn + 1) k5) (nn + 1) ((L ++ [((N + (kk : Int)) % 2 == 0)]).map eB)) := hDW; clear ho5 hc5 hD hDW) | (at_builtin; refine wpList_append_lst _ rfl (.tmp 68) (.tmp 70) 30 rfl 4 i2 (.bool false) 1 Tryz.underlying30 hi2 h20 h21 h22 rfl q nn cap (L.map eB) rfl (HB.out.row.of_block (Below.heap_alloc _ _ _ HB.out.ql)) ⟨w6.heap.size, 0, none⟩ 1 (.bool ((N + (kk : Int)) % 2 == 0)) rfl (cells_at _ _ _ (size_set _ _ _)) rfl (by unfold maxLen; omega) (by omega) ?_; intro g3 k3 w8 ho3 hc3 hl3; have HC : Hid (IJ X B w w8 g ρ N { d with bs := d.bs ++ es ++ [.slice (some ⟨q, 0, none⟩) nn cap], ws := d.ws ++ us ++ [.slice (some ⟨wr.heap.size, 0, none⟩) nn nn] } { d with bs := d.bs ++ es ++ [.slice (some ⟨q, 0, none⟩) nn cap], ws := d.ws ++ us ++ [.slice (some ⟨wr.heap.size, 0, none⟩) nn nn] } tw q0 (nn + 1) 4 ((L ++ [((N + (kk : Int)) % 2 == 0)]).map eB) (upd (upd (upd (upd ρ' g1 5) g2 6) q 0) g3 9) (upd (upd vs' 3 (.slice (some ⟨g1, 0, none⟩) (nB + 1) k1)) 4 (.slice (some ⟨g2, 0, none⟩) (nW + 1) k2)) g3 k3) := (HB.out.below ((Below.refl _ _).alloc (Nat.le_refl _) _)).grow (by simp) ho3 hl3 hc3; have HCW : Hid (Wa w w8 (upd (upd (upd (upd ρ' g1 5) g2 6) q 0) g3 9) (.slice sp nn cp) nn (L.map eB)) := (HB.out.below ((Below.refl _ _).alloc (Nat.le_refl _) _)).grow2 ho3 hl3 hc3 (HBW.out.below ((Below.refl _ _).alloc (Nat.le_refl _) _)); clear ho3 hc3) | (at_builtin; refine wpList_append_str _ rfl (.tmp 54) (.tmp 56) 41 rfl 0 30 i1 (.slice none 0 0) 1 24 Tryz.underlying41 hi1 h10 h11 h12 rfl (by decide) v4 nW (d.ws ++ us) rfl (World.ownsRow.alloc HO4.out _) ⟨w4.heap.size, 0, none⟩ 1 1 [.slice (some ⟨wr.heap.size, 0, none⟩) nn nn] rfl rfl (one_cell_at _ _ _ (size_set _ _ _)) (by simp [Value.oneCell']) (by omega) (by unfold maxLen; omega) (by omega) (Nat.zero_le _) _ rfl ?_; intro g2 k2 w6 ho2 hc2 hl2; have hX := (fun j hj => by match j with | 0 => exact ⟨rfl, rfl⟩ | 1 => exact ⟨rfl, rfl⟩ | 2 => exact ⟨rfl, rfl⟩ | 3 => exact ⟨rfl, rfl⟩ | 4 => exact absurd rfl hj | 5 => exact ⟨rfl, rfl⟩ | 6 => exact ⟨rfl, rfl⟩ | _ + 7 => exact ⟨rfl, rfl⟩ : ∀ j, j ≠ 4 → spX { d with bs := d.bs ++ es ++ [.slice (some ⟨q, 0, none⟩) nn cap], ws := d.ws ++ us ++ [.slice (some ⟨wr.heap.size, 0, none⟩) nn nn] } tw j = spX { d with bs := d.bs ++ es ++ [.slice (some ⟨q, 0, none⟩) nn cap], ws := d.ws ++ us } tw j ∧ spN { d with bs := d.bs ++ es ++ [.slice (some ⟨q, 0, none⟩) nn cap], ws := d.ws ++ us ++ [.slice (some ⟨wr.heap.size, 0, none⟩) nn nn] } tw j = spN { d with bs := d.bs ++ es ++ [.slice (some ⟨q, 0, none⟩) nn cap], ws := d.ws ++ us } tw j); have hc2' := hc2; rw [show v4 = upd vs' 3 (.slice (some ⟨g1, 0, none⟩) (nB + 1) k1) 4 by rw [upd_ne _ _ (by omega)]; exact HV4.out] at hc2'; obtain ⟨hB1, c5, f5, _, cN⟩ := (HA.out.below ((Below.refl _ _).alloc (Nat.le_refl _) _)).put 4 (by omega) hX (n' := nW + 1) (xs' := d.ws ++ us ++ [.slice (some ⟨wr.heap.size, 0, none⟩) nn nn]) (by rw [HNW.out]; simp [spN]; omega) rfl ho2 hl2 hc2'; obtain ⟨hB2, hB3⟩ := (HA.out.below ((Below.refl _ _).alloc (Nat.le_refl _) _)).put2 4 (by omega) hX (n' := nW + 1) (xs' := d.ws ++ us ++ [.slice (some ⟨wr.heap.size, 0, none⟩) nn nn]) (by rw [HNW.out]; simp [spN]; omega) rfl ho2 hl2 hc2' (HAW.out.below ((Below.refl _ _).alloc (Nat.le_refl _) _)) (HAO.out.below ((Below.refl _ _).alloc (Nat.le_refl _) _)); rw [upd_ne _ _ (by omega), ← HV4.out] at c5; have HB : Hid (IJ X B w (w6.setCell ⟨g, 5, none⟩ (.slice (some ⟨g2, 0, none⟩) (nW + 1) k2)) g ρ N { d with bs := d.bs ++ es ++ [.slice (some ⟨q, 0, none⟩) nn cap], ws := d.ws ++ us ++ [.slice (some ⟨wr.heap.size, 0, none⟩) nn nn] } { d with bs := d.bs ++ es ++ [.slice (some ⟨q, 0, none⟩) nn cap], ws := d.ws ++ us ++ [.slice (some ⟨wr.heap.size, 0, none⟩) nn nn] } tw q0 nn 4 (L.map eB) (upd (upd ρ' g1 5) g2 6) (upd (upd vs' 3 (.slice (some ⟨g1, 0, none⟩) (nB + 1) k1)) 4 (.slice (some ⟨g2, 0, none⟩) (nW + 1) k2)) q cap) := hB1.fact (hB1.fc.addB (l := L) (by rw [HLL.out]; unfold maxLen; omega) (fun w' o => ⟨kp_row HLL.out hB1.row w' o, by have := hB3.kp (q := q) (n := nn) (c := nn) w' o; rw [HLL.out] at this; exact this⟩)); have HBW : Hid (Wa w (w6.setCell ⟨g, 5, none⟩ (.slice (some ⟨g2, 0, none⟩) (nW + 1) k2)) (upd (upd ρ' g1 5) g2 6) (.slice sp nn cp) nn (L.map eB)) := hB2; simp only [spO] at c5 f5; clear ho2 hc2 hc2' hB1 hB2 hB3 hX) | (at_builtin; refine wpList_append_str _ rfl (.tmp 44) (.tmp 46) 41 rfl 0 30 i1 (.slice none 0 0) 1 24 Tryz.underlying41 hi1 h10 h11 h12 rfl (by decide) v3 nB (d.bs ++ es) rfl (World.ownsRow.alloc HO3.out _) ⟨w2.heap.size, 0, none⟩ 1 1 [.slice (some ⟨q, 0, none⟩) nn cap] rfl rfl (one_cell_new _ _ _) (by simp [Value.oneCell']) (by omega) (by unfold maxLen; omega) (by omega) (Nat.zero_le _) _ rfl ?_; intro g1 k1 w4 ho1 hc1 hl1; have hX := (fun j hj => by match j with | 0 => exact ⟨rfl, rfl⟩ | 1 => exact ⟨rfl, rfl⟩ | 2 => exact ⟨rfl, rfl⟩ | 3 => exact absurd rfl hj | 4 => exact ⟨rfl, rfl⟩ | 5 => exact ⟨rfl, rfl⟩ | 6 => exact ⟨rfl, rfl⟩ | _ + 7 => exact ⟨rfl, rfl⟩ : ∀ j, j ≠ 3 → spX { d with bs := d.bs ++ es ++ [.slice (some ⟨q, 0, none⟩) nn cap], ws := d.ws ++ us } tw j = spX { d with bs := d.bs ++ es, ws := d.ws ++ us } tw j ∧ spN { d with bs := d.bs ++ es ++ [.slice (some ⟨q, 0, none⟩) nn cap], ws := d.ws ++ us } tw j = spN { d with bs := d.bs ++ es, ws := d.ws ++ us } tw j); rw [HV3.out] at hc1; obtain ⟨hA1, c4', f4, cc, _⟩ := (HJ2.out.below ((Below.refl _ _).alloc (Nat.le_refl _) _)).put 3 (by omega) hX (n' := nB + 1) (xs' := d.bs ++ es ++ [.slice (some ⟨q, 0, none⟩) nn cap]) (by rw [HNB.out]; simp [spN]; omega) rfl ho1 hl1 hc1; obtain ⟨hA2, hA3⟩ := (HJ2.out.below ((Below.refl _ _).alloc (Nat.le_refl _) _)).put2 3 (by omega) hX (n' := nB + 1) (xs' := d.bs ++ es ++ [.slice (some ⟨q, 0, none⟩) nn cap]) (by rw [HNB.out]; simp [spN]; omega) rfl ho1 hl1 hc1 (HW2.out.below ((Below.refl _ _).alloc (Nat.le_refl _) _)) (HO2.out.below ((Below.refl _ _).alloc (Nat.le_refl _) _)); rw [← HV3.out] at c4'; have c5' := cc 4 (by omega) (by omega); rw [← HV4.out] at c5'; have HA : Hid (IJ X B w (w4.setCell ⟨g, 4, none⟩ (.slice (some ⟨g1, 0, none⟩) (nB + 1) k1)) g ρ N { d with bs := d.bs ++ es ++ [.slice (some ⟨q, 0, none⟩) nn cap], ws := d.ws ++ us } { d with bs := d.bs ++ es, ws := d.ws ++ us } tw q0 nn 4 (L.map eB) (upd ρ' g1 5) (upd vs' 3 (.slice (some ⟨g1, 0, none⟩) (nB + 1) k1)) q cap) := hA1; have HAW : Hid (Wa w (w4.setCell ⟨g, 4, none⟩ (.slice (some ⟨g1, 0, none⟩) (nB + 1) k1)) (upd ρ' g1 5) (.slice sp nn cp) nn (L.map eB)) := hA2; have HAO : Hid (Ow (upd ρ' g1 5) wr.heap.size (.cells (L.map eB).toArray 4 (0, 0)) (w4.setCell ⟨g, 4, none⟩ (.slice (some ⟨g1, 0, none⟩) (nB + 1) k1))) := hA3; have HO4 : Hid ((w4.setCell ⟨g, 4, none⟩ (.slice (some ⟨g1, 0, none⟩) (nB + 1) k1)).ownsRow 0 30 1 v4 nW (d.ws ++ us)) := (by show World.ownsRow _ _ _ _ _ _ _; rw [HV4.out, HNW.out]; exact HA.out.bk.own 4 (by omega)); simp only [spO] at c4' f4 c5'; clear ho1 hc1 hA1 hA2 hA3 cc hX) | (refine wpList_copy_splice rfl (.tmp 37) (.tmp 38) 30 30 rfl 4 Tryz.underlying30 sz_bool (some ⟨wr.heap.size, 0, none⟩) sp nn nn nn cp rfl rfl wr.heap.size 0 (List.replicate nn (.bool false)) 4 (by rw [heap_alloc_new, mkA_rep _ _ rfl]) (L.map eB) (by rw [List.length_map, HLL.out]; exact (Nat.min_self _).symm) (fun hp => ⟨rfl, HCP.out hp⟩) (by simp [HLL.out]) (eB_one L) wr.heap.size wr ((Below.refl _ _).alloc (Nat.le_refl _) _) (Nat.le_refl _) ?_; intro w2 hg2 hb2; rw [splice_all _ _ _ (by rw [List.length_map]; exact HLL.out)] at hg2; have HJ2 : Hid (IJ X B w w2 g ρ N { d with bs := d.bs ++ es, ws := d.ws ++ us } { d with bs := d.bs ++ es, ws := d.ws ++ us } tw q0 nn 4 (L.map eB) ρ' vs' q cap) := HJ.out.below hb2; have HW2 : Hid (Wa w w2 ρ' (.slice sp nn cp) nn (L.map eB)) := HWA.out.below hb2; have HO2 : Hid (Ow ρ' wr.heap.size (.cells (L.map eB).toArray 4 (0, 0)) w2) := ⟨HO0.out, (Array.getElem?_eq_some_iff.1 hg2.out).1, hg2.out⟩; have HO3 : Hid (w2.ownsRow 0 30 1 v3 nB (d.bs ++ es)) := (by show World.ownsRow _ _ _ _ _ _ _; rw [HV3.out, HNB.out]; exact HJ2.out.bk.own 3 (by omega)); have c4 := HJ2.out.bk.cl 3 (by omega); rw [← HV3.out] at c4; simp only [spO] at c4; clear hg2 hb2))
          go_roundw
          case rel =>
            have hD := HD.out
            have hW := HDW.out
            have hnk : nn + 1 = k + (kk + 1) := by have := HNN.out; omega
            have hE := HEL.out
            rw [List.append_assoc, List.append_assoc, hnk] at hD
            rw [hnk] at hW
            exact ⟨kk + 1, _, _, g3, k3, _, _, _, by rw [hnk], by go_num, by omega, by rw [List.length_append, HLL.out, ← hnk]; rfl, by simp [hE.1], by simp [hE.2], hD, by rw [hnk]; exact hW⟩
          case measure => simp [intOf] <;> omega
        · have hkI : ¬ (kk : Int) < 4 := by omega
          go_wp2
          refine bodyPost_end (results_none rfl _ _ _) rfl ?_
          obtain ⟨r1, r2, r3⟩ := HJ.out.rest
          have := HEL.out
          exact ⟨rfl, _, _, es, us, r1, r2, by omega, by omega, HJ.out.bl, HJ.out.sz, r3⟩
end Go.Proofs.YtbjabpodkaokjaaGreatDoor
