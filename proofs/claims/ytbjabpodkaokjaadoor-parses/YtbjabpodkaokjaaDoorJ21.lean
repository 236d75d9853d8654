import Derived.Test.YtbjabpodkaokjaaDoorJ20
set_option linter.unusedVariables false
set_option linter.unusedSimpArgs false
namespace Go.Proofs.YtbjabpodkaokjaaDoor
open Go.RowKit

theorem Tryd.infoPart : (Tryd.prog.info? 80).map (fun i => (i.zero, i.size, i.bytes)) = some (some (.agg #[.slice none 0 0, .int .u64 0, .int .u64 0, .int .u64 0, .int .u64 0, .slice none 0 0]), 6, 80) := by kernel_rfl

def preL (acc : List Prt) : Res (List Prt) → Res (List Prt)
  | .ok cs r => .ok (acc ++ cs) r
  | .bad r => .bad r
theorem nestC_snoc (ps : List Prt) (p : Prt) : nestC (ps ++ [p]) = max (nestC ps) (nestP p) := by
  induction ps with
  | nil => simp [nestC]
  | cons q ps ih => simp only [List.cons_append, nestC, ih]; omega
theorem ownsRow_len {w : World} {base : Nat} {e : TypeId} {size : Nat} {v : Value} {n : Nat} {xs : List Value} (h : w.ownsRow base e size v n xs) : xs.length = n * size := h.1

structure ChnAt (w w' : World) (b : Nat) (s : ByteArray) (d x : Int) (R0 : Res (List Prt)) (n : Nat) (acc : List Prt) (css : List (List Value)) (v : Value) (r : List UInt8) : Prop where
  st : St w' b s r d (up x d (nestC acc))
  rd : Rd b w w'
  own : w'.ownsRow w.heap.size 80 6 v acc.length css.flatten
  rep : RepPs w' (fun g => From w.heap.size w' g ∧ v.ownBlock ≠ some g) acc css
  len : acc.length + r.length ≤ 200
  dep : d + nestC acc ≤ 200
  lim : 0 ≤ d ∧ d + r.length ≤ 200
  hn : 4 * r.length + 3 ≤ n
  heq : preL acc (pChain n r) = R0

theorem chain_rep {w w' w2 w3 w4 : World} {b : Nat} {acc : List Prt} {css : List (List Value)} {v v' : Value} {p : Prt} {cells : List Value} (hlt : b < w.heap.size)
    (hrd : Rd b w w') (hown : w'.ownsRow w.heap.size 80 6 v acc.length css.flatten) (hrep : RepPs w' (fun g => From w.heap.size w' g ∧ v.ownBlock ≠ some g) acc css)
    (hr2 : Rd b w' w2) (hp : RepP w2 (From w'.heap.size w2) p cells) (hr3 : Rd b w2 w3) (hgr : w3.grownBy w4 v.ownBlock) (hob : v'.ownBlock = v.ownBlock ∨ v'.ownBlock = some w3.heap.size) :
    RepPs w4 (fun g => From w.heap.size w4 g ∧ v'.ownBlock ≠ some g) (acc ++ [p]) (css ++ [cells]) := by
  have hv : ∀ k, v.ownBlock = some k → w.heap.size ≤ k ∧ k < w'.heap.size := fun k hk => hown.lt k hk
  have h1 := hrd.size
  have h2 := hr2.size
  have h3 := hr3.size
  have h4 := hgr.size
  refine RepPs.snoc (RepP.of_heap (fun g hg hlt' => ?_) p cells hp) (RepPs.of_heap (fun g hg hlt' => ?_) acc css hrep)
  · have hg1 := hg.1
    have ne : v.ownBlock ≠ some g := fun e => by have := (hv g e).2; omega
    refine ⟨⟨⟨by omega, by omega⟩, ?_⟩, (hgr.block g (by omega) (fun e => ne e.symm)).trans (hr3.block g hlt' (by omega))⟩
    rcases hob with e | e <;> rw [e]
    · exact ne
    · intro q; injection q with q; omega
  · obtain ⟨hg1, hg2⟩ := hg
    have hgb : g ≠ b := by have := hg1.1; omega
    refine ⟨⟨⟨hg1.1, by omega⟩, ?_⟩, (hgr.block g (by omega) (fun e => hg2 e.symm)).trans ((hr3.block g (by omega) hgb).trans (hr2.block g hlt' hgb))⟩
    rcases hob with e | e <;> rw [e]
    · exact hg2
    · intro q; injection q with q; have := hg1.2; omega

set_option maxHeartbeats 2000000 in
theorem chain_step (n0 : Nat) (hK : ∀ n, n < n0 → PartK n) (w : World) (b : Nat) (s : ByteArray) (r : List UInt8) (d x : Int) (h : St w b s r d x) (hl : Lim d x r) (hn0 : 4 * r.length + 3 ≤ n0) (R0 : Res (List Prt)) (hR0 : pChain n0 r = R0) :
    Calls Tryd.prog 32 #[.pointer (some ⟨b, 0, none⟩)] w fun e w' => ChnRes w w' b s d x e R0 := by
  have hne := h.ne
  have hlt := h.lt
  obtain ⟨d0, dr, dx, x1⟩ := hl
  obtain ⟨i0, hi, hz0, hz1, hz2⟩ := info_parts Tryd.infoPart
  have HK : Hid (∀ n, n < n0 → PartK n) := hK
  clear hK
  go_enter Tryd.func32, Tryd.ntmps32
  go_wp2
  refine wp_scope_once 0 (fun a' w' => ∃ n acc css v r', n ≤ n0 ∧ ChnAt w w' b s d x R0 n acc css v r' ∧ ∃ u5 u6 u7 u8 u9 u10 u11 u12 u13 u14 u15 u16 u17 u18 u19 u20 u21, a' = { tmps := #[.pointer (some ⟨b, 0, none⟩), undef, .slice none 0 0, .bool false, v, u5, u6, u7, u8, u9, u10, u11, u12, u13, u14, u15, u16, u17, u18, u19, u20, u21], defers := [] }) (fun _ w' => leftOf b s w') rfl ?_ ?_
  · intro hp
    have HP : Hid _ := hp
    clear hp
    go_wp2
    go_step3
    refine ‹∀ a w, Code.wp _ _ _ a w → _› _ _ (HP.out _ _ ⟨n0, [], [], .slice none 0 0, r, Nat.le_refl _, ⟨?_, Rd.refl _ _, World.ownsRow_nil _ _ _ _, ?_, ?_, ?_, ⟨d0, dr⟩, hn0, ?_⟩, _, _, _, _, _, _, _, _, _, _, _, _, _, _, _, _, _, rfl⟩)
    · rw [show nestC [] = 0 from by simp [nestC], up_zero dx]; exact h
    · simp [RepPs]
    · have := h.len; simpa using this
    · simp [nestC]; omega
    · rw [hR0]; cases R0 <;> rfl
  · rintro a' w' ⟨n, acc, css, v, r', hnn, ⟨hst, hrd, hown, hrep, hlen, hdep, ⟨d0', hlim⟩, hn, heq⟩, u5, u6, u7, u8, u9, u10, u11, u12, u13, u14, u15, u16, u17, u18, u19, u20, u21, rfl⟩
    obtain ⟨n', rfl⟩ : ∃ n', n = n' + 1 := ⟨n - 1, by omega⟩
    have HO : Hid (w'.ownsRow w.heap.size 80 6 v acc.length css.flatten) := hown
    have HR : Hid (RepPs w' (fun g => From w.heap.size w' g ∧ v.ownBlock ≠ some g) acc css) := hrep
    clear hown hrep
    cases hB : begins r' with
    | false =>
      have hba := fun w hw => beginsAtom_any w b s r' d (up x d (nestC acc)) hw
      rw [hB] at hba
      have HQ : Hid (R0 = .ok acc r') := by show _ = _; rw [← heq]; simp [pChain, hB, preL]
      clear heq hB
      obtain ⟨q0, q1, q2, hvq⟩ := slice_form_of_owns HO.out
      go_wp2_with (go_at_call 39; refine (hba _ hst).mono ?_; rintro e w2 ⟨rfl, g2, hr2⟩)
      simp only [Exit.jump]
      go_ret2
      rw [HQ.out]
      refine ⟨⟨q0, q1, q2, ⟨css, ?_, ?_⟩, rfl⟩, g2, hrd.trans hr2⟩
      · rw [← hvq]; exact RowIn.of_owns (ownsRow_rd HO.out hr2 hlt)
      · exact RepPs.of_heap (fun g hg hlt' => ⟨⟨hg.1.1, Nat.lt_of_lt_of_le hlt' hr2.size⟩, hr2.block g hlt' (by have := hg.1.1; omega)⟩) acc css HR.out
    | true =>
      have hba := fun w hw => beginsAtom_any w b s r' d (up x d (nestC acc)) hw
      rw [hB] at hba
      have hpt := fun w hw => HK.out n' (by omega) w b s r' d (up x d (nestC acc)) hw ⟨d0, hlim, by have := up_ge x d (nestC acc); omega, up_le x1 hdep⟩ (by omega) hB
      cases hP : pPart n' r' with
      | bad r2 =>
        rw [hP] at hpt
        have HQ : Hid (R0 = .bad r2) := by show _ = _; rw [← heq]; simp [pChain, hB, hP, preL]
        clear heq hB hP
        go_wp2_with (first | (go_at_call 40; refine (hpt _ g2).mono ?_; rintro e w3 ⟨x', ⟨g0, m0, c0, y0, y1, y2, y3, g1, m1, c1, rfl⟩, g3, hr3⟩) | (go_at_call 39; refine (hba _ hst).mono ?_; rintro e w2 ⟨rfl, g2, hr2⟩))
        simp only [Exit.jump]
        go_ret2
        rw [HQ.out]
        exact ⟨x', rfl, g3.alloc _, ((hrd.trans hr2).trans hr3).alloc _⟩
      | ok p r2 =>
        rw [hP] at hpt
        have hlp := (pLen n').2.2.1 _ _ _ hP
        have HQ : Hid (preL (acc ++ [p]) (pChain n' r2) = R0) := by
          show _ = _
          rw [← heq]
          simp only [pChain, hB, hP, if_true]
          cases pChain n' r2 <;> simp [preL]
        clear heq hB hP
        go_wp2_with (first | (at_builtin; refine wpList_append_own_at _ rfl (.tmp 18) (.tmp 20) 64 rfl w.heap.size 80 i0 (.agg #[.slice none 0 0, .int .u64 0, .int .u64 0, .int .u64 0, .int .u64 0, .slice none 0 0]) 6 80 Tryd.underlying64 hi hz0 hz1 hz2 rfl (by decide) v acc.length css.flatten rfl (((ownsRow_rd (ownsRow_rd HO.out hr2 hlt) hr3 hlt).alloc _).alloc _) ⟨w3.heap.size + 1, 0, none⟩ 1 1 [.slice g0 m0 c0, .int .u64 y0, .int .u64 y1, .int .u64 y2, .int .u64 y3, .slice g1 m1 c1] rfl rfl ?c1 ?c2 ?c3 ?c4 ?c5 ?_) | (go_at_call 40; refine (hpt _ g2).mono ?_; rintro e w3 ⟨⟨g0, m0, c0, y0, y1, y2, y3, g1, m1, c1, hrp, rfl⟩, g3, hr3⟩; have HRP : Hid _ := hrp; clear hrp) | (go_at_call 39; refine (hba _ hst).mono ?_; rintro e w2 ⟨rfl, g2, hr2⟩))
        case c1 =>
          intro j u hj
          match j, hj with
          | 0, hj => simp at hj; subst hj; simp [Addr.add, go_sem]
          | 1, hj => simp at hj; subst hj; simp [Addr.add, go_sem]
          | 2, hj => simp at hj; subst hj; simp [Addr.add, go_sem]
          | 3, hj => simp at hj; subst hj; simp [Addr.add, go_sem]
          | 4, hj => simp at hj; subst hj; simp [Addr.add, go_sem]
          | 5, hj => simp at hj; subst hj; simp [Addr.add, go_sem]
        case c2 => intro u hu; simp at hu; rcases hu with rfl | rfl | rfl | rfl | rfl | rfl <;> rfl
        case c3 => unfold maxLen; omega
        case c4 => omega
        case c5 => have := ((hrd.trans hr2).trans hr3).size; simp; omega
        intro v' w4 hown4 hgr _ hob
        have hrow : ∀ k, v.ownBlock = some k → w.heap.size ≤ k := fun k hk => (HO.out.lt k hk).1
        have HR4 : Hid _ := chain_rep (b := b) (v' := v') (w := w) (w' := w') (w2 := w3) (p := p) (cells := [.slice g0 m0 c0, .int .u64 y0, .int .u64 y1, .int .u64 y2, .int .u64 y3, .slice g1 m1 c1]) hlt hrd HO.out HR.out (hr2.trans hr3) (RepP.of_heap (fun g hg hlt' => ⟨⟨by have := hg.1; have := hr2.size; omega, hlt'⟩, rfl⟩) p _ HRP.out) (((Rd.refl b w3).alloc _).alloc _) hgr (by simpa using hob)
        have HO4 : Hid (w4.ownsRow w.heap.size 80 6 v' (acc ++ [p]).length (css ++ [([.slice g0 m0 c0, .int .u64 y0, .int .u64 y1, .int .u64 y2, .int .u64 y3, .slice g1 m1 c1] : List Value)]).flatten) := by
          show World.ownsRow _ _ _ _ _ _ _
          simpa using hown4
        have g4 : St w4 b s r2 d (up (up x d (nestC acc)) d (nestP p)) := ((g3.alloc _).alloc _).grown hgr (fun k hk => by have := hrow k hk; omega)
        have hr4 : Rd b w w4 := ((((hrd.trans hr2).trans hr3).alloc _).alloc _).grown hgr hrow
        clear hown4 hgr hob
        go_wp2
        go_step3
        refine ⟨rfl, ⟨n', acc ++ [p], _, v', r2, by omega, ⟨?_, hr4, HO4.out, HR4.out, by simp; omega, by rw [nestC_snoc]; omega, ⟨d0, by omega⟩, by omega, HQ.out⟩, _, _, _, _, _, _, _, _, _, _, _, _, _, _, _, _, _, rfl⟩, ?_⟩
        · rw [nestC_snoc, ← up_up]; exact g4
        · rw [g4.left, hst.left]; omega
end Go.Proofs.YtbjabpodkaokjaaDoor

namespace Go.Proofs.YtbjabpodkaokjaaDoor
open Go.RowKit

theorem Tryd.infoChain : (Tryd.prog.info? 64).map (fun i => (i.zero, i.size, i.bytes)) = some (some (.slice none 0 0), 1, 24) := by kernel_rfl

def preCs (acc : List (List Prt)) : Res (List (List Prt)) → Res (List (List Prt))
  | .ok cs r => .ok (acc ++ cs) r
  | .bad r => .bad r
theorem nestCs_snoc (cs : List (List Prt)) (c : List Prt) : nestCs (cs ++ [c]) = max (nestCs cs) (nestC c) := by
  induction cs with
  | nil => simp [nestCs]
  | cons q ps ih => simp only [List.cons_append, nestCs, ih]; omega

structure ChsAt (w w' : World) (b : Nat) (s : ByteArray) (d x : Int) (R0 : Res (List (List Prt))) (n : Nat) (acc : List (List Prt)) (vs : List Value) (v : Value) (r : List UInt8) : Prop where
  st : St w' b s r d (up x d (nestCs acc))
  rd : Rd b w w'
  own : w'.ownsRow w.heap.size 64 1 v acc.length vs
  rep : RepVs w' (fun g => From w.heap.size w' g ∧ v.ownBlock ≠ some g) acc vs
  len : acc.length + r.length ≤ 200
  dep : d + nestCs acc ≤ 200
  lim : 0 ≤ d ∧ d + r.length ≤ 200
  hn : 4 * r.length + 4 ≤ n
  heq : preCs acc (pChoices n r) = R0

theorem choices_rep {w w' w2 w3 w4 : World} {b : Nat} {acc : List (List Prt)} {vs : List Value} {v v' : Value} {p : List Prt} {cv : Value} (hlt : b < w.heap.size)
    (hrd : Rd b w w') (hown : w'.ownsRow w.heap.size 64 1 v acc.length vs) (hrep : RepVs w' (fun g => From w.heap.size w' g ∧ v.ownBlock ≠ some g) acc vs)
    (hr2 : Rd b w' w2) (hp : RepC w2 (From w'.heap.size w2) p cv) (hr3 : Rd b w2 w3) (hgr : w3.grownBy w4 v.ownBlock) (hob : v'.ownBlock = v.ownBlock ∨ v'.ownBlock = some w3.heap.size) :
    RepVs w4 (fun g => From w.heap.size w4 g ∧ v'.ownBlock ≠ some g) (acc ++ [p]) (vs ++ [cv]) := by
  have hv : ∀ k, v.ownBlock = some k → w.heap.size ≤ k ∧ k < w'.heap.size := fun k hk => hown.lt k hk
  have h1 := hrd.size
  have h2 := hr2.size
  have h3 := hr3.size
  have h4 := hgr.size
  refine RepVs.snoc (hp.of_heap (fun g hg hlt' => ?_)) (RepVs.of_heap (fun g hg hlt' => ?_) acc vs hrep)
  · have hg1 := hg.1
    have ne : v.ownBlock ≠ some g := fun e => by have := (hv g e).2; omega
    refine ⟨⟨⟨by omega, by omega⟩, ?_⟩, (hgr.block g (by omega) (fun e => ne e.symm)).trans (hr3.block g hlt' (by omega))⟩
    rcases hob with e | e <;> rw [e]
    · exact ne
    · intro q; injection q with q; omega
  · obtain ⟨hg1, hg2⟩ := hg
    have hgb : g ≠ b := by have := hg1.1; omega
    refine ⟨⟨⟨hg1.1, by omega⟩, ?_⟩, (hgr.block g (by omega) (fun e => hg2 e.symm)).trans ((hr3.block g (by omega) hgb).trans (hr2.block g hlt' hgb))⟩
    rcases hob with e | e <;> rw [e]
    · exact hg2
    · intro q; injection q with q; have := hg1.2; omega

set_option maxHeartbeats 2000000 in
theorem choices_step (n0 : Nat) (hK : ∀ n, n < n0 → ChainK n) (w : World) (b : Nat) (s : ByteArray) (r : List UInt8) (d x : Int) (h : St w b s r d x) (hl : Lim d x r) (hn0 : 4 * r.length + 4 ≤ n0) (R0 : Res (List (List Prt))) (hR0 : pChoices n0 r = R0) :
    Calls Tryd.prog 19 #[.pointer (some ⟨b, 0, none⟩)] w fun e w' => ChsRes w w' b s d x e R0 := by
  have hne := h.ne
  have hlt := h.lt
  obtain ⟨d0, dr, dx, x1⟩ := hl
  obtain ⟨i0, hi, hz0, hz1, hz2⟩ := info_parts Tryd.infoChain
  have HK : Hid (∀ n, n < n0 → ChainK n) := hK
  clear hK
  go_enter Tryd.func19, Tryd.ntmps19
  go_wp2
  refine wp_scope_once 0 (fun a' w' => ∃ n acc vs v r', n ≤ n0 ∧ ChsAt w w' b s d x R0 n acc vs v r' ∧ ∃ u5 u6 u7 u8 u9 u10 u11 u12 u13 u14 u15 u16 u17 u18 u19 u20, a' = { tmps := #[.pointer (some ⟨b, 0, none⟩), undef, .slice none 0 0, .bool false, v, u5, u6, u7, u8, u9, u10, u11, u12, u13, u14, u15, u16, u17, u18, u19, u20], defers := [] }) (fun _ w' => leftOf b s w') rfl ?_ ?_
  · intro hp
    have HP : Hid _ := hp
    clear hp
    go_wp2
    go_step3
    refine ‹∀ a w, Code.wp _ _ _ a w → _› _ _ (HP.out _ _ ⟨n0, [], [], .slice none 0 0, r, Nat.le_refl _, ⟨?_, Rd.refl _ _, World.ownsRow_nil _ _ _ _, ?_, ?_, ?_, ⟨d0, dr⟩, hn0, ?_⟩, _, _, _, _, _, _, _, _, _, _, _, _, _, _, _, _, rfl⟩)
    · rw [show nestCs [] = 0 from by simp [nestCs], up_zero dx]; exact h
    · simp [RepVs]
    · have := h.len; simpa using this
    · simp [nestCs]; omega
    · rw [hR0]; cases R0 <;> rfl
  · rintro a' w' ⟨n, acc, vs, v, r', hnn, ⟨hst, hrd, hown, hrep, hlen, hdep, ⟨d0', hlim⟩, hn, heq⟩, u5, u6, u7, u8, u9, u10, u11, u12, u13, u14, u15, u16, u17, u18, u19, u20, rfl⟩
    obtain ⟨n', rfl⟩ : ∃ n', n = n' + 1 := ⟨n - 1, by omega⟩
    have HO : Hid (w'.ownsRow w.heap.size 64 1 v acc.length vs) := hown
    have HR : Hid (RepVs w' (fun g => From w.heap.size w' g ∧ v.ownBlock ≠ some g) acc vs) := hrep
    clear hown hrep
    have hpt := fun w hw => HK.out n' (by omega) w b s r' d (up x d (nestCs acc)) hw ⟨d0, hlim, by have := up_ge x d (nestCs acc); omega, up_le x1 hdep⟩ (by omega)
    cases hP : pChain n' r' with
    | bad r2 =>
      rw [hP] at hpt
      have HQ : Hid (R0 = .bad r2) := by show _ = _; rw [← heq]; simp [pChoices, hP, preCs]
      clear heq hP
      go_wp2_with (go_at_call 32; refine (hpt _ hst).mono ?_; rintro e w3 ⟨x', rfl, g3, hr3⟩)
      simp only [Exit.jump]
      go_ret2
      rw [HQ.out]
      exact ⟨x', rfl, g3, hrd.trans hr3⟩
    | ok p r2 =>
      rw [hP] at hpt
      have hlp := (pLen n').2.1 _ _ _ hP
      have ht := take_any b s d (up (up x d (nestCs acc)) d (nestC p)) 124 r2
      cases hm : tkB 124 r2 with
      | false =>
        obtain ⟨e1, e2⟩ := tkB_false hm
        rw [hm, e1] at ht
        have HQ : Hid (R0 = .ok (acc ++ [p]) r2) := by
          show _ = _
          rw [← heq]
          simp only [pChoices, hP]
          rfl
        clear heq hP hm e1 e2
        go_wp2_with (first | (go_at_call 18; refine (ht _ g4).mono ?_; rintro e w5 ⟨rfl, g5, hr5⟩) | (at_builtin; refine wpList_append_own_at _ rfl (.tmp 14) (.tmp 16) 27 rfl w.heap.size 64 i0 (.slice none 0 0) 1 24 Tryd.underlying27 hi hz0 hz1 hz2 rfl (by decide) v acc.length vs rfl ((ownsRow_rd HO.out hr3 hlt).alloc _) ⟨w3.heap.size, 0, none⟩ 1 1 [.slice g0 m0 c0] rfl rfl ?c1 ?c2 ?c3 ?c4 ?c5 ?_) | (go_at_call 32; refine (hpt _ hst).mono ?_; rintro e w3 ⟨⟨g0, m0, c0, hrp, rfl⟩, g3, hr3⟩; have HRP : Hid _ := hrp; clear hrp))
        case c1 =>
          intro j u hj
          match j, hj with
          | 0, hj => simp at hj; subst hj; simp [Addr.add, go_sem]
        case c2 => intro u hu; simp at hu; subst hu; rfl
        case c3 => unfold maxLen; omega
        case c4 => omega
        case c5 => have := (hrd.trans hr3).size; simp; omega
        intro v' w4 hown4 hgr _ hob
        have hrow : ∀ k, v.ownBlock = some k → w.heap.size ≤ k := fun k hk => (HO.out.lt k hk).1
        have HR4 : Hid _ := choices_rep (b := b) (v' := v') (w := w) (w' := w') (w2 := w3) (p := p) (cv := .slice g0 m0 c0) hlt hrd HO.out HR.out hr3 HRP.out ((Rd.refl b w3).alloc _) hgr (by simpa using hob)
        obtain ⟨q0, q1, q2, hvq⟩ := slice_form_of_owns hown4
        subst hvq
        have HO4 : Hid (w4.ownsRow w.heap.size 64 1 (.slice q0 q1 q2) (acc ++ [p]).length (vs ++ [.slice g0 m0 c0])) := by
          show World.ownsRow _ _ _ _ _ _ _
          simpa using hown4
        have g4 : St w4 b s r2 d (up (up x d (nestCs acc)) d (nestC p)) := (g3.alloc _).grown hgr (fun k hk => by have := hrow k hk; omega)
        have hr4 : Rd b w w4 := ((hrd.trans hr3).alloc _).grown hgr hrow
        clear hown4 hgr hob
        go_wp2_with (go_at_call 18; refine (ht _ g4).mono ?_; rintro e w5 ⟨rfl, g5, hr5⟩)
        simp only [Exit.jump]
        go_ret2
        rw [HQ.out]
        refine ⟨⟨q0, q1, q2, ⟨vs ++ [.slice g0 m0 c0], ?_, ?_⟩, rfl⟩, ?_, hr4.trans hr5⟩
        · exact RowIn.of_owns (ownsRow_rd HO4.out hr5 hlt)
        · exact RepVs.of_heap (fun g hg hlt' => ⟨⟨hg.1.1, Nat.lt_of_lt_of_le hlt' hr5.size⟩, hr5.block g hlt' (by have := hg.1.1; omega)⟩) _ _ HR4.out
        · rw [nestCs_snoc, ← up_up]; exact g5
      | true =>
        have e1 := tkB_true hm
        rw [hm] at ht
        have hl2 : r2.length = (tkR 124 r2).length + 1 := by rw [e1]; simp [tkR]
        have HQ : Hid (preCs (acc ++ [p]) (pChoices n' (tkR 124 r2)) = R0) := by
          show _ = _
          rw [← heq]
          rw [e1] at hP
          simp only [pChoices, hP]
          cases pChoices n' (tkR 124 r2) <;> simp [preCs]
        clear heq hP hm e1
        go_wp2_with (first | (go_at_call 18; refine (ht _ g4).mono ?_; rintro e w5 ⟨rfl, g5, hr5⟩) | (at_builtin; refine wpList_append_own_at _ rfl (.tmp 14) (.tmp 16) 27 rfl w.heap.size 64 i0 (.slice none 0 0) 1 24 Tryd.underlying27 hi hz0 hz1 hz2 rfl (by decide) v acc.length vs rfl ((ownsRow_rd HO.out hr3 hlt).alloc _) ⟨w3.heap.size, 0, none⟩ 1 1 [.slice g0 m0 c0] rfl rfl ?c1 ?c2 ?c3 ?c4 ?c5 ?_) | (go_at_call 32; refine (hpt _ hst).mono ?_; rintro e w3 ⟨⟨g0, m0, c0, hrp, rfl⟩, g3, hr3⟩; have HRP : Hid _ := hrp; clear hrp))
        case c1 =>
          intro j u hj
          match j, hj with
          | 0, hj => simp at hj; subst hj; simp [Addr.add, go_sem]
        case c2 => intro u hu; simp at hu; subst hu; rfl
        case c3 => unfold maxLen; omega
        case c4 => omega
        case c5 => have := (hrd.trans hr3).size; simp; omega
        intro v' w4 hown4 hgr _ hob
        have hrow : ∀ k, v.ownBlock = some k → w.heap.size ≤ k := fun k hk => (HO.out.lt k hk).1
        have HR4 : Hid _ := choices_rep (b := b) (v' := v') (w := w) (w' := w') (w2 := w3) (p := p) (cv := .slice g0 m0 c0) hlt hrd HO.out HR.out hr3 HRP.out ((Rd.refl b w3).alloc _) hgr (by simpa using hob)
        obtain ⟨q0, q1, q2, hvq⟩ := slice_form_of_owns hown4
        subst hvq
        have HO4 : Hid (w4.ownsRow w.heap.size 64 1 (.slice q0 q1 q2) (acc ++ [p]).length (vs ++ [.slice g0 m0 c0])) := by
          show World.ownsRow _ _ _ _ _ _ _
          simpa using hown4
        have g4 : St w4 b s r2 d (up (up x d (nestCs acc)) d (nestC p)) := (g3.alloc _).grown hgr (fun k hk => by have := hrow k hk; omega)
        have hr4 : Rd b w w4 := ((hrd.trans hr3).alloc _).grown hgr hrow
        clear hown4 hgr hob
        go_wp2_with (go_at_call 18; refine (ht _ g4).mono ?_; rintro e w5 ⟨rfl, g5, hr5⟩)
        go_step3
        refine ⟨rfl, ⟨n', acc ++ [p], vs ++ [.slice g0 m0 c0], .slice q0 q1 q2, tkR 124 r2, by omega, ⟨?_, hr4.trans hr5, ownsRow_rd HO4.out hr5 hlt, ?_, by simp; omega, by rw [nestCs_snoc]; omega, ⟨d0, by omega⟩, by omega, HQ.out⟩, _, _, _, _, _, _, _, _, _, _, _, _, _, _, _, _, rfl⟩, ?_⟩
        · rw [nestCs_snoc, ← up_up]; exact g5
        · exact RepVs.of_heap (fun g hg hlt' => ⟨⟨⟨hg.1.1, Nat.lt_of_lt_of_le hlt' hr5.size⟩, hg.2⟩, hr5.block g hlt' (by have := hg.1.1; omega)⟩) _ _ HR4.out
        · rw [g5.left, hst.left]; omega

theorem all_K (n : Nat) : ChoicesK n ∧ ChainK n ∧ PartK n ∧ AtomK n := by
  induction n using Nat.strongRecOn with
  | _ n ih =>
    refine ⟨?_, ?_, ?_, ?_⟩
    · intro w b s r d x h hl hn
      exact choices_step n (fun m hm => (ih m hm).2.1) w b s r d x h hl hn _ rfl
    · intro w b s r d x h hl hn
      exact chain_step n (fun m hm => (ih m hm).2.2.1) w b s r d x h hl hn _ rfl
    · cases n with
      | zero => intro w b s r d x h hl hn; omega
      | succ n => exact part_step n (ih n (Nat.lt_succ_self _)).2.2.2
    · cases n with
      | zero => intro w b s r d x h hl hn; omega
      | succ n => exact atom_step n (ih n (Nat.lt_succ_self _)).1
end Go.Proofs.YtbjabpodkaokjaaDoor
