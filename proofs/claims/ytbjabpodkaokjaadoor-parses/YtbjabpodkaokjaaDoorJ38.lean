import Derived.Test.YtbjabpodkaokjaaDoorJ37
set_option linter.unusedVariables false
set_option linter.unusedSimpArgs false
namespace Go.Proofs.YtbjabpodkaokjaaDoor
open Go.RowKit

theorem tA_rep (g0 : Option Addr) (n c : Nat) (sg : Int) : Tryd.prog.built 55 [(0, .int .i64 3), (2, .slice g0 n c), (5, .int .u8 sg), (4, .int .i64 (-1))] = some (tA 3 (fun _ => false) (.slice g0 n c) 0 (-1) sg) := by kernel_rfl
/-- What is laid down for a count: the row of its one tree, and the tree. -/
theorem rep_facts {w W w3 : World} {b N : Nat} {s : ByteArray} {r : List UInt8} {v : Value} {sg : Int} (hw : (W.alloc (.cells #[v] 35)).alloc (.cells (tA 3 (fun _ => false) (.slice (some ⟨N, 0, none⟩) 1 1) 0 (-1) sg) 55) = w3) (hN : W.heap.size = N) (hm : Mk W b s r) (hr : Rd b w W) :
    Mk w3 b s r ∧ Rd b w w3 ∧ Tr w3 (N + 1) 3 (fun _ => false) (.slice (some ⟨N, 0, none⟩) 1 1) 0 (-1) sg ∧ w3.heap[N]? = some (.cells #[v] 35 (0, 0)) ∧ (∀ k, k < N → w3.heap[k]? = W.heap[k]?) ∧ w3.heap.size = N + 2 := by
  refine ⟨by rw [← hw]; exact (hm.alloc _).alloc _, by rw [← hw]; exact (hr.alloc _).alloc _, box_tr hw (by simp [hN]), ?_, fun k hk => ?_, by rw [← hw]; simp [hN]⟩
  · rw [← hw, Below.heap_alloc _ _ _ (by simp; omega), ← hN]; exact heap_alloc_new _ _
  · rw [← hw, Below.heap_alloc _ _ _ (by simp; omega), Below.heap_alloc _ _ _ (by omega)]
theorem rep_done {w W w4 : World} {b N g : Nat} {T : RT} {B : Nat → Bool} {c : UInt8} {lo hi : Int} (hT : RepT W (From w.heap.size W) T g) (hN : W.heap.size = N) (hh : ∀ k, k < N → k ≠ b → w4.heap[k]? = W.heap[k]?) (hrow : w4.heap[N]? = some (.cells #[.pointer (some ⟨g, 0, none⟩)] 35 (0, 0)))
    (tr : Tr w4 (N + 1) 3 B (.slice (some ⟨N, 0, none⟩) 1 1) lo hi c.toNat) (hwN : w.heap.size ≤ N) (hb : b < w.heap.size) : RepT w4 (From w.heap.size w4) (.rep T c lo hi) (N + 1) := by
  have hl := tr.lt
  simp only [RepT]
  refine ⟨⟨by omega, hl⟩, B, _, tr, g, ⟨by simp, .inr ⟨N, 1, #[.pointer (some ⟨g, 0, none⟩)], rfl, ⟨hwN, by omega⟩, hrow, by omega, by unfold maxLen; omega, by simp, by simp⟩⟩, RepT.of_heap (fun k hk hlt => ⟨⟨hk.1, by omega⟩, hh k (by omega) (by have := hk.1; omega)⟩) T g hT⟩

theorem RepT.still {x y : World} {B : Nat} {T : RT} {g : Nat} (h : RepT x (From B x) T g) (hl : Below x.heap.size x y) : RepT y (From B y) T g :=
  RepT.of_heap (fun j hj hlt' => ⟨⟨hj.1, Nat.lt_of_lt_of_le hlt' hl.size⟩, hl.block j hlt'⟩) T g h
theorem RepT.stillRd {x y : World} {b B : Nat} {T : RT} {g : Nat} (h : RepT x (From B x) T g) (hl : Rd b x y) (hb : b < B) : RepT y (From B y) T g :=
  RepT.of_heap (fun j hj hlt' => ⟨⟨hj.1, Nat.lt_of_lt_of_le hlt' hl.size⟩, hl.block j hlt' (by have := hj.1; omega)⟩) T g h
abbrev MkAtomC (b : Nat) (s : ByteArray) (r r' : List UInt8) (T : RT) : Prop := ∀ w, Mk w b s r → Calls Tryd.prog 43 #[.pointer (some ⟨b, 0, none⟩)] w fun e w' => TreeTo w w' b s r' T e
def countSg (c : UInt8) : Prop := c = 42 ∨ c = 43 ∨ c = 63 ∨ c = 123

theorem pCounts_forms {m : Nat} {r1 r' : List UInt8} {cs : List Cnt} (h : pCounts m r1 = .ok cs r') :
    (r1 = [] ∧ cs = [] ∧ r' = []) ∨ (∃ c t, r1 = c :: t ∧ ¬ countSg c ∧ cs = [] ∧ r' = c :: t) ∨
    (∃ c t m' cs2, r1 = c :: t ∧ (c = 42 ∨ c = 43 ∨ c = 63) ∧ pCounts m' t = .ok cs2 r' ∧ cs = ⟨c, 0, 0⟩ :: cs2) ∨
    (∃ t a z r2 m' cs2, r1 = 123 :: t ∧ pBounds t = .ok (a, z) r2 ∧ pCounts m' r2 = .ok cs2 r' ∧ cs = ⟨123, a, z⟩ :: cs2) := by
  cases m with
  | zero => simp [pCounts] at h
  | succ m =>
    match r1, h with
    | [], h => simp only [pCounts] at h; injection h with e1 e2; subst e1; subst e2; exact .inl ⟨rfl, rfl, rfl⟩
    | c :: t, h =>
      simp only [pCounts] at h
      split at h
      · rename_i q
        split at h
        · rename_i cs2 r2 h2
          injection h with e1 e2; subst e1; subst e2
          exact .inr (.inr (.inl ⟨c, t, m, cs2, rfl, q, h2, rfl⟩))
        · simp at h
      · rename_i q
        split at h
        · rename_i q2
          subst q2
          split at h
          · simp at h
          · rename_i a z r2 h2
            split at h
            · rename_i cs2 r3 h3
              injection h with e1 e2; subst e1; subst e2
              exact .inr (.inr (.inr ⟨t, a, z, r2, m, cs2, rfl, h2, h3, rfl⟩))
            · simp at h
        · rename_i q2
          injection h with e1 e2; subst e1; subst e2
          refine .inr (.inl ⟨c, t, rfl, ?_, rfl, rfl⟩)
          rintro (e | e | e | e)
          · exact q (.inl e)
          · exact q (.inr (.inl e))
          · exact q (.inr (.inr e))
          · exact q2 e

set_option maxRecDepth 20000 in
set_option maxHeartbeats 4000000 in
theorem part_ok (w : World) (b : Nat) (s : ByteArray) (r r1 r' : List UInt8) (T0 T9 : RT) (m0 : Nat) (cs0 : List Cnt) (h : Mk w b s r) (hA : MkAtomC b s r r1 T0) (hC : pCounts m0 r1 = .ok cs0 r') (h9 : repC T0 cs0 = T9) :
    Calls Tryd.prog 38 #[.pointer (some ⟨b, 0, none⟩)] w fun e w' => TreeTo w w' b s r' T9 e := by
  have hlt := h.lt
  go_enter Tryd.func38, Tryd.ntmps38
  go_wp2_with (go_at_call 43; refine (hA _ h).mono ?_; rintro e w1 ⟨g, rfl, ⟨g1, l1⟩, t1⟩)
  go_loopw [3] (fun p wq => ∃ (T : RT) (g : Nat) (rr : List UInt8) (m : Nat) (cs : List Cnt), p = .pointer (some ⟨g, 0, none⟩) ∧ Mk wq b s rr ∧ Rd b w wq ∧ RepT wq (From w.heap.size wq) T g ∧ pCounts m rr = .ok cs r' ∧ repC T cs = T9) (fun _ wq => leftOf b s wq)
  case atStart => exact ⟨T0, g, r1, m0, cs0, rfl, g1, l1, t1, hC, h9⟩
  case round =>
    obtain ⟨T, g, rr, m, cs, rfl, hm, hrd, hT, hP, hrep⟩ := hrel
    have HT : Hid (RepT wr (From w.heap.size wr) T g) := hT
    have HR : Hid (repC T cs = T9) := hrep
    have HM : Hid (Mk wr b s rr) := hm
    clear hT hrep hm hC h9 t1
    rcases pCounts_forms hP with ⟨rfl, rfl, rfl⟩ | ⟨c, t, rfl, hc, rfl, rfl⟩ | ⟨c, t, m', cs2, rfl, hc, hP2, rfl⟩ | ⟨t, a, z, r2, m', cs2, rfl, hB, hP2, rfl⟩
    · have hh := here_any wr b s _ HM.out
      simp only [hd0] at hh
      go_wp2_with (go_at_call 14; refine hh.mono ?_; rintro e w2 ⟨rfl, g2, hb2⟩; obtain ⟨k, c0, c1, hk, hs, sz, lt, fz⟩ := g2.cells; simp at hk)
      have hge : (s.size : Int) ≤ k := by omega
      go_quiet (fail)
      go_wp2
      go_ret
      exact ⟨g, rfl, ⟨g2.drewN _, (hrd.trans (Rd.of_below hb2)).drewN _⟩, by rw [← HR.out]; exact HT.out.still (belowN hb2 _)⟩
    · have hh := here_any wr b s _ HM.out
      simp only [hd0] at hh
      have q1 : ((c.toNat : Int) != 42) = true := by have := nbeq (c := c) (k := 42) (fun e => hc (.inl e)); simp at this ⊢; exact this
      have q2 : ((c.toNat : Int) != 43) = true := by have := nbeq (c := c) (k := 43) (fun e => hc (.inr (.inl e))); simp at this ⊢; exact this
      have q3 : ((c.toNat : Int) != 63) = true := by have := nbeq (c := c) (k := 63) (fun e => hc (.inr (.inr (.inl e)))); simp at this ⊢; exact this
      have q4 : ((c.toNat : Int) != 123) = true := by have := nbeq (c := c) (k := 123) (fun e => hc (.inr (.inr (.inr e)))); simp at this ⊢; exact this
      clear hc
      go_wp2_with (go_at_call 14; refine hh.mono ?_; rintro e w2 ⟨rfl, g2, hb2⟩; obtain ⟨k, hk', e1, c0, c1, hk, sz, lt, fz⟩ := g2.byte)
      have hge : ¬ (s.size : Int) ≤ k := by omega
      go_quiet (fail)
      go_wp2
      go_ret
      exact ⟨g, rfl, ⟨g2.drewN _, (hrd.trans (Rd.of_below hb2)).drewN _⟩, by rw [← HR.out]; exact HT.out.still (belowN hb2 _)⟩
    · rcases hc with rfl | rfl | rfl
      · have hh := here_any wr b s _ HM.out
        simp only [hd0] at hh
        go_wp2_with (go_at_call 14; refine hh.mono ?_; rintro e w2 ⟨rfl, g2, hb2⟩; obtain ⟨k, hk', e1, c0, c1, hk, sz, lt, fz⟩ := g2.byte)
        have hge : ¬ (s.size : Int) ≤ k := by omega
        go_quiet (fail)
        have HW : Hid (RepT ((w2.drewN nq).setCell ⟨b, 1, none⟩ (.int .i64 ((k : Int) + 1))) (From w.heap.size ((w2.drewN nq).setCell ⟨b, 1, none⟩ (.int .i64 ((k : Int) + 1)))) T g) := (HT.out.still (belowN hb2 nq)).stillRd ((Rd.refl b _).setCell _ _) hlt
        have g2' := (g2.drewN nq).next hk
        have r2' : Rd b w ((w2.drewN nq).setCell ⟨b, 1, none⟩ (.int .i64 ((k : Int) + 1))) := ((hrd.trans (Rd.of_below hb2)).drewN nq).setCell _ _
        clear g2
        go_wp2_with ((first | (refine wpList_buildTo rfl 55 #[(0, .const (.int .i64 3)), (2, .tmp 45), (5, .tmp 46), (4, .const (.int .i64 (-1)))] rfl _ rfl (tA 3 (fun _ => false) (.slice (some ⟨w2.heap.size, 0, none⟩) 1 1) 0 (-1) 42) (tA_rep (some ⟨w2.heap.size, 0, none⟩) 1 1 42) ?_) | (refine Great.wpList_boxTo rfl 55 (.tmp 47) rfl _ rfl (w2.heap.size + 1) (by simp [World.setCell]) (tA 3 (fun _ => false) (.slice (some ⟨w2.heap.size, 0, none⟩) 1 1) 0 (-1) 42) rfl ?_; generalize hw3 : World.alloc (World.alloc _ _) _ = w3; obtain ⟨g3, r3, t3, row3, h3, z3⟩ := rep_facts hw3 (by simp [World.setCell]) g2' r2'; clear hw3; have t3c := t3; obtain ⟨u0, uB, uk, um, ux, us, uf⟩ := t3c)))
        have HQ : Hid (RepT w3 (From w.heap.size w3) (.rep T 42 0 (-1)) (w2.heap.size + 1)) := rep_done (b := b) HW.out (by simp [World.setCell]) (fun j hj _ => h3 j hj) row3 t3 (Nat.le_trans hrd.size hb2.size) hlt
        clear u0 uB uk um ux us uf
        go_roundw
        case rel => exact ⟨.rep T 42 0 (-1), w2.heap.size + 1, t, m', cs2, rfl, g3, r3, HQ.out, hP2, HR.out⟩
        case measure => rw [g3.left, HM.out.left]; simp
      · have hh := here_any wr b s _ HM.out
        simp only [hd0] at hh
        go_wp2_with (go_at_call 14; refine hh.mono ?_; rintro e w2 ⟨rfl, g2, hb2⟩; obtain ⟨k, hk', e1, c0, c1, hk, sz, lt, fz⟩ := g2.byte)
        have hge : ¬ (s.size : Int) ≤ k := by omega
        go_quiet (fail)
        have HW : Hid (RepT ((w2.drewN nq).setCell ⟨b, 1, none⟩ (.int .i64 ((k : Int) + 1))) (From w.heap.size ((w2.drewN nq).setCell ⟨b, 1, none⟩ (.int .i64 ((k : Int) + 1)))) T g) := (HT.out.still (belowN hb2 nq)).stillRd ((Rd.refl b _).setCell _ _) hlt
        have g2' := (g2.drewN nq).next hk
        have r2' : Rd b w ((w2.drewN nq).setCell ⟨b, 1, none⟩ (.int .i64 ((k : Int) + 1))) := ((hrd.trans (Rd.of_below hb2)).drewN nq).setCell _ _
        clear g2
        go_wp2_with ((first | (refine wpList_buildTo rfl 55 #[(0, .const (.int .i64 3)), (2, .tmp 45), (5, .tmp 46), (4, .const (.int .i64 (-1)))] rfl _ rfl (tA 3 (fun _ => false) (.slice (some ⟨w2.heap.size, 0, none⟩) 1 1) 0 (-1) 43) (tA_rep (some ⟨w2.heap.size, 0, none⟩) 1 1 43) ?_) | (refine Great.wpList_boxTo rfl 55 (.tmp 47) rfl _ rfl (w2.heap.size + 1) (by simp [World.setCell]) (tA 3 (fun _ => false) (.slice (some ⟨w2.heap.size, 0, none⟩) 1 1) 0 (-1) 43) rfl ?_; generalize hw3 : World.alloc (World.alloc _ _) _ = w3; obtain ⟨g3, r3, t3, row3, h3, z3⟩ := rep_facts hw3 (by simp [World.setCell]) g2' r2'; clear hw3; have t3c := t3; obtain ⟨u0, uB, uk, um, ux, us, uf⟩ := t3c)))
        have HQ : Hid (RepT (w3.setCell ⟨w2.heap.size + 1, 258, none⟩ (.int .i64 1)) (From w.heap.size (w3.setCell ⟨w2.heap.size + 1, 258, none⟩ (.int .i64 1))) (.rep T 43 1 (-1)) (w2.heap.size + 1)) := rep_done (b := b) HW.out (by simp [World.setCell]) (fun j hj _ => (Below.heap_setCell _ _ _ _ (by simp; omega)).trans (h3 j hj)) ((Below.heap_setCell _ _ _ _ (by simp)).trans row3) (t3.least 1) (Nat.le_trans hrd.size hb2.size) hlt
        clear u0 uB uk um ux us uf
        go_roundw
        case rel => exact ⟨.rep T 43 1 (-1), w2.heap.size + 1, t, m', cs2, rfl, g3.set2 (by have := hrd.size; have := hb2.size; omega) _, r3.setNew (by have := hrd.size; have := hb2.size; simp; omega) _, HQ.out, hP2, HR.out⟩
        case measure => rw [(g3.set2 (by have := hrd.size; have := hb2.size; omega) _).left, HM.out.left]; simp
      · have hh := here_any wr b s _ HM.out
        simp only [hd0] at hh
        go_wp2_with (go_at_call 14; refine hh.mono ?_; rintro e w2 ⟨rfl, g2, hb2⟩; obtain ⟨k, hk', e1, c0, c1, hk, sz, lt, fz⟩ := g2.byte)
        have hge : ¬ (s.size : Int) ≤ k := by omega
        go_quiet (fail)
        have HW : Hid (RepT ((w2.drewN nq).setCell ⟨b, 1, none⟩ (.int .i64 ((k : Int) + 1))) (From w.heap.size ((w2.drewN nq).setCell ⟨b, 1, none⟩ (.int .i64 ((k : Int) + 1)))) T g) := (HT.out.still (belowN hb2 nq)).stillRd ((Rd.refl b _).setCell _ _) hlt
        have g2' := (g2.drewN nq).next hk
        have r2' : Rd b w ((w2.drewN nq).setCell ⟨b, 1, none⟩ (.int .i64 ((k : Int) + 1))) := ((hrd.trans (Rd.of_below hb2)).drewN nq).setCell _ _
        clear g2
        go_wp2_with ((first | (refine wpList_buildTo rfl 55 #[(0, .const (.int .i64 3)), (2, .tmp 45), (5, .tmp 46), (4, .const (.int .i64 (-1)))] rfl _ rfl (tA 3 (fun _ => false) (.slice (some ⟨w2.heap.size, 0, none⟩) 1 1) 0 (-1) 63) (tA_rep (some ⟨w2.heap.size, 0, none⟩) 1 1 63) ?_) | (refine Great.wpList_boxTo rfl 55 (.tmp 47) rfl _ rfl (w2.heap.size + 1) (by simp [World.setCell]) (tA 3 (fun _ => false) (.slice (some ⟨w2.heap.size, 0, none⟩) 1 1) 0 (-1) 63) rfl ?_; generalize hw3 : World.alloc (World.alloc _ _) _ = w3; obtain ⟨g3, r3, t3, row3, h3, z3⟩ := rep_facts hw3 (by simp [World.setCell]) g2' r2'; clear hw3; have t3c := t3; obtain ⟨u0, uB, uk, um, ux, us, uf⟩ := t3c)))
        have HQ : Hid (RepT (w3.setCell ⟨w2.heap.size + 1, 259, none⟩ (.int .i64 1)) (From w.heap.size (w3.setCell ⟨w2.heap.size + 1, 259, none⟩ (.int .i64 1))) (.rep T 63 0 1) (w2.heap.size + 1)) := rep_done (b := b) HW.out (by simp [World.setCell]) (fun j hj _ => (Below.heap_setCell _ _ _ _ (by simp; omega)).trans (h3 j hj)) ((Below.heap_setCell _ _ _ _ (by simp)).trans row3) (t3.most 1) (Nat.le_trans hrd.size hb2.size) hlt
        clear u0 uB uk um ux us uf
        go_roundw
        case rel => exact ⟨.rep T 63 0 1, w2.heap.size + 1, t, m', cs2, rfl, g3.set2 (by have := hrd.size; have := hb2.size; omega) _, r3.setNew (by have := hrd.size; have := hb2.size; simp; omega) _, HQ.out, hP2, HR.out⟩
        case measure => rw [(g3.set2 (by have := hrd.size; have := hb2.size; omega) _).left, HM.out.left]; simp
    · have hcn := fun w g B kv mn mx sg hw hT hne => counts_ok w b g s t r2 a z B kv mn mx sg hw hT hne hB
      have hlB := pBounds_len hB
      have hh := here_any wr b s _ HM.out
      simp only [hd0] at hh
      go_wp2_with (go_at_call 14; refine hh.mono ?_; rintro e w2 ⟨rfl, g2, hb2⟩; obtain ⟨k, hk', e1, c0, c1, hk, sz, lt, fz⟩ := g2.byte)
      have hge : ¬ (s.size : Int) ≤ k := by omega
      go_quiet (fail)
      have HW : Hid (RepT ((w2.drewN nq).setCell ⟨b, 1, none⟩ (.int .i64 ((k : Int) + 1))) (From w.heap.size ((w2.drewN nq).setCell ⟨b, 1, none⟩ (.int .i64 ((k : Int) + 1)))) T g) := (HT.out.still (belowN hb2 nq)).stillRd ((Rd.refl b _).setCell _ _) hlt
      have g2' := (g2.drewN nq).next hk
      have r2' : Rd b w ((w2.drewN nq).setCell ⟨b, 1, none⟩ (.int .i64 ((k : Int) + 1))) := ((hrd.trans (Rd.of_below hb2)).drewN nq).setCell _ _
      clear g2
      go_wp2_with (first | (go_at_call 44; refine (hcn _ _ _ _ _ _ _ g3 t3 (by have := hrd.size; have := hb2.size; omega)).mono ?_; rintro e w5 ⟨rfl, g5, t5, r5⟩) | (first | (refine wpList_buildTo rfl 55 #[(0, .const (.int .i64 3)), (2, .tmp 45), (5, .tmp 46), (4, .const (.int .i64 (-1)))] rfl _ rfl (tA 3 (fun _ => false) (.slice (some ⟨w2.heap.size, 0, none⟩) 1 1) 0 (-1) 123) (tA_rep (some ⟨w2.heap.size, 0, none⟩) 1 1 123) ?_) | (refine Great.wpList_boxTo rfl 55 (.tmp 47) rfl _ rfl (w2.heap.size + 1) (by simp [World.setCell]) (tA 3 (fun _ => false) (.slice (some ⟨w2.heap.size, 0, none⟩) 1 1) 0 (-1) 123) rfl ?_; generalize hw3 : World.alloc (World.alloc _ _) _ = w3; obtain ⟨g3, r3, t3, row3, h3, z3⟩ := rep_facts hw3 (by simp [World.setCell]) g2' r2'; clear hw3; have t3c := t3; obtain ⟨u0, uB, uk, um, ux, us, uf⟩ := t3c)))
      have HQ : Hid (RepT w5 (From w.heap.size w5) (.rep T 123 a z) (w2.heap.size + 1)) := rep_done (b := b) HW.out (by simp [World.setCell]) (fun j hj hjb => (r5.block j (by omega) hjb (by omega)).trans (h3 j hj)) ((r5.block _ (by omega) (by have := hrd.size; have := hb2.size; omega) (by omega)).trans row3) t5 (Nat.le_trans hrd.size hb2.size) hlt
      have r6 : Rd b w w5 := ⟨r5.os.trans r3.os, r5.tape.trans r3.tape, r5.output.trans r3.output, Nat.le_trans r3.size r5.size, fun j hj hjb => (r5.block j (Nat.lt_of_lt_of_le hj r3.size) hjb (by have := hrd.size; have := hb2.size; omega)).trans (r3.block j hj hjb)⟩
      go_roundw
      case rel => exact ⟨.rep T 123 a z, w2.heap.size + 1, r2, m', cs2, rfl, g5, r6, HQ.out, hP2, HR.out⟩
      case measure => rw [g5.left, HM.out.left]; simp; omega
end Go.Proofs.YtbjabpodkaokjaaDoor
