import Derived.Test.YtbjabpodkaokjaaDoorJ34
set_option linter.unusedVariables false
set_option linter.unusedSimpArgs false
namespace Go.Proofs.YtbjabpodkaokjaaDoor
open Go.RowKit

theorem tA_zero' (a : Act) : Tryd.prog.built 55 ((#[] : Array (Nat × Operand)).map fun (i, x) => (i, a.eval x)).toList = some (tA 0 (fun _ => false) (.slice none 0 0) 0 0 0) := by
  have : ((#[] : Array (Nat × Operand)).map fun (i, x) => (i, a.eval x)).toList = [] := by simp
  rw [this]; exact tA_zero
abbrev MkHereAt (b : Nat) (s : ByteArray) (r : List UInt8) (c : UInt8) : Prop := ∀ w, Mk w b s r → Calls Tryd.prog 14 #[.pointer (some ⟨b, 0, none⟩)] w fun e w' => e = .returned (.int .u8 c.toNat) ∧ MkAs w w' b s r
/-- What a class's item adds. -/
def addS (A S : Nat → Bool) (v z : Int) (i : Nat) : Bool := A i || S i || (decide (0 ≤ v) && decide (v ≤ i) && decide ((i : Int) ≤ z))
/-- The first k of them are done. -/
def upS (A C : Nat → Bool) (k : Nat) (i : Nat) : Bool := if i < k then C i else A i

/-- The forms of an item. -/
theorem pItem_forms {r r1 : List UInt8} {T : Nat → Bool} (h : pItem r = .ok T r1) :
    (∃ c, r = 92 :: c :: r1 ∧ escSet c = some T) ∨
    (∃ low, pItemByte 0 r = .ok low r1 ∧ (∀ t, r1 ≠ 45 :: t) ∧ T = inSpan low low) ∨
    (∃ low high t, pItemByte 0 r = .ok low (45 :: t) ∧ pItemByte low t = .ok high r1 ∧ T = inSpan low high) := by
  have rng : ∀ low r2, pItemByte 0 r = .ok low r2 → pRange low r2 = .ok T r1 → (∃ low, pItemByte 0 r = .ok low r1 ∧ (∀ t, r1 ≠ 45 :: t) ∧ T = inSpan low low) ∨
    (∃ low high t, pItemByte 0 r = .ok low (45 :: t) ∧ pItemByte low t = .ok high r1 ∧ T = inSpan low high) := by
    intro low r2 h1 h2
    unfold pRange at h2
    split at h2
    · rename_i t
      split at h2
      · rename_i high r3 h3
        injection h2 with e1 e2; subst e1; subst e2
        exact .inr ⟨low, high, t, h1, h3, rfl⟩
      · simp at h2
    · rename_i hn
      injection h2 with e1 e2; subst e1; subst e2
      exact .inl ⟨low, h1, fun t e => hn t e, rfl⟩
  unfold pItem at h
  split at h
  · rename_i c t
    split at h
    · rename_i S hS
      injection h with e1 e2; subst e1; subst e2
      exact .inl ⟨c, rfl, hS⟩
    · rename_i hS
      split at h
      · rename_i low r2 h2
        exact .inr (rng low r2 (by simp only [pItemByte]; exact h2) h)
      · simp at h
  · split at h
    · rename_i low r2 h2
      exact .inr (rng low r2 h2 h)
    · simp at h
theorem pItem_head {r r1 : List UInt8} {T : Nat → Bool} (h : pItem r = .ok T r1) : ∃ c t, r = c :: t ∧ c ≠ 93 ∧ c ≠ 45 := by
  have pb : ∀ l v r', pItemByte l r = .ok v r' → ∃ c t, r = c :: t ∧ c ≠ 93 ∧ c ≠ 45 := by
    intro l v r' h
    unfold pItemByte at h
    split at h
    · exact ⟨92, _, rfl, by decide, by decide⟩
    · match r, h with
      | c :: t, h =>
        simp only [pPlainItem] at h
        split at h
        · simp at h
        · split at h
          · simp at h
          · rename_i q
            exact ⟨c, t, rfl, fun e => q (by simp [e]), fun e => q (by simp [e])⟩
  rcases pItem_forms h with ⟨c, rfl, _⟩ | ⟨low, h1, _⟩ | ⟨low, high, t, h1, _⟩
  · exact ⟨92, _, rfl, by decide, by decide⟩
  · exact pb _ _ _ h1
  · exact pb _ _ _ h1

theorem Tr.drewN {w : World} {g : Nat} {kind : Int} {B : Nat → Bool} {kv : Value} {mn mx sg : Int} (h : Tr w g kind B kv mn mx sg) (n : Nat) : Tr (w.drewN n) g kind B kv mn mx sg := h.of_heap rfl
theorem Bs.drewN {w : World} {g : Nat} {B : Nat → Bool} (h : Bs w g B) (n : Nat) : Bs (w.drewN n) g B := h.of_heap rfl
theorem Tr.congr {w : World} {g : Nat} {kind : Int} {B C : Nat → Bool} {kv : Value} {mn mx sg : Int} (h : Tr w g kind B kv mn mx sg) (e : ∀ i, i < 256 → B i = C i) : Tr w g kind C kv mn mx sg := by
  obtain ⟨c0, cB, ck, cm, cx, cs, fz⟩ := h
  exact ⟨c0, fun i hi => by rw [cB i hi, e i hi], ck, cm, cx, cs, fz⟩
theorem upS_step (A C : Nat → Bool) (k : Nat) (v : Bool) (hv : C k = v) (i : Nat) : (if i = k then v else upS A C k i) = upS A C (k + 1) i := by
  unfold upS
  by_cases e : i = k
  · subst e; simp [hv]
  · have : (i < k + 1) = (i < k) := by simp; omega
    simp [e, this]
theorem upS_zero (A C : Nat → Bool) (i : Nat) : upS A C 0 i = A i := by simp [upS]
theorem upS_at (A C : Nat → Bool) (k : Nat) : upS A C k k = A k := by simp [upS]
theorem upS_all (A C : Nat → Bool) (i : Nat) (h : i < 256) : upS A C 256 i = C i := by simp [upS, h]
theorem Mk.set2 {w : World} {b : Nat} {s : ByteArray} {r : List UInt8} (h : Mk w b s r) {g o : Nat} (hg : g ≠ b) (v : Value) : Mk (w.setCell ⟨g, o, none⟩ v) b s r := h.far (Ne.symm hg) v
/-- What a list that is laid down leaves. -/
theorem lay_facts {w x y : World} {b : Nat} {s : ByteArray} {r : List UInt8} {S : Nat → Bool} (hy : (x.alloc (.cells (bA fun _ => false) 52)).setCells x.heap.size 0 (bL S) = y) (h : Mk x b s r) (hr : Rd b w x) : Mk y b s r ∧ Rd b w y ∧ Bs y x.heap.size S ∧ (∀ g, g < x.heap.size → y.heap[g]? = x.heap[g]?) ∧ y.heap.size = x.heap.size + 1 := by
  subst hy
  have hlt := h.lt
  refine ⟨(h.alloc _).keep (heap_setCells _ _ _ _ _ (by omega)) (by rw [size_setCells]; exact Nat.le_refl _), rd_setCells (hr.alloc _) _ hr.size _ _, (bA_new x _ _).all S, fun g hg => ?_, by rw [size_setCells]; simp⟩
  rw [heap_setCells _ _ _ _ _ (by omega)]; exact Below.heap_alloc _ _ _ hg
theorem addS_true1 {A S : Nat → Bool} {v z : Int} {k : Nat} (h : A k = true) : addS A S v z k = true := by simp [addS, h]
theorem addS_true2 {A S : Nat → Bool} {v z : Int} {k : Nat} (h : S k = true) : addS A S v z k = true := by simp [addS, h]
theorem addS_false {A S : Nat → Bool} {v z : Int} {k : Nat} (h : A k = false) (h2 : S k = false) (h3 : ¬ (0 ≤ v ∧ v ≤ k ∧ (k : Int) ≤ z)) : addS A S v z k = false := by simp [addS, h, h2]; omega
theorem addS_true3 {A S : Nat → Bool} {v z : Int} {k : Nat} (h3 : 0 ≤ v ∧ v ≤ k ∧ (k : Int) ≤ z) : addS A S v z k = true := by simp [addS, h3]

theorem pByteEscape_lt {l v : Nat} {r r' : List UInt8} (h : pByteEscape l r = .ok v r') : v < 256 := by
  match r, h with
  | c :: t, h =>
    simp only [pByteEscape] at h
    split at h
    · obtain ⟨x, y, a, d, _, hx, hy, rfl⟩ := pHexByte_ok h
      have := (hexN_hexv hx).2; have := (hexN_hexv hy).2; omega
    · split at h
      · rename_i z hz
        split at h
        · simp at h
        · injection h with e1 _; subst e1
          unfold escByte at hz
          have := c.toNat_lt
          split at hz
          · injection hz with hz; omega
          · split at hz
            · injection hz with hz; omega
            · split at hz
              · injection hz with hz; omega
              · simp at hz
      · simp at h
theorem pItemByte_lt {l v : Nat} {r r' : List UInt8} (h : pItemByte l r = .ok v r') : v < 256 := by
  unfold pItemByte at h
  split at h
  · exact pByteEscape_lt h
  · match r, h with
    | c :: t, h =>
      have := c.toNat_lt
      simp only [pPlainItem] at h
      split at h
      · simp at h
      · split at h
        · simp at h
        · injection h with e1 _; omega
theorem item_path {b : Nat} {s : ByteArray} {r r1 t1 : List UInt8} {c1 : UInt8} {A T : Nat → Bool} (hI : pItem r = .ok T r1) (hr1 : r1 = c1 :: t1) (hnd : (∃ c, r = 92 :: c :: r1 ∧ escSet c = some T) → c1 ≠ 45) :
    (∃ (v : Int) (S1 : Nat → Bool), MkItemC b s r r1 v S1 ∧ -1 ≤ v ∧ v ≤ 255 ∧ c1 ≠ 45 ∧ ∀ i, i < 256 → addS A S1 v v i = orS A T i) ∨ (∃ (v z : Int) (t2 : List UInt8), MkItemC b s r (45 :: t2) v none256 ∧ MkItemC b s t2 r1 z none256 ∧ 0 ≤ v ∧ v ≤ 255 ∧ 0 ≤ z ∧ z ≤ 255 ∧ ∀ i, i < 256 → addS A none256 v z i = orS A T i) := by
  rcases pItem_forms hI with ⟨c, hr, hS⟩ | ⟨low, h1, hne, rfl⟩ | ⟨low, high, t2, h1, h2, rfl⟩
  · left
    refine ⟨-1, T, by rw [hr]; exact item_set b s c r1 T hS, by omega, by omega, hnd ⟨c, hr, hS⟩, fun i _ => by simp [addS, orS]⟩
  · left
    have := pItemByte_lt h1
    refine ⟨low, none256, item_byte b s 0 low r r1 h1, by omega, by omega, fun e => hne t1 (by rw [hr1, e]), fun i _ => ?_⟩
    simp [addS, orS, inSpan]
  · right
    have := pItemByte_lt h1
    have := pItemByte_lt h2
    refine ⟨low, high, t2, item_byte b s 0 low r _ h1, item_byte b s low high t2 r1 h2, by omega, by omega, by omega, by omega, fun i _ => ?_⟩
    simp [addS, orS, inSpan]

/-- One item further. -/
theorem items_next {n : Nat} {A S : Nat → Bool} {r r' : List UInt8} (h : pItems n A r = .ok S r') : ∃ T r1 c1 t1, pItem r = .ok T r1 ∧ r1 = c1 :: t1 ∧ r1.length < r.length ∧ ((∃ n, pItems n (orS A T) r1 = .ok S r') ∨ (r1 = 93 :: r' ∧ orS A T = S)) ∧ ((∃ c, r = 92 :: c :: r1 ∧ escSet c = some T) → c1 ≠ 45) := by
  cases n with
  | zero => simp [pItems] at h
  | succ n =>
    simp only [pItems] at h
    split at h
    · simp at h
    · rename_i T r1 h1
      have hl := pItem_len h1
      split at h
      · injection h with e1 e2; subst e1; subst e2
        exact ⟨T, _, 93, _, h1, rfl, hl, .inr ⟨rfl, rfl⟩, fun _ => by decide⟩
      · have : ∃ c1 t1, r1 = c1 :: t1 ∧ c1 ≠ 45 := by
          cases n with
          | zero => simp [pItems] at h
          | succ n =>
            have h' := h
            simp only [pItems] at h'
            split at h'
            · simp at h'
            · rename_i h2
              obtain ⟨c1, t1, e, _, n2⟩ := pItem_head h2
              exact ⟨c1, t1, e, n2⟩
        obtain ⟨c1, t1, e, n2⟩ := this
        exact ⟨T, r1, c1, t1, h1, e, hl, .inl ⟨n, h⟩, fun _ => n2⟩

set_option maxRecDepth 20000 in
set_option maxHeartbeats 4000000 in
theorem class_x (w : World) (b : Nat) (s : ByteArray) (c : UInt8) (t r' : List UInt8) (n : Nat) (S : Nat → Bool) (h : Mk w b s (c :: t)) (hc : c ≠ 94) (hP : pItems n (fun _ => false) (c :: t) = .ok S r') :
    Calls Tryd.prog 52 #[.pointer (some ⟨b, 0, none⟩)] w fun e w' => e = .returned (.pointer (some ⟨w.heap.size, 0, none⟩)) ∧ MkTo w w' b s r' ∧ Tr w' w.heap.size 0 S (.slice none 0 0) 0 0 0 := by
  have hlt := h.lt
  have q1 : ((c.toNat : Int) == 94) = false := nbeq hc
  have hh : MkHereAt b s (c :: t) c := fun w h => here_any w b s _ h
  go_enter Tryd.func52, Tryd.ntmps52
  go_wp2_with (first | (go_at_call 14; refine (hh _ g1).mono ?_; rintro e w2 ⟨rfl, g2, l2⟩; have t2 := t1.of_heap (l2.block _ t1.lt); have r2 := r1.trans (Rd.of_below l2); have z2 := l2.size; clear l2 t1 r1 g1) | (refine wpList_buildTo rfl 55 #[] rfl _ rfl (tA 0 (fun _ => false) (.slice none 0 0) 0 0 0) (tA_zero' _) ?_) | (refine Great.wpList_boxTo rfl 55 (.tmp 11) rfl _ rfl w.heap.size rfl (tA 0 (fun _ => false) (.slice none 0 0) 0 0 0) rfl ?_; generalize hw1 : World.alloc w _ = w1; have t1 : Tr w1 w.heap.size 0 (fun _ => false) (.slice none 0 0) 0 0 0 := (by rw [← hw1]; exact tA_new _ _ _ _ _ _ _); have r1 : Rd b w w1 := (by rw [← hw1]; exact (Rd.refl _ _).alloc _); have g1 : Mk w1 b s (c :: t) := (by rw [← hw1]; exact h.alloc _); have z1 : w1.heap.size = w.heap.size + 1 := (by rw [← hw1]; simp); clear hw1))
  go_loopw [] (fun wr => ∃ (A : Nat → Bool) (r : List UInt8), Mk wr b s r ∧ Rd b w wr ∧ Tr wr w.heap.size 0 A (.slice none 0 0) 0 0 0 ∧ ((∃ n, pItems n A r = .ok S r') ∨ (r = 93 :: r' ∧ A = S))) (fun wr => leftOf b s wr)
  case atStart => exact ⟨fun _ => false, c :: t, g2, r2, t2, .inl ⟨n, hP⟩⟩
  case round =>
    obtain ⟨A, r, hm, hrd, hT, hcase⟩ := hrel
    by_cases h93 : ∃ tt, r = 93 :: tt
    · obtain ⟨tt, rfl⟩ := h93
      have e : tt = r' ∧ A = S := by
        rcases hcase with ⟨m, hm⟩ | ⟨e, e2⟩
        · cases m with
          | zero => simp [pItems] at hm
          | succ m =>
            simp only [pItems] at hm
            split at hm
            · simp at hm
            · rename_i h1
              obtain ⟨c', t', e, n1, _⟩ := pItem_head h1
              injection e with e _
              exact absurd e.symm n1
        · injection e with _ e; exact ⟨e, e2⟩
      obtain ⟨rfl, rfl⟩ := e
      clear hcase hP
      obtain ⟨k, hk', e1, c0, c1, hk, sz, lt, fz⟩ := hm.byte
      go_wp2
      go_quiet (fail)
      go_wp2
      have g3 := (hm.drewN nq).next hk
      have r3 : Rd b w ((wr.drewN nq).setCell ⟨b, 1, none⟩ (.int .i64 ((k : Int) + 1))) := (hrd.drewN _).setCell _ _
      have t3 : Tr ((wr.drewN nq).setCell ⟨b, 1, none⟩ (.int .i64 ((k : Int) + 1))) w.heap.size 0 A (.slice none 0 0) 0 0 0 := (hT.drewN nq).far (by omega) _
      go_loopw [10] (fun i wq => i = .int .i64 0 ∧ Mk wq b s tt ∧ Rd b w wq ∧ Tr wq w.heap.size 0 A (.slice none 0 0) 0 0 0) (fun i _ => 0)
      case atStart => exact ⟨rfl, g3, r3, t3⟩
      case round =>
        obtain ⟨rfl, g4, r4, t4⟩ := hrel
        go_wp2
        go_ret
        exact ⟨rfl, ⟨g4, r4⟩, t4⟩
    · have hP2 : ∃ n, pItems n A r = .ok S r' := by
        rcases hcase with q | ⟨q, _⟩
        · exact q
        · exact absurd ⟨_, q⟩ h93
      obtain ⟨m, hP2⟩ := hP2
      clear hcase hP
      obtain ⟨T, r1, c1, t1, hI, hr1, hl1, hnx, hnd⟩ := items_next hP2
      have HN : Hid (((∃ n, pItems n (orS A T) r1 = .ok S r') ∨ (r1 = 93 :: r' ∧ orS A T = S)) ∧ r1.length < r.length) := ⟨hnx, hl1⟩
      obtain ⟨c', t', hr, n93, n45⟩ := pItem_head hI
      subst hr
      have HM : Hid (Mk wr b s (c' :: t')) := hm
      have p93 : ((c'.toNat : Int) != 93) = true := by have := nbeq n93; simp at this ⊢; exact this
      obtain ⟨k, hk', e1, c0, cc1, hk, sz, lt, fz⟩ := hm.byte
      clear hm hl1 hnx hP2 n93 n45 h93
      have path := item_path (b := b) (s := s) (A := A) hI hr1 hnd
      clear hI hnd
      subst hr1
      rcases path with ⟨v, S1, hI, v0, v1, n45, hadd⟩ | ⟨v, z, t2, hI, hI2, v0, v1, z0, z1, hadd⟩
      · have HA : Hid (∀ i, i < 256 → addS A S1 v v i = orS A T i) := hadd
        have p45 : ((c1.toNat : Int) == 45) = false := nbeq n45
        clear hadd n45
        go_wp2
        go_quiet (fail)
        go_wp2_with (first | (refine wpList_store_mid rfl 52 (.tmp 7) (.tmp 39) rfl w3.heap.size 0 (bA S1) rfl rfl (by rw [bA_size]; exact (bA_new _ _ _).there) (by rw [bA_size]; exact sizeA) (bL_one _) ?_; generalize hw4 : World.setCells _ _ _ _ = w4; obtain ⟨g4, r4, b4, h4, z4⟩ := lay_facts hw4 g3 (hrd.drewN _ |>.trans l3); have t4 := (hT.of_heap (l3.block _ hT.lt (by omega))).of_heap (h4 _ (hT.of_heap (l3.block _ hT.lt (by omega))).lt); clear hw4 h4) | (refine wpList_alloc52 rfl rfl _ rfl w3.heap.size rfl ?_) | (go_at_call 63; refine (hI _ (HM.out.drewN _)).mono ?_; rintro e w3 ⟨rfl, g3, l3⟩))
        obtain ⟨k2, hk2', f1, d0, d1, hk2, sz2, lt2, fz2⟩ := g4.byte
        go_quiet (fail)
        go_wp2
        have hz3 : w.heap.size < w3.heap.size := (hT.of_heap (l3.block _ hT.lt (by omega))).lt
        obtain ⟨C, hC⟩ : ∃ C, C = addS A S1 v v := ⟨_, rfl⟩
        have HCC : Hid (C = addS A S1 v v) := hC
        clear hC
        go_loopw [9] (fun i wq => ∃ j : Nat, j ≤ 256 ∧ i = .int .i64 j ∧ Mk wq b s (c1 :: t1) ∧ Rd b w wq ∧ Tr wq w.heap.size 0 (upS A C j) (.slice none 0 0) 0 0 0 ∧ Bs wq w3.heap.size S1) (fun i _ => 256 - (intOf i).toNat)
        case atStart => exact ⟨0, by omega, rfl, g4.drewN _, r4.drewN _, (t4.drewN _).congr (fun i _ => (upS_zero A C i).symm), b4.drewN _⟩
        case round =>
          obtain ⟨j, hj, rfl, g5, r5, t5, b5⟩ := hrel
          by_cases hlt : j < 256
          · have cT := t5.cB j hlt
            rw [upS_at] at cT
            have cS := b5.cB j hlt
            have fT := t5.fz (1 + j)
            by_cases q1 : A j = true
            · rw [q1] at cT
              have HV : Hid (C j = true) := by show _ = _; rw [HCC.out]; exact addS_true1 q1
              go_wp2
              go_region
              all_goals
                go_wp2
                go_roundw
                case rel => exact ⟨j + 1, by omega, by go_num, (g5.drew.set2 (by omega) _), (r5.drew.setNew (Nat.le_refl _) _), ((t5.of_heap (w' := wr.drew) rfl).bit j hlt true).congr (fun i _ => upS_step A C j true HV.out i), (b5.of_heap (w' := wr.drew) rfl).of_heap (Below.heap_setCell _ _ _ _ (by simp; omega))⟩
                case measure => simp [intOf] <;> omega
            have q1 : A j = false := by simpa using q1
            rw [q1] at cT
            by_cases q2 : S1 j = true
            · rw [q2] at cS
              have HV : Hid (C j = true) := by show _ = _; rw [HCC.out]; exact addS_true2 q2
              go_wp2
              go_region
              all_goals
                go_wp2
                go_roundw
                case rel => exact ⟨j + 1, by omega, by go_num, (g5.drew.set2 (by omega) _), (r5.drew.setNew (Nat.le_refl _) _), ((t5.of_heap (w' := wr.drew) rfl).bit j hlt true).congr (fun i _ => upS_step A C j true HV.out i), (b5.of_heap (w' := wr.drew) rfl).of_heap (Below.heap_setCell _ _ _ _ (by simp; omega))⟩
                case measure => simp [intOf] <;> omega
            have q2 : S1 j = false := by simpa using q2
            rw [q2] at cS
            by_cases q3 : 0 ≤ v
            rotate_left
            · have HV : Hid (C j = false) := by show _ = _; rw [HCC.out]; exact addS_false q1 q2 (by omega)
              have p3 : decide (0 ≤ v) = false := by simp; omega
              go_wp2
              go_region
              all_goals
                go_wp2
                go_roundw
                case rel => exact ⟨j + 1, by omega, by go_num, (g5.drew.set2 (by omega) _), (r5.drew.setNew (Nat.le_refl _) _), ((t5.of_heap (w' := wr.drew) rfl).bit j hlt false).congr (fun i _ => upS_step A C j false HV.out i), (b5.of_heap (w' := wr.drew) rfl).of_heap (Below.heap_setCell _ _ _ _ (by simp; omega))⟩
                case measure => simp [intOf] <;> omega
            by_cases q4 : v ≤ j
            rotate_left
            · have HV : Hid (C j = false) := by show _ = _; rw [HCC.out]; exact addS_false q1 q2 (by omega)
              have p4 : decide (v ≤ (j : Int)) = false := by simp; omega
              go_wp2
              go_region
              all_goals
                go_wp2
                go_roundw
                case rel => exact ⟨j + 1, by omega, by go_num, (g5.drew.set2 (by omega) _), (r5.drew.setNew (Nat.le_refl _) _), ((t5.of_heap (w' := wr.drew) rfl).bit j hlt false).congr (fun i _ => upS_step A C j false HV.out i), (b5.of_heap (w' := wr.drew) rfl).of_heap (Below.heap_setCell _ _ _ _ (by simp; omega))⟩
                case measure => simp [intOf] <;> omega
            by_cases q5 : (j : Int) ≤ v
            · have HV : Hid (C j = true) := by show _ = _; rw [HCC.out]; exact addS_true3 ⟨q3, q4, q5⟩
              go_wp2
              go_region
              all_goals
                go_wp2
                go_roundw
                case rel => exact ⟨j + 1, by omega, by go_num, (g5.drew.set2 (by omega) _), (r5.drew.setNew (Nat.le_refl _) _), ((t5.of_heap (w' := wr.drew) rfl).bit j hlt true).congr (fun i _ => upS_step A C j true HV.out i), (b5.of_heap (w' := wr.drew) rfl).of_heap (Below.heap_setCell _ _ _ _ (by simp; omega))⟩
                case measure => simp [intOf] <;> omega
            · have HV : Hid (C j = false) := by show _ = _; rw [HCC.out]; exact addS_false q1 q2 (by omega)
              have p5 : decide ((j : Int) ≤ v) = false := by simp; omega
              go_wp2
              go_region
              all_goals
                go_wp2
                go_roundw
                case rel => exact ⟨j + 1, by omega, by go_num, (g5.drew.set2 (by omega) _), (r5.drew.setNew (Nat.le_refl _) _), ((t5.of_heap (w' := wr.drew) rfl).bit j hlt false).congr (fun i _ => upS_step A C j false HV.out i), (b5.of_heap (w' := wr.drew) rfl).of_heap (Below.heap_setCell _ _ _ _ (by simp; omega))⟩
                case measure => simp [intOf] <;> omega
          · have e : j = 256 := by omega
            subst e
            go_wp2
            go_roundw
            case rel => exact ⟨orS A T, c1 :: t1, g5, r5, t5.congr (fun i hi => by rw [upS_all A C i hi, HCC.out]; exact HA.out i hi), HN.out.1⟩
            case measure => rw [g5.left, HM.out.left]; exact HN.out.2
      · have HA : Hid (∀ i, i < 256 → addS A none256 v z i = orS A T i) := hadd
        clear hadd
        go_wp2
        go_quiet (fail)
        go_wp2_with (first | (refine wpList_store_mid rfl 52 (.tmp 7) (.tmp 39) rfl w3.heap.size 0 (bA none256) rfl rfl (by rw [bA_size]; exact (bA_new _ _ _).there) (by rw [bA_size]; exact sizeA) (bL_one _) ?_; generalize hw4 : World.setCells _ _ _ _ = w4; obtain ⟨g4, r4, b4, h4, z4⟩ := lay_facts hw4 g3 (hrd.drewN _ |>.trans l3); have t4 := (hT.of_heap (l3.block _ hT.lt (by omega))).of_heap (h4 _ (hT.of_heap (l3.block _ hT.lt (by omega))).lt); clear hw4 h4) | (refine wpList_alloc52 rfl rfl _ rfl w3.heap.size rfl ?_) | (go_at_call 63; refine (hI _ (HM.out.drewN _)).mono ?_; rintro e w3 ⟨rfl, g3, l3⟩))
        obtain ⟨k2, hk2', f1, d0, d1, hk2, sz2, lt2, fz2⟩ := g4.byte
        go_quiet (fail)
        have g4' := (g4.drewN nq).next hk2
        have r4' : Rd b w ((w4.drewN nq).setCell ⟨b, 1, none⟩ (.int .i64 ((k2 : Int) + 1))) := (r4.drewN _).setCell _ _
        have t4' : Tr ((w4.drewN nq).setCell ⟨b, 1, none⟩ (.int .i64 ((k2 : Int) + 1))) w.heap.size 0 A (.slice none 0 0) 0 0 0 := (t4.drewN nq).far (by omega) _
        have b4' : Bs ((w4.drewN nq).setCell ⟨b, 1, none⟩ (.int .i64 ((k2 : Int) + 1))) w3.heap.size none256 := (b4.drewN nq).of_heap (Below.heap_setCell _ _ _ _ (by have := g3.lt; simp; omega))
        go_wp2_with (go_at_call 63; refine (hI2 _ g4').mono ?_; rintro e w6 ⟨rfl, g6, l6⟩; have r6 := r4'.trans l6; have t6 := t4'.of_heap (l6.block _ t4'.lt (by omega)); have b6 := b4'.of_heap (l6.block _ b4'.lt (by have := g3.lt; omega)))
        have hz3 : w.heap.size < w3.heap.size := (hT.of_heap (l3.block _ hT.lt (by omega))).lt
        obtain ⟨C, hC⟩ : ∃ C, C = addS A none256 v z := ⟨_, rfl⟩
        have HCC : Hid (C = addS A none256 v z) := hC
        clear hC
        go_loopw [9] (fun i wq => ∃ j : Nat, j ≤ 256 ∧ i = .int .i64 j ∧ Mk wq b s (c1 :: t1) ∧ Rd b w wq ∧ Tr wq w.heap.size 0 (upS A C j) (.slice none 0 0) 0 0 0 ∧ Bs wq w3.heap.size none256) (fun i _ => 256 - (intOf i).toNat)
        case atStart => exact ⟨0, by omega, rfl, g6, r6, t6.congr (fun i _ => (upS_zero A C i).symm), b6⟩
        case round =>
          obtain ⟨j, hj, rfl, g5, r5, t5, b5⟩ := hrel
          by_cases hlt : j < 256
          · have cT := t5.cB j hlt
            rw [upS_at] at cT
            have cS := b5.cB j hlt
            have fT := t5.fz (1 + j)
            by_cases q1 : A j = true
            · rw [q1] at cT
              have HV : Hid (C j = true) := by show _ = _; rw [HCC.out]; exact addS_true1 q1
              go_wp2
              go_region
              all_goals
                go_wp2
                go_roundw
                case rel => exact ⟨j + 1, by omega, by go_num, (g5.drew.set2 (by omega) _), (r5.drew.setNew (Nat.le_refl _) _), ((t5.of_heap (w' := wr.drew) rfl).bit j hlt true).congr (fun i _ => upS_step A C j true HV.out i), (b5.of_heap (w' := wr.drew) rfl).of_heap (Below.heap_setCell _ _ _ _ (by simp; omega))⟩
                case measure => simp [intOf] <;> omega
            have q1 : A j = false := by simpa using q1
            rw [q1] at cT
            have q2 : none256 j = false := rfl
            simp only [none256] at cS
            have q3 : 0 ≤ v := v0
            by_cases q4 : v ≤ j
            rotate_left
            · have HV : Hid (C j = false) := by show _ = _; rw [HCC.out]; exact addS_false q1 q2 (by omega)
              have p4 : decide (v ≤ (j : Int)) = false := by simp; omega
              go_wp2
              go_region
              all_goals
                go_wp2
                go_roundw
                case rel => exact ⟨j + 1, by omega, by go_num, (g5.drew.set2 (by omega) _), (r5.drew.setNew (Nat.le_refl _) _), ((t5.of_heap (w' := wr.drew) rfl).bit j hlt false).congr (fun i _ => upS_step A C j false HV.out i), (b5.of_heap (w' := wr.drew) rfl).of_heap (Below.heap_setCell _ _ _ _ (by simp; omega))⟩
                case measure => simp [intOf] <;> omega
            by_cases q5 : (j : Int) ≤ z
            · have HV : Hid (C j = true) := by show _ = _; rw [HCC.out]; exact addS_true3 ⟨q3, q4, q5⟩
              go_wp2
              go_region
              all_goals
                go_wp2
                go_roundw
                case rel => exact ⟨j + 1, by omega, by go_num, (g5.drew.set2 (by omega) _), (r5.drew.setNew (Nat.le_refl _) _), ((t5.of_heap (w' := wr.drew) rfl).bit j hlt true).congr (fun i _ => upS_step A C j true HV.out i), (b5.of_heap (w' := wr.drew) rfl).of_heap (Below.heap_setCell _ _ _ _ (by simp; omega))⟩
                case measure => simp [intOf] <;> omega
            · have HV : Hid (C j = false) := by show _ = _; rw [HCC.out]; exact addS_false q1 q2 (by omega)
              have p5 : decide ((j : Int) ≤ z) = false := by simp; omega
              go_wp2
              go_region
              all_goals
                go_wp2
                go_roundw
                case rel => exact ⟨j + 1, by omega, by go_num, (g5.drew.set2 (by omega) _), (r5.drew.setNew (Nat.le_refl _) _), ((t5.of_heap (w' := wr.drew) rfl).bit j hlt false).congr (fun i _ => upS_step A C j false HV.out i), (b5.of_heap (w' := wr.drew) rfl).of_heap (Below.heap_setCell _ _ _ _ (by simp; omega))⟩
                case measure => simp [intOf] <;> omega
          · have e : j = 256 := by omega
            subst e
            go_wp2
            go_roundw
            case rel => exact ⟨orS A T, c1 :: t1, g5, r5, t5.congr (fun i hi => by rw [upS_all A C i hi, HCC.out]; exact HA.out i hi), HN.out.1⟩
            case measure => rw [g5.left, HM.out.left]; exact HN.out.2
end Go.Proofs.YtbjabpodkaokjaaDoor
