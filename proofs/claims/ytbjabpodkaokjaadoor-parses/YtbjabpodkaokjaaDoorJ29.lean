import Derived.Test.YtbjabpodkaokjaaDoorJ08
import Derived.Test.YtbjabpodkaokjaaDoorJ18
import Derived.Test.YtbjabpodkaokjaaDoorJ22
set_option linter.unusedVariables false
set_option linter.unusedSimpArgs false
namespace Go.Proofs.YtbjabpodkaokjaaDoor

/-- From mode m with r ahead the machine comes to m' with r' ahead. -/
def Goes (m : Md) (r : List UInt8) (m' : Md) (r' : List UInt8) : Prop := ∃ u, r = u ++ r' ∧ runAll m u = m'
theorem Goes.refl (m : Md) (r : List UInt8) : Goes m r m r := ⟨[], rfl, rfl⟩
theorem Goes.trans {m m1 m2 : Md} {r r1 r2 : List UInt8} (h : Goes m r m1 r1) (g : Goes m1 r1 m2 r2) : Goes m r m2 r2 := by
  obtain ⟨u, rfl, rfl⟩ := h
  obtain ⟨v, rfl, rfl⟩ := g
  exact ⟨u ++ v, by simp, by simp [runAll]⟩
theorem Goes.step {m m' : Md} {c : UInt8} {t r' : List UInt8} (g : Goes (m.step c.toNat) t m' r') : Goes m (c :: t) m' r' := by
  obtain ⟨v, rfl, rfl⟩ := g
  exact ⟨c :: v, rfl, rfl⟩
theorem Goes.one (m : Md) (c : UInt8) (t : List UInt8) : Goes m (c :: t) (m.step c.toNat) t := Goes.step (Goes.refl _ _)

/-- Nothing goes on from here. -/
def Stuck (m : Md) (r : List UInt8) : Prop := ∃ m' r', Goes m r m' r' ∧ m'.M ≠ 16 ∧ match r' with
  | [] => 0 < m'.Depth ∨ (m'.M ≠ 0 ∧ m'.M ≠ 1 ∧ m'.M ≠ 2 ∧ m'.M ≠ 15)
  | c :: _ => (m'.step c.toNat).M = 16
def StuckAt (m : Md) (r r' : List UInt8) : Prop := ∃ m', Goes m r m' r' ∧ m'.M ≠ 16 ∧ match r' with
  | [] => 0 < m'.Depth ∨ (m'.M ≠ 0 ∧ m'.M ≠ 1 ∧ m'.M ≠ 2 ∧ m'.M ≠ 15)
  | c :: _ => (m'.step c.toNat).M = 16
theorem StuckAt.after {m m1 : Md} {r r1 r' : List UInt8} (g : Goes m r m1 r1) (h : StuckAt m1 r1 r') : StuckAt m r r' := by
  obtain ⟨m', h1, h2⟩ := h
  exact ⟨m', g.trans h1, h2⟩
theorem StuckAt.nil {m : Md} (h : 3 ≤ m.M) (h' : m.M ≤ 14) : StuckAt m [] [] := ⟨m, Goes.refl _ _, by omega, .inr (by omega)⟩
theorem StuckAt.cons {m : Md} {c : UInt8} {t : List UInt8} (h : m.M ≠ 16) (hc : (m.step c.toNat).M = 16) : StuckAt m (c :: t) (c :: t) := ⟨m, Goes.refl _ _, h, hc⟩

/-- The same depth, and the same greatest one. -/
def Sm (m m' : Md) : Prop := m'.Depth = m.Depth ∧ m'.Most = m.Most

theorem hexN_some {c : UInt8} {v : Nat} (h : hexN c = some v) : hexv c.toNat = v ∧ v ≤ 15 := by
  unfold hexN at h
  unfold hexv
  split at h
  · injection h with h; subst h; rw [if_pos (by omega), if_pos (by omega)]; omega
  · split at h
    · injection h with h; subst h; rw [if_pos (by omega), if_neg (by omega), if_pos (by omega), if_pos (by omega)]; omega
    · simp at h
theorem hexN_none {c : UInt8} (h : hexN c = none) : hexv c.toNat = -1 := by
  unfold hexN at h
  unfold hexv
  split at h
  · simp at h
  · split at h
    · simp at h
    · (repeat' split) <;> omega

set_option maxRecDepth 4000 in
theorem isSg_md (c : UInt8) : isSignB (c.toNat : Int) = isSg c := by
  have : ∀ n : Nat, n < 256 → isSignB (n : Int) = isSg (UInt8.ofNat n) := by decide
  have h := this c.toNat c.toNat_lt
  rwa [UInt8.ofNat_toNat] at h

/-- What stands behind a byte that an escape, or a byte of a class, is. -/
def After (m : Md) (v : Nat) (m' : Md) : Prop := Sm m m' ∧
  (m.Class = false → m'.M = 2) ∧
  (m.Class = true → m.Low < 0 → m'.M = 8 ∧ m'.Low = m.Low ∧ m'.Value = v) ∧
  (m.Class = true → 0 ≤ m.Low → m'.M = 9 ∧ m'.Low = -1)
theorem after_one (m : Md) (v : Nat) (h : m.Class = true → 0 ≤ m.Low → m.Low ≤ v) : After m v (m.one v) := by
  cases hc : m.Class with
  | false => simp [After, Md.one, hc, Sm, Md.to]
  | true =>
    by_cases h0 : 0 ≤ m.Low
    · have := h hc h0
      have h1 : ¬ (v : Int) < m.Low := by omega
      simp [After, Md.one, hc, Md.byteItem, h0, h1, Sm]
    · simp [After, Md.one, hc, Md.byteItem, h0, Sm]
theorem one_broken (m : Md) (v : Nat) (hc : m.Class = true) (h0 : 0 ≤ m.Low) (h : (v : Int) < m.Low) : (m.one v).M = 16 := by
  simp [Md.one, hc, Md.byteItem, h0, h, Md.to]

/-- The bound that a range's high end keeps to. -/
def Bd (m : Md) (least : Nat) : Prop := (m.Low < 0 ∧ least = 0) ∨ (m.Low = least)
theorem Bd.le {m : Md} {l : Nat} (h : Bd m l) (v : Nat) (hv : l ≤ v) : m.Low ≤ v := by rcases h with h | h <;> omega

def ByteR (m : Md) (r : List UInt8) : Res Nat → Prop
  | .ok v r' => ∃ m', Goes m r m' r' ∧ After m v m' ∧ v ≤ 255
  | .bad r' => StuckAt m r r'

theorem hexByte_sim (m : Md) (l : Nat) (r : List UInt8) (hm : m.M = 4) (hb : Bd m l) (hl : l ≤ 255) : ByteR m r (pHexByte l r) := by
  unfold pHexByte
  match r with
  | [] => simp only [pHexSign, ByteR]; exact StuckAt.nil (by omega) (by omega)
  | c :: t =>
    have hst : ∀ x, m.step x = if hexv x < 0 || 16 * hexv x + 15 < m.Low then m.to 16 else { m with Value := hexv x, M := 5 } := by intro x; simp [Md.step, hm]
    cases hc : hexN c with
    | none =>
      have := hexN_none hc
      simp only [pHexSign, hc, ByteR]
      exact StuckAt.cons (by omega) (by rw [hst, this]; simp [Md.to])
    | some v =>
      obtain ⟨hv, hv15⟩ := hexN_some hc
      simp only [pHexSign, hc]
      by_cases hlt : v < l / 16
      · rw [if_pos hlt]
        refine StuckAt.cons (by omega) ?_
        rw [hst, hv, if_pos (by rcases hb with hb | hb <;> simp <;> omega)]; simp [Md.to]
      · rw [if_neg hlt]
        have e1 : m.step c.toNat = { m with Value := v, M := 5 } := by
          rw [hst, hv, if_neg]
          rcases hb with hb | hb <;> simp <;> omega
        have hst2 : ∀ x, ({ m with Value := (v : Int), M := 5 } : Md).step x = if hexv x < 0 || 16 * (v : Int) + hexv x < m.Low then ({ m with Value := (v : Int), M := 5 } : Md).to 16 else ({ m with Value := (v : Int), M := 5 } : Md).one (16 * v + hexv x) := by
          intro x; simp [Md.step]
        have g1 : Goes m (c :: t) { m with Value := v, M := 5 } t := by rw [← e1]; exact Goes.one _ _ _
        match t with
        | [] => simp only [pHexSign, ByteR]; exact StuckAt.after g1 (StuckAt.nil (by simp) (by simp))
        | c2 :: t2 =>
          cases hc2 : hexN c2 with
          | none =>
            have := hexN_none hc2
            simp only [pHexSign, hc2, ByteR]
            exact StuckAt.after g1 (StuckAt.cons (by simp) (by rw [hst2, this]; simp [Md.to]))
          | some v2 =>
            obtain ⟨hv2, hv215⟩ := hexN_some hc2
            simp only [pHexSign, hc2]
            by_cases hlt2 : v2 < (if l / 16 < v then 0 else l) % 16
            · rw [if_pos hlt2]
              refine StuckAt.after g1 (StuckAt.cons (by simp) ?_)
              rw [hst2, hv2, if_pos]
              · simp [Md.to]
              · split at hlt2 <;> rcases hb with hb | hb <;> simp <;> omega
            · rw [if_neg hlt2]
              have hle : l ≤ v * 16 + v2 := by split at hlt2 <;> omega
              have e2 : ({ m with Value := (v : Int), M := 5 } : Md).step c2.toNat = ({ m with Value := (v : Int), M := 5 } : Md).one ((v * 16 + v2 : Nat) : Int) := by
                rw [hst2, hv2, if_neg]
                · congr 1; omega
                · have := hb.le _ hle
                  simp; omega
              refine ⟨_, g1.trans (Goes.one _ _ _), ?_, by omega⟩
              rw [e2]
              exact after_one { m with Value := (v : Int), M := 5 } _ (fun _ _ => hb.le _ hle)

theorem escSet_cases (c : UInt8) : (escSet c = none ∧ ¬ (c.toNat = 100 ∨ c.toNat = 119 ∨ c.toNat = 115)) ∨ ((∃ S, escSet c = some S) ∧ (c.toNat = 100 ∨ c.toNat = 119 ∨ c.toNat = 115)) := by
  unfold escSet
  by_cases h1 : c = 100
  · subst h1; right; exact ⟨⟨_, rfl⟩, by decide⟩
  · by_cases h2 : c = 119
    · subst h2; right; exact ⟨⟨_, rfl⟩, by decide⟩
    · by_cases h3 : c = 115
      · subst h3; right; exact ⟨⟨_, rfl⟩, by decide⟩
      · left; rw [if_neg h1, if_neg h2, if_neg h3]
        refine ⟨rfl, ?_⟩
        rintro (h | h | h)
        · exact h1 (UInt8.toNat_inj.mp h)
        · exact h2 (UInt8.toNat_inj.mp h)
        · exact h3 (UInt8.toNat_inj.mp h)
theorem ne_toNat {c : UInt8} {k : UInt8} (h : c ≠ k) : c.toNat ≠ k.toNat := fun e => h (UInt8.toNat_inj.mp e)

theorem escape_eq (m : Md) (c : UInt8) (h3 : m.M = 3) : m.step c.toNat = m.escape c.toNat := by simp [Md.step, h3]

theorem byteEscape_sim (m : Md) (l : Nat) (r : List UInt8) (hm : m.M = 3) (hb : Bd m l) (hl : l ≤ 255) (hcl : m.Class = false → m.Low < 0) (hs : (∀ c t, r = c :: t → escSet c = none) ∨ (m.Class = true ∧ 0 ≤ m.Low)) : ByteR m r (pByteEscape l r) := by
  match r with
  | [] => simp only [pByteEscape, ByteR]; exact StuckAt.nil (by omega) (by omega)
  | c :: t =>
    have hst := escape_eq m c hm
    have hlt := c.toNat_lt
    simp only [pByteEscape]
    by_cases hx : c = 120
    · rw [if_pos hx]
      have e : m.step c.toNat = m.to 4 := by
        rw [hst]; subst hx
        simp [Md.escape, show isSignB 120 = false by decide]
      have h4 := hexByte_sim (m.to 4) l t rfl hb hl
      have g1 : Goes m (c :: t) (m.to 4) t := by rw [← e]; exact Goes.one _ _ _
      cases hR : pHexByte l t with
      | bad r' => rw [hR] at h4; exact StuckAt.after g1 h4
      | ok v r' =>
        rw [hR] at h4
        obtain ⟨m', g2, ha, hv⟩ := h4
        exact ⟨m', g1.trans g2, ha, hv⟩
    · rw [if_neg hx]
      have hx' := ne_toNat hx
      simp at hx'
      have step : ∀ v : Nat, v ≤ 255 → m.step c.toNat = m.one v → ByteR m (c :: t) (if v < l then .bad (c :: t) else .ok v t) := by
        intro v hv e
        by_cases hvl : v < l
        · rw [if_pos hvl]
          have h0 : m.Low = l := by rcases hb with hb | hb <;> omega
          have hc : m.Class = true := by
            cases hc : m.Class with
            | true => rfl
            | false => have := hcl hc; omega
          exact StuckAt.cons (by omega) (by rw [e]; exact one_broken m v hc (by omega) (by omega))
        · rw [if_neg hvl]
          refine ⟨_, Goes.one _ _ _, ?_, hv⟩
          rw [e]; exact after_one m v (fun _ _ => hb.le v (by omega))
      unfold escByte
      by_cases h1 : (isSg c || c == 45) = true
      · rw [if_pos h1]
        have e : m.step c.toNat = m.one c.toNat := by
          rw [hst]; unfold Md.escape; rw [if_pos]
          rw [isSg_md]
          rcases Bool.or_eq_true _ _ ▸ h1 with h | h
          · simp [h]
          · have : c = 45 := by simpa using h
            subst this; simp
        exact step _ (by omega) e
      · rw [if_neg h1]
        have h1' : ¬ (isSignB (c.toNat : Int) || (c.toNat : Int) == 45) = true := by
          rw [isSg_md]
          intro hh
          apply h1
          rcases Bool.or_eq_true _ _ ▸ hh with h | h
          · simp [h]
          · have : c = 45 := UInt8.toNat_inj.mp (by simp at h; simp; omega)
            subst this; simp
        by_cases h2 : c = 110
        · subst h2
          simp only [beq_self_eq_true, if_true]
          refine step 10 (by omega) ?_
          rw [hst]; unfold Md.escape; rw [if_neg h1']; simp
        · by_cases h3 : c = 116
          · subst h3
            simp only [show ((116 : UInt8) == 110) = false by decide, Bool.false_eq_true, if_false, beq_self_eq_true, if_true]
            refine step 9 (by omega) ?_
            rw [hst]; unfold Md.escape; rw [if_neg h1']; simp
          · rw [if_neg (by simpa using h2), if_neg (by simpa using h3)]
            have h2' := ne_toNat h2
            have h3' := ne_toNat h3
            simp at h2' h3'
            refine StuckAt.cons (by omega) ?_
            rw [hst]; unfold Md.escape; rw [if_neg h1', if_neg (by simp; omega), if_neg (by simp; omega), if_neg (by simp; omega)]
            rcases hs with hs | ⟨k1, k2⟩
            · have := hs c t rfl
              rcases escSet_cases c with ⟨_, hn⟩ | ⟨⟨S, h⟩, _⟩
              · rw [if_neg (by simp; omega), if_neg (by simp; omega)]; simp [Md.to]
              · rw [this] at h; simp at h
            · rw [if_neg (by simp [k1]), if_neg (by simp; omega)]; simp [Md.to]
end Go.Proofs.YtbjabpodkaokjaaDoor

namespace Go.Proofs.YtbjabpodkaokjaaDoor

/-- In a class, ahead of an item or its end. -/
def InCls (m : Md) (r : List UInt8) : Prop := m.Low < 0 ∧ (m.M = 6 ∨ m.M = 7 ∨ m.M = 8 ∨ m.M = 9) ∧
  ∀ c t, r = c :: t → (m.M = 6 → c ≠ 94) ∧ (m.M = 8 → c ≠ 45)
def NotEnd (m : Md) (r : List UInt8) : Prop := ∀ c t, r = c :: t → (m.M = 8 ∨ m.M = 9) → c ≠ 93

theorem cls_eq (m : Md) (c : Int) (h : m.M = 6 ∨ m.M = 7 ∨ m.M = 8 ∨ m.M = 9) : m.step c = m.cls c := by
  rcases h with h | h | h | h <;> simp [Md.step, h]
theorem rng_eq (m : Md) (c : Int) (h : m.M = 10) : m.step c = if c == 92 then { m with Class := true, M := 3 } else if c == 91 || c == 93 || c == 94 || c == 45 then m.to 16 else m.byteItem c := by
  simp [Md.step, h]

/-- What stands behind a byte of a class. -/
def AfterC (m : Md) (v : Nat) (m' : Md) : Prop := Sm m m' ∧
  (m.Low < 0 → m'.M = 8 ∧ m'.Low = m.Low ∧ m'.Value = v) ∧
  (0 ≤ m.Low → m'.M = 9 ∧ m'.Low = -1)
def ByteC (m : Md) (r : List UInt8) : Res Nat → Prop
  | .ok v r' => ∃ m', Goes m r m' r' ∧ AfterC m v m' ∧ v ≤ 255
  | .bad r' => StuckAt m r r'
theorem byteItem_after (m : Md) (v : Nat) (h : 0 ≤ m.Low → m.Low ≤ v) : AfterC m v (m.byteItem v) := by
  by_cases h0 : 0 ≤ m.Low
  · have := h h0
    have h1 : ¬ (v : Int) < m.Low := by omega
    simp [AfterC, Md.byteItem, h0, h1, Sm]
    all_goals omega
  · simp [AfterC, Md.byteItem, h0, Sm]
theorem byteItem_broken (m : Md) (v : Nat) (h0 : 0 ≤ m.Low) (h : (v : Int) < m.Low) : (m.byteItem v).M = 16 := by
  simp [Md.byteItem, h0, h, Md.to]

/-- The modes in which a byte of a class may come. -/
def AtByte (m : Md) (r : List UInt8) : Prop := (InCls m r ∧ NotEnd m r) ∨ (m.M = 10 ∧ 0 ≤ m.Low)

theorem itemByte_sim (m : Md) (l : Nat) (r : List UInt8) (hb : Bd m l) (hl : l ≤ 255) (h : AtByte m r) (hs : (∀ c t, r = 92 :: c :: t → escSet c = none) ∨ 0 ≤ m.Low) : ByteC m r (pItemByte l r) := by
  have hM : 6 ≤ m.M ∧ m.M ≤ 10 := by rcases h with ⟨⟨_, h, _⟩, _⟩ | h <;> omega
  match r with
  | [] => simp only [pItemByte, pPlainItem, ByteC]; exact StuckAt.nil (by omega) (by omega)
  | c :: t =>
    have hlt := c.toNat_lt
    by_cases h92 : c = 92
    · subst h92
      simp only [pItemByte]
      have e : m.step (92 : UInt8).toNat = { m with Class := true, M := 3 } := by
        rcases h with ⟨⟨_, hm, hh⟩, _⟩ | ⟨hm, _⟩
        · rw [cls_eq m _ hm]; simp [Md.cls]
        · rw [rng_eq m _ hm]; simp
      have g1 : Goes m (92 :: t) { m with Class := true, M := 3 } t := by rw [← e]; exact Goes.one _ _ _
      have hE := byteEscape_sim { m with Class := true, M := 3 } l t rfl hb hl (by simp) (by
        rcases hs with hs | hs
        · left; intro c' t' e'; exact hs c' t' (by rw [e'])
        · right; exact ⟨rfl, hs⟩)
      cases hR : pByteEscape l t with
      | bad r' => rw [hR] at hE; exact StuckAt.after g1 hE
      | ok v r' =>
        rw [hR] at hE
        obtain ⟨m', g2, ⟨a1, -, a2, a3⟩, hv⟩ := hE
        exact ⟨m', g1.trans g2, ⟨a1, a2 rfl, a3 rfl⟩, hv⟩
    · have hp : pItemByte l (c :: t) = pPlainItem l (c :: t) := by
        unfold pItemByte
        split
        · rename_i q; injection q with q _; exact absurd q h92
        · rfl
      rw [hp]
      simp only [pPlainItem]
      by_cases hbad : c = 91 ∨ c = 93 ∨ c = 94 ∨ c = 45
      · have hS : (m.step c.toNat).M = 16 := by
          rcases h with ⟨⟨_, hm, hh⟩, hn⟩ | ⟨hm, _⟩
          · obtain ⟨k1, k2⟩ := hh c t rfl
            have k3 := hn c t rfl
            rw [cls_eq m _ hm]
            unfold Md.cls
            have n1 : ¬ (((c.toNat : Int) == 94 && m.M == 6) = true) := by
              simp; intro q q2; exact k1 q2 (UInt8.toNat_inj.mp (by simp; omega))
            have n2 : ¬ (((c.toNat : Int) == 92) = true) := by simpa using (by have := ne_toNat h92; simp at this; omega)
            have n3 : ¬ (((c.toNat : Int) == 93 && (m.M == 8 || m.M == 9)) = true) := by
              simp; intro q
              have hc : c = 93 := UInt8.toNat_inj.mp (by simp; omega)
              refine ⟨fun q2 => k3 (.inl q2) hc, fun q2 => k3 (.inr q2) hc⟩
            have n4 : ¬ (((c.toNat : Int) == 45 && m.M == 8) = true) := by
              simp; intro q q2
              exact k2 q2 (UInt8.toNat_inj.mp (by simp; omega))
            rw [if_neg n1, if_neg n2, if_neg n3, if_neg n4, if_pos]
            · simp [Md.to]
            · rcases hbad with rfl | rfl | rfl | rfl <;> decide
          · rw [rng_eq m _ hm]
            rcases hbad with rfl | rfl | rfl | rfl <;> simp [Md.to]
        by_cases hcl : c.toNat < l
        · rw [if_pos hcl]; exact StuckAt.cons (by omega) hS
        · rw [if_neg hcl, if_pos (by rcases hbad with h | h | h | h <;> simp [h])]; exact StuckAt.cons (by omega) hS
      · have n91 : c ≠ 91 := fun e => hbad (by simp [e])
        have n93 : c ≠ 93 := fun e => hbad (by simp [e])
        have n94 : c ≠ 94 := fun e => hbad (by simp [e])
        have n45 : c ≠ 45 := fun e => hbad (by simp [e])
        have e : m.step c.toNat = m.byteItem c.toNat := by
          have a1 := ne_toNat n91
          have a2 := ne_toNat n93
          have a3 := ne_toNat n94
          have a4 := ne_toNat n45
          have a5 := ne_toNat h92
          simp at a1 a2 a3 a4 a5
          have b1 : ((c.toNat : Int) == 91) = false := by simp; omega
          have b2 : ((c.toNat : Int) == 93) = false := by simp; omega
          have b3 : ((c.toNat : Int) == 94) = false := by simp; omega
          have b4 : ((c.toNat : Int) == 45) = false := by simp; omega
          have b5 : ((c.toNat : Int) == 92) = false := by simp; omega
          rcases h with ⟨⟨_, hm, hh⟩, hn⟩ | ⟨hm, _⟩
          · rw [cls_eq m _ hm]; simp [Md.cls, b1, b2, b3, b4, b5]
          · rw [rng_eq m _ hm]; simp [b1, b2, b3, b4, b5]
        by_cases hcl : c.toNat < l
        · rw [if_pos hcl]
          refine StuckAt.cons (by omega) ?_
          rw [e]
          rcases hb with hb | hb
          · omega
          · exact byteItem_broken m _ (by omega) (by omega)
        · rw [if_neg hcl, if_neg (by simp [n91, n93, n94, n45, h92])]
          refine ⟨_, Goes.one _ _ _, ?_, by omega⟩
          rw [e]; exact byteItem_after m _ (fun _ => hb.le _ (by omega))

def ItemR (m : Md) (r : List UInt8) : Res (Nat → Bool) → Prop
  | .ok _ r' => ∃ m', Goes m r m' r' ∧ Sm m m' ∧ InCls m' r' ∧ (m'.M = 8 ∨ m'.M = 9)
  | .bad r' => StuckAt m r r'

theorem range_sim (m : Md) (l : Nat) (r : List UInt8) (hm : m.M = 8) (hl : m.Low < 0) (hv : m.Value = l) (h255 : l ≤ 255) : ItemR m r (pRange l r) := by
  by_cases h45 : ∃ t, r = 45 :: t
  · obtain ⟨t, rfl⟩ := h45
    simp only [pRange]
    have e : m.step (45 : UInt8).toNat = { m with Low := m.Value, M := 10 } := by
      rw [cls_eq m _ (by omega)]; simp [Md.cls, hm]
    have g1 : Goes m (45 :: t) { m with Low := m.Value, M := 10 } t := by rw [← e]; exact Goes.one _ _ _
    have hI := itemByte_sim { m with Low := m.Value, M := 10 } l t (.inr hv) h255 (.inr ⟨rfl, by simp; omega⟩) (.inr (by simp; omega))
    cases hR : pItemByte l t with
    | bad r' => rw [hR] at hI; exact StuckAt.after g1 hI
    | ok v r' =>
      rw [hR] at hI
      obtain ⟨m', g2, ⟨a1, -, a3⟩, -⟩ := hI
      have := a3 (by simp; omega)
      refine ⟨m', g1.trans g2, a1, ⟨by omega, by omega, fun c t _ => ⟨fun q => by omega, fun q => by omega⟩⟩, by omega⟩
  · have hp : pRange l r = .ok (inSpan l l) r := by
      unfold pRange
      split
      · exact absurd ⟨_, rfl⟩ h45
      · rfl
    rw [hp]
    refine ⟨m, Goes.refl _ _, ⟨rfl, rfl⟩, ⟨hl, by omega, fun c t e => ⟨fun q => by omega, fun q hc => h45 ⟨t, by rw [e, hc]⟩⟩⟩, by omega⟩

theorem item_sim (m : Md) (r : List UInt8) (h : InCls m r) (hn : NotEnd m r) : ItemR m r (pItem r) := by
  have hlow := h.1
  have hgo : ∀ (hs : ∀ c t, r = 92 :: c :: t → escSet c = none), ItemR m r (match pItemByte 0 r with
    | .ok low r' => pRange low r'
    | .bad r' => .bad r') := by
    intro hs
    have hI := itemByte_sim m 0 r (.inl ⟨hlow, rfl⟩) (by omega) (.inl ⟨h, hn⟩) (.inl hs)
    cases hR : pItemByte 0 r with
    | bad r' => rw [hR] at hI; exact hI
    | ok v r' =>
      rw [hR] at hI
      obtain ⟨m', g1, ⟨a1, a2, -⟩, hv⟩ := hI
      obtain ⟨b1, b2, b3⟩ := a2 hlow
      have hr := range_sim m' v r' b1 (by omega) b3 hv
      show ItemR m r (pRange v r')
      cases hR2 : pRange v r' with
      | bad r'' => rw [hR2] at hr; exact StuckAt.after g1 hr
      | ok S r'' =>
        rw [hR2] at hr
        obtain ⟨m2, g2, ⟨c1, c2⟩, c3⟩ := hr
        exact ⟨m2, g1.trans g2, ⟨c1.trans a1.1, c2.trans a1.2⟩, c3⟩
  by_cases h92 : ∃ c t, r = 92 :: c :: t
  · obtain ⟨c, t, rfl⟩ := h92
    simp only [pItem]
    cases hS : escSet c with
    | none =>
      have := hgo (fun c' t' e => by injection e with _ e; injection e with e _; rw [← e]; exact hS)
      simp only [pItemByte] at this
      cases hB : pByteEscape 0 (c :: t) <;> simp only [hB] at this ⊢ <;> exact this
    | some S =>
      simp only
      have e : m.step (92 : UInt8).toNat = { m with Class := true, M := 3 } := by
        rw [cls_eq m _ h.2.1]; simp [Md.cls]
      have e2 : ({ m with Class := true, M := 3 } : Md).step c.toNat = { m with Class := true, M := 9 } := by
        rw [escape_eq _ c rfl]
        rcases escSet_cases c with ⟨q, _⟩ | ⟨_, q⟩
        · rw [q] at hS; simp at hS
        · rcases q with q | q | q <;> rw [q] <;> simp [Md.escape, Md.to, hlow, show isSignB 100 = false by decide, show isSignB 119 = false by decide, show isSignB 115 = false by decide]
      refine ⟨{ m with Class := true, M := 9 }, (Goes.one _ _ _).trans (by rw [e]; have := Goes.one ({ m with Class := true, M := 3 } : Md) c t; rwa [e2] at this), ⟨rfl, rfl⟩, ⟨hlow, by simp, fun c t _ => ⟨by simp, by simp⟩⟩, by simp⟩
  · have hp : pItem r = (match pItemByte 0 r with
      | .ok low r' => pRange low r'
      | .bad r' => .bad r') := by
      unfold pItem
      split
      · exact absurd ⟨_, _, rfl⟩ h92
      · rfl
    rw [hp]
    exact hgo (fun c t e => absurd ⟨c, t, e⟩ h92)

def OutR {α : Type} (m : Md) (r : List UInt8) : Res α → Prop
  | .ok _ r' => ∃ m', Goes m r m' r' ∧ Sm m m' ∧ m'.M = 2
  | .bad r' => StuckAt m r r'

theorem items_sim (n : Nat) (A : Nat → Bool) (m : Md) (r : List UInt8) (hn : r.length < n) (h : InCls m r) (hne : NotEnd m r) : OutR m r (pItems n A r) := by
  induction n generalizing A m r with
  | zero => omega
  | succ n ih =>
    simp only [pItems]
    have hI := item_sim m r h hne
    cases hR : pItem r with
    | bad r' => rw [hR] at hI; exact hI
    | ok S r' =>
      rw [hR] at hI
      obtain ⟨m', g1, s1, i1, k1⟩ := hI
      have hl := pItem_len hR
      simp only
      by_cases h93 : ∃ t, r' = 93 :: t
      · obtain ⟨t, rfl⟩ := h93
        simp only
        have e : m'.step (93 : UInt8).toNat = { m' with Class := false, M := 2 } := by
          rw [cls_eq m' _ i1.2.1]; rcases k1 with k1 | k1 <;> simp [Md.cls, k1]
        refine ⟨_, g1.trans (Goes.one _ _ _), ?_, ?_⟩ <;> rw [e]
        exact s1
      · split
        · exact absurd ⟨_, rfl⟩ h93
        have hg := ih (orS A S) m' r' (by omega) i1 (fun c t e _ hc => h93 ⟨t, by rw [e, hc]⟩)
        cases hR2 : pItems n (orS A S) r' with
        | bad r'' => rw [hR2] at hg; exact StuckAt.after g1 hg
        | ok S2 r'' =>
          rw [hR2] at hg
          obtain ⟨m2, g2, s2, k2⟩ := hg
          exact ⟨m2, g1.trans g2, ⟨s2.1.trans s1.1, s2.2.trans s1.2⟩, k2⟩

theorem class_sim (m : Md) (r : List UInt8) (hm : m.M = 6) (hl : m.Low < 0) : OutR m r (pClass r) := by
  by_cases h94 : ∃ t, r = 94 :: t
  · obtain ⟨t, rfl⟩ := h94
    simp only [pClass]
    have e : m.step (94 : UInt8).toNat = m.to 7 := by rw [cls_eq m _ (by omega)]; simp [Md.cls, hm]
    have g1 : Goes m (94 :: t) (m.to 7) t := by rw [← e]; exact Goes.one _ _ _
    have hg := items_sim (t.length + 1) (fun _ => false) (m.to 7) t (by omega) ⟨hl, by simp [Md.to], fun c t _ => ⟨by simp [Md.to], by simp [Md.to]⟩⟩ (fun c t _ q => by simp [Md.to] at q)
    cases hR2 : pItems (t.length + 1) (fun _ => false) t with
    | bad r'' => rw [hR2] at hg; exact StuckAt.after g1 hg
    | ok S2 r'' =>
      rw [hR2] at hg
      obtain ⟨m2, g2, s2, k2⟩ := hg
      exact ⟨m2, g1.trans g2, s2, k2⟩
  · have hp : pClass r = pItems (r.length + 1) (fun _ => false) r := by
      unfold pClass
      split
      · exact absurd ⟨_, rfl⟩ h94
      · rfl
    rw [hp]
    exact items_sim _ _ m r (by omega) ⟨hl, by omega, fun c t e => ⟨fun _ hc => h94 ⟨t, by rw [e, hc]⟩, fun q => by omega⟩⟩ (fun c t _ q => by omega)

theorem pEscape_sim (m : Md) (r : List UInt8) (hm : m.M = 3) (hc : m.Class = false) (hl : m.Low < 0) : OutR m r (pEscape r) := by
  match r with
  | [] => simp only [pEscape, OutR]; exact StuckAt.nil (by omega) (by omega)
  | c :: t =>
    simp only [pEscape]
    rcases escSet_cases c with ⟨q, _⟩ | ⟨⟨S, q⟩, q2⟩
    · rw [q]
      simp only
      have hE := byteEscape_sim m 0 (c :: t) hm (.inl ⟨hl, rfl⟩) (by omega) (fun _ => hl) (.inl fun c' t' e => by injection e with e _; rw [← e]; exact q)
      cases hR : pByteEscape 0 (c :: t) with
      | bad r' => rw [hR] at hE; exact hE
      | ok v r' =>
        rw [hR] at hE
        obtain ⟨m', g, ⟨a1, a2, -⟩, -⟩ := hE
        exact ⟨m', g, a1, a2 hc⟩
    · rw [q]
      simp only
      have e2 : m.step c.toNat = m.to 2 := by
        rw [escape_eq _ c hm]
        rcases q2 with q | q | q <;> rw [q] <;> simp [Md.escape, hc, show isSignB 100 = false by decide, show isSignB 119 = false by decide, show isSignB 115 = false by decide]
      exact ⟨_, Goes.one _ _ _, by rw [e2]; exact ⟨rfl, rfl⟩, by rw [e2]; rfl⟩
end Go.Proofs.YtbjabpodkaokjaaDoor

namespace Go.Proofs.YtbjabpodkaokjaaDoor

theorem reaches_iff (v lo : Int) (hv : 0 ≤ v) (hlo : 0 ≤ lo) (hlo2 : lo ≤ 30) : reachesB v lo = beginsNum v lo := by
  rw [Bool.eq_iff_iff]
  constructor
  · intro h
    simp only [reachesB, List.any_eq_true, List.mem_range, Bool.and_eq_true, decide_eq_true_eq, Bool.or_eq_true, beq_iff_eq] at h
    obtain ⟨j, hj, hl, hr⟩ := h
    unfold beginsNum
    rcases hr with hr | ⟨hr, hr2⟩
    · rw [if_neg (by omega), if_pos (by omega)]
    · rw [if_neg (by omega)]
      split
      · rfl
      · rw [if_neg (by omega), if_neg (by omega), if_pos (by omega)]
  · intro h
    simp only [reachesB, List.any_eq_true, List.mem_range, Bool.and_eq_true, decide_eq_true_eq, Bool.or_eq_true, beq_iff_eq]
    unfold beginsNum at h
    split at h
    · simp at h
    split at h
    · exact ⟨v.toNat, by omega, by omega, .inl (by omega)⟩
    split at h
    · simp at h
    split at h
    · simp at h
    split at h
    · refine ⟨(max lo (v * 10)).toNat, by omega, by omega, .inr ⟨by omega, by omega⟩⟩
    · simp at h

theorem count_eq (m : Md) (c : Int) (h : m.M = 11 ∨ m.M = 12 ∨ m.M = 13 ∨ m.M = 14) : m.step c = m.count c := by
  rcases h with h | h | h | h <;> simp [Md.step, h]

/-- The mode within a count's number. -/
structure InNum (m : Md) (sec begun : Bool) (value least : Int) : Prop where
  hM : m.M = (if begun then 12 else 11) + (if sec then 2 else 0)
  hN : begun = true → m.N = value
  h0 : begun = false → value = 0
  v0 : 0 ≤ value
  v1 : value ≤ 30
  hl : least = if sec then m.Least else 0
  l0 : 0 ≤ least
  l1 : least ≤ 30
theorem InNum.md {m : Md} {sec begun : Bool} {value least : Int} (h : InNum m sec begun value least) : m.M = 11 ∨ m.M = 12 ∨ m.M = 13 ∨ m.M = 14 := by
  have := h.hM
  revert this
  cases sec <;> cases begun <;> simp <;> omega

theorem count_go (m : Md) (c : Nat) (sec begun : Bool) (value least : Int) (h : InNum m sec begun value least) (hd : 48 ≤ c ∧ c ≤ 57) (hb : ¬ (begun = true ∧ value = 0)) (hf : beginsNum (value * 10 + (c - 48)) least = true) :
    m.step c = { m with N := value * 10 + (c - 48), M := if sec then 14 else 12 } := by
  rw [count_eq m _ h.md]
  obtain ⟨hM, hN, h0, v0, v1, hl, l0, l1⟩ := h
  rw [← reaches_iff _ _ (by omega) l0 l1] at hf
  have d1 : decide ((48 : Int) ≤ c) = true := by simp; omega
  have d2 : decide ((c : Int) ≤ 57) = true := by simp; omega
  cases begun with
  | false =>
    have := h0 rfl
    subst this
    have e : (c : Int) - 48 = 0 * 10 + ((c : Int) - 48) := by omega
    cases sec with
    | false =>
      simp at hM hl
      subst hl
      rw [← e] at hf
      simp [Md.count, hM, d1, d2, hf]
    | true =>
      simp at hM hl
      subst hl
      rw [← e] at hf
      simp [Md.count, hM, d1, d2, hf]
  | true =>
    have := hN rfl
    subst this
    have e : (c : Int) - 48 + 10 * m.N = m.N * 10 + ((c : Int) - 48) := by omega
    have hp : 0 < m.N := by have : m.N ≠ 0 := fun q => hb ⟨rfl, q⟩
                            omega
    rw [← e] at hf
    rw [← e]
    obtain ⟨mm, dd, mo, cl, lo, va, le, nn⟩ := m
    cases sec with
    | false =>
      simp at hM hl
      subst hl
      subst hM
      simp at hf hp
      simp [Md.count, d1, d2, hf, hp]
    | true =>
      simp at hM hl
      subst hl
      subst hM
      simp at hf hp
      simp [Md.count, d1, d2, hf, hp]

theorem count_no (m : Md) (c : Nat) (sec begun : Bool) (value least : Int) (h : InNum m sec begun value least)
    (hn : ¬ (48 ≤ c ∧ c ≤ 57 ∧ ¬ (begun = true ∧ value = 0) ∧ beginsNum (value * 10 + (c - 48)) least = true)) :
    (c = 44 ∧ m.M = 12) ∨ (c = 125 ∧ (m.M = 12 ∨ m.M = 13 ∨ (m.M = 14 ∧ least ≤ value))) ∨ (m.step c).M = 16 := by
  rw [count_eq m _ h.md]
  obtain ⟨hM, hN, h0, v0, v1, hl, l0, l1⟩ := h
  have key : ∀ f : Bool, (decide ((48 : Int) ≤ c) && decide ((c : Int) ≤ 57)) = true → f = reachesB (value * 10 + ((c : Int) - 48)) least → f = false ∨ (begun = true ∧ value = 0) := by
    intro f hd hf
    simp at hd
    by_cases q : begun = true ∧ value = 0
    · exact .inr q
    · left
      rw [reaches_iff _ _ (by omega) l0 l1] at hf
      rw [hf]
      rw [Bool.eq_false_iff]
      intro q2
      exact hn ⟨by omega, by omega, q, q2⟩
  unfold Md.count
  extract_lets digit v lo fits
  have hfit : digit = true → fits = false ∨ (begun = true ∧ value = 0) := by
    intro hd
    refine key fits hd ?_
    show reachesB v lo = _
    have e1 : v = value * 10 + ((c : Int) - 48) := by
      show (if digit = true then (c : Int) - 48 else 0) + (if (m.M == 12 || m.M == 14) = true then 10 * m.N else 0) = _
      rw [if_pos hd]
      cases begun with
      | false => rw [if_neg (by rw [hM]; cases sec <;> simp)]; have := h0 rfl; omega
      | true => rw [if_pos (by rw [hM]; cases sec <;> simp)]; have := hN rfl; omega
    have e2 : lo = least := by
      show (if (m.M == 13 || m.M == 14) = true then m.Least else 0) = _
      rw [hl]
      cases sec with
      | false => rw [if_neg (by rw [hM]; cases begun <;> simp)]; rfl
      | true => rw [if_pos (by rw [hM]; cases begun <;> simp)]; rfl
    rw [e1, e2]
  split
  · rename_i q
    simp at q
    rcases hfit q.1.1 with q2 | ⟨q2, q3⟩
    · rw [q2] at q; simp at q
    · exfalso; rw [hM, q2] at q; cases sec <;> simp at q
  split
  · rename_i q
    simp at q
    rcases hfit q.1.1.1 with q2 | ⟨q2, q3⟩
    · rw [q2] at q; simp at q
    · exfalso; have := hN q2; omega
  split
  · rename_i q
    simp at q
    left; omega
  split
  · rename_i q
    simp at q
    right; left
    refine ⟨by omega, ?_⟩
    rcases q.2 with (q2 | q2) | ⟨q2, q3⟩
    · exact .inl q2
    · exact .inr (.inl q2)
    · refine .inr (.inr ⟨q2, ?_⟩)
      cases sec with
      | false => rw [hM] at q2; cases begun <;> simp at q2
      | true =>
        cases begun with
        | false => rw [hM] at q2; simp at q2
        | true => have := hN rfl; simp at hl; omega
  · right; right; simp [Md.to]

def DigR (m : Md) (sec : Bool) (least : Int) (r : List UInt8) : Res Int → Prop
  | .ok v r' => ∃ m', Goes m r m' r' ∧ Sm m m' ∧ m'.M = (if sec then 14 else 12) ∧ m'.N = v ∧ m'.Least = m.Least ∧ 0 ≤ v ∧ v ≤ 30 ∧ least ≤ v ∧ ∀ c t, r' = c :: t → (c = 44 ∧ m'.M = 12) ∨ c = 125 ∨ (m'.step c.toNat).M = 16
  | .bad r' => StuckAt m r r'

theorem begins_le {v l : Int} (h : beginsNum v l = true) : v ≤ 30 := by
  unfold beginsNum at h; split at h
  · simp at h
  · omega

theorem digits_sim (r : List UInt8) (m : Md) (sec begun : Bool) (value least : Int) (h : InNum m sec begun value least) (hh : ∀ c t, r = c :: t → begun = false → sec = true → c ≠ 125) : DigR m sec least r (pDigits least value begun r) := by
  induction r generalizing m begun value with
  | nil =>
    have hmd := h.md
    simp only [pDigits]
    split
    · rename_i q
      refine ⟨m, Goes.refl _ _, ⟨rfl, rfl⟩, ?_, h.hN q.1, rfl, h.v0, h.v1, q.2, fun c t e => by simp at e⟩
      rw [h.hM, q.1]; cases sec <;> simp
    · exact StuckAt.nil (by omega) (by omega)
  | cons c t ih =>
    have hmd := h.md
    simp only [pDigits]
    split
    · rename_i q
      obtain ⟨q1, q2, q3, q4⟩ := q
      have e := count_go m c.toNat sec begun value least h ⟨q1, q2⟩ q3 q4
      have hb := begins_le q4
      have hv := h.v0
      have hi : InNum { m with N := value * 10 + ((c.toNat : Int) - 48), M := if sec then 14 else 12 } sec true (value * 10 + ((c.toNat : Int) - 48)) least :=
        ⟨by cases sec <;> simp, fun _ => rfl, by simp, by omega, hb, by rw [h.hl], h.l0, h.l1⟩
      have hg := ih _ true _ hi (by simp)
      have g1 : Goes m (c :: t) { m with N := value * 10 + ((c.toNat : Int) - 48), M := if sec then 14 else 12 } t := by rw [← e]; exact Goes.one _ _ _
      cases hR : pDigits least (value * 10 + ((c.toNat : Int) - 48)) true t with
      | bad r' => rw [hR] at hg; exact StuckAt.after g1 hg
      | ok v r' =>
        rw [hR] at hg
        obtain ⟨m', g2, s2, k1, k2, k3, k4⟩ := hg
        exact ⟨m', g1.trans g2, s2, k1, k2, k3, k4⟩
    · rename_i q
      have hno := count_no m c.toNat sec begun value least h q
      have inj : ∀ k : UInt8, c.toNat = k.toNat → c = k := fun k e => UInt8.toNat_inj.mp e
      split
      · rename_i q2
        refine ⟨m, Goes.refl _ _, ⟨rfl, rfl⟩, ?_, h.hN q2.1, rfl, h.v0, h.v1, q2.2, fun c' t' e => ?_⟩
        · rw [h.hM, q2.1]; cases sec <;> simp
        · injection e with e _
          subst e
          rcases hno with hno | hno | hno
          · exact .inl ⟨inj 44 hno.1, hno.2⟩
          · exact .inr (.inl (inj 125 hno.1))
          · exact .inr (.inr hno)
      · rename_i q2
        refine StuckAt.cons (by omega) ?_
        rcases hno with ⟨hno, hno2⟩ | ⟨hno, hno2⟩ | hno
        · exfalso
          have hM := h.hM
          cases begun with
          | false => cases sec <;> simp at hM <;> omega
          | true =>
            cases sec with
            | false =>
              have := h.hl
              simp at this
              exact q2 ⟨rfl, by have := h.v0; omega⟩
            | true => simp at hM; omega
        · exfalso
          have hM := h.hM
          cases begun with
          | false =>
            cases sec with
            | false => simp at hM; omega
            | true => exact hh c t rfl rfl rfl (inj 125 hno)
          | true =>
            cases sec with
            | false =>
              have := h.hl
              simp at this
              exact q2 ⟨rfl, by have := h.v0; omega⟩
            | true => simp at hM; exact q2 ⟨rfl, by omega⟩
        · exact hno

theorem bounds_sim (m : Md) (r : List UInt8) (hm : m.M = 11) : OutR m r (pBounds r) := by
  simp only [pBounds]
  have hD := digits_sim r m false false 0 0 ⟨by simpa using hm, by simp, by simp, by omega, by omega, by simp, by omega, by omega⟩ (by simp)
  cases hR : pDigits 0 0 false r with
  | bad r' => rw [hR] at hD; exact hD
  | ok a r' =>
    rw [hR] at hD
    obtain ⟨m1, g1, s1, k1, k2, k3, a0, a1, -, k4⟩ := hD
    simp at k1
    simp only
    have e125 : ∀ t, r' = 125 :: t → ∃ m', Goes m r m' t ∧ Sm m m' ∧ m'.M = 2 := by
      rintro t rfl
      have e : m1.step (125 : UInt8).toNat = m1.to 2 := by rw [count_eq m1 _ (by omega)]; simp [Md.count, k1]
      refine ⟨m1.to 2, g1.trans (by rw [← e]; exact Goes.one _ _ _), s1, rfl⟩
    have e44 : ∀ t, r' = 44 :: t → Goes m r { m1 with Least := m1.N, M := 13 } t := by
      rintro t rfl
      have e : m1.step (44 : UInt8).toNat = { m1 with Least := m1.N, M := 13 } := by rw [count_eq m1 _ (by omega)]; simp [Md.count, k1]
      exact g1.trans (by rw [← e]; exact Goes.one _ _ _)
    split
    · rename_i t
      have g2 := e44 _ rfl
      have e : ({ m1 with Least := m1.N, M := 13 } : Md).step (125 : UInt8).toNat = ({ m1 with Least := m1.N, M := 13 } : Md).to 2 := by
        rw [count_eq _ _ (by simp)]; simp [Md.count]
      exact ⟨({ m1 with Least := m1.N, M := 13 } : Md).to 2, g2.trans (by rw [← e]; exact Goes.one _ _ _), s1, rfl⟩
    · rename_i t hne
      have g2 := e44 _ rfl
      have hD2 := digits_sim t { m1 with Least := m1.N, M := 13 } true false 0 a ⟨by simp, by simp, by simp, by omega, by omega, by simp [k2], by omega, by omega⟩ (fun c t' e _ _ hc => hne t' (by rw [e, hc]))
      cases hR2 : pDigits a 0 false t with
      | bad r'' => rw [hR2] at hD2; exact StuckAt.after g2 hD2
      | ok v r'' =>
        rw [hR2] at hD2
        obtain ⟨m2, g3, s3, j1, j2, j3, v0, v1, v2, j4⟩ := hD2
        simp at j1
        simp only
        have g23 := g2.trans g3
        split
        · have e : m2.step (125 : UInt8).toNat = m2.to 2 := by
            rw [count_eq m2 _ (by omega)]
            have j5 : m2.Least ≤ m2.N := by rw [j3, j2]; simpa [k2] using v2
            simp [Md.count, j1, j5]
          exact ⟨m2.to 2, g23.trans (by rw [← e]; exact Goes.one _ _ _), ⟨s3.1.trans s1.1, s3.2.trans s1.2⟩, rfl⟩
        · rename_i hne2
          refine StuckAt.after g23 ?_
          match r'', j4, hne2 with
          | [], _, _ => exact StuckAt.nil (by omega) (by omega)
          | c :: t', j4, hne2 =>
            rcases j4 c t' rfl with q | q | q
            · omega
            · exact absurd (by rw [q]) (hne2 t')
            · exact StuckAt.cons (by omega) q
    · rename_i t
      obtain ⟨m', q⟩ := e125 t rfl
      exact ⟨m', q⟩
    · rename_i n1 n2 n3
      refine StuckAt.after g1 ?_
      match r', k4, n1, n2, n3 with
      | [], _, _, _, _ => exact StuckAt.nil (by omega) (by omega)
      | c :: t', k4, n1, n2, n3 =>
        rcases k4 c t' rfl with q | q | q
        · exact absurd (by rw [q.1]) (n2 t')
        · exact absurd (by rw [q]) (n3 t')
        · exact StuckAt.cons (by omega) q

/-- No count stands ahead. -/
def NoCnt (r : List UInt8) : Prop := ∀ c t, r = c :: t → ¬ (c = 42 ∨ c = 43 ∨ c = 63) ∧ c ≠ 123
theorem chain_eq (m : Md) (c : Int) (h : m.M = 0 ∨ m.M = 1 ∨ m.M = 2) : m.step c = m.chain c := by
  rcases h with h | h | h <;> simp [Md.step, h]
def CntR (m : Md) (r : List UInt8) : Res (List Cnt) → Prop
  | .ok _ r' => ∃ m', Goes m r m' r' ∧ Sm m m' ∧ m'.M = 2 ∧ NoCnt r'
  | .bad r' => StuckAt m r r'
theorem counts_sim (n : Nat) (m : Md) (r : List UInt8) (hn : r.length < n) (hm : m.M = 2) : CntR m r (pCounts n r) := by
  induction n generalizing m r with
  | zero => omega
  | succ n ih =>
    match r with
    | [] => simp only [pCounts]; exact ⟨m, Goes.refl _ _, ⟨rfl, rfl⟩, hm, fun c t e => by simp at e⟩
    | c :: t =>
      simp at hn
      simp only [pCounts]
      split
      · rename_i q
        have e : m.step c.toNat = m := by
          rw [chain_eq m _ (by omega)]
          rcases q with rfl | rfl | rfl <;> simp [Md.chain, hm]
        have g1 : Goes m (c :: t) m t := by have := Goes.one m c t; rwa [e] at this
        have hg := ih m t (by omega) hm
        cases hR : pCounts n t with
        | bad r' => rw [hR] at hg; exact StuckAt.after g1 hg
        | ok v r' =>
          rw [hR] at hg
          obtain ⟨m', g2, q⟩ := hg
          exact ⟨m', g1.trans g2, q⟩
      · rename_i q
        split
        · rename_i q2
          subst q2
          have e : m.step (123 : UInt8).toNat = m.to 11 := by rw [chain_eq m _ (by omega)]; simp [Md.chain, hm]
          have g1 : Goes m (123 :: t) (m.to 11) t := by rw [← e]; exact Goes.one _ _ _
          have hB := bounds_sim (m.to 11) t rfl
          cases hR : pBounds t with
          | bad r' => rw [hR] at hB; exact StuckAt.after g1 hB
          | ok v r' =>
            rw [hR] at hB
            have hl := pBounds_len hR
            obtain ⟨m1, g2, s2, k2⟩ := hB
            simp only
            have hg := ih m1 r' (by omega) k2
            cases hR2 : pCounts n r' with
            | bad r'' => rw [hR2] at hg; exact StuckAt.after (g1.trans g2) hg
            | ok v2 r'' =>
              rw [hR2] at hg
              obtain ⟨m', g3, s3, q⟩ := hg
              exact ⟨m', (g1.trans g2).trans g3, ⟨s3.1.trans s2.1, s3.2.trans s2.2⟩, q⟩
        · rename_i q2
          exact ⟨m, Goes.refl _ _, ⟨rfl, rfl⟩, hm, fun c' t' e => by injection e with e _; subst e; exact ⟨q, q2⟩⟩
end Go.Proofs.YtbjabpodkaokjaaDoor

namespace Go.Proofs.YtbjabpodkaokjaaDoor

/-- Where an atom may come. -/
def AtAtom (m : Md) (r : List UInt8) : Prop := 0 ≤ m.Depth ∧ m.Depth ≤ m.Most ∧ ((m.M = 0 ∧ (∀ c t, r = c :: t → c ≠ 94)) ∨ m.M = 1 ∨ (m.M = 2 ∧ NoCnt r))
theorem AtAtom.md {m : Md} {r : List UInt8} (h : AtAtom m r) : m.M = 0 ∨ m.M = 1 ∨ m.M = 2 := by
  rcases h.2.2 with h | h | h <;> omega
/-- The depth as it was, the greatest one at least so much more. -/
def Dp (m m' : Md) (k : Nat) : Prop := m'.Depth = m.Depth ∧ m'.Most = max m.Most (m.Depth + k)
theorem Dp.of_sm {m m' : Md} (h : Sm m m') (hl : m.Depth ≤ m.Most) : Dp m m' 0 := ⟨h.1, by rw [h.2]; omega⟩
theorem Dp.trans {m m1 m2 : Md} {j k : Nat} (h : Dp m m1 j) (g : Dp m1 m2 k) : Dp m m2 (max j k) := by
  obtain ⟨h1, h2⟩ := h
  obtain ⟨g1, g2⟩ := g
  exact ⟨g1.trans h1, by rw [g2, h2, h1]; omega⟩
theorem Dp.sm {m m1 m2 : Md} {j : Nat} (h : Dp m m1 j) (g : Sm m1 m2) : Dp m m2 j := ⟨g.1.trans h.1, g.2.trans h.2⟩

def AtomR (m : Md) (r : List UInt8) : Res (List (List Prt) × (Nat → Bool)) → Prop
  | .ok (g, _) r' => ∃ m', Goes m r m' r' ∧ Dp m m' (nestG g) ∧ m'.M = 2
  | .bad r' => StuckAt m r r'
def PartR (m : Md) (r : List UInt8) : Res Prt → Prop
  | .ok p r' => ∃ m', Goes m r m' r' ∧ Dp m m' (nestP p) ∧ m'.M = 2 ∧ NoCnt r'
  | .bad r' => StuckAt m r r'
def ChainR (m : Md) (r : List UInt8) : Res (List Prt) → Prop
  | .ok ps r' => ∃ m', Goes m r m' r' ∧ Dp m m' (nestC ps) ∧ AtAtom m' r' ∧ begins r' = false
  | .bad r' => StuckAt m r r'
def ChsR (m : Md) (r : List UInt8) : Res (List (List Prt)) → Prop
  | .ok cs r' => ∃ m', Goes m r m' r' ∧ Dp m m' (nestCs cs) ∧ AtAtom m' r' ∧ begins r' = false ∧ (∀ t, r' ≠ 124 :: t)
  | .bad r' => StuckAt m r r'

theorem begins_cases {c : UInt8} {t : List UInt8} (h : begins (c :: t) = true) : c = 46 ∨ c = 92 ∨ c = 91 ∨ c = 40 ∨ isSg c = false := by
  simp [begins] at h
  rcases h with (((h | h) | h) | h) | h
  · exact .inl h
  · exact .inr (.inl h)
  · exact .inr (.inr (.inl h))
  · exact .inr (.inr (.inr (.inl h)))
  · exact .inr (.inr (.inr (.inr h)))
theorem begins_not {c : UInt8} {t : List UInt8} (h : begins (c :: t) = false) : c = 93 ∨ c = 41 ∨ c = 123 ∨ c = 125 ∨ c = 124 ∨ c = 42 ∨ c = 43 ∨ c = 63 ∨ c = 94 ∨ c = 36 := by
  simp only [begins, Bool.or_eq_false_iff, Bool.not_eq_false', beq_eq_false_iff_ne, ne_eq] at h
  obtain ⟨⟨⟨⟨h1, h2⟩, h3⟩, h4⟩, h5⟩ := h
  unfold isSg at h5
  rw [List.contains_iff_mem] at h5
  simp only [List.mem_cons, List.not_mem_nil, or_false] at h5
  simp only [h1, h2, h3, h4, false_or] at h5
  exact h5

/-- A byte that is no sign, and the point, stand for themselves. -/
theorem chain_plain (m : Md) (c : UInt8) (h : c = 46 ∨ isSg c = false) : m.chain c.toNat = m.to 2 := by
  have hh : ∀ k : UInt8, k ≠ 46 → isSg k = true → c.toNat ≠ k.toNat := by
    intro k h1 h2 e
    have := UInt8.toNat_inj.mp e
    subst this
    rcases h with h | h
    · exact h1 h
    · rw [h] at h2; simp at h2
  have a1 := hh 94 (by decide) (by decide)
  have a2 := hh 36 (by decide) (by decide)
  have a3 := hh 124 (by decide) (by decide)
  have a4 := hh 40 (by decide) (by decide)
  have a5 := hh 41 (by decide) (by decide)
  have a6 := hh 91 (by decide) (by decide)
  have a7 := hh 92 (by decide) (by decide)
  have a8 := hh 42 (by decide) (by decide)
  have a9 := hh 43 (by decide) (by decide)
  have b1 := hh 63 (by decide) (by decide)
  have b2 := hh 123 (by decide) (by decide)
  have b3 := hh 125 (by decide) (by decide)
  have b4 := hh 93 (by decide) (by decide)
  simp at a1 a2 a3 a4 a5 a6 a7 a8 a9 b1 b2 b3 b4
  unfold Md.chain
  repeat rw [if_neg (by simp; omega)]

/-- What ends a chain within a group, or the text. -/
theorem end_stuck (m : Md) (c : UInt8) (t : List UInt8) (h : AtAtom m (c :: t)) (hb : begins (c :: t) = false) (h1 : c ≠ 124) (h2 : c = 41 → m.Depth = 0) (h3 : c = 36 → 0 < m.Depth) : (m.step c.toNat).M = 16 := by
  rw [chain_eq m _ h.md]
  have hc := begins_not hb
  have q42 : c = 42 ∨ c = 43 ∨ c = 63 ∨ c = 123 → m.M ≠ 2 := by
    intro q q2
    rcases h.2.2 with h | h | h
    · omega
    · omega
    · have := h.2 c t rfl
      rcases q with q | q | q | q <;> simp [q] at this
  have q94 : c = 94 → m.M ≠ 0 := by
    intro q q2
    rcases h.2.2 with h | h | h
    · exact h.2 c t rfl q
    · omega
    · omega
  rcases hc with rfl | rfl | rfl | rfl | rfl | rfl | rfl | rfl | rfl | rfl
  · simp [Md.chain, Md.to]
  · have := h2 rfl; simp [Md.chain, Md.group, this, Md.to]
  · have := q42 (by simp); simp [Md.chain, this, Md.to]
  · simp [Md.chain, Md.to]
  · exact absurd rfl h1
  · have := q42 (by simp); simp [Md.chain, this, Md.to]
  · have := q42 (by simp); simp [Md.chain, this, Md.to]
  · have := q42 (by simp); simp [Md.chain, this, Md.to]
  · have := q94 rfl; simp [Md.chain, this, Md.to]
  · have := h3 rfl
    have : m.Depth ≠ 0 := by omega
    simp [Md.chain, this, Md.to]

theorem all_sim (n : Nat) :
    (∀ m r, 4 * r.length + 3 < n → AtAtom m r → ChsR m r (pChoices n r)) ∧
    (∀ m r, 4 * r.length + 2 < n → AtAtom m r → ChainR m r (pChain n r)) ∧
    (∀ m r, 4 * r.length + 1 < n → AtAtom m r → begins r = true → PartR m r (pPart n r)) ∧
    (∀ m r, 4 * r.length < n → AtAtom m r → begins r = true → AtomR m r (pAtom n r)) := by
  induction n with
  | zero => exact ⟨fun _ _ h => by omega, fun _ _ h => by omega, fun _ _ h => by omega, fun _ _ h => by omega⟩
  | succ n ih =>
    obtain ⟨i1, i2, i3, i4⟩ := ih
    refine ⟨fun m r hn h => ?_, fun m r hn h => ?_, fun m r hn h hb => ?_, fun m r hn h hb => ?_⟩
    · simp only [pChoices]
      have hC := i2 m r (by omega) h
      cases hR : pChain n r with
      | bad r' => rw [hR] at hC; exact hC
      | ok c r' =>
        rw [hR] at hC
        obtain ⟨m1, g1, d1, k1, b1⟩ := hC
        have hl := (pLen n).2.1 _ _ _ hR
        simp only
        split
        · rename_i t
          have e : m1.step (124 : UInt8).toNat = m1.to 1 := by rw [chain_eq m1 _ k1.md]; simp [Md.chain]
          have g2 : Goes m r (m1.to 1) t := g1.trans (by rw [← e]; exact Goes.one _ _ _)
          simp at hl
          have hG := i1 (m1.to 1) t (by omega) ⟨k1.1, k1.2.1, .inr (.inl rfl)⟩
          cases hR2 : pChoices n t with
          | bad r'' => rw [hR2] at hG; exact StuckAt.after g2 hG
          | ok cs r'' =>
            rw [hR2] at hG
            obtain ⟨m2, g3, d2, q⟩ := hG
            refine ⟨m2, g2.trans g3, ?_, q⟩
            have : Dp m (m1.to 1) (nestC c) := d1
            simpa [nestCs] using this.trans d2
        · rename_i hne
          refine ⟨m1, g1, ?_, k1, b1, fun t e => hne t e⟩
          simpa [nestCs] using d1
    · simp only [pChain]
      split
      · rename_i hb
        have hP := i3 m r (by omega) h hb
        cases hR : pPart n r with
        | bad r' => rw [hR] at hP; exact hP
        | ok p r' =>
          rw [hR] at hP
          obtain ⟨m1, g1, d1, k1, k2⟩ := hP
          have hl := (pLen n).2.2.1 _ _ _ hR
          simp only
          have hd : AtAtom m1 r' := ⟨by rw [d1.1]; exact h.1, by have := h.2.1; have := d1.1; have := d1.2; omega, .inr (.inr ⟨k1, k2⟩)⟩
          have hG := i2 m1 r' (by omega) hd
          cases hR2 : pChain n r' with
          | bad r'' => rw [hR2] at hG; exact StuckAt.after g1 hG
          | ok ps r'' =>
            rw [hR2] at hG
            obtain ⟨m2, g3, d2, q⟩ := hG
            refine ⟨m2, g1.trans g3, ?_, q⟩
            simpa [nestC] using d1.trans d2
      · rename_i hb
        exact ⟨m, Goes.refl _ _, ⟨rfl, by have := h.2.1; simp [nestC]; omega⟩, h, by simpa using hb⟩
    · simp only [pPart]
      have hA := i4 m r (by omega) h hb
      cases hR : pAtom n r with
      | bad r' => rw [hR] at hA; exact hA
      | ok gS r' =>
        obtain ⟨g, S⟩ := gS
        rw [hR] at hA
        obtain ⟨m1, g1, d1, k1⟩ := hA
        simp only
        have hG := counts_sim (r'.length + 1) m1 r' (by omega) k1
        cases hR2 : pCounts (r'.length + 1) r' with
        | bad r'' => rw [hR2] at hG; exact StuckAt.after g1 hG
        | ok cs r'' =>
          rw [hR2] at hG
          obtain ⟨m2, g3, d2, k2, k3⟩ := hG
          exact ⟨m2, g1.trans g3, by rw [nestP_eq]; exact d1.sm d2, k2, k3⟩
    · simp only [pAtom]
      match r, hn, h, hb with
      | c :: t, hn, h, hb =>
        simp at hn
        simp only
        have hc := chain_eq m c.toNat h.md
        have hd := h.2.1
        have plain : ∀ S : Nat → Bool, (c = 46 ∨ isSg c = false) → AtomR m (c :: t) (.ok ([], S) t) := by
          intro S q
          have e : m.step c.toNat = m.to 2 := by rw [hc, chain_plain m c q]
          refine ⟨_, Goes.one _ _ _, ?_, by rw [e]; rfl⟩
          rw [e]; exact Dp.of_sm ⟨rfl, rfl⟩ hd
        split
        · rename_i q
          subst q
          have e : m.step (40 : UInt8).toNat = { m with Depth := m.Depth + 1, Most := if m.Most < m.Depth + 1 then m.Depth + 1 else m.Most, M := 1 } := by
            rw [hc]; simp [Md.chain, Md.group]
          have g1 : Goes m (40 :: t) { m with Depth := m.Depth + 1, Most := if m.Most < m.Depth + 1 then m.Depth + 1 else m.Most, M := 1 } t := by rw [← e]; exact Goes.one _ _ _
          have hG := i1 { m with Depth := m.Depth + 1, Most := if m.Most < m.Depth + 1 then m.Depth + 1 else m.Most, M := 1 } t (by omega) ⟨by have := h.1; simp; omega, by simp; split <;> omega, .inr (.inl rfl)⟩
          cases hR : pChoices n t with
          | bad r' => rw [hR] at hG; exact StuckAt.after g1 hG
          | ok cs r' =>
            rw [hR] at hG
            obtain ⟨m2, g2, d2, k2, b2, n2⟩ := hG
            have dep : 0 < m2.Depth := by have := d2.1; have := h.1; simp at *; omega
            have g12 := g1.trans g2
            simp only
            split
            · rename_i t'
              have hne : m2.Depth ≠ 0 := by omega
              have e2 : m2.step (41 : UInt8).toNat = { m2 with Depth := m2.Depth - 1, M := 2 } := by
                rw [chain_eq m2 _ k2.md]; simp [Md.chain, Md.group, hne]
              refine ⟨_, g12.trans (Goes.one _ _ _), ?_, by rw [e2]⟩
              rw [e2]
              obtain ⟨d3, d4⟩ := d2
              simp at d3 d4
              have hcs : ∃ a l, cs = a :: l := by
                cases n with
                | zero => simp [pChoices] at hR
                | succ n =>
                  simp only [pChoices] at hR
                  split at hR
                  · simp at hR
                  · split at hR
                    · split at hR
                      · injection hR with hR _; exact ⟨_, _, hR.symm⟩
                      · simp at hR
                    · injection hR with hR _; exact ⟨_, _, hR.symm⟩
              obtain ⟨a, l, rfl⟩ := hcs
              refine ⟨by simp; omega, ?_⟩
              simp only [nestG]
              rw [d4]
              split <;> omega
            · rename_i hne
              refine StuckAt.after g12 ?_
              match r', k2, b2, n2, hne with
              | [], k2, _, _, _ => exact ⟨m2, Goes.refl _ _, by have := k2.md; omega, .inl dep⟩
              | c' :: t', k2, b2, n2, hne =>
                refine StuckAt.cons (by have := k2.md; omega) (end_stuck m2 c' t' k2 b2 (fun q => n2 t' (by rw [q])) (fun q => absurd (by rw [q]) (hne t')) (fun _ => dep))
        · rename_i q40
          split
          · rename_i q
            subst q
            have e : m.step (91 : UInt8).toNat = { m with Low := -1, M := 6 } := by rw [hc]; simp [Md.chain]
            have g1 : Goes m (91 :: t) { m with Low := -1, M := 6 } t := by rw [← e]; exact Goes.one _ _ _
            have hG := class_sim { m with Low := -1, M := 6 } t rfl (by simp)
            cases hR : pClass t with
            | bad r' => rw [hR] at hG; exact StuckAt.after g1 hG
            | ok S r' =>
              rw [hR] at hG
              obtain ⟨m2, g2, s2, k2⟩ := hG
              exact ⟨m2, g1.trans g2, Dp.of_sm s2 hd, k2⟩
          · rename_i q91
            split
            · rename_i q
              subst q
              have e : m.step (92 : UInt8).toNat = { m with Class := false, Low := -1, M := 3 } := by rw [hc]; simp [Md.chain]
              have g1 : Goes m (92 :: t) { m with Class := false, Low := -1, M := 3 } t := by rw [← e]; exact Goes.one _ _ _
              have hG := pEscape_sim { m with Class := false, Low := -1, M := 3 } t rfl rfl (by simp)
              cases hR : pEscape t with
              | bad r' => rw [hR] at hG; exact StuckAt.after g1 hG
              | ok S r' =>
                rw [hR] at hG
                obtain ⟨m2, g2, s2, k2⟩ := hG
                exact ⟨m2, g1.trans g2, Dp.of_sm s2 hd, k2⟩
            · rename_i q92
              split
              · rename_i q; exact plain _ (.inl q)
              · rename_i q46
                refine plain _ (.inr ?_)
                rcases begins_cases hb with q | q | q | q | q
                · exact absurd q q46
                · exact absurd q q92
                · exact absurd q q91
                · exact absurd q q40
                · exact q

/-- From a place where nothing goes on: the error and the place. -/
theorem stuck_syn {l r' : List UInt8} (hl : l.length ≤ 200) (h : StuckAt Md.init l r') {e p : Int} (hS : Syn l e p) : e = 3 ∧ p = ((l.length - r'.length : Nat) : Int) := by
  obtain ⟨m', ⟨u, rfl, hu⟩, hM, hr⟩ := h
  match r', hr with
  | [], hr =>
    have hlast : runAll Md.init (u ++ []) = m' := by simpa using hu
    have hbr : ∀ i, ¬ BrokenAt (u ++ []) i := by
      rintro i ⟨h1, h2, -⟩
      have e2 : ∀ x y : List UInt8, runAll Md.init (x ++ y) = runAll (runAll Md.init x) y := fun x y => by simp [runAll]
      have e3 := e2 ((u ++ []).take (i + 1)) ((u ++ []).drop (i + 1))
      rw [List.take_append_drop] at e3
      have : (runAll Md.init (u ++ [])).M = 16 := by rw [e3]; exact runAll_broken _ _ h2
      rw [hlast] at this; exact hM this
    rcases hS with h | h | h | h | h
    · omega
    · obtain ⟨_, i, h, _⟩ := h; exact absurd h (hbr i)
    · refine ⟨h.2.2.2.1, ?_⟩; rw [h.2.2.2.2]; simp
    · rw [hlast] at h; omega
    · rw [hlast] at h; omega
  | c :: t, hr =>
    have hB : BrokenAt (u ++ c :: t) u.length := by
      refine ⟨by simp, ?_, ?_⟩
      · have : (u ++ c :: t).take (u.length + 1) = u ++ [c] := by
          rw [show u ++ c :: t = (u ++ [c]) ++ t by simp]; exact List.take_left' (by simp)
        rw [this, runAll_snoc, hu]; exact hr
      · rw [List.take_left]; rw [hu]; exact hM
    have hlast : (runAll Md.init (u ++ c :: t)).M = 16 := by
      have : u ++ c :: t = (u ++ [c]) ++ t := by simp
      rw [this]
      have e2 : runAll Md.init ((u ++ [c]) ++ t) = runAll (runAll Md.init (u ++ [c])) t := by simp [runAll]
      rw [e2]
      apply runAll_broken
      rw [runAll_snoc, hu]; exact hr
    have huniq : ∀ i, BrokenAt (u ++ c :: t) i → i = u.length := by
      have mono : ∀ i j, i ≤ j → (runAll Md.init ((u ++ c :: t).take i)).M = 16 → (runAll Md.init ((u ++ c :: t).take j)).M = 16 := by
        intro i j hij hi
        have e1 : (u ++ c :: t).take j = (u ++ c :: t).take i ++ ((u ++ c :: t).drop i).take (j - i) := by
          rw [← List.take_add]; congr 1; omega
        rw [e1]
        have e2 : ∀ x y : List UInt8, runAll Md.init (x ++ y) = runAll (runAll Md.init x) y := fun x y => by simp [runAll]
        rw [e2]; exact runAll_broken _ _ hi
      rintro i ⟨_, h2, h3⟩
      rcases Nat.lt_trichotomy i u.length with h | h | h
      · exact absurd (mono (i + 1) u.length (by omega) h2) hB.2.2
      · exact h
      · exact absurd (mono (u.length + 1) i (by omega) hB.2.1) h3
    rcases hS with h | h | h | h | h
    · omega
    · obtain ⟨_, i, h, he, hp⟩ := h
      refine ⟨he, ?_⟩
      rw [hp, huniq i h]; simp
    · exact absurd hlast h.2.1
    · omega
    · omega
end Go.Proofs.YtbjabpodkaokjaaDoor

namespace Go.Proofs.YtbjabpodkaokjaaDoor

theorem init_front (l : List UInt8) : ∃ m, Goes Md.init l m (tkR 94 l) ∧ AtAtom m (tkR 94 l) ∧ m.Depth = 0 ∧ m.Most = 0 := by
  match l with
  | [] => exact ⟨Md.init, Goes.refl _ _, ⟨by simp [Md.init], by simp [Md.init], .inl ⟨rfl, fun c t e => by simp [tkR] at e⟩⟩, rfl, rfl⟩
  | c :: t =>
    by_cases q : c = 94
    · subst q
      have e : Md.init.step (94 : UInt8).toNat = Md.init.to 1 := by simp [Md.step, Md.init, Md.chain]
      have et : tkR 94 (94 :: t) = t := by simp [tkR]
      rw [et]
      refine ⟨Md.init.to 1, by rw [← e]; exact Goes.one _ _ _, ⟨by simp [Md.init, Md.to], by simp [Md.init, Md.to], .inr (.inl rfl)⟩, rfl, rfl⟩
    · have et : tkR 94 (c :: t) = c :: t := by simp [tkR, q]
      rw [et]
      exact ⟨Md.init, Goes.refl _ _, ⟨by simp [Md.init], by simp [Md.init], .inl ⟨rfl, fun c' t' e => by injection e with e _; rw [← e]; exact q⟩⟩, rfl, rfl⟩

theorem readP_sim (l : List UInt8) : match readP l with
    | .bad r' => StuckAt Md.init l r'
    | .ok p _ => ∃ m, runAll Md.init l = m ∧ m.Depth = 0 ∧ (m.M = 0 ∨ m.M = 1 ∨ m.M = 2 ∨ m.M = 15) ∧ m.Most = nestCs p.choices := by
  obtain ⟨m, g, ha, hd, hm⟩ := init_front l
  have hG := (all_sim (4 * (tkR 94 l).length + 4)).1 m (tkR 94 l) (by omega) ha
  unfold readP
  cases hR : pChoices (4 * (tkR 94 l).length + 4) (tkR 94 l) with
  | bad r' => rw [hR] at hG; exact StuckAt.after g hG
  | ok cs r' =>
    rw [hR] at hG
    obtain ⟨m2, g2, d2, k2, b2, n2⟩ := hG
    have g12 := g.trans g2
    obtain ⟨d3, d4⟩ := d2
    have hz : m2.Depth = 0 := by omega
    have hmo : m2.Most = nestCs cs := by omega
    have fin : ∀ m3, Goes Md.init l m3 [] → runAll Md.init l = m3 := by
      rintro m3 ⟨u, hu, h⟩
      rw [List.append_nil] at hu
      rw [hu]; exact h
    match r', k2, b2, n2, g12 with
    | [], k2, _, _, g12 =>
      simp only [tkR, List.isEmpty_nil, if_true]
      exact ⟨m2, fin _ g12, hz, by have := k2.md; omega, hmo⟩
    | c :: t, k2, b2, n2, g12 =>
      by_cases q : c = 36
      · subst q
        have e : m2.step (36 : UInt8).toNat = m2.to 15 := by rw [chain_eq m2 _ k2.md]; simp [Md.chain, hz]
        have g3 : Goes Md.init l (m2.to 15) t := g12.trans (by rw [← e]; exact Goes.one _ _ _)
        have et : tkR 36 (36 :: t) = t := by simp [tkR]
        simp only [et]
        match t, g3 with
        | [], g3 =>
          simp only [List.isEmpty_nil, if_true]
          exact ⟨_, fin _ g3, hz, by simp [Md.to], hmo⟩
        | c' :: t', g3 =>
          simp only [List.isEmpty_cons, Bool.false_eq_true, if_false]
          exact StuckAt.after g3 (StuckAt.cons (by simp [Md.to]) (by simp [Md.step, Md.to]))
      · have et : tkR 36 (c :: t) = c :: t := by simp [tkR, q]
        simp only [et, List.isEmpty_cons, Bool.false_eq_true, if_false]
        exact StuckAt.after g12 (StuckAt.cons (by have := k2.md; omega) (end_stuck m2 c t k2 b2 (fun h => n2 t (by rw [h])) (fun _ => hz) (fun h => absurd h q)))

/-- The reference's error and place, by what the program reads. -/
theorem syn_read (l : List UInt8) (e p : Int) (h : Syn l e p) :
    (200 < l.length ∧ e = 4 ∧ p = 0) ∨
    (l.length ≤ 200 ∧ ∃ r', readP l = .bad r' ∧ e = 3 ∧ p = ((l.length - r'.length : Nat) : Int)) ∨
    (l.length ≤ 200 ∧ ∃ q, readP l = .ok q [] ∧ 20 < nestCs q.choices ∧ e = 4 ∧ p = 0) ∨
    (l.length ≤ 200 ∧ ∃ q, readP l = .ok q [] ∧ nestCs q.choices ≤ 20 ∧ e = 0 ∧ p = 0) := by
  by_cases hl : 200 < l.length
  · left
    rcases h with h | h | h | h | h
    · exact h
    all_goals omega
  · right
    have hl' : l.length ≤ 200 := by omega
    have hsim := readP_sim l
    cases hR : readP l with
    | bad r' =>
      rw [hR] at hsim
      have := stuck_syn hl' hsim h
      exact .inl ⟨hl', r', rfl, this⟩
    | ok q r' =>
      rw [hR] at hsim
      obtain ⟨m, hm, hd, hM, hmo⟩ := hsim
      right
      have hrest : r' = [] := by
        unfold readP at hR
        split at hR
        · simp at hR
        · split at hR
          · injection hR with _ hR; exact hR.symm
          · simp at hR
      subst hrest
      have hnb : ∀ i, ¬ BrokenAt l i := by
        rintro i ⟨h1, h2, -⟩
        have e2 : ∀ x y : List UInt8, runAll Md.init (x ++ y) = runAll (runAll Md.init x) y := fun x y => by simp [runAll]
        have e3 := e2 (l.take (i + 1)) (l.drop (i + 1))
        rw [List.take_append_drop] at e3
        have : (runAll Md.init l).M = 16 := by rw [e3]; exact runAll_broken _ _ h2
        rw [hm] at this; omega
      rcases h with h | h | h | h | h
      · omega
      · obtain ⟨_, i, h, _⟩ := h; exact absurd h (hnb i)
      · rw [hm] at h; omega
      · rw [hm] at h; exact .inl ⟨hl', q, rfl, by omega, h.2.2.2.2⟩
      · rw [hm] at h; exact .inr ⟨hl', q, rfl, by omega, h.2.2.2.2⟩
end Go.Proofs.YtbjabpodkaokjaaDoor
