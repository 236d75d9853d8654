import Derived.Test.YtbjabpodkaokjaaDoorJ27
set_option linter.unusedVariables false
set_option linter.unusedSimpArgs false
namespace Go.Proofs.YtbjabpodkaokjaaDoor

theorem tSpan_len (lo hi : Nat) : (tSpan lo hi).length ≤ 5 := by unfold tSpan; split <;> simp
theorem tLoop_len (S : Nat → Bool) (n : Nat) : ∀ low b, (tLoop S n low b).length ≤ 6 * n := by
  induction n with
  | zero => intro low b; simp [tLoop]
  | succ n ih =>
    intro low b
    unfold tLoop
    split
    · simp
    · split
      · have h1 := ih (spanE S 256 low + 1) true
        have h2 := tSpan_len low (spanE S 256 low)
        rw [List.length_append, List.length_append]
        have h3 : (if b = true then [(32 : UInt8)] else []).length ≤ 1 := by split <;> simp
        omega
      · have := ih (low + 1) b; omega
theorem tBytes_len (S : Nat → Bool) : (tBytes S).length ≤ 1544 := by
  unfold tBytes
  have := tLoop_len S 257 0 false
  rw [List.length_append, List.length_append]
  simp; omega
theorem beginsNum_le {v l : Int} (h : beginsNum v l = true) : v ≤ 30 := by
  unfold beginsNum at h
  split at h
  · simp at h
  · omega
theorem pDigits_bd {l v : Int} {b : Bool} {z : Int} {r r' : List UInt8} (hv : 0 ≤ v ∧ v ≤ 30) (h : pDigits l v b r = .ok z r') : 0 ≤ z ∧ z ≤ 30 := by
  induction r generalizing v b with
  | nil =>
    simp only [pDigits] at h; split at h
    · injection h with e _; subst e; exact hv
    · simp at h
  | cons c t ih =>
    simp only [pDigits] at h
    split at h
    · rename_i hc
      exact ih ⟨by omega, beginsNum_le hc.2.2.2⟩ h
    · split at h
      · injection h with e _; subst e; exact hv
      · simp at h
theorem pBounds_bd {a b : Int} {r r' : List UInt8} (h : pBounds r = .ok (a, b) r') : 0 ≤ a ∧ a ≤ 30 ∧ -1 ≤ b ∧ b ≤ 30 := by
  simp only [pBounds] at h
  split at h
  · simp at h
  · rename_i h1
    have := pDigits_bd ⟨by omega, by omega⟩ h1
    split at h
    · injection h with e _; injection e with e1 e2; omega
    · split at h
      · simp at h
      · rename_i h2
        have := pDigits_bd ⟨by omega, by omega⟩ h2
        split at h
        · injection h with e _; injection e with e1 e2; omega
        · simp at h
    · injection h with e _; injection e with e1 e2; omega
    · simp at h
theorem pCounts_txt {n : Nat} {cs : List Cnt} {r r' : List UInt8} (h : pCounts n r = .ok cs r') : (∀ c ∈ cs, okCnt c) ∧ cs.length + r'.length ≤ r.length ∧ (cs.flatMap tCount).length + 1600 * r'.length ≤ 1600 * r.length := by
  induction n generalizing r cs with
  | zero => simp [pCounts] at h
  | succ n ih =>
    simp only [pCounts] at h
    split at h
    · split at h
      · rename_i hc
        split at h
        · rename_i h1; injection h with e1 e; subst e; subst e1
          obtain ⟨i1, i2, i3⟩ := ih h1
          refine ⟨fun c hm => ?_, by simp; omega, ?_⟩
          · rcases List.mem_cons.1 hm with rfl | hm
            · left; rcases hc with rfl | rfl | rfl <;> decide
            · exact i1 c hm
          · rw [List.flatMap_cons, List.length_append]
            simp only [List.length_cons]
            refine Nat.le_trans (Nat.add_le_add_right (Nat.add_le_add_right (tCount_len _) _) _) ?_
            omega
        · simp at h
      · split at h
        · split at h
          · simp at h
          · rename_i h1
            have hl := pBounds_len h1
            have hb := pBounds_bd h1
            split at h
            · rename_i h2; injection h with e1 e; subst e; subst e1
              obtain ⟨i1, i2, i3⟩ := ih h2
              refine ⟨fun c hm => ?_, by simp; omega, ?_⟩
              · rcases List.mem_cons.1 hm with rfl | hm
                · right; exact hb
                · exact i1 c hm
              · rw [List.flatMap_cons, List.length_append]
                simp only [List.length_cons]
                refine Nat.le_trans (Nat.add_le_add_right (Nat.add_le_add_right (tCount_len _) _) _) ?_
                omega
            · simp at h
        · injection h with e1 e; subst e; subst e1; simp
    · injection h with e1 e; subst e; subst e1; simp

/-- The chains' texts with a sign for each. -/
def sumC : List (List Prt) → Nat
  | [] => 0
  | c :: cs => (tC c).length + 1 + sumC cs
theorem tBar_len (cs : List (List Prt)) : (tBar cs).length = sumC cs := by
  induction cs with
  | nil => simp [tBar, sumC]
  | cons c cs ih => simp [tBar, sumC, ih]; omega
theorem tCs_le (cs : List (List Prt)) : (tCs cs).length ≤ sumC cs + 2 := by
  match cs with
  | [] => simp [tCs]
  | [c] => simp [tCs, sumC]; omega
  | c :: d :: cs => simp [tCs, sumC, tBar_len]; omega
def sumP : List Prt → Nat
  | [] => 0
  | p :: ps => (tP p).length + sumP ps
theorem tPs_len (ps : List Prt) : (tPs ps).length = sumP ps := by
  induction ps with
  | nil => simp [tPs, sumP]
  | cons c cs ih => simp [tPs, sumP, ih]
theorem tC_le (ps : List Prt) : (tC ps).length ≤ sumP ps + 2 := by
  match ps with
  | [] => simp [tC]
  | [c] => simp [tC, sumP]
  | c :: d :: cs => simp [tC, sumP, tPs_len]; omega
def tG (g : List (List Prt)) (B : Nat → Bool) : List UInt8 := match g with | [] => tBytes B | c :: cs' => tCs (c :: cs')
theorem tP_flat (g : List (List Prt)) (B : Nat → Bool) (cs : List Cnt) : tP (.mk g B cs) = tG g B ++ cs.flatMap tCount := by
  cases g <;> simp [tP, tG]
theorem tG_nil (B : Nat → Bool) : (tG [] B).length ≤ 1544 := tBytes_len B
theorem tG_ne (g : List (List Prt)) (B : Nat → Bool) (h : g ≠ []) : tG g B = tCs g := by cases g <;> simp_all [tG]

theorem pTxt (n : Nat) :
    (∀ r cs r', r.length ≤ 200 → pChoices n r = .ok cs r' → OkVs cs ∧ cs.length + r'.length ≤ r.length + 1 ∧ sumC cs + 1600 * r'.length ≤ 1600 * r.length + 3) ∧
    (∀ r ps r', r.length ≤ 200 → pChain n r = .ok ps r' → OkPs ps ∧ ps.length + r'.length ≤ r.length ∧ sumP ps + 1600 * r'.length ≤ 1600 * r.length) ∧
    (∀ r p r', r.length ≤ 200 → pPart n r = .ok p r' → OkP p ∧ r'.length + 1 ≤ r.length ∧ (tP p).length + 1600 * r'.length ≤ 1600 * r.length) ∧
    (∀ r g B r', r.length ≤ 200 → pAtom n r = .ok (g, B) r' → OkVs g ∧ g.length ≤ 200 ∧ r'.length + 1 ≤ r.length ∧ (tG g B).length + 1600 * r'.length ≤ 1600 * r.length) := by
  induction n with
  | zero => exact ⟨fun r cs r' _ h => by simp [pChoices] at h, fun r cs r' _ h => by simp [pChain] at h, fun r cs r' _ h => by simp [pPart] at h, fun r g B r' _ h => by simp [pAtom] at h⟩
  | succ n ih =>
    obtain ⟨i1, i2, i3, i4⟩ := ih
    refine ⟨fun r cs r' hr h => ?_, fun r ps r' hr h => ?_, fun r p r' hr h => ?_, fun r g B r' hr h => ?_⟩
    · simp only [pChoices] at h
      split at h
      · simp at h
      · rename_i c r1 h1
        obtain ⟨a1, a2, a3⟩ := i2 _ _ _ hr h1
        have a4 := tC_le c
        split at h
        · split at h
          · rename_i h2
            injection h with e1 e2; subst e1; subst e2
            obtain ⟨b1, b2, b3⟩ := i1 _ _ _ (by simp at a2; omega) h2
            simp only [List.length_cons] at *
            refine ⟨?_, by omega, by simp only [sumC]; omega⟩
            simp only [OkVs]; exact ⟨⟨a1, by omega⟩, b1⟩
          · simp at h
        · injection h with e1 e2; subst e1; subst e2
          refine ⟨?_, by simp; omega, by simp only [sumC]; omega⟩
          simp only [OkVs]; exact ⟨⟨a1, by omega⟩, trivial⟩
    · simp only [pChain] at h
      split at h
      · split at h
        · simp at h
        · rename_i h1
          obtain ⟨a1, a2, a3⟩ := i3 _ _ _ hr h1
          split at h
          · rename_i h2
            injection h with e1 e2; subst e1; subst e2
            obtain ⟨b1, b2, b3⟩ := i2 _ _ _ (by omega) h2
            refine ⟨?_, by simp only [List.length_cons]; omega, by simp only [sumP]; omega⟩
            simp only [OkPs]; exact ⟨a1, b1⟩
          · simp at h
      · injection h with e1 e2; subst e1; subst e2; exact ⟨by simp [OkPs], by simp, by simp [sumP]⟩
    · simp only [pPart] at h
      split at h
      · simp at h
      · rename_i g S r1 h1
        obtain ⟨a1, a2, a3, a4⟩ := i4 _ _ _ _ hr h1
        split at h
        · rename_i h2
          injection h with e1 e2; subst e1; subst e2
          obtain ⟨b1, b2, b3⟩ := pCounts_txt h2
          refine ⟨?_, by omega, by rw [tP_flat, List.length_append]; omega⟩
          simp only [OkP]; exact ⟨a1, b1, by omega, a2⟩
        · simp at h
    · simp only [pAtom] at h
      match r, hr, h with
      | c :: t, hr, h =>
        simp only [List.length_cons] at hr
        simp only at h
        split at h
        · split at h
          · simp at h
          · rename_i cs1 r1 h1
            obtain ⟨a1, a2, a3⟩ := i1 _ _ _ (by omega) h1
            split at h
            · injection h with e1 e2; injection e1 with e1 _; subst e1; subst e2
              have := tCs_le cs1
              simp only [List.length_cons] at *
              refine ⟨a1, by omega, by omega, ?_⟩
              rw [tG_ne _ _ (pChoices_ne h1)]; omega
            · simp at h
        · split at h
          · split at h
            · rename_i h1; injection h with e1 e2; injection e1 with e1 _; subst e1; subst e2
              have := pClass_len h1; have := tG_nil B
              exact ⟨by simp [OkVs], by simp, by simp; omega, by simp only [List.length_cons]; omega⟩
            · simp at h
          · split at h
            · split at h
              · rename_i h1; injection h with e1 e2; injection e1 with e1 _; subst e1; subst e2
                have := pEscape_len h1; have := tG_nil B
                exact ⟨by simp [OkVs], by simp, by simp; omega, by simp only [List.length_cons]; omega⟩
              · simp at h
            · split at h
              · injection h with e1 e2; injection e1 with e1 _; subst e1; subst e2; have := tG_nil B
                exact ⟨by simp [OkVs], by simp, by simp, by simp only [List.length_cons]; omega⟩
              · injection h with e1 e2; injection e1 with e1 _; subst e1; subst e2; have := tG_nil B
                exact ⟨by simp [OkVs], by simp, by simp, by simp only [List.length_cons]; omega⟩
end Go.Proofs.YtbjabpodkaokjaaDoor

namespace Go.Proofs.YtbjabpodkaokjaaDoor
open Go.RowKit

theorem tkR_len (c : UInt8) (r : List UInt8) : (tkR c r).length ≤ r.length := by
  match r with
  | [] => exact Nat.le_refl _
  | a :: t => simp only [tkR]; split <;> simp
theorem readP_txt {l : List UInt8} {p : Ptn} (hl : l.length ≤ 200) (h : readP l = .ok p []) : p.choices ≠ [] ∧ OkVs p.choices ∧ p.choices.length ≤ 300 ∧ (tCs p.choices).length ≤ 849000 := by
  unfold readP at h
  have hk := tkR_len 94 l
  split at h
  · simp at h
  · rename_i cs r' h1
    obtain ⟨a1, a2, a3⟩ := (pTxt _).1 _ _ _ (by omega) h1
    have := tCs_le cs
    split at h
    · injection h with e _; subst e
      exact ⟨pChoices_ne h1, a1, by simp only; omega, by simp only; omega⟩
    · simp at h

/-- What Parse answers. -/
def ParseRes (s : ByteArray) (e : Ending) : Prop :=
  (200 < s.size ∧ e = .returned (.tuple #[.string ⟨#[]⟩, .int .i64 4, .int .i64 0])) ∨
  (s.size ≤ 200 ∧ (∃ r', readP s.data.toList = .bad r' ∧ e = .returned (.tuple #[.string ⟨#[]⟩, .int .i64 3, .int .i64 ((s.size - r'.length : Nat) : Int)]))) ∨
  (s.size ≤ 200 ∧ ∃ p, readP s.data.toList = .ok p [] ∧ 20 < nestCs p.choices ∧ e = .returned (.tuple #[.string ⟨#[]⟩, .int .i64 4, .int .i64 0])) ∨
  (s.size ≤ 200 ∧ ∃ p, readP s.data.toList = .ok p [] ∧ nestCs p.choices ≤ 20 ∧ e = .returned (.tuple #[.string ⟨(tPtn p).toArray⟩, .int .i64 0, .int .i64 0]))

set_option maxHeartbeats 1000000 in
theorem parse_bad (w : World) (s : ByteArray) (err pl : Int) (herr : (err == 0) = false) (hr : Calls Tryd.prog 6 #[.string s] w fun e w' => e = .returned (.tuple #[ptnV false false none 0 0, .int .i64 err, .int .i64 pl]) ∧ Below w.heap.size w w') :
    Calls Tryd.prog 4 #[.string s] w fun e w' => e = .returned (.tuple #[.string ⟨#[]⟩, .int .i64 err, .int .i64 pl]) ∧ Below w.heap.size w w' := by
  have HR : Hid (Calls Tryd.prog 6 #[.string s] w fun e w' => e = .returned (.tuple #[ptnV false false none 0 0, .int .i64 err, .int .i64 pl]) ∧ Below w.heap.size w w') := hr
  clear hr
  go_enter Tryd.func4, Tryd.ntmps4
  go_wp2_with (go_at_call 6; refine HR.out.mono ?_; rintro e w1 ⟨rfl, hb1⟩)
  refine bodyPost_ret (v := .tuple #[.string ⟨#[]⟩, .int .i64 err, .int .i64 pl]) ?_ rfl ⟨rfl, ?_⟩
  · simp [results, Tryd.results4, go_sem]
  · exact hb1.alloc hb1.size _

theorem text_at (w1 : World) (p : Ptn) (h1 : p.choices ≠ []) (h2 : OkVs p.choices) (h3 : p.choices.length ≤ 300) (h4 : (tCs p.choices).length ≤ 849000) (g0 : Option Addr) (n0 c0 b : Nat) (hq : RepCs w1 (From b w1) p.choices (.slice g0 n0 c0)) :
    Calls Tryd.prog 7 #[.agg #[.bool p.front, .bool p.back, .slice g0 n0 c0]] (w1.alloc (ptnObj p.front p.back g0 n0 c0)) fun e w' => e = .returned (.string ⟨(tPtn p).toArray⟩) ∧ Below (w1.alloc (ptnObj p.front p.back g0 n0 c0)).heap.size (w1.alloc (ptnObj p.front p.back g0 n0 c0)) w' := by
  refine text_any _ p g0 n0 c0 (choicesTxt _ _ _ h1 h2 h3 _ (hq.of_heap fun g hg hlt => ⟨?_, Below.heap_alloc _ _ _ hlt⟩)) h4
  simp; omega

set_option maxHeartbeats 1000000 in
theorem parse_ok (w : World) (s : ByteArray) (p : Ptn) (h1 : p.choices ≠ []) (h2 : OkVs p.choices) (h3 : p.choices.length ≤ 300) (h4 : (tCs p.choices).length ≤ 849000) (hr : Calls Tryd.prog 6 #[.string s] w fun e w' => (∃ g0 n0 c0, RepCs w' (From w.heap.size w') p.choices (.slice g0 n0 c0) ∧ e = .returned (.tuple #[ptnV p.front p.back g0 n0 c0, .int .i64 0, .int .i64 0])) ∧ Below w.heap.size w w') :
    Calls Tryd.prog 4 #[.string s] w fun e w' => e = .returned (.tuple #[.string ⟨(tPtn p).toArray⟩, .int .i64 0, .int .i64 0]) ∧ Below w.heap.size w w' := by
  have HR : Hid (Calls Tryd.prog 6 #[.string s] w fun e w' => (∃ g0 n0 c0, RepCs w' (From w.heap.size w') p.choices (.slice g0 n0 c0) ∧ e = .returned (.tuple #[ptnV p.front p.back g0 n0 c0, .int .i64 0, .int .i64 0])) ∧ Below w.heap.size w w') := hr
  clear hr
  go_enter Tryd.func4, Tryd.ntmps4
  go_wp2_with (first | (go_at_call 7; (refine Calls.mono HT.out ?_; rintro e w2 ⟨rfl, hb2⟩; have HB2 : Hid _ := hb2; clear hb2)) | (go_at_call 6; (refine HR.out.mono ?_; rintro e w1 ⟨⟨g0, n0, c0, hq, rfl⟩, hb1⟩; have HT : Hid _ := text_at w1 p h1 h2 h3 h4 g0 n0 c0 _ hq; clear hq)))
  refine bodyPost_ret (v := .tuple #[.string ⟨(tPtn p).toArray⟩, .int .i64 0, .int .i64 0]) ?_ rfl ⟨rfl, ?_⟩
  · simp [results, Tryd.results4, go_sem]
  · have hz := hb1.size
    exact (hb1.alloc hz _).trans (HB2.out.mono (by simp; omega))

theorem parse_any (w : World) (s : ByteArray) (hT : Tabs w) (hs : s.size ≤ maxLen) :
    Calls Tryd.prog 4 #[.string s] w fun e w' => ParseRes s e ∧ Below w.heap.size w w' := by
  have hr := read_any w s hT hs
  by_cases h2 : 200 < s.size
  · refine (parse_bad w s 4 0 rfl (hr.mono fun e w' g => ⟨?_, g.2⟩)).mono fun e w' g => ⟨.inl ⟨h2, g.1⟩, g.2⟩
    rcases g.1 with g | g | g | g
    · exact g.2
    all_goals exact absurd g.1 (by omega)
  · have h2' : s.size ≤ 200 := by omega
    have hl : s.data.toList.length ≤ 200 := by simp; exact h2'
    cases hR : readP s.data.toList with
    | bad r' =>
      refine (parse_bad w s 3 _ rfl (hr.mono fun e w' g => ⟨?_, g.2⟩)).mono fun e w' g => ⟨.inr (.inl ⟨h2', r', hR, g.1⟩), g.2⟩
      rcases g.1 with g | g | g | g
      · exact absurd g.1 h2
      · obtain ⟨_, r'', hq, he⟩ := g
        rw [hR] at hq; injection hq with e; subst e; exact he
      all_goals
        obtain ⟨_, p, hq, _⟩ := g
        rw [hR] at hq; simp at hq
    | ok p r' =>
      obtain rfl := readP_rest hR
      obtain ⟨t1, t2, t3, t4⟩ := readP_txt hl hR
      by_cases hx : 20 < nestCs p.choices
      · refine (parse_bad w s 4 0 rfl (hr.mono fun e w' g => ⟨?_, g.2⟩)).mono fun e w' g => ⟨.inr (.inr (.inl ⟨h2', p, hR, hx, g.1⟩)), g.2⟩
        rcases g.1 with g | g | g | g
        · exact absurd g.1 h2
        · obtain ⟨_, r'', hq, he⟩ := g
          rw [hR] at hq; simp at hq
        · obtain ⟨_, q, hq, _, he⟩ := g
          exact he
        · obtain ⟨_, q, hq, hn, _⟩ := g
          rw [hR] at hq; injection hq with e _; subst e; omega
      · refine (parse_ok w s p t1 t2 t3 t4 (hr.mono fun e w' g => ⟨?_, g.2⟩)).mono fun e w' g => ⟨.inr (.inr (.inr ⟨h2', p, hR, by omega, g.1⟩)), g.2⟩
        rcases g.1 with g | g | g | g
        · exact absurd g.1 h2
        · obtain ⟨_, r'', hq, he⟩ := g
          rw [hR] at hq; simp at hq
        · obtain ⟨_, q, hq, hn, _⟩ := g
          rw [hR] at hq; injection hq with e _; subst e; omega
        · obtain ⟨_, q, hq, hn, he⟩ := g
          rw [hR] at hq; injection hq with e _; subst e; exact he
end Go.Proofs.YtbjabpodkaokjaaDoor
