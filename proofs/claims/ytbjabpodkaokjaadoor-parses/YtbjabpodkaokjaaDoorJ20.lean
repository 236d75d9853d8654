import Derived.Test.YtbjabpodkaokjaaDoorJ19
set_option linter.unusedVariables false
set_option linter.unusedSimpArgs false
namespace Go.Proofs.YtbjabpodkaokjaaDoor
open Go.RowKit

/-- Groups, places and room: the numbers stay small. -/
structure Lim (d x : Int) (r : List UInt8) : Prop where
  d0 : 0 ≤ d
  dr : d + r.length ≤ 200
  dx : d ≤ x
  x1 : x ≤ 200

theorem up_zero {x d : Int} (h : d ≤ x) : up x d 0 = x := by unfold up; omega
theorem up_up (x d : Int) (a b : Nat) : up (up x d a) d b = up x d (max a b) := by unfold up; omega
theorem up_le {x d : Int} {k : Nat} (h : x ≤ 200) (hk : d + k ≤ 200) : up x d k ≤ 200 := by unfold up; omega
theorem up_ge (x d : Int) (k : Nat) : x ≤ up x d k := by unfold up; omega
theorem up_group (x d : Int) (k : Nat) : up (max x (d + 1)) (d + 1) k = up x d (1 + k) := by unfold up; omega

def AtmRes (w w' : World) (b : Nat) (s : ByteArray) (d x : Int) (e : Ending) : Res (List (List Prt) × (Nat → Bool)) → Prop
  | .ok p r => (∃ g0 n0 c0 x0 x1 x2 x3, RepCs w' (From w.heap.size w') p.1 (.slice g0 n0 c0) ∧ Wd x0 x1 x2 x3 p.2 ∧ e = .returned (.tuple #[atomV g0 n0 c0 x0 x1 x2 x3, .bool true])) ∧ StTo w w' b s r d (up x d (nestG p.1))
  | .bad r => ∃ x', (∃ g0 n0 c0 x0 x1 x2 x3, e = .returned (.tuple #[atomV g0 n0 c0 x0 x1 x2 x3, .bool false])) ∧ StTo w w' b s r d x'
def ChsRes (w w' : World) (b : Nat) (s : ByteArray) (d x : Int) (e : Ending) : Res (List (List Prt)) → Prop
  | .ok cs r => (∃ g0 n0 c0, RepCs w' (From w.heap.size w') cs (.slice g0 n0 c0) ∧ e = .returned (.tuple #[.slice g0 n0 c0, .bool true])) ∧ StTo w w' b s r d (up x d (nestCs cs))
  | .bad r => ∃ x', e = .returned (.tuple #[.slice none 0 0, .bool false]) ∧ StTo w w' b s r d x'
def ChnRes (w w' : World) (b : Nat) (s : ByteArray) (d x : Int) (e : Ending) : Res (List Prt) → Prop
  | .ok ps r => (∃ g0 n0 c0, RepC w' (From w.heap.size w') ps (.slice g0 n0 c0) ∧ e = .returned (.tuple #[.slice g0 n0 c0, .bool true])) ∧ StTo w w' b s r d (up x d (nestC ps))
  | .bad r => ∃ x', e = .returned (.tuple #[.slice none 0 0, .bool false]) ∧ StTo w w' b s r d x'
def PrtRes (w w' : World) (b : Nat) (s : ByteArray) (d x : Int) (e : Ending) : Res Prt → Prop
  | .ok p r => (∃ g0 n0 c0 x0 x1 x2 x3 g1 n1 c1, RepP w' (From w.heap.size w') p [.slice g0 n0 c0, .int .u64 (x0 : Nat), .int .u64 (x1 : Nat), .int .u64 (x2 : Nat), .int .u64 (x3 : Nat), .slice g1 n1 c1] ∧ e = .returned (.tuple #[partV g0 n0 c0 x0 x1 x2 x3 g1 n1 c1, .bool true])) ∧ StTo w w' b s r d (up x d (nestP p))
  | .bad r => ∃ x', (∃ g0 n0 c0 x0 x1 x2 x3 g1 n1 c1, e = .returned (.tuple #[partV g0 n0 c0 x0 x1 x2 x3 g1 n1 c1, .bool false])) ∧ StTo w w' b s r d x'

def ChoicesK (n : Nat) : Prop := ∀ w b s r d x, St w b s r d x → Lim d x r → 4 * r.length + 4 ≤ n → Calls Tryd.prog 19 #[.pointer (some ⟨b, 0, none⟩)] w fun e w' => ChsRes w w' b s d x e (pChoices n r)
def ChainK (n : Nat) : Prop := ∀ w b s r d x, St w b s r d x → Lim d x r → 4 * r.length + 3 ≤ n → Calls Tryd.prog 32 #[.pointer (some ⟨b, 0, none⟩)] w fun e w' => ChnRes w w' b s d x e (pChain n r)
def PartK (n : Nat) : Prop := ∀ w b s r d x, St w b s r d x → Lim d x r → 4 * r.length + 2 ≤ n → begins r = true → Calls Tryd.prog 40 #[.pointer (some ⟨b, 0, none⟩)] w fun e w' => PrtRes w w' b s d x e (pPart n r)
def AtomK (n : Nat) : Prop := ∀ w b s r d x, St w b s r d x → Lim d x r → 4 * r.length + 1 ≤ n → begins r = true → Calls Tryd.prog 46 #[.pointer (some ⟨b, 0, none⟩)] w fun e w' => AtmRes w w' b s d x e (pAtom n r)

theorem pChoices_ne {n : Nat} {r r' : List UInt8} {cs : List (List Prt)} (h : pChoices n r = .ok cs r') : cs ≠ [] := by
  cases n with
  | zero => simp [pChoices] at h
  | succ n =>
    simp only [pChoices] at h
    split at h
    · simp at h
    · split at h
      · split at h
        · injection h with e _; subst e; simp
        · simp at h
      · injection h with e _; subst e; simp
theorem nestG_ne {cs : List (List Prt)} (h : cs ≠ []) : nestG cs = 1 + nestCs cs := by
  cases cs with
  | nil => exact absurd rfl h
  | cons c cs => rfl
theorem tkB_false {c : UInt8} {r : List UInt8} (h : tkB c r = false) : tkR c r = r ∧ ∀ t, r ≠ c :: t := by
  match r, h with
  | [], _ => exact ⟨rfl, fun t => by simp⟩
  | a :: t, h =>
    have ne : a ≠ c := by simpa [tkB] using h
    exact ⟨by simp [tkR, ne], fun t' e => by injection e with e _; exact ne e⟩
theorem tkB_true {c : UInt8} {r : List UInt8} (h : tkB c r = true) : r = c :: tkR c r := by
  match r, h with
  | a :: t, h =>
    have e : a = c := by simpa [tkB] using h
    subst e; simp [tkR]

theorem repCs_nil (w : World) (S : Nat → Prop) : RepCs w S [] (.slice none 0 0) := ⟨[], ⟨by simp, .inl ⟨rfl, rfl⟩⟩, by simp [RepVs]⟩

/-- A group, by what its choices answer. -/
theorem group_any (n : Nat) (hK : ChoicesK n) (w : World) (b : Nat) (s : ByteArray) (t : List UInt8) (d x : Int) (h : St w b s t d x) (d0 : 0 ≤ d) (dr : d + 1 + t.length ≤ 200) (dx : d ≤ x) (x1 : x ≤ 200) (hn : 4 * t.length + 4 ≤ n) :
    Calls Tryd.prog 55 #[.pointer (some ⟨b, 0, none⟩)] w fun e w' => match pChoices n t with
      | .bad r' => ∃ x', e = .returned (.tuple #[.slice none 0 0, .bool false]) ∧ StTo w w' b s r' d x'
      | .ok cs r' => match tkB 41 r' with
        | true => (∃ g0 n0 c0, RepCs w' (From w.heap.size w') cs (.slice g0 n0 c0) ∧ e = .returned (.tuple #[.slice g0 n0 c0, .bool true])) ∧ StTo w w' b s (tkR 41 r') d (up x d (nestG cs))
        | false => ∃ x', e = .returned (.tuple #[.slice none 0 0, .bool false]) ∧ StTo w w' b s r' d x' := by
  have hk := fun w hw => hK w b s t (d + 1) (max x (d + 1)) hw ⟨by omega, by omega, by omega, by omega⟩ hn
  have hy : (x < d + 1 ∧ max x (d + 1) = d + 1) ∨ (¬ x < d + 1 ∧ max x (d + 1) = x) := by omega
  cases hR : pChoices n t with
  | bad r' =>
    refine (group_1 w b s t r' d x (max x (d + 1)) (fun _ => True) h d0 (by omega) (fun _ _ _ => True) hy (fun w hw => (hk w hw).mono fun e w' g => ?_)).mono fun e w' g => ?_
    · rw [hR] at g; obtain ⟨x', he, g⟩ := g; exact ⟨x', trivial, ⟨_, _, _, trivial, he⟩, g⟩
    · obtain ⟨x', -, he, g⟩ := g; exact ⟨x', he, g⟩
  | ok cs r' =>
    have hcl : ChsC b s t r' (d + 1) (max x (d + 1)) (fun y => y = up x d (nestG cs)) true (fun w w' v => RepCs w' (From w.heap.size w') cs v) := fun w hw => (hk w hw).mono fun e w' g => by
      rw [hR] at g
      obtain ⟨⟨g0, n0, c0, hq, he⟩, g⟩ := g
      refine ⟨_, rfl, ⟨g0, n0, c0, hq, he⟩, ?_⟩
      rw [nestG_ne (pChoices_ne hR), ← up_group]; exact g
    have ht := fun x' => take_any b s d x' 41 r'
    cases hm : tkB 41 r' with
    | true =>
      rw [hm] at ht
      refine (group_3 w b s t r' _ d x (max x (d + 1)) _ h d0 (by omega) _ hy hcl ht).mono fun e w' g => ?_
      obtain ⟨x', rfl, ⟨g0, n0, c0, w1, w2, hq, hr1, hr2, hsz, he⟩, g⟩ := g
      simp only [hm]
      refine ⟨⟨g0, n0, c0, hq.of_heap (fun j hj hlt => ?_), he⟩, g⟩
      have hbl := h.lt
      exact ⟨⟨by have := hj.1; omega, Nat.lt_of_lt_of_le hj.2 hr2.size⟩, hr2.block j hlt (by have := hj.1; omega)⟩
    | false =>
      obtain ⟨e1, -⟩ := tkB_false hm
      rw [hm, e1] at ht
      refine (group_2 w b s t r' r' d x (max x (d + 1)) _ h d0 (by omega) _ hy hcl ht).mono fun e w' g => ?_
      simp only [hm]
      obtain ⟨x', -, he, g⟩ := g; exact ⟨x', he, g⟩

theorem atom_step (n : Nat) (hK : ChoicesK n) : AtomK (n + 1) := by
  intro w b s r d x h hl hn hb
  match r, h, hl, hn, hb with
  | c :: t, h, hl, hn, hb =>
    obtain ⟨d0, dr, dx, x1⟩ := hl
    have hup : up x d 0 = x := up_zero dx
    simp only [List.length_cons] at dr hn
    by_cases c40 : c = 40
    · have hg := fun w (hw : St w b s t d x) => group_any n hK w b s t d x hw d0 (by omega) dx x1 (by omega)
      cases hR : pChoices n t with
      | bad r' =>
        have hP : pAtom (n + 1) (c :: t) = .bad r' := by simp only [pAtom, c40, if_true, hR]
        rw [hP]
        refine (atom_group w b s c t r' d x (fun _ => True) h c40 false (fun _ _ _ => True) (fun w hw => (hg w hw).mono fun e w' g => ?_)).mono fun e w' g => ?_
        · rw [hR] at g; obtain ⟨x', he, g⟩ := g; exact ⟨x', trivial, ⟨_, _, _, trivial, he⟩, g⟩
        · obtain ⟨x', -, ⟨g0, n0, c0, w1, w2, -, -, -, -, -, he⟩, g⟩ := g
          exact ⟨x', ⟨g0, n0, c0, 0, 0, 0, 0, he⟩, g⟩
      | ok cs r' =>
        cases hm : tkB 41 r' with
        | true =>
          have e1 := tkB_true hm
          have hP : pAtom (n + 1) (c :: t) = .ok (cs, fun _ => false) (tkR 41 r') := by
            rw [e1] at hR
            simp only [pAtom, c40, if_true, hR]
          rw [hP]
          refine (atom_group w b s c t (tkR 41 r') d x (fun y => y = up x d (nestG cs)) h c40 true (fun w w' v => RepCs w' (From w.heap.size w') cs v) (fun w hw => (hg w hw).mono fun e w' g => ?_)).mono fun e w' g => ?_
          · rw [hR] at g; simp only [hm] at g
            obtain ⟨⟨g0, n0, c0, hq, he⟩, g⟩ := g
            exact ⟨_, rfl, ⟨g0, n0, c0, hq, he⟩, g⟩
          · obtain ⟨x', rfl, ⟨g0, n0, c0, w1, w2, hq, hr1, hh, hsz, hsz2, he⟩, g⟩ := g
            refine ⟨⟨g0, n0, c0, 0, 0, 0, 0, hq.of_heap (fun j hj hlt => ?_), wd0, he⟩, g⟩
            have := hj.1
            exact ⟨⟨by omega, by omega⟩, hh j (by omega)⟩
        | false =>
          obtain ⟨-, e1⟩ := tkB_false hm
          have hP : pAtom (n + 1) (c :: t) = .bad r' := by
            simp only [pAtom, c40, if_true, hR]
          rw [hP]
          refine (atom_group w b s c t r' d x (fun _ => True) h c40 false (fun _ _ _ => True) (fun w hw => (hg w hw).mono fun e w' g => ?_)).mono fun e w' g => ?_
          · rw [hR] at g; simp only [hm] at g; obtain ⟨x', he, g⟩ := g; exact ⟨x', trivial, ⟨_, _, _, trivial, he⟩, g⟩
          · obtain ⟨x', -, ⟨g0, n0, c0, w1, w2, -, -, -, -, -, he⟩, g⟩ := g
            exact ⟨x', ⟨g0, n0, c0, 0, 0, 0, 0, he⟩, g⟩
    · by_cases c91 : c = 91
      · skip
        cases hR : pClass t with
        | bad r' =>
          have hP : pAtom (n + 1) (c :: t) = .bad r' := by simp only [pAtom, hR]; rw [if_neg c40, if_pos c91]
          rw [hP]
          refine (atom_class w b s c t r' d x h c91 false (fun _ _ _ _ => True) (fun w hw => (class_any w b s t d x hw).mono fun e w' g => ?_)).mono fun e w' g => ?_
          · rw [hR] at g; obtain ⟨⟨x0, x1, x2, x3, he⟩, g⟩ := g; exact ⟨⟨x0, x1, x2, x3, trivial, he⟩, g⟩
          · obtain ⟨⟨x0, x1, x2, x3, -, he⟩, g⟩ := g; exact ⟨x, ⟨none, 0, 0, x0, x1, x2, x3, he⟩, g⟩
        | ok S r' =>
          have hP : pAtom (n + 1) (c :: t) = .ok ([], S) r' := by simp only [pAtom, hR]; rw [if_neg c40, if_pos c91]
          rw [hP]
          refine (atom_class w b s c t r' d x h c91 true (fun x0 x1 x2 x3 => Wd x0 x1 x2 x3 S) (fun w hw => (class_any w b s t d x hw).mono fun e w' g => ?_)).mono fun e w' g => ?_
          · rw [hR] at g; exact g
          · obtain ⟨⟨x0, x1, x2, x3, hw, he⟩, g⟩ := g
            exact ⟨⟨none, 0, 0, x0, x1, x2, x3, repCs_nil _ _, hw, he⟩, by simpa [nestG, hup] using g⟩
      · by_cases c92 : c = 92
        · skip
          cases hR : pEscape t with
          | bad r' =>
            have hP : pAtom (n + 1) (c :: t) = .bad r' := by simp only [pAtom, hR]; rw [if_neg c40, if_neg c91, if_pos c92]
            rw [hP]
            refine (atom_escape w b s c t r' d x h c92 false (fun _ _ _ _ => True) (fun w hw => (escape_any w b s t d x hw).mono fun e w' g => ?_)).mono fun e w' g => ?_
            · rw [hR] at g; obtain ⟨⟨x0, x1, x2, x3, he⟩, g⟩ := g; exact ⟨⟨x0, x1, x2, x3, trivial, he⟩, g⟩
            · obtain ⟨⟨x0, x1, x2, x3, -, he⟩, g⟩ := g; exact ⟨x, ⟨none, 0, 0, x0, x1, x2, x3, he⟩, g⟩
          | ok S r' =>
            have hP : pAtom (n + 1) (c :: t) = .ok ([], S) r' := by simp only [pAtom, hR]; rw [if_neg c40, if_neg c91, if_pos c92]
            rw [hP]
            refine (atom_escape w b s c t r' d x h c92 true (fun x0 x1 x2 x3 => Wd x0 x1 x2 x3 S) (fun w hw => (escape_any w b s t d x hw).mono fun e w' g => ?_)).mono fun e w' g => ?_
            · rw [hR] at g; exact g
            · obtain ⟨⟨x0, x1, x2, x3, hw, he⟩, g⟩ := g
              exact ⟨⟨none, 0, 0, x0, x1, x2, x3, repCs_nil _ _, hw, he⟩, by simpa [nestG, hup] using g⟩
        · by_cases c46 : c = 46
          · have hP : pAtom (n + 1) (c :: t) = .ok ([], fun n => !inSpan 10 10 n) t := by simp only [pAtom]; rw [if_neg c40, if_neg c91, if_neg c92, if_pos c46]
            rw [hP]
            refine (atom_dot w b s c t d x h c46).mono fun e w' g => ?_
            obtain ⟨⟨x0, x1, x2, x3, hw, he⟩, g⟩ := g
            exact ⟨⟨none, 0, 0, x0, x1, x2, x3, repCs_nil _ _, hw, he⟩, by simpa [nestG, hup] using g⟩
          · have hP : pAtom (n + 1) (c :: t) = .ok ([], inSpan c.toNat c.toNat) t := by simp only [pAtom]; rw [if_neg c40, if_neg c91, if_neg c92, if_neg c46]
            rw [hP]
            have m1 : ((c.toNat : Int) == 40) = false := by simpa using u8_int (b := 40) c40
            have m2 : ((c.toNat : Int) == 91) = false := by simpa using u8_int (b := 91) c91
            have m3 : ((c.toNat : Int) == 92) = false := by simpa using u8_int (b := 92) c92
            have m4 : ((c.toNat : Int) == 46) = false := by simpa using u8_int (b := 46) c46
            refine (atom_plain w b s c t d x h m1 m2 m3 m4).mono fun e w' g => ?_
            obtain ⟨⟨x0, x1, x2, x3, hw, he⟩, g⟩ := g
            exact ⟨⟨none, 0, 0, x0, x1, x2, x3, repCs_nil _ _, hw, he⟩, by simpa [nestG, hup] using g⟩
end Go.Proofs.YtbjabpodkaokjaaDoor

namespace Go.Proofs.YtbjabpodkaokjaaDoor
open Go.RowKit

theorem slice_form_of_owns {w : World} {base : Nat} {e : TypeId} {size : Nat} {v : Value} {n : Nat} {xs : List Value} (h : w.ownsRow base e size v n xs) : ∃ g0 n0 c0, v = .slice g0 n0 c0 := by
  obtain ⟨_, h⟩ := h
  rcases h with ⟨rfl, _⟩ | ⟨g, cap, cur, rfl, _⟩
  · exact ⟨_, _, _, rfl⟩
  · exact ⟨_, _, _, rfl⟩

theorem cts_any (b : Nat) (s : ByteArray) (r : List UInt8) (d x : Int) : match pCounts (r.length + 1) r with
    | .ok cs r' => CtsC b s r r' d x true (fun w w' v => RowIn w' (From w.heap.size w') 87 3 v cs.length (cs.flatMap cntCells))
    | .bad r' => CtsC b s r r' d x false (fun _ _ _ => True) := by
  cases hR : pCounts (r.length + 1) r with
  | ok cs r' =>
    intro w hw
    refine (counts_any w b s r d x hw _ hR).mono fun e w' g => ?_
    obtain ⟨⟨v, hv, he⟩, g⟩ := g
    obtain ⟨g0, n0, c0, rfl⟩ := slice_form_of_owns hv
    exact ⟨⟨g0, n0, c0, RowIn.of_owns hv, he⟩, g⟩
  | bad r' =>
    intro w hw
    refine (counts_any w b s r d x hw _ hR).mono fun e w' g => ?_
    exact ⟨⟨none, 0, 0, trivial, g.1⟩, g.2⟩

theorem part_step (n : Nat) (hK : AtomK n) : PartK (n + 1) := by
  intro w b s r d x h hl hn hb
  have hlt := h.lt
  have ha := fun w (hw : St w b s r d x) => hK w b s r d x hw hl (by omega) hb
  cases hR : pAtom n r with
  | bad r' =>
    have hP : pPart (n + 1) r = .bad r' := by simp only [pPart, hR]
    rw [hP]
    refine (part_1 w b s r r' d x (fun _ => True) h (fun _ _ _ _ _ _ _ => True) (fun w hw => (ha w hw).mono fun e w' g => ?_)).mono fun e w' g => ?_
    · rw [hR] at g; obtain ⟨x', ⟨g0, n0, c0, x0, x1, x2, x3, he⟩, g⟩ := g; exact ⟨x', trivial, ⟨g0, n0, c0, x0, x1, x2, x3, trivial, he⟩, g⟩
    · obtain ⟨x', -, he, g⟩ := g; exact ⟨x', ⟨none, 0, 0, 0, 0, 0, 0, none, 0, 0, he⟩, g⟩
  | ok p r' =>
    obtain ⟨g, B⟩ := p
    have hA : AtmC b s r r' d x (fun y => y = up x d (nestG g)) true (fun w w' v x0 x1 x2 x3 => RepCs w' (From w.heap.size w') g v ∧ Wd x0 x1 x2 x3 B) := fun w hw => (ha w hw).mono fun e w' q => by
      rw [hR] at q
      obtain ⟨⟨g0, n0, c0, x0, x1, x2, x3, h1, h2, he⟩, q⟩ := q
      exact ⟨_, rfl, ⟨g0, n0, c0, x0, x1, x2, x3, ⟨h1, h2⟩, he⟩, q⟩
    cases hC : pCounts (r'.length + 1) r' with
    | bad r'' =>
      have hP : pPart (n + 1) r = .bad r'' := by simp only [pPart, hR, hC]
      rw [hP]
      have hc := fun x' => cts_any b s r' d x'
      simp only [hC] at hc
      refine (part_2 w b s r r' r'' d x _ false h _ _ hA hc).mono fun e w' q => ?_
      obtain ⟨x', -, ⟨g0, n0, c0, x0, x1, x2, x3, g1, n1, c1, w1, w2, -, -, -, -, -, -, -, he⟩, q⟩ := q
      exact ⟨x', ⟨g0, n0, c0, x0, x1, x2, x3, g1, n1, c1, he⟩, q⟩
    | ok cs r'' =>
      have hP : pPart (n + 1) r = .ok (.mk g B cs) r'' := by simp only [pPart, hR, hC]
      rw [hP]
      have hc := fun x' => cts_any b s r' d x'
      simp only [hC] at hc
      refine (part_2 w b s r r' r'' d x _ true h _ _ hA hc).mono fun e w' q => ?_
      obtain ⟨x', rfl, ⟨g0, n0, c0, x0, x1, x2, x3, g1, n1, c1, w1, w2, ⟨q1, q2⟩, q3, hr1, hr2, hz, hh, hsz, he⟩, q⟩ := q
      have hs1 := hr1.size
      simp only [World.size_alloc] at hs1
      refine ⟨⟨g0, n0, c0, x0, x1, x2, x3, g1, n1, c1, ?_, he⟩, by rw [nestP_eq]; exact q⟩
      simp only [RepP]
      refine ⟨_, x0, x1, x2, x3, _, rfl, ?_, q2, ?_⟩
      · obtain ⟨vs, hv⟩ := q1.of_heap (w' := w') (S' := From w.heap.size w') (fun j hj hlt' => by
          have h1 := hj.1
          simp only [World.size_alloc] at h1
          exact ⟨⟨by omega, by omega⟩, (hh j (by omega)).trans (hr2.block j hlt' (by omega))⟩)
        exact ⟨vs, hv⟩
      · exact q3.of_heap (fun j hj hlt' => by
          have h1 := hj.1
          simp only [World.size_alloc] at h1
          exact ⟨⟨by omega, by omega⟩, hh j (by omega)⟩)
end Go.Proofs.YtbjabpodkaokjaaDoor
