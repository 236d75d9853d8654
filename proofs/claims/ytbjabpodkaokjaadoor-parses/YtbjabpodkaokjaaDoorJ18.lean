import Derived.Test.YtbjabpodkaokjaaDoorJ17
import Derived.Test.YtbjabpodkaokjaaDoorJ15
set_option linter.unusedVariables false
set_option linter.unusedSimpArgs false
namespace Go.Proofs.YtbjabpodkaokjaaDoor
open Go.RowKit

/-- The slice v holds the cells xs, in one of the blocks S. -/
def RowIn (w : World) (S : Nat → Prop) (e : TypeId) (size : Nat) (v : Value) (n : Nat) (xs : List Value) : Prop :=
  xs.length = n * size ∧ ((v = .slice none 0 0 ∧ n = 0) ∨
    ∃ g cap cur, v = .slice (some ⟨g, 0, none⟩) n cap ∧ S g ∧ w.heap[g]? = some (.cells cur e (0, 0)) ∧ n ≤ cap ∧ cap ≤ maxLen ∧ cur.size = cap * size ∧ cur.toList.take (n * size) = xs)

theorem RowIn.of_heap {w w' : World} {S S' : Nat → Prop} {e : TypeId} {size : Nat} {v : Value} {n : Nat} {xs : List Value} (h : RowIn w S e size v n xs) (hS : ∀ g, S g → g < w.heap.size → S' g ∧ w'.heap[g]? = w.heap[g]?) : RowIn w' S' e size v n xs := by
  obtain ⟨h1, h2⟩ := h
  refine ⟨h1, ?_⟩
  rcases h2 with h2 | ⟨g, cap, cur, hv, hg, hh, r⟩
  · exact .inl h2
  · have hlt : g < w.heap.size := by
      rcases Nat.lt_or_ge g w.heap.size with q | q
      · exact q
      · simp [Array.getElem?_eq_none q] at hh
    exact .inr ⟨g, cap, cur, hv, (hS g hg hlt).1, ((hS g hg hlt).2).trans hh, r⟩
theorem RowIn.of_owns {w : World} {base : Nat} {e : TypeId} {size : Nat} {v : Value} {n : Nat} {xs : List Value} (h : w.ownsRow base e size v n xs) : RowIn w (fun g => base ≤ g ∧ g < w.heap.size) e size v n xs := by
  obtain ⟨h1, h2⟩ := h
  refine ⟨h1, ?_⟩
  rcases h2 with h2 | ⟨g, cap, cur, hv, hg, hh, r⟩
  · exact .inl h2
  · have hlt : g < w.heap.size := by
      rcases Nat.lt_or_ge g w.heap.size with q | q
      · exact q
      · simp [Array.getElem?_eq_none q] at hh
    exact .inr ⟨g, cap, cur, hv, ⟨hg, hlt⟩, hh, r⟩

mutual
/-- The six cells of a part. -/
def RepP (w : World) (S : Nat → Prop) : Prt → List Value → Prop
  | .mk g B cs, cells => ∃ gv x0 x1 x2 x3 cv, cells = [gv, .int .u64 (x0 : Nat), .int .u64 (x1 : Nat), .int .u64 (x2 : Nat), .int .u64 (x3 : Nat), cv] ∧
      (∃ vs, RowIn w S 64 1 gv g.length vs ∧ RepVs w S g vs) ∧ Wd x0 x1 x2 x3 B ∧ RowIn w S 87 3 cv cs.length (cs.flatMap cntCells)
/-- The cells of parts. -/
def RepPs (w : World) (S : Nat → Prop) : List Prt → List (List Value) → Prop
  | [], css => css = []
  | p :: ps, css => ∃ c cs', css = c :: cs' ∧ RepP w S p c ∧ RepPs w S ps cs'
/-- The values of chains. -/
def RepVs (w : World) (S : Nat → Prop) : List (List Prt) → List Value → Prop
  | [], vs => vs = []
  | c :: cs, vs => ∃ v vs', vs = v :: vs' ∧ (∃ css, RowIn w S 80 6 v c.length css.flatten ∧ RepPs w S c css) ∧ RepVs w S cs vs'
end
def RepC (w : World) (S : Nat → Prop) (ps : List Prt) (v : Value) : Prop := ∃ css, RowIn w S 80 6 v ps.length css.flatten ∧ RepPs w S ps css
def RepCs (w : World) (S : Nat → Prop) (cs : List (List Prt)) (v : Value) : Prop := ∃ vs, RowIn w S 64 1 v cs.length vs ∧ RepVs w S cs vs

section
variable {w w' : World} {S S' : Nat → Prop}
mutual
theorem RepP.of_heap (hS : ∀ g, S g → g < w.heap.size → S' g ∧ w'.heap[g]? = w.heap[g]?) : ∀ (p : Prt) (cells : List Value), RepP w S p cells → RepP w' S' p cells
  | .mk g B cs, cells, h => by
    simp only [RepP] at h ⊢
    obtain ⟨gv, x0, x1, x2, x3, cv, he, ⟨vs, hr, hv⟩, hw, hc⟩ := h
    exact ⟨gv, x0, x1, x2, x3, cv, he, ⟨vs, hr.of_heap hS, RepVs.of_heap hS g vs hv⟩, hw, hc.of_heap hS⟩
theorem RepPs.of_heap (hS : ∀ g, S g → g < w.heap.size → S' g ∧ w'.heap[g]? = w.heap[g]?) : ∀ (ps : List Prt) (css : List (List Value)), RepPs w S ps css → RepPs w' S' ps css
  | [], css, h => by simpa only [RepPs] using h
  | p :: ps, css, h => by
    simp only [RepPs] at h ⊢
    obtain ⟨c, cs', he, h1, h2⟩ := h
    exact ⟨c, cs', he, RepP.of_heap hS p c h1, RepPs.of_heap hS ps cs' h2⟩
theorem RepVs.of_heap (hS : ∀ g, S g → g < w.heap.size → S' g ∧ w'.heap[g]? = w.heap[g]?) : ∀ (cs : List (List Prt)) (vs : List Value), RepVs w S cs vs → RepVs w' S' cs vs
  | [], vs, h => by simpa only [RepVs] using h
  | c :: cs, vs, h => by
    simp only [RepVs] at h ⊢
    obtain ⟨v, vs', he, ⟨css, hr, h1⟩, h2⟩ := h
    exact ⟨v, vs', he, ⟨css, hr.of_heap hS, RepPs.of_heap hS c css h1⟩, RepVs.of_heap hS cs vs' h2⟩
end
end
theorem RepC.of_heap {w w' : World} {S S' : Nat → Prop} {ps : List Prt} {v : Value} (h : RepC w S ps v) (hS : ∀ g, S g → g < w.heap.size → S' g ∧ w'.heap[g]? = w.heap[g]?) : RepC w' S' ps v := by
  obtain ⟨css, hr, h1⟩ := h; exact ⟨css, hr.of_heap hS, RepPs.of_heap hS ps css h1⟩
theorem RepCs.of_heap {w w' : World} {S S' : Nat → Prop} {cs : List (List Prt)} {v : Value} (h : RepCs w S cs v) (hS : ∀ g, S g → g < w.heap.size → S' g ∧ w'.heap[g]? = w.heap[g]?) : RepCs w' S' cs v := by
  obtain ⟨vs, hr, h1⟩ := h; exact ⟨vs, hr.of_heap hS, RepVs.of_heap hS cs vs h1⟩

theorem RepPs.snoc {w : World} {S : Nat → Prop} {p : Prt} {c : List Value} (hp : RepP w S p c) : ∀ {ps : List Prt} {css : List (List Value)}, RepPs w S ps css → RepPs w S (ps ++ [p]) (css ++ [c])
  | [], css, h => by
    simp only [RepPs] at h; subst h
    simp only [List.nil_append, RepPs]
    exact ⟨c, [], rfl, hp, rfl⟩
  | q :: ps, css, h => by
    simp only [RepPs] at h
    obtain ⟨c', cs', rfl, h1, h2⟩ := h
    simp only [List.cons_append, RepPs]
    exact ⟨c', cs' ++ [c], rfl, h1, RepPs.snoc hp h2⟩
theorem RepVs.snoc {w : World} {S : Nat → Prop} {c : List Prt} {v : Value} (hc : RepC w S c v) : ∀ {cs : List (List Prt)} {vs : List Value}, RepVs w S cs vs → RepVs w S (cs ++ [c]) (vs ++ [v])
  | [], vs, h => by
    simp only [RepVs] at h; subst h
    simp only [List.nil_append, RepVs]
    exact ⟨v, [], rfl, hc, rfl⟩
  | q :: cs, vs, h => by
    simp only [RepVs] at h
    obtain ⟨v', vs', rfl, h1, h2⟩ := h
    simp only [List.cons_append, RepVs]
    exact ⟨v', vs' ++ [v], rfl, h1, RepVs.snoc hc h2⟩

/-- The blocks from B on that there are. -/
abbrev From (B : Nat) (w : World) (g : Nat) : Prop := B ≤ g ∧ g < w.heap.size
theorem from_rd {b B : Nat} {w w' : World} (hr : Rd b w w') (hB : b < B) : ∀ g, From B w g → g < w.heap.size → From B w' g ∧ w'.heap[g]? = w.heap[g]? :=
  fun g hg hlt => ⟨⟨hg.1, Nat.lt_of_lt_of_le hg.2 hr.size⟩, hr.block g hlt (by omega)⟩
end Go.Proofs.YtbjabpodkaokjaaDoor

namespace Go.Proofs.YtbjabpodkaokjaaDoor

def nestG (g : List (List Prt)) : Nat := match g with | [] => 0 | c :: cs => 1 + nestCs (c :: cs)
theorem nestP_eq (g : List (List Prt)) (B : Nat → Bool) (cs : List Cnt) : nestP (.mk g B cs) = nestG g := by
  cases g with
  | nil => simp [nestP, nestG]
  | cons c cs' => simp [nestP, nestG, nestCs]
theorem nestG_le (g : List (List Prt)) : nestG g ≤ 1 + nestCs g := by cases g <;> simp [nestG]

theorem pLen (n : Nat) :
    (∀ r cs r', pChoices n r = .ok cs r' → nestCs cs + r'.length ≤ r.length) ∧
    (∀ r ps r', pChain n r = .ok ps r' → nestC ps + r'.length ≤ r.length) ∧
    (∀ r p r', pPart n r = .ok p r' → nestP p + r'.length + 1 ≤ r.length) ∧
    (∀ r g B r', pAtom n r = .ok (g, B) r' → nestG g + r'.length + 1 ≤ r.length) := by
  induction n with
  | zero => exact ⟨fun r cs r' h => by simp [pChoices] at h, fun r cs r' h => by simp [pChain] at h, fun r cs r' h => by simp [pPart] at h, fun r g B r' h => by simp [pAtom] at h⟩
  | succ n ih =>
    obtain ⟨i1, i2, i3, i4⟩ := ih
    refine ⟨fun r cs r' h => ?_, fun r ps r' h => ?_, fun r p r' h => ?_, fun r g B r' h => ?_⟩
    · simp only [pChoices] at h
      split at h
      · simp at h
      · rename_i c r1 h1
        have l1 := i2 _ _ _ h1
        split at h
        · split at h
          · rename_i h2
            injection h with e1 e2; subst e1; subst e2
            have l2 := i1 _ _ _ h2
            simp [nestCs] at *; omega
          · simp at h
        · injection h with e1 e2; subst e1; subst e2
          simp [nestCs]; omega
    · simp only [pChain] at h
      split at h
      · split at h
        · simp at h
        · rename_i h1
          have l1 := i3 _ _ _ h1
          split at h
          · rename_i h2
            injection h with e1 e2; subst e1; subst e2
            have l2 := i2 _ _ _ h2
            simp [nestC]; omega
          · simp at h
      · injection h with e1 e2; subst e1; subst e2; simp [nestC]
    · simp only [pPart] at h
      split at h
      · simp at h
      · rename_i g S r1 h1
        have l1 := i4 _ _ _ _ h1
        split at h
        · rename_i h2
          injection h with e1 e2; subst e1; subst e2
          have l2 := pCounts_len h2
          rw [nestP_eq]; omega
        · simp at h
    · simp only [pAtom] at h
      match r, h with
      | c :: t, h =>
        simp only at h
        split at h
        · split at h
          · simp at h
          · rename_i cs1 r1 h1
            have l1 := i1 _ _ _ h1
            split at h
            · injection h with e1 e2; injection e1 with e1 _; subst e1; subst e2
              have := nestG_le cs1
              simp at *; omega
            · simp at h
        · split at h
          · split at h
            · rename_i h1; injection h with e1 e2; injection e1 with e1 _; subst e1; subst e2
              have := pClass_len h1; simp [nestG]; omega
            · simp at h
          · split at h
            · split at h
              · rename_i h1; injection h with e1 e2; injection e1 with e1 _; subst e1; subst e2
                have := pEscape_len h1; simp [nestG]; omega
              · simp at h
            · split at h
              · injection h with e1 e2; injection e1 with e1 _; subst e1; subst e2; simp [nestG]
              · injection h with e1 e2; injection e1 with e1 _; subst e1; subst e2; simp [nestG]
end Go.Proofs.YtbjabpodkaokjaaDoor

namespace Go.Proofs.YtbjabpodkaokjaaDoor
open Go.RowKit

theorem isSg_eq (c : UInt8) : isSignB c.toNat = isSg c := by
  have H : ((List.range 256).all fun n => (fun c : UInt8 => isSignB c.toNat == isSg c) (UInt8.ofNat n)) = true := by kernel_rfl
  exact eq_of_beq (all256 (fun c : UInt8 => isSignB c.toNat == isSg c) H c)
theorem isSign_c (c : UInt8) (w : World) (hT : Tabs w) : Calls Tryd.prog 45 #[.int .u8 c.toNat] w fun e w' => e = .returned (.bool (isSg c)) ∧ w' = w := by
  rw [← isSg_eq]; exact isSign_any c.toNat w hT (by omega) (u8_le c)

set_option maxHeartbeats 400000 in
theorem beginsAtom_any (w : World) (b : Nat) (s : ByteArray) (r : List UInt8) (d x : Int) (h : St w b s r d x) :
    Calls Tryd.prog 39 #[.pointer (some ⟨b, 0, none⟩)] w fun e w' => e = .returned (.bool (begins r)) ∧ StTo w w' b s r d x := by
  match r, h with
  | [], h =>
    go_enter Tryd.func39, Tryd.ntmps39
    go_wp2_with (go_at_call 31; refine (peek_n _ b s d x h).mono ?_; rintro e w2 ⟨rfl, h2⟩)
    go_ret
    exact ⟨rfl, h2⟩
  | c :: t, h =>
    by_cases hc : c = 46 ∨ c = 92 ∨ c = 91 ∨ c = 40
    · have HB : Hid (begins (c :: t) = true) := by show _ = _; rcases hc with q | q | q | q <;> simp [begins, q]
      rcases hc with rfl | rfl | rfl | rfl
      all_goals
        go_enter Tryd.func39, Tryd.ntmps39
        go_wp2_with (go_at_call 31; refine (peek_c _ b s _ t d x h).mono ?_; rintro e w2 ⟨rfl, h2⟩)
        go_ret
        exact ⟨ret_bool HB.out.symm, h2⟩
    · have n1 : ((c.toNat : Int) == 46) = false := by simpa using u8_int (b := 46) (fun e => hc (.inl e))
      have n2 : ((c.toNat : Int) == 92) = false := by simpa using u8_int (b := 92) (fun e => hc (.inr (.inl e)))
      have n3 : ((c.toNat : Int) == 91) = false := by simpa using u8_int (b := 91) (fun e => hc (.inr (.inr (.inl e))))
      have n4 : ((c.toNat : Int) == 40) = false := by simpa using u8_int (b := 40) (fun e => hc (.inr (.inr (.inr e))))
      have hs := fun w hw => isSign_c c w hw
      obtain ⟨B, hB⟩ : ∃ B, B = isSg c := ⟨_, rfl⟩
      have HB : Hid (begins (c :: t) = !B) := by
        show _ = _
        rw [hB]
        simp only [not_or] at hc
        simp [begins, hc.1, hc.2.1, hc.2.2.1, hc.2.2.2]
      rw [← hB] at hs
      clear hB hc
      go_enter Tryd.func39, Tryd.ntmps39
      go_wp2_with (first | (go_at_call 45; refine (hs _ h2.1.tb).mono ?_; rintro e w3 ⟨rfl, hw⟩; obtain rfl := hw.symm) | (go_at_call 31; refine (peek_c _ b s _ t d x h).mono ?_; rintro e w2 ⟨rfl, h2⟩))
      go_ret
      exact ⟨ret_bool HB.out.symm, h2⟩

/-- The most groups that were open, when k more lay in one another. -/
def up (x d : Int) (k : Nat) : Int := max x (d + k)

/-- The reader opened, ahead of a look at the byte at hand. -/
theorem St.open2 {w : World} {b : Nat} {s : ByteArray} {c : UInt8} {t : List UInt8} {d x : Int} (h : St w b s (c :: t) d x) :
    ∃ (k : Nat) (hk : k < s.size), s.size ≤ 200 ∧ s[k] = c ∧ w.cell? ⟨b, 0, none⟩ = some (.string s) ∧ w.cell? ⟨b, 1, none⟩ = some (.int .i64 k) ∧ w.frozen? ⟨b, 1, none⟩ = false ∧ ∀ w0, Rd b w0 w → StTo w0 (w.setCell ⟨b, 1, none⟩ (.int .i64 (k + 1))) b s t d x := by
  obtain ⟨k, hr, hk, hs⟩ := h.rd
  obtain ⟨hk', e1, e2⟩ := suf_cons hs
  have := h.sz
  refine ⟨k, hk', h.sz, e1, hr.c0, hr.c1, hr.fz 1, fun w0 h0 => ?_⟩
  have := hr.step (k + 1)
  have g := h.of_rd (k := k + 1) (d' := d) (x' := x) (r' := t) ⟨by simpa using this, (Rd.refl b w).setCell 1 _⟩ hk' e2
  exact ⟨by simpa using g.1, h0.setCell _ _⟩

abbrev zero5 : Obj := .cells #[.slice none 0 0, .int .u64 0, .int .u64 0, .int .u64 0, .int .u64 0] 77
/-- Five cells of block b hold nothing yet. -/
structure Z5 (w : World) (b : Nat) : Prop where
  c0 : w.cell? ⟨b, 0, none⟩ = some (.slice none 0 0)
  c1 : w.cell? ⟨b, 1, none⟩ = some (.int .u64 0)
  c2 : w.cell? ⟨b, 2, none⟩ = some (.int .u64 0)
  c3 : w.cell? ⟨b, 3, none⟩ = some (.int .u64 0)
  c4 : w.cell? ⟨b, 4, none⟩ = some (.int .u64 0)
  fz : ∀ o, w.frozen? ⟨b, o, none⟩ = false
theorem Z5.of_heap {w w' : World} {b : Nat} (h : Z5 w b) (hb : w'.heap[b]? = w.heap[b]?) : Z5 w' b := by
  have hc : ∀ o, w'.cell? ⟨b, o, none⟩ = w.cell? ⟨b, o, none⟩ := fun o => by simp [World.cell?, hb]
  have hf : ∀ o, w'.frozen? ⟨b, o, none⟩ = w.frozen? ⟨b, o, none⟩ := fun o => by simp [World.frozen?, hb]
  exact ⟨(hc _).trans h.c0, (hc _).trans h.c1, (hc _).trans h.c2, (hc _).trans h.c3, (hc _).trans h.c4, fun o => (hf o).trans (h.fz o)⟩
theorem new5 (w : World) : Z5 (w.alloc zero5) w.heap.size := by
  refine ⟨?_, ?_, ?_, ?_, ?_, fun o => ?_⟩ <;> simp [go_sem]
theorem St.stepAt {w : World} {b : Nat} {s : ByteArray} {c : UInt8} {t : List UInt8} {d x : Int} (h : St w b s (c :: t) d x) (k : Nat) (hk : w.cell? ⟨b, 1, none⟩ = some (.int .i64 k)) : St (w.setCell ⟨b, 1, none⟩ (.int .i64 (k + 1))) b s t d x := by
  obtain ⟨k', _, k1, _, kk⟩ := h.open
  rw [k1] at hk
  injection hk with e; injection e with _ e
  have := (kk w (Rd.refl _ _)).1
  rw [e] at this; exact this
/-- The world in which an atom's byte has been stepped over. -/
abbrev atomW (w : World) (b k nq : Nat) : World := (((w.alloc zero5).drewN nq).setCell ⟨b, 1, none⟩ (.int .i64 (k + 1))).alloc zero5
structure AtomPre (w w1 : World) (b : Nat) (s : ByteArray) (t : List UInt8) (d x : Int) : Prop where
  st : St w1 b s t d x
  rd : Rd b w w1
  z1 : Z5 w1 w.heap.size
  z2 : Z5 w1 (w.heap.size + 1)
  sz : w1.heap.size = w.heap.size + 2
theorem atom_pre {w : World} {b : Nat} {s : ByteArray} {c : UInt8} {t : List UInt8} {d x : Int} (h : St w b s (c :: t) d x) (k : Nat) (hk : w.cell? ⟨b, 1, none⟩ = some (.int .i64 k)) (nq : Nat) : AtomPre w (atomW w b k nq) b s t d x := by
  have hne := h.ne
  have hlt := h.lt
  have h1 := ((h.alloc zero5).drewN nq).stepAt k (by rw [World.cell?_drewN, bl_alloc hlt]; exact hk)
  have hsz : ((((w.alloc zero5).drewN nq).setCell ⟨b, 1, none⟩ (.int .i64 (k + 1)))).heap.size = w.heap.size + 1 := by simp [World.setCell]
  refine ⟨h1.alloc _, ((((Rd.refl b w).alloc _).drewN _).setCell _ _).alloc _, ?_, ?_, by rw [World.size_alloc, hsz]⟩
  · refine (new5 w).of_heap ?_
    rw [Below.heap_alloc _ _ _ (by rw [hsz]; omega), Below.heap_setCell _ _ _ _ hne]
    rfl
  · have := new5 (((w.alloc zero5).drewN nq).setCell ⟨b, 1, none⟩ (.int .i64 (k + 1)))
    rw [hsz] at this; exact this

set_option maxHeartbeats 1000000 in
theorem atom_plain (w : World) (b : Nat) (s : ByteArray) (c : UInt8) (t : List UInt8) (d x : Int) (h : St w b s (c :: t) d x) (n1 : ((c.toNat : Int) == 40) = false) (n2 : ((c.toNat : Int) == 91) = false) (n3 : ((c.toNat : Int) == 92) = false) (n4 : ((c.toNat : Int) == 46) = false) :
    Calls Tryd.prog 46 #[.pointer (some ⟨b, 0, none⟩)] w fun e w' => (∃ x0 x1 x2 x3 : Nat, Wd x0 x1 x2 x3 (inSpan c.toNat c.toNat) ∧ e = .returned (.tuple #[.agg #[.slice none 0 0, .int .u64 x0, .int .u64 x1, .int .u64 x2, .int .u64 x3], .bool true])) ∧ StTo w w' b s t d x := by
  have hne := h.ne
  have hlt := h.lt
  obtain ⟨k, hk, hs2, hsk, k0, k1, kf, kk⟩ := h.open2
  have hpre := fun nq => atom_pre h k k1 nq
  have HP : Hid _ := hpre
  have hsk' : (s[k].toNat : Int) = c.toNat := by rw [hsk]
  clear hsk hpre kk
  go_enter Tryd.func46, Tryd.ntmps46
  go_wp2
  go_quiet (fail)
  go_wp2_with (go_at_call 58; refine (add_any (atomW w b k nq) (w.heap.size + 1) 1 c.toNat (fun _ => false) 0 0 0 0 c.toNat_lt ⟨wd0, (HP.out nq).z2.c1, (HP.out nq).z2.c2, (HP.out nq).z2.c3, (HP.out nq).z2.c4, (HP.out nq).z2.fz⟩).mono ?_; rintro e w2 ⟨rfl, ⟨y0, y1, y2, y3, hy⟩, hf2⟩; obtain ⟨hwy, p0, p1, p2, p3, pz⟩ := hy; have hsz := (HP.out nq).sz; have q0 := (hf2.cell 0 (by omega)).trans (HP.out nq).z2.c0; obtain ⟨z0, z1, z2, z3, z4, zf⟩ := (HP.out nq).z1.of_heap (w' := w2) (hf2.block w.heap.size (by rw [hsz]; omega) (by omega)))
  have g2 := (HP.out nq).st.four hf2 (by omega)
  have hr2 := (HP.out nq).rd.four hf2 (by omega)
  exact bodyPost_ret (v := .tuple #[.agg #[.slice none 0 0, .int .u64 y0, .int .u64 y1, .int .u64 y2, .int .u64 y3], .bool true]) (by simp [results, Tryd.results46, go_sem, z0, z1, z2, z3, z4]) rfl ⟨⟨y0, y1, y2, y3, hwy.congr (fun n => by simp [orS]), rfl⟩, (by (repeat first | (with_reducible refine St.setCell ?_ (by first | exact hlt | (simp; done) | (simp; omega)) _) | (with_reducible refine St.alloc ?_ _) | (with_reducible refine St.drew ?_) | (with_reducible refine St.drewN ?_ _)); exact g2), (by (repeat first | (with_reducible refine Rd.setNew ?_ (by first | exact Nat.le_refl _ | (simp; done) | (simp; omega)) _) | (with_reducible refine Rd.alloc ?_ _) | (with_reducible refine Rd.drew ?_) | (with_reducible refine Rd.drewN ?_ _)); exact hr2)⟩

set_option maxHeartbeats 1000000 in
theorem atom_dot (w : World) (b : Nat) (s : ByteArray) (c : UInt8) (t : List UInt8) (d x : Int) (h : St w b s (c :: t) d x) (hc : c = 46) :
    Calls Tryd.prog 46 #[.pointer (some ⟨b, 0, none⟩)] w fun e w' => (∃ x0 x1 x2 x3 : Nat, Wd x0 x1 x2 x3 (fun n => !inSpan 10 10 n) ∧ e = .returned (.tuple #[.agg #[.slice none 0 0, .int .u64 x0, .int .u64 x1, .int .u64 x2, .int .u64 x3], .bool true])) ∧ StTo w w' b s t d x := by
  subst hc
  have hne := h.ne
  have hlt := h.lt
  obtain ⟨k, hk, hs2, hsk, k0, k1, kf, kk⟩ := h.open2
  have hpre := fun nq => atom_pre h k k1 nq
  have HP : Hid _ := hpre
  have hsk' : (s[k].toNat : Int) = 46 := by rw [hsk]; rfl
  clear hsk hpre kk
  go_enter Tryd.func46, Tryd.ntmps46
  go_wp2
  go_quiet (fail)
  go_wp2_with (first | (go_at_call 59; refine (invert_any w2 (w.heap.size + 1) 1 (orS (fun _ => false) (inSpan 10 10)) ⟨y0, y1, y2, y3, hy⟩).mono ?_; rintro e w3 ⟨rfl, ⟨v0, v1, v2, v3, hv⟩, hf3⟩; obtain ⟨hwv, p0, p1, p2, p3, pz⟩ := hv; have q0 := (hf3.cell 0 (by omega)).trans q0'; have hsz3 := hf3.size; obtain ⟨z0, z1, z2, z3, z4, zf⟩ := Z5.of_heap (w' := w3) hz5 (hf3.block w.heap.size (by omega) (by omega))) | (go_at_call 58; refine (add_any (atomW w b k nq) (w.heap.size + 1) 1 10 (fun _ => false) 0 0 0 0 (by omega) ⟨wd0, (HP.out nq).z2.c1, (HP.out nq).z2.c2, (HP.out nq).z2.c3, (HP.out nq).z2.c4, (HP.out nq).z2.fz⟩).mono ?_; rintro e w2 ⟨rfl, ⟨y0, y1, y2, y3, hy⟩, hf2⟩; have hsz := (HP.out nq).sz; have hsz2 := hf2.size; have q0' := (hf2.cell 0 (by omega)).trans (HP.out nq).z2.c0; have hz5 := (HP.out nq).z1.of_heap (w' := w2) (hf2.block w.heap.size (by rw [hsz]; omega) (by omega))))
  have g3 := ((HP.out nq).st.four hf2 (by omega)).four hf3 (by omega)
  have hr3 := ((HP.out nq).rd.four hf2 (by omega)).four hf3 (by omega)
  exact bodyPost_ret (v := .tuple #[.agg #[.slice none 0 0, .int .u64 v0, .int .u64 v1, .int .u64 v2, .int .u64 v3], .bool true]) (by simp [results, Tryd.results46, go_sem, z0, z1, z2, z3, z4]) rfl ⟨⟨v0, v1, v2, v3, hwv.congr (fun n => by simp [orS]), rfl⟩, (by (repeat first | (with_reducible refine St.setCell ?_ (by first | exact hlt | (simp; done) | (simp; omega)) _) | (with_reducible refine St.alloc ?_ _) | (with_reducible refine St.drew ?_) | (with_reducible refine St.drewN ?_ _)); exact g3), (by (repeat first | (with_reducible refine Rd.setNew ?_ (by first | exact Nat.le_refl _ | (simp; done) | (simp; omega)) _) | (with_reducible refine Rd.alloc ?_ _) | (with_reducible refine Rd.drew ?_) | (with_reducible refine Rd.drewN ?_ _)); exact hr3)⟩

set_option maxHeartbeats 1000000 in
theorem atom_class (w : World) (b : Nat) (s : ByteArray) (c : UInt8) (t r' : List UInt8) (d x : Int) (h : St w b s (c :: t) d x) (hc : c = 91) (ok : Bool) (Q : Nat → Nat → Nat → Nat → Prop)
    (hcl : ∀ w, St w b s t d x → Calls Tryd.prog 56 #[.pointer (some ⟨b, 0, none⟩)] w fun e w' => (∃ x0 x1 x2 x3 : Nat, Q x0 x1 x2 x3 ∧ e = .returned (.tuple #[wv x0 x1 x2 x3, .bool ok])) ∧ StTo w w' b s r' d x) :
    Calls Tryd.prog 46 #[.pointer (some ⟨b, 0, none⟩)] w fun e w' => (∃ x0 x1 x2 x3 : Nat, Q x0 x1 x2 x3 ∧ e = .returned (.tuple #[.agg #[.slice none 0 0, .int .u64 x0, .int .u64 x1, .int .u64 x2, .int .u64 x3], .bool ok])) ∧ StTo w w' b s r' d x := by
  subst hc
  have hne := h.ne
  have hlt := h.lt
  obtain ⟨k, hk, hs2, hsk, k0, k1, kf, kk⟩ := h.open2
  have hpre := fun nq => atom_pre h k k1 nq
  have HP : Hid _ := hpre
  have hsk' : (s[k].toNat : Int) = 91 := by rw [hsk]; rfl
  clear hsk hpre kk
  go_enter Tryd.func46, Tryd.ntmps46
  go_wp2
  go_quiet (fail)
  go_wp2_with (go_at_call 56; refine (hcl (atomW w b k nq) (HP.out nq).st).mono ?_; rintro e w2 ⟨⟨x0, x1, x2, x3, hq, rfl⟩, g2, hr2⟩; have hsz := (HP.out nq).sz; have hsz2 := hr2.size; obtain ⟨a0, a1, a2, a3, a4, af⟩ := (HP.out nq).z2.of_heap (w' := w2) (hr2.block (w.heap.size + 1) (by rw [hsz]; omega) (by omega)); obtain ⟨z0, z1, z2, z3, z4, zf⟩ := (HP.out nq).z1.of_heap (w' := w2) (hr2.block w.heap.size (by rw [hsz]; omega) hne))
  have hr3 := (HP.out nq).rd.trans hr2
  exact bodyPost_ret (v := .tuple #[.agg #[.slice none 0 0, .int .u64 x0, .int .u64 x1, .int .u64 x2, .int .u64 x3], .bool ok]) (by simp [results, Tryd.results46, go_sem, z0, z1, z2, z3, z4, a0, a1, a2, a3, a4]) rfl ⟨⟨x0, x1, x2, x3, hq, rfl⟩, (by (repeat first | (with_reducible refine St.setCell ?_ (by first | exact hlt | (simp; done) | (simp; omega)) _) | (with_reducible refine St.alloc ?_ _) | (with_reducible refine St.drew ?_) | (with_reducible refine St.drewN ?_ _)); exact g2), (by (repeat first | (with_reducible refine Rd.setNew ?_ (by first | exact Nat.le_refl _ | (simp; done) | (simp; omega)) _) | (with_reducible refine Rd.alloc ?_ _) | (with_reducible refine Rd.drew ?_) | (with_reducible refine Rd.drewN ?_ _)); exact hr3)⟩

set_option maxHeartbeats 1000000 in
theorem atom_escape (w : World) (b : Nat) (s : ByteArray) (c : UInt8) (t r' : List UInt8) (d x : Int) (h : St w b s (c :: t) d x) (hc : c = 92) (ok : Bool) (Q : Nat → Nat → Nat → Nat → Prop)
    (hcl : ∀ w, St w b s t d x → Calls Tryd.prog 57 #[.pointer (some ⟨b, 0, none⟩)] w fun e w' => (∃ x0 x1 x2 x3 : Nat, Q x0 x1 x2 x3 ∧ e = .returned (.tuple #[wv x0 x1 x2 x3, .bool ok])) ∧ StTo w w' b s r' d x) :
    Calls Tryd.prog 46 #[.pointer (some ⟨b, 0, none⟩)] w fun e w' => (∃ x0 x1 x2 x3 : Nat, Q x0 x1 x2 x3 ∧ e = .returned (.tuple #[.agg #[.slice none 0 0, .int .u64 x0, .int .u64 x1, .int .u64 x2, .int .u64 x3], .bool ok])) ∧ StTo w w' b s r' d x := by
  subst hc
  have hne := h.ne
  have hlt := h.lt
  obtain ⟨k, hk, hs2, hsk, k0, k1, kf, kk⟩ := h.open2
  have hpre := fun nq => atom_pre h k k1 nq
  have HP : Hid _ := hpre
  have hsk' : (s[k].toNat : Int) = 92 := by rw [hsk]; rfl
  clear hsk hpre kk
  go_enter Tryd.func46, Tryd.ntmps46
  go_wp2
  go_quiet (fail)
  go_wp2_with (go_at_call 57; refine (hcl (atomW w b k nq) (HP.out nq).st).mono ?_; rintro e w2 ⟨⟨x0, x1, x2, x3, hq, rfl⟩, g2, hr2⟩; have hsz := (HP.out nq).sz; have hsz2 := hr2.size; obtain ⟨a0, a1, a2, a3, a4, af⟩ := (HP.out nq).z2.of_heap (w' := w2) (hr2.block (w.heap.size + 1) (by rw [hsz]; omega) (by omega)); obtain ⟨z0, z1, z2, z3, z4, zf⟩ := (HP.out nq).z1.of_heap (w' := w2) (hr2.block w.heap.size (by rw [hsz]; omega) hne))
  have hr3 := (HP.out nq).rd.trans hr2
  exact bodyPost_ret (v := .tuple #[.agg #[.slice none 0 0, .int .u64 x0, .int .u64 x1, .int .u64 x2, .int .u64 x3], .bool ok]) (by simp [results, Tryd.results46, go_sem, z0, z1, z2, z3, z4, a0, a1, a2, a3, a4]) rfl ⟨⟨x0, x1, x2, x3, hq, rfl⟩, (by (repeat first | (with_reducible refine St.setCell ?_ (by first | exact hlt | (simp; done) | (simp; omega)) _) | (with_reducible refine St.alloc ?_ _) | (with_reducible refine St.drew ?_) | (with_reducible refine St.drewN ?_ _)); exact g2), (by (repeat first | (with_reducible refine Rd.setNew ?_ (by first | exact Nat.le_refl _ | (simp; done) | (simp; omega)) _) | (with_reducible refine Rd.alloc ?_ _) | (with_reducible refine Rd.drew ?_) | (with_reducible refine Rd.drewN ?_ _)); exact hr3)⟩

set_option maxHeartbeats 1000000 in
theorem atom_group (w : World) (b : Nat) (s : ByteArray) (c : UInt8) (t r' : List UInt8) (d x : Int) (X : Int → Prop) (h : St w b s (c :: t) d x) (hc : c = 40) (ok : Bool) (Q : World → World → Value → Prop)
    (hcl : ∀ w, St w b s t d x → Calls Tryd.prog 55 #[.pointer (some ⟨b, 0, none⟩)] w fun e w' => ∃ x', X x' ∧ (∃ g0 n0 c0, Q w w' (.slice g0 n0 c0) ∧ e = .returned (.tuple #[.slice g0 n0 c0, .bool ok])) ∧ StTo w w' b s r' d x') :
    Calls Tryd.prog 46 #[.pointer (some ⟨b, 0, none⟩)] w fun e w' => ∃ x', X x' ∧ (∃ g0 n0 c0 w1 w2, Q w1 w2 (.slice g0 n0 c0) ∧ Rd b w w1 ∧ (∀ g, w.heap.size + 2 ≤ g → w'.heap[g]? = w2.heap[g]?) ∧ w1.heap.size = w.heap.size + 2 ∧ w'.heap.size = w2.heap.size ∧ e = .returned (.tuple #[.agg #[.slice g0 n0 c0, .int .u64 0, .int .u64 0, .int .u64 0, .int .u64 0], .bool ok])) ∧ StTo w w' b s r' d x' := by
  subst hc
  have hne := h.ne
  have hlt := h.lt
  obtain ⟨k, hk, hs2, hsk, k0, k1, kf, kk⟩ := h.open2
  have hpre := fun nq => atom_pre h k k1 nq
  have HP : Hid _ := hpre
  have hsk' : (s[k].toNat : Int) = 40 := by rw [hsk]; rfl
  clear hsk hpre kk
  go_enter Tryd.func46, Tryd.ntmps46
  go_wp2
  go_quiet (fail)
  go_wp2_with (go_at_call 55; refine (hcl (atomW w b k nq) (HP.out nq).st).mono ?_; rintro e w2 ⟨x', hX, ⟨g0, n0, c0, hq, rfl⟩, g2, hr2⟩; have hsz := (HP.out nq).sz; have hsz2 := hr2.size; obtain ⟨a0, a1, a2, a3, a4, af⟩ := (HP.out nq).z2.of_heap (w' := w2) (hr2.block (w.heap.size + 1) (by rw [hsz]; omega) (by omega)); obtain ⟨z0, z1, z2, z3, z4, zf⟩ := (HP.out nq).z1.of_heap (w' := w2) (hr2.block w.heap.size (by rw [hsz]; omega) hne))
  have hr3 := (HP.out nq).rd.trans hr2
  refine bodyPost_ret (v := .tuple #[.agg #[.slice g0 n0 c0, .int .u64 0, .int .u64 0, .int .u64 0, .int .u64 0], .bool ok]) (by simp [results, Tryd.results46, go_sem, z0, z1, z2, z3, z4, a0, a1, a2, a3, a4]) rfl ⟨x', hX, ⟨g0, n0, c0, _, w2, hq, (HP.out nq).rd, ?_, hsz, ?_, rfl⟩, (by (repeat first | (with_reducible refine St.setCell ?_ (by first | exact hlt | (simp; done) | (simp; omega)) _) | (with_reducible refine St.alloc ?_ _) | (with_reducible refine St.drew ?_) | (with_reducible refine St.drewN ?_ _)); exact g2), (by (repeat first | (with_reducible refine Rd.setNew ?_ (by first | exact Nat.le_refl _ | (simp; done) | (simp; omega)) _) | (with_reducible refine Rd.alloc ?_ _) | (with_reducible refine Rd.drew ?_) | (with_reducible refine Rd.drewN ?_ _)); exact hr3)⟩
  · intro g hg
    (repeat rw [Below.heap_setCell _ _ _ _ (by simp; omega)])
  · simp [World.setCell]
end Go.Proofs.YtbjabpodkaokjaaDoor
