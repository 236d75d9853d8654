import Derived.Test.YtbjabpodkaokjaaGreatDoorJ08
import Derived.Test.YtbjabpodkaokjaaGreatDoorJ15
set_option linter.unusedVariables false
set_option linter.unusedSimpArgs false
namespace Go.Proofs.YtbjabpodkaokjaaGreatDoor
open Sx (Prt Cnt)

/-- A piece of the expansion. -/
structure Pc where
  first : W4
  last : W4
  empty : Bool
/-- The expansion: of each spot its bytes, and the spots that may follow it. -/
structure Ex where
  bs : List (Nat → Bool)
  fs : List W4
abbrev Mk := Ex → Pc × Ex

/-- How often the part of a count stands in the expansion. -/
def cop (c : Cnt) : Nat := if c.sign ≠ 123 then 1 else if c.most = -1 then c.least.toNat + 1 else c.most.toNat
/-- The counts from behind. -/
def spN (n : Nat) : List Cnt → Nat
  | [] => n
  | c :: cs => spN n cs * cop c
mutual
def spP : Prt → Nat
  | .mk g _ cs => spN (match g with | [] => 1 | c :: gs => spC c + spCs gs) cs.reverse
def spC : List Prt → Nat
  | [] => 0
  | p :: ps => spP p + spC ps
def spCs : List (List Prt) → Nat
  | [] => 0
  | c :: cs => spC c + spCs cs
end
def spA (g : List (List Prt)) : Nat := match g with | [] => 1 | c :: gs => spC c + spCs gs

def pcN : Pc := ⟨W4.none, W4.none, true⟩
def pc0 : Pc := ⟨W4.none, W4.none, false⟩
def Pc.alt (a b : Pc) : Pc := ⟨a.first.or b.first, a.last.or b.last, a.empty || b.empty⟩
def Pc.join (a b : Pc) : Pc := ⟨if a.empty then a.first.or b.first else a.first, if b.empty then b.last.or a.last else b.last, a.empty && b.empty⟩
def Pc.may (a : Pc) : Pc := { a with empty := true }
def foM (fs : List W4) (l f : W4) : List W4 := l.all.foldl (fun fs i => fs.modify i (·.or f)) fs
def Ex.join (e : Ex) (a b : Pc) : Ex := { e with fs := foM e.fs a.last b.first }
def bit1 (n : Nat) : W4 := if n < 64 then ⟨2 ^ n, 0, 0, 0⟩ else if n < 128 then ⟨0, 2 ^ (n - 64), 0, 0⟩ else if n < 192 then ⟨0, 0, 2 ^ (n - 128), 0⟩ else ⟨0, 0, 0, 2 ^ (n - 192)⟩
def newM (S : Nat → Bool) : Mk := fun e => (⟨bit1 e.bs.length, bit1 e.bs.length, false⟩, ⟨e.bs ++ [S], e.fs ++ [W4.none]⟩)
def agM (f : Mk) : Mk := fun e => ((f e).1, (f e).2.join (f e).1 (f e).1)
def mayM (f : Mk) : Mk := fun e => ((f e).1.may, (f e).2)
def ontoM (f : Mk) (r : Pc) : Mk := fun e => ((f e).1.join r, (f e).2.join (f e).1 r)
def iterM (g : Pc → Mk) : Nat → Pc → Mk
  | 0, r, e => (r, e)
  | n + 1, r, e => iterM g n (g r e).1 (g r e).2
def braceM (f : Mk) (least most : Nat) (r : Pc) : Mk := fun e =>
  let x := iterM (fun r => mayM (ontoM f r)) (most - least) r e
  iterM (ontoM f) least x.1 x.2
def timesM (f : Mk) (c : Cnt) : Mk :=
  if c.sign = 42 then mayM (agM f) else if c.sign = 43 then agM f else if c.sign = 63 then mayM f else
  if c.most = -1 then fun e => braceM f c.least.toNat c.least.toNat (mayM (agM f) e).1 (mayM (agM f) e).2
  else braceM f c.least.toNat c.most.toNat pcN
/-- A part, its counts from behind. -/
def partM (a : Mk) (n : Nat) : List Cnt → Mk
  | [] => if n = 0 then fun e => (pcN, e) else a
  | c :: cs => if spN n (c :: cs) = 0 then fun e => (pcN, e) else timesM (partM a n cs) c
mutual
def exP : Prt → Mk
  | .mk g S cs => partM (match g with | [] => newM S | c :: gs => fun e => exCs gs (pc0.alt (exC c pcN e).1) (exC c pcN e).2) (spA g) cs.reverse
def exC : List Prt → Pc → Mk
  | [], a, e => (a, e)
  | p :: ps, a, e => exC ps (a.join (exP p e).1) ((exP p e).2.join a (exP p e).1)
def exCs : List (List Prt) → Pc → Mk
  | [], a, e => (a, e)
  | c :: cs, a, e => exCs cs (a.alt (exC c pcN e).1) (exC c pcN e).2
end
end Go.Proofs.YtbjabpodkaokjaaGreatDoor

namespace Go.Proofs.YtbjabpodkaokjaaGreatDoor
open Sx (Prt Cnt)
theorem low_le {x n : Nat} (h0 : x ≠ 0) (h : x < 18446744073709551616) (hx : x < 2 ^ n) : low x < n := by
  obtain ⟨m, h1, -⟩ := Lib.ctzFrom_spec 64 x (by omega) (by simpa using h)
  have h2 : low x = Lib.ctzFrom 64 x := by simp [low, Lib.ctz, h0]
  rw [← h2] at h1
  have h3 : 2 ^ low x ≤ x := by
    conv => rhs; rw [h1]
    exact Nat.le_mul_of_pos_right _ (by omega)
  exact (Nat.pow_lt_pow_iff_right (a := 2) (by omega)).1 (Nat.lt_of_le_of_lt h3 hx)
theorem onB_lt {n : Nat} : ∀ (x : Nat), x < 18446744073709551616 → x < 2 ^ n → ∀ i ∈ onB x, i < n := by
  intro x
  induction x using Nat.strongRecOn with
  | _ x ih =>
    intro h hx i hi
    by_cases h0 : x = 0
    · subst h0; rw [onB_zero] at hi; simp at hi
    · rw [onB_pos h0] at hi
      have hl := off1_lt h0
      rcases List.mem_cons.1 hi with rfl | hi
      · exact low_le h0 h hx
      · exact ih _ hl (by omega) (by omega) i hi

/-- A set of spots below n. -/
structure Sp (n : Nat) (s : W4) : Prop where
  b : s.x0 < 2 ^ n
  z1 : s.x1 = 0
  z2 : s.x2 = 0
  z3 : s.x3 = 0
theorem Sp.none (n : Nat) : Sp n W4.none := ⟨Nat.pow_pos (by omega), rfl, rfl, rfl⟩
theorem Sp.mono {n m : Nat} {s : W4} (h : Sp n s) (hm : n ≤ m) : Sp m s := ⟨Nat.lt_of_lt_of_le h.b (Nat.pow_le_pow_right (by omega) hm), h.z1, h.z2, h.z3⟩
theorem Sp.or {n : Nat} {s t : W4} (h : Sp n s) (g : Sp n t) : Sp n (s.or t) := ⟨Nat.or_lt_two_pow h.b g.b, by simp [W4.or, h.z1, g.z1], by simp [W4.or, h.z2, g.z2], by simp [W4.or, h.z3, g.z3]⟩
theorem Sp.and {n : Nat} {s : W4} (h : Sp n s) (t : W4) : Sp n (s.and t) := ⟨Nat.lt_of_le_of_lt Nat.and_le_left h.b, by simp [W4.and, h.z1], by simp [W4.and, h.z2], by simp [W4.and, h.z3]⟩
theorem Sp.bit {n : Nat} (hn : n < 64) : Sp (n + 1) (bit1 n) := by
  unfold bit1
  rw [if_pos hn]
  exact ⟨Nat.pow_lt_pow_right (by omega) (by omega), rfl, rfl, rfl⟩
theorem Sp.ok {n : Nat} {s : W4} (h : Sp n s) (hn : n ≤ 64) : s.ok :=
  ⟨Nat.lt_of_lt_of_le h.b (Nat.le_trans (Nat.pow_le_pow_right (by omega) hn) (by decide)), by rw [h.z1]; omega, by rw [h.z2]; omega, by rw [h.z3]; omega⟩
theorem Sp.lt {n : Nat} {s : W4} (h : Sp n s) (hn : n ≤ 64) : ∀ i ∈ s.all, i < n := by
  intro i hi
  have ho := (h.ok hn).l0
  simp only [W4.all, h.z1, h.z2, h.z3, onB_zero, List.map_nil, List.append_nil] at hi
  exact onB_lt _ ho h.b i hi

structure Pcs (n : Nat) (p : Pc) : Prop where
  f : Sp n p.first
  l : Sp n p.last
structure ExOk (n : Nat) (e : Ex) : Prop where
  b : e.bs.length = n
  f : e.fs.length = n
  s : ∀ x ∈ e.fs, Sp n x
theorem Pcs.mono {n m : Nat} {p : Pc} (h : Pcs n p) (hm : n ≤ m) : Pcs m p := ⟨h.f.mono hm, h.l.mono hm⟩
theorem Pcs.n (n : Nat) : Pcs n pcN := ⟨Sp.none n, Sp.none n⟩
theorem Pcs.zero (n : Nat) : Pcs n pc0 := ⟨Sp.none n, Sp.none n⟩
theorem Pcs.alt {n : Nat} {a b : Pc} (h : Pcs n a) (g : Pcs n b) : Pcs n (a.alt b) := ⟨h.f.or g.f, h.l.or g.l⟩
theorem Pcs.join {n : Nat} {a b : Pc} (h : Pcs n a) (g : Pcs n b) : Pcs n (a.join b) := by
  unfold Pc.join
  refine ⟨?_, ?_⟩
  · show Sp n (if a.empty then a.first.or b.first else a.first)
    split
    · exact h.f.or g.f
    · exact h.f
  · show Sp n (if b.empty then b.last.or a.last else b.last)
    split
    · exact g.l.or h.l
    · exact g.l
theorem Pcs.may {n : Nat} {a : Pc} (h : Pcs n a) : Pcs n a.may := ⟨h.f, h.l⟩
theorem foM_len (fs : List W4) (l f : W4) : (foM fs l f).length = fs.length := by
  unfold foM
  induction l.all generalizing fs with
  | nil => rfl
  | cons i is ih => simp only [List.foldl_cons]; rw [ih]; simp
theorem mem_modify {α : Type} {g : α → α} : ∀ {l : List α} {i : Nat} {x : α}, x ∈ l.modify i g → x ∈ l ∨ ∃ y ∈ l, x = g y
  | [], i, x, h => by simp at h
  | a :: l, 0, x, h => by
    simp [List.modify_cons] at h
    rcases h with h | h
    · exact .inr ⟨a, by simp, h⟩
    · exact .inl (by simp [h])
  | a :: l, i + 1, x, h => by
    simp at h
    rcases h with h | h
    · exact .inl (by simp [h])
    · rcases mem_modify h with h | ⟨y, hy, h⟩
      · exact .inl (by simp [h])
      · exact .inr ⟨y, by simp [hy], h⟩
theorem foM_sp {n : Nat} {fs : List W4} (l : W4) {f : W4} (h : ∀ x ∈ fs, Sp n x) (hf : Sp n f) : ∀ x ∈ foM fs l f, Sp n x := by
  unfold foM
  induction l.all generalizing fs with
  | nil => exact h
  | cons i is ih =>
    simp only [List.foldl_cons]
    refine ih (fun x hx => ?_)
    rcases mem_modify hx with hx | ⟨y, hy, rfl⟩
    · exact h x hx
    · exact (h y hy).or hf
theorem ExOk.join {n : Nat} {e : Ex} {a b : Pc} (h : ExOk n e) (g : Pcs n b) : ExOk n (e.join a b) := ⟨h.b, (foM_len _ _ _).trans h.f, foM_sp _ h.s g.f⟩

/-- It makes k spots. -/
def MkOk (f : Mk) (k : Nat) : Prop := ∀ n e, n + k ≤ 64 → ExOk n e → ExOk (n + k) (f e).2 ∧ Pcs (n + k) (f e).1
theorem newM_ok (S : Nat → Bool) : MkOk (newM S) 1 := fun n e hn h => by
  unfold newM
  have hb := h.b
  refine ⟨⟨by simp [hb], by simp [h.f], fun x hx => ?_⟩, ?_, ?_⟩
  · simp at hx
    rcases hx with hx | rfl
    · exact (h.s x hx).mono (by omega)
    · exact Sp.none _
  · simp only [hb]; exact Sp.bit (by omega)
  · simp only [hb]; exact Sp.bit (by omega)
theorem agM_ok {f : Mk} {k : Nat} (h : MkOk f k) : MkOk (agM f) k := fun n e hn he => by
  obtain ⟨h1, h2⟩ := h n e hn he
  exact ⟨h1.join h2, h2⟩
theorem mayM_ok {f : Mk} {k : Nat} (h : MkOk f k) : MkOk (mayM f) k := fun n e hn he => by
  obtain ⟨h1, h2⟩ := h n e hn he
  exact ⟨h1, h2.may⟩
theorem ontoM_ok {f : Mk} {k : Nat} (h : MkOk f k) {r : Pc} {n : Nat} {e : Ex} (hn : n + k ≤ 64) (he : ExOk n e) (hr : Pcs n r) : ExOk (n + k) (ontoM f r e).2 ∧ Pcs (n + k) (ontoM f r e).1 := by
  obtain ⟨h1, h2⟩ := h n e hn he
  exact ⟨h1.join (hr.mono (by omega)), h2.join (hr.mono (by omega))⟩
theorem iterM_ok {g : Pc → Mk} {k : Nat} (h : ∀ n e r, n + k ≤ 64 → ExOk n e → Pcs n r → ExOk (n + k) (g r e).2 ∧ Pcs (n + k) (g r e).1) : ∀ (m n : Nat) (e : Ex) (r : Pc), n + k * m ≤ 64 → ExOk n e → Pcs n r → ExOk (n + k * m) (iterM g m r e).2 ∧ Pcs (n + k * m) (iterM g m r e).1
  | 0, n, e, r, _, he, hr => ⟨he, hr⟩
  | m + 1, n, e, r, hn, he, hr => by
    rw [Nat.mul_succ] at hn ⊢
    obtain ⟨h1, h2⟩ := h n e r (by omega) he hr
    have := iterM_ok h m (n + k) (g r e).2 (g r e).1 (by omega) h1 h2
    simp only [iterM]
    rw [show n + (k * m + k) = n + k + k * m by omega]
    exact this
theorem braceM_ok {f : Mk} {k : Nat} (h : MkOk f k) {a b n : Nat} {e : Ex} {r : Pc} (hab : a ≤ b) (hn : n + k * b ≤ 64) (he : ExOk n e) (hr : Pcs n r) : ExOk (n + k * b) (braceM f a b r e).2 ∧ Pcs (n + k * b) (braceM f a b r e).1 := by
  have hkb : k * b = k * (b - a) + k * a := by rw [← Nat.mul_add]; congr 1; omega
  rw [hkb] at hn ⊢
  obtain ⟨h1, h2⟩ := iterM_ok (g := fun r => mayM (ontoM f r)) (k := k) (fun n e r hn he hr => ⟨(ontoM_ok h hn he hr).1, (ontoM_ok h hn he hr).2.may⟩) (b - a) n e r (by omega) he hr
  have := iterM_ok (g := ontoM f) (k := k) (fun n e r hn he hr => ontoM_ok h hn he hr) a (n + k * (b - a)) _ _ (by omega) h1 h2
  unfold braceM
  rw [← Nat.add_assoc]
  exact this
/-- A count as it is read. -/
def CntOk (c : Cnt) : Prop := c.sign = 42 ∨ c.sign = 43 ∨ c.sign = 63 ∨ (c.sign = 123 ∧ 0 ≤ c.least ∧ c.least ≤ 30 ∧ (c.most = -1 ∨ (c.least ≤ c.most ∧ c.most ≤ 30)))
theorem timesM_ok {f : Mk} {k : Nat} {c : Cnt} (h : MkOk f k) (hc : CntOk c) : MkOk (timesM f c) (k * cop c) := fun n e hn he => by
  unfold timesM
  rcases hc with hs | hs | hs | ⟨hs, h0, h3, h1⟩
  · have : cop c = 1 := by simp [cop, hs]
    rw [this, Nat.mul_one] at hn ⊢
    rw [if_pos hs]; exact mayM_ok (agM_ok h) n e hn he
  · have : cop c = 1 := by simp [cop, hs]
    rw [this, Nat.mul_one] at hn ⊢
    rw [if_neg (by rw [hs]; decide), if_pos hs]; exact agM_ok h n e hn he
  · have : cop c = 1 := by simp [cop, hs]
    rw [this, Nat.mul_one] at hn ⊢
    rw [if_neg (by rw [hs]; decide), if_neg (by rw [hs]; decide), if_pos hs]; exact mayM_ok h n e hn he
  · rw [if_neg (by rw [hs]; decide), if_neg (by rw [hs]; decide), if_neg (by rw [hs]; decide)]
    rcases h1 with h1 | h1
    · have : cop c = c.least.toNat + 1 := by simp [cop, hs, h1]
      rw [this, Nat.mul_succ] at hn ⊢
      rw [if_pos h1]
      obtain ⟨g1, g2⟩ := mayM_ok (agM_ok h) n e (by omega) he
      have := braceM_ok h (Nat.le_refl c.least.toNat) (n := n + k) (by omega) g1 g2
      rw [show n + (k * c.least.toNat + k) = n + k + k * c.least.toNat by omega]
      exact this
    · have hm : ¬ c.most = -1 := by omega
      have : cop c = c.most.toNat := by simp [cop, hs, hm]
      rw [this] at hn ⊢
      rw [if_neg hm]
      exact braceM_ok h (by omega) hn he (Pcs.n _)
theorem partM_ok {a : Mk} {k : Nat} (h : MkOk a k) : ∀ {cs : List Cnt}, (∀ c ∈ cs, CntOk c) → MkOk (partM a k cs) (spN k cs)
  | [], _ => fun n e hn he => by
    simp only [partM, spN] at hn ⊢
    split
    · rename_i h0; subst h0; exact ⟨he, Pcs.n _⟩
    · exact h n e hn he
  | c :: cs, hc => fun n e hn he => by
    simp only [partM]
    split
    · rename_i h0; rw [h0]; exact ⟨he, Pcs.n _⟩
    · exact timesM_ok (partM_ok h (fun c hc' => hc c (by simp [hc']))) (hc c (by simp)) n e hn he
mutual
def TrOk : Prt → Prop
  | .mk g _ cs => (∀ c ∈ cs, CntOk c) ∧ TrOkVs g
def TrOkC : List Prt → Prop
  | [] => True
  | p :: ps => TrOk p ∧ TrOkC ps
def TrOkVs : List (List Prt) → Prop
  | [] => True
  | c :: cs => TrOkC c ∧ TrOkVs cs
end
theorem exP_eq (g : List (List Prt)) (S : Nat → Bool) (cs : List Cnt) : exP (.mk g S cs) = partM (match g with | [] => newM S | _ :: _ => exCs g pc0) (spA g) cs.reverse := by
  cases g with
  | nil => simp [exP]
  | cons c gs => simp only [exP]; congr 1
theorem spA_cons (c : List Prt) (gs : List (List Prt)) : spA (c :: gs) = spCs (c :: gs) := by simp [spA, spCs]
theorem spP_eq (g : List (List Prt)) (S : Nat → Bool) (cs : List Cnt) : spP (.mk g S cs) = spN (spA g) cs.reverse := by
  cases g <;> simp [spP, spA]
mutual
theorem exP_ok : ∀ (p : Prt), TrOk p → MkOk (exP p) (spP p)
  | .mk g S cs, h => by
    simp only [TrOk] at h
    rw [spP_eq, exP_eq]
    refine partM_ok ?_ (fun c hc => h.1 c (by simpa using hc))
    match g, h with
    | [], h => exact newM_ok S
    | c :: gs, h =>
      rw [spA_cons]
      exact fun n e hn he => exCs_ok (c :: gs) h.2 n e pc0 hn he (Pcs.zero n)
theorem exC_ok : ∀ (ps : List Prt), TrOkC ps → ∀ n e a, n + spC ps ≤ 64 → ExOk n e → Pcs n a → ExOk (n + spC ps) (exC ps a e).2 ∧ Pcs (n + spC ps) (exC ps a e).1
  | [], _, n, e, a, _, he, ha => by simpa [exC, spC] using ⟨he, ha⟩
  | p :: ps, h, n, e, a, hn, he, ha => by
    simp only [TrOkC] at h
    simp only [spC] at hn ⊢
    obtain ⟨h1, h2⟩ := exP_ok p h.1 n e (by omega) he
    have ha' := ha.mono (show n ≤ n + spP p by omega)
    have := exC_ok ps h.2 (n + spP p) ((exP p e).2.join a (exP p e).1) (a.join (exP p e).1) (by omega) (h1.join h2) (ha'.join h2)
    simp only [exC]
    rw [← Nat.add_assoc]
    exact this
theorem exCs_ok : ∀ (cs : List (List Prt)), TrOkVs cs → ∀ n e a, n + spCs cs ≤ 64 → ExOk n e → Pcs n a → ExOk (n + spCs cs) (exCs cs a e).2 ∧ Pcs (n + spCs cs) (exCs cs a e).1
  | [], _, n, e, a, _, he, ha => by simpa [exCs, spCs] using ⟨he, ha⟩
  | c :: cs, h, n, e, a, hn, he, ha => by
    simp only [TrOkVs] at h
    simp only [spCs] at hn ⊢
    obtain ⟨h1, h2⟩ := exC_ok c h.1 n e pcN (by omega) he (Pcs.n n)
    have := exCs_ok cs h.2 (n + spC c) (exC c pcN e).2 (a.alt (exC c pcN e).1) (by omega) h1 ((ha.mono (by omega)).alt h2)
    simp only [exCs]
    rw [← Nat.add_assoc]
    exact this
end
end Go.Proofs.YtbjabpodkaokjaaGreatDoor

namespace Go.Proofs.YtbjabpodkaokjaaGreatDoor
open Sx (Prt Cnt)
theorem begins_le' {v l : Int} (h : Sx.beginsNum v l = true) : v ≤ 30 := by
  unfold Sx.beginsNum at h
  split at h
  · simp at h
  · omega
theorem pDigits_ok {l v : Int} {b : Bool} {z : Int} {r r' : List UInt8} (hv : 0 ≤ v ∧ v ≤ 30) (h : Sx.pDigits l v b r = .ok z r') : 0 ≤ z ∧ z ≤ 30 ∧ l ≤ z := by
  induction r generalizing v b with
  | nil =>
    simp only [Sx.pDigits] at h; split at h
    · rename_i hc; injection h with e _; subst e; exact ⟨hv.1, hv.2, hc.2⟩
    · simp at h
  | cons c t ih =>
    simp only [Sx.pDigits] at h
    split at h
    · rename_i hc
      exact ih ⟨by omega, begins_le' hc.2.2.2⟩ h
    · split at h
      · rename_i hc; injection h with e _; subst e; exact ⟨hv.1, hv.2, hc.2⟩
      · simp at h
theorem pBounds_ok {a b : Int} {r r' : List UInt8} (h : Sx.pBounds r = .ok (a, b) r') : 0 ≤ a ∧ a ≤ 30 ∧ (b = -1 ∨ (a ≤ b ∧ b ≤ 30)) := by
  simp only [Sx.pBounds] at h
  split at h
  · simp at h
  · rename_i h1
    have := pDigits_ok ⟨by omega, by omega⟩ h1
    split at h
    · injection h with e _; injection e with e1 e2; omega
    · split at h
      · simp at h
      · rename_i h2
        have := pDigits_ok ⟨by omega, by omega⟩ h2
        split at h
        · injection h with e _; injection e with e1 e2; omega
        · simp at h
    · injection h with e _; injection e with e1 e2; omega
    · simp at h
theorem pCounts_ok {n : Nat} {cs : List Cnt} {r r' : List UInt8} (h : Sx.pCounts n r = .ok cs r') : ∀ c ∈ cs, CntOk c := by
  induction n generalizing r cs with
  | zero => simp [Sx.pCounts] at h
  | succ n ih =>
    simp only [Sx.pCounts] at h
    split at h
    · split at h
      · rename_i hc
        split at h
        · rename_i h1; injection h with e1 e; subst e; subst e1
          intro c hm
          rcases List.mem_cons.1 hm with rfl | hm
          · rcases hc with rfl | rfl | rfl
            · exact .inl rfl
            · exact .inr (.inl rfl)
            · exact .inr (.inr (.inl rfl))
          · exact ih h1 c hm
        · simp at h
      · split at h
        · rename_i hc
          split at h
          · simp at h
          · rename_i h1
            have hb := pBounds_ok h1
            split at h
            · rename_i h2; injection h with e1 e; subst e; subst e1
              intro c hm
              rcases List.mem_cons.1 hm with rfl | hm
              · exact .inr (.inr (.inr ⟨hc, hb⟩))
              · exact ih h2 c hm
            · simp at h
        · injection h with e1 e; subst e; subst e1; simp
    · injection h with e1 e; subst e; subst e1; simp
theorem pTr (n : Nat) :
    (∀ r cs r', Sx.pChoices n r = .ok cs r' → TrOkVs cs) ∧
    (∀ r ps r', Sx.pChain n r = .ok ps r' → TrOkC ps) ∧
    (∀ r p r', Sx.pPart n r = .ok p r' → TrOk p) ∧
    (∀ r g B r', Sx.pAtom n r = .ok (g, B) r' → TrOkVs g) := by
  induction n with
  | zero => exact ⟨fun r cs r' h => by simp [Sx.pChoices] at h, fun r cs r' h => by simp [Sx.pChain] at h, fun r cs r' h => by simp [Sx.pPart] at h, fun r g B r' h => by simp [Sx.pAtom] at h⟩
  | succ n ih =>
    obtain ⟨i1, i2, i3, i4⟩ := ih
    refine ⟨fun r cs r' h => ?_, fun r ps r' h => ?_, fun r p r' h => ?_, fun r g B r' h => ?_⟩
    · simp only [Sx.pChoices] at h
      split at h
      · simp at h
      · rename_i c r1 h1
        have l1 := i2 _ _ _ h1
        split at h
        · split at h
          · rename_i h2
            injection h with e1 e2; subst e1; subst e2
            simp only [TrOkVs]; exact ⟨l1, i1 _ _ _ h2⟩
          · simp at h
        · injection h with e1 e2; subst e1; subst e2
          simp only [TrOkVs]; exact ⟨l1, trivial⟩
    · simp only [Sx.pChain] at h
      split at h
      · split at h
        · simp at h
        · rename_i h1
          have l1 := i3 _ _ _ h1
          split at h
          · rename_i h2
            injection h with e1 e2; subst e1; subst e2
            simp only [TrOkC]; exact ⟨l1, i2 _ _ _ h2⟩
          · simp at h
      · injection h with e1 e2; subst e1; subst e2; simp only [TrOkC]
    · simp only [Sx.pPart] at h
      split at h
      · simp at h
      · rename_i g S r1 h1
        have l1 := i4 _ _ _ _ h1
        split at h
        · rename_i h2
          injection h with e1 e2; subst e1; subst e2
          simp only [TrOk]; exact ⟨pCounts_ok h2, l1⟩
        · simp at h
    · simp only [Sx.pAtom] at h
      split at h
      · simp at h
      · split at h
        · split at h
          · simp at h
          · rename_i h1
            have l1 := i1 _ _ _ h1
            split at h
            · injection h with e1 e2; injection e1 with e3 e4; subst e3; exact l1
            · simp at h
        · split at h
          · split at h
            · injection h with e1 e2; injection e1 with e3 e4; subst e3; simp only [TrOkVs]
            · simp at h
          · split at h
            · split at h
              · injection h with e1 e2; injection e1 with e3 e4; subst e3; simp only [TrOkVs]
              · simp at h
            · split at h
              · injection h with e1 e2; injection e1 with e3 e4; subst e3; simp only [TrOkVs]
              · injection h with e1 e2; injection e1 with e3 e4; subst e3; simp only [TrOkVs]
end Go.Proofs.YtbjabpodkaokjaaGreatDoor

namespace Go.Proofs.YtbjabpodkaokjaaGreatDoor
open Sx (Prt Cnt)
/-- What is met behind xs. -/
def metL {α : Type} [DecidableEq α] (m : List α) (xs : List α) : List α := xs.foldl pushM m
section
variable {α : Type} [DecidableEq α]
theorem metL_nil (m : List α) : metL m [] = m := rfl
theorem metL_cons (m : List α) (x : α) (xs : List α) : metL m (x :: xs) = metL (pushM m x) xs := rfl
theorem metL_append (m xs ys : List α) : metL m (xs ++ ys) = metL (metL m xs) ys := by simp [metL]
theorem mem_pushM {l : List α} {x y : α} : y ∈ pushM l x ↔ y ∈ l ∨ y = x := by
  unfold pushM
  split
  · rename_i h; exact ⟨.inl, fun q => q.elim id (fun e => e ▸ h)⟩
  · simp
theorem mem_metL {m xs : List α} {y : α} : y ∈ metL m xs ↔ y ∈ m ∨ y ∈ xs := by
  induction xs generalizing m with
  | nil => simp [metL]
  | cons x xs ih => rw [metL_cons, ih, mem_pushM]; simp [or_assoc]
theorem metL_nodup {m : List α} (h : m.Nodup) (xs : List α) : (metL m xs).Nodup := by
  induction xs generalizing m with
  | nil => exact h
  | cons x xs ih => exact ih (pushM_nodup h x)
theorem pushM_pre (l : List α) (x : α) : l <+: pushM l x := by
  unfold pushM
  split
  · exact List.prefix_refl _
  · exact List.prefix_append _ _
theorem metL_pre (m xs : List α) : m <+: metL m xs := by
  induction xs generalizing m with
  | nil => exact List.prefix_refl _
  | cons x xs ih => exact (pushM_pre m x).trans (ih _)
theorem idx_pre {m m' : List α} (h : m <+: m') {x : α} (hx : x ∈ m) : m'.idxOf x = m.idxOf x := by
  obtain ⟨r, rfl⟩ := h
  simp [List.idxOf_append, hx]
theorem pushM_len (l : List α) (x : α) : (pushM l x).length ≤ l.length + 1 := by
  unfold pushM
  split <;> simp
theorem metL_len (m xs : List α) : (metL m xs).length ≤ m.length + xs.length := by
  induction xs generalizing m with
  | nil => simp [metL]
  | cons x xs ih => rw [metL_cons]; have := ih (pushM m x); have := pushM_len m x; simp; omega
theorem metL_len_ge (m xs : List α) : m.length ≤ (metL m xs).length := (metL_pre m xs).length_le
theorem idx_metL_lt {m xs : List α} {x : α} (h : x ∈ xs) : (metL m xs).idxOf x < (metL m xs).length := List.idxOf_lt_length_of_mem (mem_metL.2 (.inr h))
theorem idx_push (m xs : List α) (x : α) : (metL m (x :: xs)).idxOf x = (pushM m x).idxOf x := idx_pre (metL_pre _ _) (mem_pushM.2 (.inr rfl))
/-- The numbers of xs are known as soon as they are met. -/
theorem idx_take {m xs : List α} (k : Nat) {x : α} (hx : x ∈ xs.take k) : (metL m xs).idxOf x = (metL m (xs.take k)).idxOf x := by
  conv => lhs; rw [← List.take_append_drop k xs, metL_append]
  exact idx_pre (metL_pre _ _) (mem_metL.2 (.inr hx))
theorem take_map_idx (m xs : List α) (k : Nat) : (xs.map (metL m xs).idxOf).take k = (xs.take k).map (metL m (xs.take k)).idxOf := by
  rw [← List.map_take]
  exact List.map_congr_left (fun x hx => idx_take k hx)
theorem metL_take_succ (m : List α) {xs : List α} {k : Nat} (h : k < xs.length) : metL m (xs.take (k + 1)) = pushM (metL m (xs.take k)) xs[k] := by
  rw [List.take_succ_eq_append_getElem h, metL_append]; rfl
theorem idx_at (m : List α) {xs : List α} {k : Nat} (h : k < xs.length) : (metL m xs).idxOf xs[k] = (pushM (metL m (xs.take k)) xs[k]).idxOf xs[k] := by
  rw [← metL_take_succ m h]
  refine idx_take (k + 1) ?_
  rw [List.take_succ_eq_append_getElem h]
  exact List.mem_append_right _ (List.mem_singleton.2 rfl)
/-- A thing is new if its number is how many were met. -/
theorem idx_new {m : List α} {x : α} : (pushM m x).idxOf x = m.length ↔ x ∉ m := by
  constructor
  · intro h hx
    have := List.idxOf_lt_length_of_mem hx
    rw [pushM, if_pos hx] at h
    omega
  · intro hx
    rw [pushM, if_neg hx]; simp [List.idxOf_append, hx]
theorem pushM_get {m : List α} {x : α} : (pushM m x)[(pushM m x).idxOf x]? = some x := by
  have h := List.idxOf_lt_length_of_mem (mem_pushM.2 (.inr rfl) : x ∈ pushM m x)
  rw [List.getElem?_eq_getElem h, List.getElem_idxOf h]
end

def stOf (s : W4) (b : Bool) : Stt := ⟨s.x0, s.x1, s.x2, s.x3, b⟩
def Stt.w (s : Stt) : W4 := ⟨s.x0, s.x1, s.x2, s.x3⟩
theorem stOf_w (s : W4) (b : Bool) : (stOf s b).w = s := rfl
/-- The sets of the numbers, in one. -/
def orAll (fs : List W4) (is : List Nat) (a : W4) : W4 := is.foldl (fun a i => a.or (fs.getD i W4.none)) a
/-- What a search goes by. -/
structure Sr where
  fs : List W4
  whole : Pc
  front : Bool
def stepM (s : Sr) (q : Stt) (rd : W4) : Stt :=
  if s.front then stOf (orAll s.fs (q.w.and rd).all W4.none) (!((q.w.and rd).and s.whole.last).isE)
  else stOf ((orAll s.fs (q.w.and rd).all W4.none).or s.whole.first) (!((q.w.and rd).and s.whole.last).isE || s.whole.empty)
/-- The spots that stand for a byte, from spot i on. -/
def rdM (b : Nat) : List (Nat → Bool) → Nat → W4 → W4
  | [], _, a => a
  | S :: bs, i, a => rdM b bs (i + 1) (if S b then a.or (bit1 i) else a)
def rdsM (bs : List (Nat → Bool)) : List W4 := (List.range 256).map fun b => rdM b bs 0 W4.none
/-- The states, as they are met: none, if there are more than the limit. -/
def stsM {α β : Type} [DecidableEq α] (step : α → β → α) (rs : List β) (limit : Nat) : Nat → List α → Nat → List (List Nat) → Option (List α × List (List Nat))
  | 0, _, _, _ => none
  | f + 1, met, tk, rows => match met[tk]? with
    | none => some (met, rows)
    | some q => if limit < (metL met (rs.map (step q))).length then none else stsM step rs limit f (metL met (rs.map (step q))) (tk + 1) (rows ++ [(rs.map (step q)).map (metL met (rs.map (step q))).idxOf])
/-- A table that begins with state 0. -/
structure Tn where
  front : Bool
  back : Bool
  cls : List Nat
  acc : List Bool
  next : List (List Nat)
/-- It has n states and k classes. -/
structure TnOk (n k : Nat) (t : Tn) : Prop where
  n1 : 1 ≤ n
  cl : t.cls.length = 256
  ck : ∀ c ∈ t.cls, c < k
  al : t.acc.length = n
  nl : t.next.length = n
  r : ∀ r ∈ t.next, r.length = k ∧ ∀ x ∈ r, x < n
structure StsInv (k : Nat) {α : Type} (met : List α) (tk : Nat) (rows : List (List Nat)) : Prop where
  l : rows.length = tk
  t : tk ≤ met.length
  r : ∀ r ∈ rows, r.length = k ∧ ∀ x ∈ r, x < met.length
theorem stsM_ok {α β : Type} [DecidableEq α] {step : α → β → α} {rs : List β} {limit : Nat} : ∀ {f : Nat} {met : List α} {tk : Nat} {rows : List (List Nat)} {met' : List α} {rows' : List (List Nat)}, met.length ≤ limit → StsInv rs.length met tk rows → stsM step rs limit f met tk rows = some (met', rows') → met'.length ≤ limit ∧ rows'.length = met'.length ∧ StsInv rs.length met' met'.length rows' ∧ met <+: met'
  | 0, met, tk, rows, met', rows', _, h, e => by simp [stsM] at e
  | f + 1, met, tk, rows, met', rows', hm, h, e => by
    simp only [stsM] at e
    split at e
    · rename_i hn
      simp at e
      obtain ⟨rfl, rfl⟩ := e
      have h1 := List.getElem?_eq_none_iff.1 hn
      have h2 := h.t
      have h3 := h.l
      have : tk = met.length := by omega
      subst this
      exact ⟨hm, h.l, h, List.prefix_refl _⟩
    · rename_i q hq
      split at e
      · simp at e
      · rename_i hl
        have hp := metL_pre met (rs.map (step q))
        have hpl := hp.length_le
        have htk := (List.getElem?_eq_some_iff.1 hq).1
        have := stsM_ok (by omega) (tk := tk + 1) ⟨by simp [h.l], by omega, fun r hr => ?_⟩ e
        · exact ⟨this.1, this.2.1, this.2.2.1, hp.trans this.2.2.2⟩
        · simp at hr
          rcases hr with hr | rfl
          · exact ⟨(h.r r hr).1, fun x hx => Nat.lt_of_lt_of_le ((h.r r hr).2 x hx) hpl⟩
          · refine ⟨by simp, fun x hx => ?_⟩
            simp only [List.mem_map] at hx
            obtain ⟨y, hy, rfl⟩ := hx
            exact idx_metL_lt (List.mem_map.2 ⟨y, hy, rfl⟩)
/-- A greater limit changes nothing. -/
theorem stsM_more {α β : Type} [DecidableEq α] {step : α → β → α} {rs : List β} {l k : Nat} (hlk : l ≤ k) : ∀ {f : Nat} {met : List α} {tk : Nat} {rows : List (List Nat)} {x : List α × List (List Nat)}, stsM step rs l f met tk rows = some x → stsM step rs k f met tk rows = some x
  | 0, met, tk, rows, x, e => by simp [stsM] at e
  | f + 1, met, tk, rows, x, e => by
    simp only [stsM] at e ⊢
    split at e
    · exact e
    · split at e
      · simp at e
      · rename_i hl
        rw [if_neg (by omega)]
        exact stsM_more hlk e
def searchM (p : Sx.Ptn) (limit : Nat) : Option Tn :=
  if 64 < spCs p.choices then none else
  match stsM (stepM ⟨(exCs p.choices pc0 ⟨[], []⟩).2.fs, (exCs p.choices pc0 ⟨[], []⟩).1, p.front⟩) (metL [] (rdsM (exCs p.choices pc0 ⟨[], []⟩).2.bs)) limit 202 [stOf (exCs p.choices pc0 ⟨[], []⟩).1.first (exCs p.choices pc0 ⟨[], []⟩).1.empty] 0 [] with
  | none => none
  | some x => some ⟨p.front, p.back, (rdsM (exCs p.choices pc0 ⟨[], []⟩).2.bs).map (metL [] (rdsM (exCs p.choices pc0 ⟨[], []⟩).2.bs)).idxOf, x.1.map (·.ends), x.2⟩
theorem searchM_ok {p : Sx.Ptn} {limit : Nat} {t : Tn} (hl : 1 ≤ limit) (h : searchM p limit = some t) : ∃ n k, n ≤ limit ∧ TnOk n k t := by
  unfold searchM at h
  split at h
  · simp at h
  · split at h
    · simp at h
    · rename_i x hx
      simp at h
      subst h
      obtain ⟨h1, h2, h3, h4⟩ := stsM_ok (α := Stt) (show [_].length ≤ limit from hl) (show StsInv _ [_] 0 [] from ⟨rfl, Nat.zero_le _, fun r hr => absurd hr (by simp)⟩) hx
      have h5 := h4.length_le
      simp at h5
      refine ⟨x.1.length, _, h1, ⟨by omega, by simp [rdsM], fun c hc => ?_, by simp, h2, h3.r⟩⟩
      simp only [List.mem_map] at hc
      obtain ⟨y, hy, rfl⟩ := hc
      exact idx_metL_lt hy
theorem searchM_more {p : Sx.Ptn} {l k : Nat} (hlk : l ≤ k) {t : Tn} (h : searchM p l = some t) : searchM p k = some t := by
  unfold searchM at h ⊢
  split at h
  · simp at h
  · rename_i hs
    rw [if_neg hs]
    split at h
    · simp at h
    · rename_i x hx
      rw [stsM_more hlk hx]
      exact h
end Go.Proofs.YtbjabpodkaokjaaGreatDoor

namespace Go.Proofs.YtbjabpodkaokjaaGreatDoor
open Sx (Prt Cnt)
/-- A thing's number. -/
def ixL {α : Type} [DecidableEq α] (l : List α) (x : α) : Nat := l.idxOf x
theorem ixL_lt {α : Type} [DecidableEq α] {l : List α} {x : α} (h : x ∈ l) : ixL l x < l.length := List.idxOf_lt_length_of_mem h
theorem ixL_eq {α : Type} [DecidableEq α] (l : List α) : ixL l = l.idxOf := rfl
/-- The first blocks. -/
def bkOf (acc : List Bool) : List UInt8 := acc.map fun b => if b then 1 else 0
def lookM (bl : List UInt8) (i : Nat) (row : List Nat) : List UInt8 := bl.getD i 0 :: row.map fun x => bl.getD x 0
def looksM (bl : List UInt8) (next : List (List Nat)) : List (List UInt8) := next.mapIdx (lookM bl)
/-- Blocks are split until they are as many as before. -/
def splitM (next : List (List Nat)) : Nat → List UInt8 → Nat → List UInt8
  | 0, bl, _ => bl
  | f + 1, bl, many => if many < (metL [] (looksM bl next)).length then splitM next f ((looksM bl next).map fun l => UInt8.ofNat (ixL (metL [] (looksM bl next)) l)) (metL [] (looksM bl next)).length else bl
def colM (bl : List UInt8) (next : List (List Nat)) (c : Nat) : List UInt8 := next.map fun row => bl.getD (row.getD c 0) 0
def blM (t : Tn) : List UInt8 := splitM t.next 202 (bkOf t.acc) 0
def colsM (t : Tn) (bl : List UInt8) : List (List UInt8) := t.cls.map (colM bl t.next)
def oldsM (cls : List Nat) (cols : List (List UInt8)) : List Nat := (metL [] cols).map fun col => cls.getD (ixL cols col) 0
def leadM (t : Tn) (bl : List UInt8) (b : UInt8) (old : Nat) : UInt8 := bl.getD ((t.next.getD (bl.idxOf b) []).getD old 0) 0
def leastB (t : Tn) (bl : List UInt8) : Option (List UInt8 × List (List Nat)) := stsM (leadM t bl) (oldsM t.cls (colsM t bl)) 256 258 [bl.getD 0 0] 0 []
def leastM (t : Tn) : Tn := match leastB t (blM t) with
  | none => t
  | some x => ⟨t.front, t.back, (colsM t (blM t)).map (ixL (metL [] (colsM t (blM t)))), x.1.map fun b => t.acc.getD ((blM t).idxOf b) false, x.2⟩

theorem nodup_len : ∀ (n : Nat) (l : List Nat), l.Nodup → (∀ x ∈ l, x < n) → l.length ≤ n
  | 0, l, _, h => by
    match l, h with
    | [], _ => simp
    | a :: l, h => exact absurd (h a (by simp)) (by omega)
  | n + 1, l, hd, h => by
    have h1 := nodup_len n (l.erase n) (hd.erase n) (fun x hx => by
      have h2 := h x (List.mem_of_mem_erase hx)
      have h3 : x ≠ n := fun e => by subst e; exact (hd.mem_erase_iff.1 hx).1 rfl
      omega)
    rw [List.length_erase] at h1
    split at h1 <;> omega
theorem nodup_u8 {l : List UInt8} (h : l.Nodup) : l.length ≤ 256 := by
  have := nodup_len 256 (l.map UInt8.toNat) (List.pairwise_map.2 (h.imp fun hab e => hab (UInt8.toNat_inj.1 e))) (fun x hx => by
    simp only [List.mem_map] at hx
    obtain ⟨y, _, rfl⟩ := hx
    exact y.toNat_lt)
  simpa using this
/-- With room enough all states are told. -/
theorem stsM_some {α β : Type} [DecidableEq α] {step : α → β → α} {rs : List β} {limit : Nat} (hb : ∀ l : List α, l.Nodup → l.length ≤ limit) : ∀ (f : Nat) (met : List α) (tk : Nat) (rows : List (List Nat)), met.Nodup → tk ≤ met.length → limit < f + tk → ∃ x, stsM step rs limit f met tk rows = some x
  | 0, met, tk, rows, hd, h1, h2 => by have := hb met hd; omega
  | f + 1, met, tk, rows, hd, h1, h2 => by
    simp only [stsM]
    split
    · exact ⟨_, rfl⟩
    · rename_i q hq
      have hd' := metL_nodup hd (rs.map (step q))
      have := hb _ hd'
      rw [if_neg (by omega)]
      have htk := (List.getElem?_eq_some_iff.1 hq).1
      have := metL_len_ge met (rs.map (step q))
      exact stsM_some hb f _ (tk + 1) _ hd' (by omega) (by omega)
theorem stsM_nodup {α β : Type} [DecidableEq α] {step : α → β → α} {rs : List β} {limit : Nat} : ∀ {f : Nat} {met : List α} {tk : Nat} {rows : List (List Nat)} {x : List α × List (List Nat)}, met.Nodup → stsM step rs limit f met tk rows = some x → x.1.Nodup
  | 0, met, tk, rows, x, _, e => by simp [stsM] at e
  | f + 1, met, tk, rows, x, hd, e => by
    simp only [stsM] at e
    split at e
    · simp at e; subst e; exact hd
    · split at e
      · simp at e
      · exact stsM_nodup (metL_nodup hd _) e
theorem stsM_all {α β : Type} [DecidableEq α] {step : α → β → α} {rs : List β} {limit : Nat} (P : α → Prop) (hP : ∀ q r, P q → r ∈ rs → P (step q r)) : ∀ {f : Nat} {met : List α} {tk : Nat} {rows : List (List Nat)} {x : List α × List (List Nat)}, (∀ q ∈ met, P q) → stsM step rs limit f met tk rows = some x → ∀ q ∈ x.1, P q
  | 0, met, tk, rows, x, _, e => by simp [stsM] at e
  | f + 1, met, tk, rows, x, hd, e => by
    simp only [stsM] at e
    split at e
    · simp at e; subst e; exact hd
    · rename_i q hq
      split at e
      · simp at e
      · refine stsM_all P hP (fun y hy => ?_) e
        rcases mem_metL.1 hy with hy | hy
        · exact hd y hy
        · obtain ⟨r, hr, rfl⟩ := List.mem_map.1 hy
          exact hP q r (hd q (List.mem_of_getElem? hq)) hr
theorem splitM_len (next : List (List Nat)) : ∀ (f : Nat) (bl : List UInt8) (many : Nat), bl.length = next.length → (splitM next f bl many).length = next.length
  | 0, bl, many, h => h
  | f + 1, bl, many, h => by
    simp only [splitM]
    split
    · exact splitM_len next f _ _ (by simp [looksM])
    · exact h
theorem leastB_some (t : Tn) (bl : List UInt8) : ∃ x, leastB t bl = some x := stsM_some (fun l h => nodup_u8 h) 258 _ 0 [] (by simp) (by simp) (by omega)
theorem leastM_ok {n k : Nat} {t : Tn} (h : TnOk n k t) : ∃ n' k', n' ≤ n ∧ TnOk n' k' (leastM t) := by
  obtain ⟨x, hx⟩ := leastB_some t (blM t)
  have hbl : (blM t).length = n := (splitM_len _ _ _ _ (by simp [bkOf, h.al, h.nl])).trans h.nl
  have hn := h.n1
  unfold leastM
  rw [hx]
  unfold leastB at hx
  obtain ⟨h1, h2, h3, h4⟩ := stsM_ok (α := UInt8) (show [_].length ≤ 256 by simp) (show StsInv _ [_] 0 [] from ⟨rfl, Nat.zero_le _, fun r hr => absurd hr (by simp)⟩) hx
  have hnd := stsM_nodup (by simp) hx
  have hall : ∀ q ∈ x.1, q ∈ blM t := by
    refine stsM_all (· ∈ blM t) (fun q r hq hr => ?_) (fun q hq => ?_) hx
    · have hi := List.idxOf_lt_length_of_mem hq
      unfold leadM
      rw [hbl] at hi
      have hi' : (blM t).idxOf q < t.next.length := by rw [h.nl]; exact hi
      have hrow := h.r _ (List.getElem_mem hi')
      rw [List.getD_eq_getElem?_getD (l := t.next), List.getElem?_eq_getElem hi', Option.getD_some]
      have hr' : r < k := by
        unfold oldsM at hr
        simp only [List.mem_map] at hr
        obtain ⟨col, hc, rfl⟩ := hr
        have hc' : col ∈ colsM t (blM t) := by simpa using mem_metL.1 hc
        have hl : ixL (colsM t (blM t)) col < (colsM t (blM t)).length := ixL_lt hc'
        have hl' : ixL (colsM t (blM t)) col < t.cls.length := by simpa [colsM] using hl
        rw [List.getD_eq_getElem?_getD, List.getElem?_eq_getElem hl', Option.getD_some]
        exact h.ck _ (List.getElem_mem hl')
      have hr2 : r < (t.next[(blM t).idxOf q]).length := by rw [hrow.1]; exact hr'
      rw [List.getD_eq_getElem?_getD (l := t.next[_]), List.getElem?_eq_getElem hr2, Option.getD_some]
      have h5 := hrow.2 _ (List.getElem_mem hr2)
      rw [List.getD_eq_getElem?_getD, List.getElem?_eq_getElem (by omega), Option.getD_some]
      exact List.getElem_mem _
    · simp at hq
      subst hq
      rw [← List.getD_eq_getElem?_getD, List.getD_eq_getElem?_getD, List.getElem?_eq_getElem (by omega), Option.getD_some]
      exact List.getElem_mem _
  have hlen : x.1.length ≤ n := by
    have := nodup_len n (x.1.map (blM t).idxOf) (List.pairwise_map.2 (List.Pairwise.imp_of_mem (fun {a b} ha hb hab e => hab (by
      have h5 := List.idxOf_lt_length_of_mem (hall a ha)
      have h6 := List.idxOf_lt_length_of_mem (hall b hb)
      rw [← List.getElem_idxOf h5, ← List.getElem_idxOf h6]
      simp only [e])) hnd)) (fun y hy => by
      simp only [List.mem_map] at hy
      obtain ⟨z, hz, rfl⟩ := hy
      rw [← hbl]; exact List.idxOf_lt_length_of_mem (hall z hz))
    simpa using this
  have h5 := h4.length_le
  simp at h5
  refine ⟨x.1.length, (oldsM t.cls (colsM t (blM t))).length, hlen, ⟨by omega, by simp [colsM, h.cl], fun c hc => ?_, by simp, h2, h3.r⟩⟩
  simp only [List.mem_map] at hc
  obtain ⟨y, hy, rfl⟩ := hc
  simpa [oldsM, ixL] using idx_metL_lt (m := []) hy
theorem leastM_cls {t : Tn} : ∃ cols : List (List UInt8), (t.cls.length = cols.length) ∧ ((∃ x, leastB t (blM t) = some x) → (leastM t).cls = cols.map (ixL (metL [] cols))) := by
  refine ⟨colsM t (blM t), by simp [colsM], fun ⟨x, hx⟩ => ?_⟩
  unfold leastM
  rw [hx]

/-- The table that the program tells. -/
def tbOf (t : Tn) : Tb := ⟨t.front, t.back, 0, t.cls.map UInt8.ofNat, t.acc, t.next.map fun r => r.map Int.ofNat⟩
theorem cntC_met {α : Type} [DecidableEq α] : ∀ (xs m : List α), (metL m xs).length ≤ 256 → cntC m.length ((xs.map (metL m xs).idxOf).map UInt8.ofNat) = some (metL m xs).length
  | [], m, _ => by simp [cntC, metL]
  | x :: xs, m, h => by
    have ih := cntC_met xs (pushM m x) h
    have hp := (metL_pre (pushM m x) xs).length_le
    have hlt : (pushM m x).idxOf x < (pushM m x).length := List.idxOf_lt_length_of_mem (mem_pushM.2 (.inr rfl))
    rw [List.map_cons, List.map_cons, cntC, idx_push]
    have hu : (UInt8.ofNat ((pushM m x).idxOf x)).toNat = (pushM m x).idxOf x := by
      rw [UInt8.toNat_ofNat']
      exact Nat.mod_eq_of_lt (by rw [metL_cons] at h; omega)
    rw [hu]
    have e : max m.length ((pushM m x).idxOf x + 1) = (pushM m x).length := by
      by_cases hx : x ∈ m
      · have := List.idxOf_lt_length_of_mem hx
        rw [pushM, if_pos hx] at hlt ⊢
        omega
      · have := idx_new.2 hx
        rw [this, pushM, if_neg hx]; simp
    have e2 : ¬ m.length < (pushM m x).idxOf x := by
      have := pushM_len m x
      omega
    rw [if_neg e2, e]
    exact ih
theorem leastM_tb {n k : Nat} {t : Tn} (h : TnOk n k t) (hn : n ≤ 200) : isTb (tbOf (leastM t)) = true := by
  obtain ⟨n', k', h1, h2⟩ := leastM_ok h
  obtain ⟨x, hx⟩ := leastB_some t (blM t)
  have hcl : (leastM t).cls = (colsM t (blM t)).map (ixL (metL [] (colsM t (blM t)))) := by unfold leastM; rw [hx]
  have hk : (metL [] (colsM t (blM t))).length ≤ 256 := by
    have := metL_len [] (colsM t (blM t))
    simpa [colsM, h.cl] using this
  have hc := cntC_met (colsM t (blM t)) [] hk
  have hlen : (metL [] (colsM t (blM t))).length = k' := by
    have := h2.n1
    have h3 := h2.nl
    have h4 := h2.r
    have e : ∀ r ∈ (leastM t).next, r.length = (metL [] (colsM t (blM t))).length := by
      intro r hr
      unfold leastB at hx
      obtain ⟨g1, g2, g3, g4⟩ := stsM_ok (α := UInt8) (show [_].length ≤ 256 by simp) (show StsInv _ [_] 0 [] from ⟨rfl, Nat.zero_le _, fun r hr => absurd hr (by simp)⟩) hx
      have : r ∈ x.2 := by
        have hq : (leastM t).next = x.2 := by unfold leastM leastB; rw [hx]
        rw [hq] at hr; exact hr
      rw [(g3.r r this).1]
      simp [oldsM]
    have hne : 0 < (leastM t).next.length := by omega
    rw [← e _ (List.getElem_mem hne), (h4 _ (List.getElem_mem hne)).1]
  have hal := h2.al
  have hnl := h2.nl
  have hn1 := h2.n1
  unfold isTb
  have ec : cntR (ba (tbOf (leastM t)).cls) = some k' := by
    unfold cntR
    rw [if_pos (by rw [ba_size]; simp [tbOf, h2.cl])]
    show cntC 0 (tbOf (leastM t)).cls = _
    have : (tbOf (leastM t)).cls = ((colsM t (blM t)).map (ixL (metL [] (colsM t (blM t))))).map UInt8.ofNat := by simp only [tbOf, hcl]
    rw [this, ← hlen]
    exact hc
  rw [ec]
  simp only [Bool.and_eq_true, decide_eq_true_eq, List.all_eq_true]
  refine ⟨by simp only [tbOf]; omega, by simp only [tbOf]; omega, by simp only [tbOf, List.length_map]; omega, by simp [tbOf, isSt]; omega, ?_⟩
  intro r hr
  simp only [tbOf, List.mem_map] at hr
  obtain ⟨q, hq, rfl⟩ := hr
  have := h2.r q hq
  simp only [rowOk, Bool.and_eq_true, beq_iff_eq, List.length_map, List.all_eq_true]
  refine ⟨this.1, fun z hz => ?_⟩
  simp only [List.mem_map] at hz
  obtain ⟨y, hy, rfl⟩ := hz
  have := this.2 y hy
  simp [isSt, tbOf]
  omega
end Go.Proofs.YtbjabpodkaokjaaGreatDoor

namespace Go.Proofs.YtbjabpodkaokjaaGreatDoor
open Go.RowKit

def W4.cs (s : W4) : List Value := [.int .u64 (s.x0 : Int), .int .u64 (s.x1 : Int), .int .u64 (s.x2 : Int), .int .u64 (s.x3 : Int)]
theorem flatF_get {α : Type} {f : α → List Value} {s : Nat} (h : ∀ x, (f x).length = s) : ∀ {l : List α} {i : Nat} {x : α}, l[i]? = some x → ∀ j, j < s → (l.flatMap f)[i * s + j]? = (f x)[j]? := by
  intro l
  induction l with
  | nil => intro i x hx; simp at hx
  | cons a l ih =>
    intro i x hx j hj
    have ha := h a
    cases i with
    | zero =>
      simp at hx; subst hx
      rw [List.flatMap_cons, List.getElem?_append_left (by omega)]
      simp
    | succ i =>
      simp at hx
      have := ih hx j hj
      rw [List.flatMap_cons, List.getElem?_append_right (by simp [ha, Nat.add_mul]; omega), ← this]
      congr 1
      simp [ha, Nat.add_mul]
      omega
theorem flatF_len {α : Type} {f : α → List Value} {s : Nat} (h : ∀ x, (f x).length = s) (l : List α) : (l.flatMap f).length = l.length * s := by
  induction l with
  | nil => simp
  | cons a l ih => simp only [List.flatMap_cons, List.length_append, h, ih, List.length_cons, Nat.add_mul]; omega
theorem W4.cs_len (s : W4) : s.cs.length = 4 := rfl
/-- A list of sets of its own. -/
def FsAt (te : TypeId) (w : World) (base : Nat) (v : Value) (fs : List W4) : Prop := w.ownsRow base te 4 v fs.length (fs.flatMap W4.cs)
theorem FsAt.at {te : TypeId} {w : World} {base : Nat} {v : Value} {fs : List W4} (h : FsAt te w base v fs) {i : Nat} (hi : i < fs.length) :
    ∃ g cap, v = .slice (some ⟨g, 0, none⟩) fs.length cap ∧ base ≤ g ∧ W4At w g (i * 4) fs[i] := by
  have h0 := h
  unfold FsAt at h0
  rcases h.2 with ⟨_, hn⟩ | ⟨g, cap, cur, rfl, hb, hg, _⟩
  · omega
  · have key : ∀ j, j < 4 → w.cell? ⟨g, i * 4 + j, none⟩ = fs[i].cs[j]? := fun j hj => by
      rw [h0.cellAt _ (by omega)]
      exact flatF_get W4.cs_len (List.getElem?_eq_getElem hi) j hj
    exact ⟨g, cap, rfl, hb, key 0 (by omega), key 1 (by omega), key 2 (by omega), key 3 (by omega), fun o => by simp [World.frozen?, hg]⟩
theorem FsAt.blk {te : TypeId} {w w' : World} {base : Nat} {v : Value} {fs : List W4} (h : FsAt te w base v fs) (hb : ∀ b, v.ownBlock = some b → w'.heap[b]? = w.heap[b]?) : FsAt te w' base v fs := own_blk h hb
theorem FsAt.lt {te : TypeId} {w : World} {base : Nat} {v : Value} {fs : List W4} (h : FsAt te w base v fs) {b : Nat} (hb : v.ownBlock = some b) : base ≤ b ∧ b < w.heap.size := by
  refine ⟨?_, own_lt h hb⟩
  rcases h.2 with ⟨rfl, _⟩ | ⟨g, cap, cur, rfl, hb', _⟩
  · simp [Value.ownBlock] at hb
  · simp [Value.ownBlock] at hb; omega
theorem FsAt.mod {te : TypeId} {w w' : World} {base g cap : Nat} {fs : List W4} {i : Nat} {x : W4} (h : FsAt te w base (.slice (some ⟨g, 0, none⟩) fs.length cap) fs) (hi : i < fs.length) (hf : Fo g (i * 4) w w') (hx : W4At w' g (i * 4) x) :
    FsAt te w' base (.slice (some ⟨g, 0, none⟩) fs.length cap) (fs.set i x) := by
  have h0 := h
  unfold FsAt at h0
  rcases h.2 with ⟨hv, _⟩ | ⟨g', cap', cur, hv, hb, hg, hc1, hc2, hc3, hc4⟩
  · simp at hv
  · simp only [Value.slice.injEq, Option.some.injEq, Addr.mk.injEq, and_true, true_and] at hv
    obtain ⟨rfl, rfl⟩ := hv
    obtain ⟨cs', e1, e2⟩ := hf.shp cur te (0, 0) hg
    unfold FsAt
    refine ⟨by rw [flatF_len W4.cs_len], .inr ⟨g, cap, cs', by simp, hb, e1, by simpa using hc1, hc2, by omega, ?_⟩⟩
    refine List.ext_getElem? (fun m => ?_)
    by_cases hm : m < (fs.set i x).length * 4
    · have hm' : m < fs.length * 4 := by simpa using hm
      have hcell : (cs'.toList.take ((fs.set i x).length * 4))[m]? = w'.cell? ⟨g, m, none⟩ := by
        rw [List.getElem?_take_of_lt hm]; simp [World.cell?, e1]
      rw [hcell]
      have hq : m / 4 < fs.length := by omega
      have hme : m = m / 4 * 4 + m % 4 := by omega
      have hr : m % 4 < 4 := Nat.mod_lt _ (by omega)
      have hget : (fs.set i x)[m / 4]? = some (if i = m / 4 then x else fs[m / 4]) := by
        rw [List.getElem?_set]
        by_cases e : i = m / 4
        · subst e; simp [hq]
        · simp [e, hq]
      have hflat := flatF_get W4.cs_len hget (m % 4) hr
      rw [← hme] at hflat
      rw [hflat]
      by_cases e : i = m / 4
      · rw [if_pos e]
        have hmi : m = i * 4 + m % 4 := by omega
        generalize m % 4 = r at hmi hr
        subst hmi
        match r, hr with
        | 0, _ => exact hx.c0
        | 1, _ => exact hx.c1
        | 2, _ => exact hx.c2
        | 3, _ => exact hx.c3
      · rw [if_neg e, hf.four.cell m (by omega), h0.cellAt m hm', ← flatF_get W4.cs_len (List.getElem?_eq_getElem hq) (m % 4) hr, ← hme]
    · have hls : (fs.set i x).length = fs.length := List.length_set
      rw [List.getElem?_eq_none (by simp; omega), List.getElem?_eq_none (by rw [flatF_len W4.cs_len]; omega)]
theorem Fo.exc {b off : Nat} {w w' : World} (h : Fo b off w w') : Exc (fun k => k = b) w w' := ⟨h.four.os, h.four.tape, h.four.output, h.four.size, h.four.block⟩
theorem Fo.others {b off : Nat} {w w' : World} (h : Fo b off w w') {x : Value} (hc : w.cell? ⟨b, off, none⟩ = some x) : KeepsOthers w w' :=
  ⟨h.four.size, fun k o hk ho => by
    have hk' := (Array.getElem?_eq_some_iff.1 hk).1
    by_cases e : k = b
    · subst e
      obtain ⟨o', h1, h2⟩ := cells_of_cell hc
      rw [h1] at hk; simp at hk; subst hk
      rw [h2] at ho; cases ho
    · exact (h.four.block k hk' e).trans hk⟩
theorem modify_set (l : List W4) (i : Nat) (h : i < l.length) (f : W4 → W4) : l.modify i f = l.set i (f l[i]) := by
  refine List.ext_getElem? (fun m => ?_)
  rw [List.getElem?_modify, List.getElem?_set]
  by_cases e : i = m
  · subst e; simp [h]
  · simp [e]
/-- The numbers is get f besides. -/
def foL (fs : List W4) (is : List Nat) (f : W4) : List W4 := is.foldl (fun fs i => fs.modify i (·.or f)) fs
theorem foL_len (fs : List W4) (is : List Nat) (f : W4) : (foL fs is f).length = fs.length := by
  unfold foL
  induction is generalizing fs with
  | nil => rfl
  | cons i is ih => simp only [List.foldl_cons]; rw [ih]; simp
theorem foL_snoc (fs : List W4) (is : List Nat) (i : Nat) (f : W4) : foL fs (is ++ [i]) f = (foL fs is f).modify i (·.or f) := by simp [foL]
theorem foL_ok {fs : List W4} {f : W4} (is : List Nat) (h : ∀ x ∈ fs, x.ok) (hf : f.ok) : ∀ x ∈ foL fs is f, x.ok := by
  unfold foL
  induction is generalizing fs with
  | nil => exact h
  | cons i is ih =>
    simp only [List.foldl_cons]
    refine ih (fun x hx => ?_)
    rcases mem_modify hx with hx | ⟨y, hy, rfl⟩
    · exact h x hx
    · exact W4.or_ok (h y hy) hf
end Go.Proofs.YtbjabpodkaokjaaGreatDoor
