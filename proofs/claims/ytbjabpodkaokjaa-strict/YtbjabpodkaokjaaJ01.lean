import Derived.WalkKit
import Derived.Laws.BitsLemmas
import Derived.Laws.Bits64
set_option linter.unusedVariables false
set_option linter.unusedSimpArgs false
namespace Go.Proofs.Ytbjabpodkaokjaa

/-- A table's parts. -/
structure Tb where
  front : Bool
  back : Bool
  start : Int
  cls : List UInt8
  acc : List Bool
  next : List (List Int)

def pr (big : Bool) (n : Nat) : List UInt8 := if big then [UInt8.ofNat (n / 256), UInt8.ofNat n] else [UInt8.ofNat n, UInt8.ofNat (n / 256)]
def bt (b : Bool) : Nat := if b then 1 else 0
def rdS : List UInt8 → Nat × List UInt8
  | [] => (0, [])
  | c :: t => (c.toNat, t)
def rdP (big : Bool) (l : List UInt8) : Nat × List UInt8 :=
  (if big then (rdS (rdS l).2).1 + 256 * (rdS l).1 else (rdS l).1 + 256 * (rdS (rdS l).2).1, (rdS (rdS l).2).2)
theorem rdP_pr {n : Nat} (h : n < 65536) (big : Bool) (l : List UInt8) : rdP big (pr big n ++ l) = (n, l) := by
  cases big <;> simp [rdP, pr, rdS] <;> omega
theorem rdS_lt (l : List UInt8) : (rdS l).1 < 256 := by
  cases l with
  | nil => simp [rdS]
  | cons c t => exact c.toNat_lt
theorem rdP_lt (big : Bool) (l : List UInt8) : (rdP big l).1 < 65536 := by
  have := rdS_lt l
  have := rdS_lt (rdS l).2
  cases big <;> simp [rdP] <;> omega
theorem rdS_bt (b : UInt8) (l : List UInt8) : rdS (b :: l) = (b.toNat, l) := rfl

def rdD (big : Bool) : Nat → List UInt8 → List Int × List UInt8
  | 0, l => ([], l)
  | n + 1, l => ((rdD big n l).1 ++ [((rdP big (rdD big n l).2).1 : Int)], (rdP big (rdD big n l).2).2)
theorem rdD_len (big : Bool) (l : List UInt8) : ∀ n, (rdD big n l).1.length = n
  | 0 => rfl
  | n + 1 => by simp [rdD, rdD_len big l n]
def okZ (z : Int) : Prop := 0 ≤ z ∧ z < 65536
theorem rdD_ok (big : Bool) (l : List UInt8) : ∀ n, ∀ z ∈ (rdD big n l).1, okZ z
  | 0 => by simp [rdD]
  | n + 1 => by
    intro z hz
    simp only [rdD, List.mem_append, List.mem_singleton] at hz
    rcases hz with hz | rfl
    · exact rdD_ok big l n z hz
    · have := rdP_lt big (rdD big n l).2
      exact ⟨by omega, by omega⟩
theorem rdD_wr (big : Bool) (row : List Int) : ∀ (n : Nat) (l : List UInt8), n ≤ row.length → (∀ z ∈ row, okZ z) → rdD big n ((row.take n).flatMap (fun z => pr big z.toNat) ++ l) = (row.take n, l)
  | 0, l, _, _ => by simp [rdD]
  | n + 1, l, h, ho => by
    have e : row.take (n + 1) = row.take n ++ [row[n]] := by rw [List.take_add_one, List.getElem?_eq_getElem (by omega)]; rfl
    have hz := ho row[n] (List.getElem_mem _)
    rw [e, List.flatMap_append, List.append_assoc]
    simp only [List.flatMap_cons, List.flatMap_nil, List.append_nil, rdD]
    rw [rdD_wr big row n _ (by omega) ho, rdP_pr (by have := hz.1; have := hz.2; omega)]
    have h3 : ((row[n].toNat : Nat) : Int) = row[n] := by have := hz.1; omega
    simp only [h3]

def stepR (rs : List (Nat × Int)) (z : Int) : List (Nat × Int) :=
  match rs.getLast? with
  | none => [(1, z)]
  | some (c, y) => if y = z then rs.dropLast ++ [(c + 1, y)] else rs ++ [(1, z)]
def runs (row : List Int) : List (Nat × Int) := row.foldl stepR []
def expd (rs : List (Nat × Int)) : List Int := rs.flatMap fun r => List.replicate r.1 r.2
theorem expd_step (rs : List (Nat × Int)) (z : Int) : expd (stepR rs z) = expd rs ++ [z] := by
  rcases List.eq_nil_or_concat rs with rfl | ⟨i, ⟨c, y⟩, rfl⟩
  · simp [stepR, expd]
  · simp only [stepR, List.concat_eq_append, List.getLast?_append, List.getLast?_singleton, Option.some_or, List.dropLast_concat]
    split
    · rename_i h
      subst h
      simp [expd, List.replicate_succ']
    · simp [expd]
theorem expd_foldl (row : List Int) : ∀ rs, expd (row.foldl stepR rs) = expd rs ++ row := by
  induction row with
  | nil => simp
  | cons z t ih => intro rs; rw [List.foldl_cons, ih, expd_step]; simp
theorem expd_runs (row : List Int) : expd (runs row) = row := by rw [runs, expd_foldl]; rfl
theorem runs_snoc (row : List Int) (z : Int) : runs (row ++ [z]) = stepR (runs row) z := by simp [runs]
theorem stepR_len (rs : List (Nat × Int)) (z : Int) : (stepR rs z).length ≤ rs.length + 1 ∧ rs.length ≤ (stepR rs z).length := by
  unfold stepR
  split
  · rename_i h
    have : rs = [] := by simpa using h
    subst this
    simp
  · rename_i c y h
    have hp : 0 < rs.length := by
      rcases rs with _ | ⟨a, b⟩
      · simp at h
      · simp
    split <;> simp <;> omega
theorem runs_len (row : List Int) : (runs row).length ≤ row.length := by
  have : ∀ (l : List Int) rs, (l.foldl stepR rs).length ≤ rs.length + l.length := by
    intro l
    induction l with
    | nil => simp
    | cons z t ih => intro rs; rw [List.foldl_cons]; have := ih (stepR rs z); have := (stepR_len rs z).1; simp; omega
  simpa [runs] using this row []
/-- Of the runs so far: each has one class at least, and its state is one of the row's. -/
theorem runs_mem (row : List Int) : ∀ r ∈ runs row, r.1 ≤ row.length ∧ r.2 ∈ row := by
  have key : ∀ (l : List Int) rs (pre : List Int), (∀ r ∈ rs, r.1 ≤ pre.length ∧ r.2 ∈ pre) → ∀ r ∈ l.foldl stepR rs, r.1 ≤ (pre ++ l).length ∧ r.2 ∈ pre ++ l := by
    intro l
    induction l with
    | nil => intro rs pre h r hr; simpa using h r hr
    | cons z t ih =>
      intro rs pre h r hr
      rw [List.foldl_cons] at hr
      have h2 := ih (stepR rs z) (pre ++ [z]) ?_ r hr
      · simpa using h2
      · intro q hq
        rcases List.eq_nil_or_concat rs with rfl | ⟨i, ⟨c, y⟩, rfl⟩
        · simp [stepR] at hq; subst hq; simp
        · simp only [stepR, List.concat_eq_append, List.getLast?_append, List.getLast?_singleton, Option.some_or, List.dropLast_concat] at hq
          split at hq
          · rename_i hyz
            rcases List.mem_append.1 hq with hq | hq
            · have := h q (by simp [hq]); simp; exact ⟨by omega, .inl this.2⟩
            · have := h (c, y) (by simp)
              simp at hq
              subst hq
              simp
              exact ⟨by have := this.1; simp at this; omega, .inl this.2⟩
          · rcases List.mem_append.1 hq with hq | hq
            · have := h q (by simpa using hq); simp; exact ⟨by omega, .inl this.2⟩
            · simp at hq; subst hq; simp
  intro r hr
  have := key row [] [] (by simp) r hr
  simpa using this

def rdR (big : Bool) (classes : Nat) : Nat → List UInt8 → List Int × List UInt8
  | 0, l => ([], l)
  | j + 1, l =>
    ((rdR big classes j l).1 ++ List.replicate (min (rdP big (rdR big classes j l).2).1 (classes - (rdR big classes j l).1.length)) ((rdP big (rdP big (rdR big classes j l).2).2).1 : Int), (rdP big (rdP big (rdR big classes j l).2).2).2)
theorem rdR_len (big : Bool) (classes : Nat) (l : List UInt8) : ∀ j, (rdR big classes j l).1.length ≤ classes
  | 0 => by simp [rdR]
  | j + 1 => by have := rdR_len big classes l j; simp [rdR]; omega
theorem rdR_ok (big : Bool) (classes : Nat) (l : List UInt8) : ∀ n, ∀ z ∈ (rdR big classes n l).1, okZ z
  | 0 => by simp [rdR]
  | n + 1 => by
    intro z hz
    simp only [rdR, List.mem_append] at hz
    rcases hz with hz | hz
    · exact rdR_ok big classes l n z hz
    · have := (List.mem_replicate.1 hz).2
      subst this
      have := rdP_lt big (rdP big (rdR big classes n l).2).2
      exact ⟨by omega, by omega⟩
def wrR (big : Bool) (r : Nat × Int) : List UInt8 := pr big r.1 ++ pr big r.2.toNat
theorem rdR_wr (big : Bool) (classes : Nat) (rs : List (Nat × Int)) (hc : (expd rs).length ≤ classes) (h1 : ∀ r ∈ rs, r.1 < 65536 ∧ okZ r.2) : ∀ (n : Nat) (l : List UInt8), n ≤ rs.length → rdR big classes n ((rs.take n).flatMap (wrR big) ++ l) = (expd (rs.take n), l)
  | 0, l, _ => by simp [rdR, expd]
  | n + 1, l, h => by
    have e : rs.take (n + 1) = rs.take n ++ [rs[n]] := by rw [List.take_add_one, List.getElem?_eq_getElem (by omega)]; rfl
    have hr := h1 rs[n] (List.getElem_mem _)
    have hz := hr.2
    have hle : (expd (rs.take n)).length + rs[n].1 ≤ classes := by
      have e2 : expd rs = expd (rs.take (n + 1)) ++ expd (rs.drop (n + 1)) := by unfold expd; rw [← List.flatMap_append, List.take_append_drop]
      have e3 : (expd (rs.take (n + 1))).length = (expd (rs.take n)).length + rs[n].1 := by rw [e]; unfold expd; rw [List.flatMap_append, List.length_append]; simp only [List.flatMap_cons, List.flatMap_nil, List.append_nil, List.length_replicate]
      have : (expd rs).length = (expd (rs.take (n + 1))).length + (expd (rs.drop (n + 1))).length := by rw [e2]; simp
      omega
    rw [e, List.flatMap_append, List.append_assoc]
    simp only [List.flatMap_cons, List.flatMap_nil, List.append_nil, rdR]
    rw [rdR_wr big classes rs hc h1 n _ (by omega)]
    have hz1 := hz.1
    have hz2 := hz.2
    simp only [wrR, List.append_assoc]
    rw [rdP_pr hr.1]
    simp only
    rw [rdP_pr (by omega)]
    simp only [Prod.mk.injEq, and_true]
    rw [Nat.min_eq_left (by omega), show ((rs[n].2.toNat : Nat) : Int) = rs[n].2 by omega]
    unfold expd
    rw [List.flatMap_append]
    simp only [List.flatMap_cons, List.flatMap_nil, List.append_nil]
def rdSp (big : Bool) (classes : Nat) (l : List UInt8) : List Int × List UInt8 := rdR big classes (rdP big l).1 (rdP big l).2
def rdRow (kind : Nat) (big : Bool) (classes : Nat) (l : List UInt8) : List Int × List UInt8 := if kind = 1 then rdSp big classes l else rdD big classes l
theorem rdRow_len (kind : Nat) (big : Bool) (classes : Nat) (l : List UInt8) : (rdRow kind big classes l).1.length ≤ classes := by
  unfold rdRow
  split
  · exact rdR_len _ _ _ _
  · rw [rdD_len]; exact Nat.le_refl _
theorem rdRow_ok (kind : Nat) (big : Bool) (classes : Nat) (l : List UInt8) : ∀ z ∈ (rdRow kind big classes l).1, okZ z := by
  unfold rdRow
  split
  · exact rdR_ok _ _ _ _
  · exact rdD_ok _ _ _
def wrRow (kind : Nat) (big : Bool) (row : List Int) : List UInt8 := if kind = 1 then pr big (runs row).length ++ (runs row).flatMap (wrR big) else row.flatMap fun z => pr big z.toNat
theorem rdRow_wr (kind : Nat) (big : Bool) (row : List Int) (l : List UInt8) (hl : row.length ≤ 256) (ho : ∀ z ∈ row, okZ z) : rdRow kind big row.length (wrRow kind big row ++ l) = (row, l) := by
  unfold rdRow wrRow
  split
  · unfold rdSp
    have hr := runs_len row
    rw [List.append_assoc, rdP_pr (by omega)]
    simp only
    have h := rdR_wr big row.length (runs row) (by rw [expd_runs]; exact Nat.le_refl _) (fun r hr => by have := runs_mem row r hr; exact ⟨by omega, ho _ this.2⟩) (runs row).length l (Nat.le_refl _)
    rw [List.take_length, expd_runs] at h
    exact h
  · have h := rdD_wr big row row.length l (Nat.le_refl _) ho
    rw [List.take_length] at h
    exact h

def rdA : Nat → List UInt8 → List Bool × List UInt8
  | 0, l => ([], l)
  | n + 1, l => ((rdA n l).1 ++ [(rdS (rdA n l).2).1 == 1], (rdS (rdA n l).2).2)
theorem rdA_len (l : List UInt8) : ∀ n, (rdA n l).1.length = n
  | 0 => rfl
  | n + 1 => by simp [rdA, rdA_len l n]
def wrA (b : Bool) : UInt8 := UInt8.ofNat (bt b)
theorem rdA_wr (acc : List Bool) : ∀ (n : Nat) (l : List UInt8), n ≤ acc.length → rdA n ((acc.take n).map wrA ++ l) = (acc.take n, l)
  | 0, l, _ => by simp [rdA]
  | n + 1, l, h => by
    have e : acc.take (n + 1) = acc.take n ++ [acc[n]] := by rw [List.take_add_one, List.getElem?_eq_getElem (by omega)]; rfl
    rw [e, List.map_append, List.append_assoc]
    simp only [List.map_cons, List.map_nil, rdA]
    rw [rdA_wr acc n _ (by omega)]
    cases h : acc[n] <;> simp [rdS, wrA, bt]
def rdRs (kind : Nat) (big : Bool) (classes : Nat) : Nat → List UInt8 → List (List Int) × List UInt8
  | 0, l => ([], l)
  | n + 1, l => ((rdRs kind big classes n l).1 ++ [(rdRow kind big classes (rdRs kind big classes n l).2).1], (rdRow kind big classes (rdRs kind big classes n l).2).2)
theorem rdRs_len (kind : Nat) (big : Bool) (classes : Nat) (l : List UInt8) : ∀ n, (rdRs kind big classes n l).1.length = n
  | 0 => rfl
  | n + 1 => by simp [rdRs, rdRs_len kind big classes l n]
theorem rdRs_ok (kind : Nat) (big : Bool) (classes : Nat) (l : List UInt8) : ∀ n, ∀ r ∈ (rdRs kind big classes n l).1, r.length ≤ classes ∧ ∀ z ∈ r, okZ z
  | 0 => by simp [rdRs]
  | n + 1 => by
    intro r hr
    simp only [rdRs, List.mem_append, List.mem_singleton] at hr
    rcases hr with hr | rfl
    · exact rdRs_ok kind big classes l n r hr
    · exact ⟨rdRow_len _ _ _ _, rdRow_ok _ _ _ _⟩
theorem rdRs_wr (kind : Nat) (big : Bool) (classes : Nat) (hc : classes ≤ 256) (next : List (List Int)) (h1 : ∀ r ∈ next, r.length = classes ∧ ∀ z ∈ r, okZ z) : ∀ (n : Nat) (l : List UInt8), n ≤ next.length → rdRs kind big classes n ((next.take n).flatMap (wrRow kind big) ++ l) = (next.take n, l)
  | 0, l, _ => by simp [rdRs]
  | n + 1, l, h => by
    have e : next.take (n + 1) = next.take n ++ [next[n]] := by rw [List.take_add_one, List.getElem?_eq_getElem (by omega)]; rfl
    have hr := h1 next[n] (List.getElem_mem _)
    rw [e, List.flatMap_append, List.append_assoc]
    simp only [List.flatMap_cons, List.flatMap_nil, List.append_nil, rdRs]
    rw [rdRs_wr kind big classes hc next h1 n _ (by omega)]
    have := rdRow_wr kind big next[n] l (by omega) hr.2
    rw [hr.1] at this
    simp only [this]

def mk5 : List UInt8 := [72, 65, 83, 80, 1]
def hd (t : Tb) (kind : Nat) (big : Bool) : List UInt8 :=
  mk5 ++ [UInt8.ofNat kind] ++ [UInt8.ofNat (bt t.front + 2 * bt t.back)] ++ [wrA big] ++ pr big t.acc.length ++ pr big (t.next.headD []).length ++ pr big t.start.toNat ++ t.cls
def body (t : Tb) (kind : Nat) (big : Bool) : List UInt8 := hd t kind big ++ t.acc.map wrA ++ t.next.flatMap (wrRow kind big)
/-- What is read, ahead of all questions but those of the greatest numbers; the kind; the order. -/
def rdT (b : List UInt8) : Option (Tb × Nat × Bool) :=
  let k := rdS (b.drop 5)
  let e := rdS k.2
  let g := rdS e.2
  let big := g.1 == 1
  let s := rdP big g.2
  let c := rdP big s.2
  let st := rdP big c.2
  if 1 < k.1 ∨ s.1 < 1 ∨ 200 < s.1 ∨ 256 < c.1 then none
  else
    let a := rdA s.1 (st.2.drop 256)
    let n := rdRs k.1 big c.1 s.1 a.2
    some (⟨e.1 % 2 == 1, e.1 / 2 % 2 == 1, st.1, st.2.take 256, a.1, n.1⟩, k.1, big)
/-- A table whose numbers can be written. -/
structure Fits (t : Tb) (c : Nat) : Prop where
  a1 : 1 ≤ t.acc.length
  a2 : t.acc.length ≤ 200
  n : t.next.length = t.acc.length
  cc : c ≤ 256
  cls : t.cls.length = 256
  st : okZ t.start
  r : ∀ r ∈ t.next, r.length = c ∧ ∀ z ∈ r, okZ z
theorem rdT_wr {t : Tb} {c : Nat} (h : Fits t c) {kind : Nat} (hk : kind ≤ 1) (big : Bool) (l : List UInt8) : rdT (body t kind big ++ l) = some (t, kind, big) := by
  obtain ⟨f, b, st, cls, acc, next⟩ := t
  obtain ⟨a1, a2, n, hc, hcl, hst, hr⟩ := h
  simp only at *
  have hh : (next.headD []).length = c := by
    cases next with
    | nil => simp at n; omega
    | cons r t => exact (hr r (by simp)).1
  have hst1 := hst.1
  have hst2 := hst.2
  have e : body ⟨f, b, st, cls, acc, next⟩ kind big ++ l = mk5 ++ (UInt8.ofNat kind :: UInt8.ofNat (bt f + 2 * bt b) :: wrA big :: (pr big acc.length ++ (pr big c ++ (pr big st.toNat ++ (cls ++ (acc.map wrA ++ (next.flatMap (wrRow kind big) ++ l))))))) := by
    simp only [body, hd, hh, List.append_assoc, List.cons_append, List.nil_append]
  rw [e]
  have hbig : ((wrA big).toNat == 1) = big := by cases big <;> rfl
  have hk' : (UInt8.ofNat kind).toNat = kind := by simp; omega
  have hA := rdA_wr acc acc.length (next.flatMap (wrRow kind big) ++ l) (Nat.le_refl _)
  have hN := rdRs_wr kind big c hc next hr next.length l (Nat.le_refl _)
  rw [List.take_length] at hA hN
  rw [n] at hN
  unfold rdT
  have hd5 : (mk5 ++ (UInt8.ofNat kind :: UInt8.ofNat (bt f + 2 * bt b) :: wrA big :: (pr big acc.length ++ (pr big c ++ (pr big st.toNat ++ (cls ++ (acc.map wrA ++ (next.flatMap (wrRow kind big) ++ l)))))))).drop 5 = (UInt8.ofNat kind :: UInt8.ofNat (bt f + 2 * bt b) :: wrA big :: (pr big acc.length ++ (pr big c ++ (pr big st.toNat ++ (cls ++ (acc.map wrA ++ (next.flatMap (wrRow kind big) ++ l))))))) := rfl
  rw [hd5]
  simp only [rdS_bt, hbig, hk']
  rw [rdP_pr (by omega)]
  simp only
  rw [rdP_pr (by omega)]
  simp only
  rw [rdP_pr (by omega)]
  simp only
  rw [if_neg (by omega)]
  have hdr : (cls ++ (acc.map wrA ++ (next.flatMap (wrRow kind big) ++ l))).drop 256 = acc.map wrA ++ (next.flatMap (wrRow kind big) ++ l) := by
    rw [← hcl]; simp
  have htk : (cls ++ (acc.map wrA ++ (next.flatMap (wrRow kind big) ++ l))).take 256 = cls := by
    rw [← hcl]; simp
  rw [hdr, htk, hA]
  simp only
  rw [hN]
  have h1 : ((UInt8.ofNat (bt f + 2 * bt b)).toNat % 2 == 1) = f := by cases f <;> cases b <;> rfl
  have h2 : ((UInt8.ofNat (bt f + 2 * bt b)).toNat / 2 % 2 == 1) = b := by cases f <;> cases b <;> rfl
  have h3 : ((st.toNat : Nat) : Int) = st := by omega
  simp only [h1, h2, h3]
end Go.Proofs.Ytbjabpodkaokjaa

namespace Go.Proofs.Ytbjabpodkaokjaa

def cStep (b k c : Nat) : Nat := if b / 2 ^ k % 2 = c % 2 then c / 2 else c / 2 ^^^ 3988292384
def crcN (b : Nat) : Nat → Nat → Nat
  | 0, c => c
  | k + 1, c => cStep b k (crcN b k c)
def crcF (c : Nat) (l : List UInt8) : Nat := l.foldl (fun c b => crcN b.toNat 8 c) c
def crc (l : List UInt8) : Nat := 4294967295 - crcF 4294967295 l
theorem xor32 {a b : Nat} (ha : a < 4294967296) (hb : b < 4294967296) : a ^^^ b < 4294967296 := Nat.xor_lt_two_pow (n := 32) ha hb
theorem cStep_lt (b k c : Nat) (h : c < 4294967296) : cStep b k c < 4294967296 := by
  unfold cStep
  split
  · omega
  · exact xor32 (by omega) (by omega)
theorem crcN_lt (b c : Nat) (h : c < 4294967296) : ∀ k, crcN b k c < 4294967296
  | 0 => h
  | k + 1 => cStep_lt _ _ _ (crcN_lt b c h k)
theorem crcF_lt : ∀ (l : List UInt8) (c : Nat), c < 4294967296 → crcF c l < 4294967296
  | [], _, h => h
  | b :: t, c, h => crcF_lt t _ (crcN_lt _ _ h 8)
theorem crcF_snoc (c : Nat) (l : List UInt8) (b : UInt8) : crcF c (l ++ [b]) = crcN b.toNat 8 (crcF c l) := by simp [crcF]
theorem crc_lt (l : List UInt8) : crc l < 4294967296 := by unfold crc; omega
def pStep (r : Nat) : Nat := r / 2 ^^^ 3988292384 * (r % 2)
def pN (x : Nat) : Nat → Nat
  | 0 => x
  | k + 1 => pStep (pN x k)
theorem pStep_lt (r : Nat) (h : r < 4294967296) : pStep r < 4294967296 := by
  unfold pStep
  refine xor32 (by omega) ?_
  rcases Nat.mod_two_eq_zero_or_one r with e | e <;> rw [e] <;> omega
theorem pN_lt (x : Nat) (h : x < 4294967296) : ∀ k, pN x k < 4294967296
  | 0 => h
  | k + 1 => pStep_lt _ (pN_lt x h k)
theorem pStep_xor (x y : Nat) : pStep (x ^^^ y) = (if y % 2 = x % 2 then x / 2 else x / 2 ^^^ 3988292384) ^^^ y / 2 := by
  have h1 : (x ^^^ y) / 2 = x / 2 ^^^ y / 2 := by have := Nat.xor_div_two_pow (a := x) (b := y) (n := 1); simpa using this
  have h2 : (x ^^^ y) % 2 = (x % 2) ^^^ (y % 2) := by have := Nat.xor_mod_two_pow (a := x) (b := y) (n := 1); simpa using this
  unfold pStep
  rw [h1, h2]
  rcases Nat.mod_two_eq_zero_or_one x with e | e <;> rcases Nat.mod_two_eq_zero_or_one y with f | f <;> rw [e, f] <;> simp
  · rw [Nat.xor_assoc, Nat.xor_comm (y / 2), ← Nat.xor_assoc]
  · rw [Nat.xor_assoc, Nat.xor_comm (y / 2), ← Nat.xor_assoc]
theorem pN_crcN (b c : Nat) : ∀ k, pN (c ^^^ b) k = crcN b k c ^^^ (b / 2 ^ k)
  | 0 => by simp [pN, crcN]
  | k + 1 => by
    rw [pN, pN_crcN b c k, pStep_xor, crcN, cStep, Nat.div_div_eq_div_mul, ← Nat.pow_succ]
theorem pN_byte (b : UInt8) (c : Nat) : pN (c ^^^ b.toNat) 8 = crcN b.toNat 8 c := by
  rw [pN_crcN, Nat.div_eq_of_lt (by have := b.toNat_lt; omega)]; simp
theorem bits_xor_u32 (a b : Nat) (ha : a < 4294967296) (hb : b < 4294967296) : bits .xor .u32 (a : Int) (b : Int) = ((a ^^^ b : Nat) : Int) := by
  have hx := xor32 ha hb
  have h1 : (BitVec.ofInt 32 (a : Int)).toNat = a := by
    rw [BitVec.ofInt_natCast, BitVec.toNat_ofNat]; exact Nat.mod_eq_of_lt (by omega)
  have h2 : (BitVec.ofInt 32 (b : Int)).toNat = b := by
    rw [BitVec.ofInt_natCast, BitVec.toNat_ofNat]; exact Nat.mod_eq_of_lt (by omega)
  show IntKind.u32.wrap ((BitVec.ofInt 32 (a : Int) ^^^ BitVec.ofInt 32 (b : Int)).toNat : Int) = _
  rw [BitVec.toNat_xor, h1, h2, IntKind.wrap_u32]
  omega
theorem bits_xor_i64 (a b : Nat) (ha : a < 4294967296) (hb : b < 4294967296) : bits .xor .i64 (a : Int) (b : Int) = ((a ^^^ b : Nat) : Int) := by
  have hx := xor32 ha hb
  have h1 : (BitVec.ofInt 64 (a : Int)).toNat = a := by
    rw [BitVec.ofInt_natCast, BitVec.toNat_ofNat]; exact Nat.mod_eq_of_lt (by omega)
  have h2 : (BitVec.ofInt 64 (b : Int)).toNat = b := by
    rw [BitVec.ofInt_natCast, BitVec.toNat_ofNat]; exact Nat.mod_eq_of_lt (by omega)
  show IntKind.i64.wrap ((BitVec.ofInt 64 (a : Int) ^^^ BitVec.ofInt 64 (b : Int)).toNat : Int) = _
  rw [BitVec.toNat_xor, h1, h2, IntKind.wrap_i64]
  omega
theorem not32 (n : Nat) (h : n < 4294967296) : 4294967295 ^^^ n = 4294967295 - n := by
  have h1 := BitVec.toNat_not (x := BitVec.ofNat 32 n)
  rw [BitVec.not_def, BitVec.toNat_xor, BitVec.toNat_allOnes, BitVec.toNat_ofNat, Nat.mod_eq_of_lt (show n < 2 ^ 32 from h)] at h1
  exact h1
end Go.Proofs.Ytbjabpodkaokjaa

namespace Go.Proofs.Ytbjabpodkaokjaa

def num4 (big : Bool) (n : Nat) : List UInt8 := if big then [UInt8.ofNat (n / 16777216), UInt8.ofNat (n / 65536), UInt8.ofNat (n / 256), UInt8.ofNat n] else [UInt8.ofNat n, UInt8.ofNat (n / 256), UInt8.ofNat (n / 65536), UInt8.ofNat (n / 16777216)]
def enc (t : Tb) (kind : Nat) (big : Bool) : List UInt8 := body t kind big ++ num4 big (crc (body t kind big))

/-- The document's reading of runs: it stops behind one class too many. -/
def rfR (big : Bool) (classes : Nat) : Nat → List UInt8 → List Int × List UInt8
  | 0, l => ([], l)
  | j + 1, l =>
    if (rfR big classes j l).1.length ≤ classes then
      ((rfR big classes j l).1 ++ List.replicate (min (rdP big (rfR big classes j l).2).1 (classes + 1 - (rfR big classes j l).1.length)) ((rdP big (rdP big (rfR big classes j l).2).2).1 : Int), (rdP big (rdP big (rfR big classes j l).2).2).2)
    else rfR big classes j l
theorem rfR_len (big : Bool) (classes : Nat) (l : List UInt8) : ∀ j, (rfR big classes j l).1.length ≤ classes + 1
  | 0 => by simp [rfR]
  | j + 1 => by
    have := rfR_len big classes l j
    simp only [rfR]
    split
    · simp; omega
    · exact this
theorem rfR_stay (big : Bool) (classes : Nat) (l : List UInt8) (j : Nat) (h : classes < (rfR big classes j l).1.length) : ∀ n, rfR big classes (j + n) l = rfR big classes j l
  | 0 => rfl
  | n + 1 => by
    have ih := rfR_stay big classes l j h n
    show rfR big classes (j + n + 1) l = _
    simp only [rfR, ih]
    rw [if_neg (by omega)]
theorem rfR_ok (big : Bool) (classes : Nat) (l : List UInt8) : ∀ n, ∀ z ∈ (rfR big classes n l).1, okZ z
  | 0 => by simp [rfR]
  | n + 1 => by
    intro z hz
    simp only [rfR] at hz
    split at hz
    · simp only [List.mem_append] at hz
      rcases hz with hz | hz
      · exact rfR_ok big classes l n z hz
      · have := (List.mem_replicate.1 hz).2
        subst this
        have := rdP_lt big (rdP big (rfR big classes n l).2).2
        exact ⟨by omega, by omega⟩
    · exact rfR_ok big classes l n z hz
theorem rfR_wr (big : Bool) (classes : Nat) (rs : List (Nat × Int)) (hc : (expd rs).length ≤ classes) (h1 : ∀ r ∈ rs, r.1 < 65536 ∧ okZ r.2) : ∀ (n : Nat) (l : List UInt8), n ≤ rs.length → rfR big classes n ((rs.take n).flatMap (wrR big) ++ l) = (expd (rs.take n), l)
  | 0, l, _ => by simp [rfR, expd]
  | n + 1, l, h => by
    have e : rs.take (n + 1) = rs.take n ++ [rs[n]] := by rw [List.take_add_one, List.getElem?_eq_getElem (by omega)]; rfl
    have hr := h1 rs[n] (List.getElem_mem _)
    have hz := hr.2
    have hle : (expd (rs.take n)).length + rs[n].1 ≤ classes := by
      have e2 : expd rs = expd (rs.take (n + 1)) ++ expd (rs.drop (n + 1)) := by unfold expd; rw [← List.flatMap_append, List.take_append_drop]
      have e3 : (expd (rs.take (n + 1))).length = (expd (rs.take n)).length + rs[n].1 := by rw [e]; unfold expd; rw [List.flatMap_append, List.length_append]; simp only [List.flatMap_cons, List.flatMap_nil, List.append_nil, List.length_replicate]
      have : (expd rs).length = (expd (rs.take (n + 1))).length + (expd (rs.drop (n + 1))).length := by rw [e2]; simp
      omega
    rw [e, List.flatMap_append, List.append_assoc]
    simp only [List.flatMap_cons, List.flatMap_nil, List.append_nil, rfR]
    rw [rfR_wr big classes rs hc h1 n _ (by omega)]
    have hz1 := hz.1
    have hz2 := hz.2
    simp only [wrR, List.append_assoc]
    rw [if_pos (by omega), rdP_pr hr.1]
    simp only
    rw [rdP_pr (by omega)]
    simp only [Prod.mk.injEq, and_true]
    rw [Nat.min_eq_left (by omega), show ((rs[n].2.toNat : Nat) : Int) = rs[n].2 by omega]
    unfold expd
    rw [List.flatMap_append]
    simp only [List.flatMap_cons, List.flatMap_nil, List.append_nil]
def rfRow (kind : Nat) (big : Bool) (classes : Nat) (l : List UInt8) : List Int × List UInt8 := if kind = 0 then rdD big classes l else rfR big classes (rdP big l).1 (rdP big l).2
theorem rfRow_len (kind : Nat) (big : Bool) (classes : Nat) (l : List UInt8) : (rfRow kind big classes l).1.length ≤ classes + 1 := by
  unfold rfRow
  split
  · rw [rdD_len]; omega
  · exact rfR_len _ _ _ _
theorem rfRow_ok (kind : Nat) (big : Bool) (classes : Nat) (l : List UInt8) : ∀ z ∈ (rfRow kind big classes l).1, okZ z := by
  unfold rfRow
  split
  · exact rdD_ok _ _ _
  · exact rfR_ok _ _ _ _
theorem rfRow_wr {kind : Nat} (hk : kind ≤ 1) (big : Bool) (row : List Int) (l : List UInt8) (hl : row.length ≤ 256) (ho : ∀ z ∈ row, okZ z) : rfRow kind big row.length (wrRow kind big row ++ l) = (row, l) := by
  unfold rfRow wrRow
  by_cases h0 : kind = 0
  · rw [if_pos h0, if_neg (by omega)]
    have h := rdD_wr big row row.length l (Nat.le_refl _) ho
    rw [List.take_length] at h
    exact h
  · rw [if_neg h0, if_pos (by omega)]
    have hr := runs_len row
    rw [List.append_assoc, rdP_pr (by omega)]
    simp only
    have h := rfR_wr big row.length (runs row) (by rw [expd_runs]; exact Nat.le_refl _) (fun r hr => by have := runs_mem row r hr; exact ⟨by omega, ho _ this.2⟩) (runs row).length l (Nat.le_refl _)
    rw [List.take_length, expd_runs] at h
    exact h
def rfRs (kind : Nat) (big : Bool) (classes : Nat) : Nat → List UInt8 → List (List Int) × List UInt8
  | 0, l => ([], l)
  | n + 1, l => ((rfRs kind big classes n l).1 ++ [(rfRow kind big classes (rfRs kind big classes n l).2).1], (rfRow kind big classes (rfRs kind big classes n l).2).2)
theorem rfRs_len (kind : Nat) (big : Bool) (classes : Nat) (l : List UInt8) : ∀ n, (rfRs kind big classes n l).1.length = n
  | 0 => rfl
  | n + 1 => by simp [rfRs, rfRs_len kind big classes l n]
theorem rfRs_ok (kind : Nat) (big : Bool) (classes : Nat) (l : List UInt8) : ∀ n, ∀ r ∈ (rfRs kind big classes n l).1, r.length ≤ classes + 1 ∧ ∀ z ∈ r, okZ z
  | 0 => by simp [rfRs]
  | n + 1 => by
    intro r hr
    simp only [rfRs, List.mem_append, List.mem_singleton] at hr
    rcases hr with hr | rfl
    · exact rfRs_ok kind big classes l n r hr
    · exact ⟨rfRow_len _ _ _ _, rfRow_ok _ _ _ _⟩
theorem rfRs_wr {kind : Nat} (hk : kind ≤ 1) (big : Bool) (classes : Nat) (hc : classes ≤ 256) (next : List (List Int)) (h1 : ∀ r ∈ next, r.length = classes ∧ ∀ z ∈ r, okZ z) : ∀ (n : Nat) (l : List UInt8), n ≤ next.length → rfRs kind big classes n ((next.take n).flatMap (wrRow kind big) ++ l) = (next.take n, l)
  | 0, l, _ => by simp [rfRs]
  | n + 1, l, h => by
    have e : next.take (n + 1) = next.take n ++ [next[n]] := by rw [List.take_add_one, List.getElem?_eq_getElem (by omega)]; rfl
    have hr := h1 next[n] (List.getElem_mem _)
    rw [e, List.flatMap_append, List.append_assoc]
    simp only [List.flatMap_cons, List.flatMap_nil, List.append_nil, rfRs]
    rw [rfRs_wr hk big classes hc next h1 n _ (by omega)]
    have := rfRow_wr hk big next[n] l (by omega) hr.2
    rw [hr.1] at this
    simp only [this]

/-- The document's reading. -/
def rfT (b : List UInt8) : Option (Tb × Nat × Bool) :=
  if b.length < 270 ∨ 1 < (b.getD 5 0).toNat then none
  else
    let big := (b.getD 7 0).toNat == 1
    let s := rdP big ((b.drop 8).take 6)
    let c := rdP big s.2
    let st := rdP big c.2
    if 200 < s.1 ∨ 256 < c.1 then none
    else
      let a := rdA s.1 (b.drop 270)
      let n := rfRs (b.getD 5 0).toNat big c.1 s.1 a.2
      some (⟨(b.getD 6 0).toNat % 2 == 1, (b.getD 6 0).toNat / 2 % 2 == 1, st.1, (b.drop 14).take 256, a.1, n.1⟩, (b.getD 5 0).toNat, big)
theorem rfT_wr {t : Tb} {c : Nat} (h : Fits t c) {kind : Nat} (hk : kind ≤ 1) (big : Bool) (l : List UInt8) : rfT (body t kind big ++ l) = some (t, kind, big) := by
  obtain ⟨f, b, st, cls, acc, next⟩ := t
  obtain ⟨a1, a2, n, hc, hcl, hst, hr⟩ := h
  simp only at *
  have hh : (next.headD []).length = c := by
    cases next with
    | nil => simp at n; omega
    | cons r t => exact (hr r (by simp)).1
  have hst1 := hst.1
  have hst2 := hst.2
  obtain ⟨p1, p2, hp⟩ : ∃ p1 p2, pr big acc.length = [p1, p2] := by cases big <;> exact ⟨_, _, rfl⟩
  obtain ⟨q1, q2, hq⟩ : ∃ p1 p2, pr big c = [p1, p2] := by cases big <;> exact ⟨_, _, rfl⟩
  obtain ⟨r1, r2, hr'⟩ : ∃ p1 p2, pr big st.toNat = [p1, p2] := by cases big <;> exact ⟨_, _, rfl⟩
  have e : body ⟨f, b, st, cls, acc, next⟩ kind big ++ l = 72 :: 65 :: 83 :: 80 :: 1 :: UInt8.ofNat kind :: UInt8.ofNat (bt f + 2 * bt b) :: wrA big :: p1 :: p2 :: q1 :: q2 :: r1 :: r2 :: (cls ++ (acc.map wrA ++ (next.flatMap (wrRow kind big) ++ l))) := by
    simp only [body, hd, hh, hp, hq, hr', mk5, List.append_assoc, List.cons_append, List.nil_append]
  rw [e]
  generalize hrest : cls ++ (acc.map wrA ++ (next.flatMap (wrRow kind big) ++ l)) = rest
  have hlen : 256 ≤ rest.length := by rw [← hrest]; simp; omega
  have hbig : ((wrA big).toNat == 1) = big := by cases big <;> rfl
  have hk' : (UInt8.ofNat kind).toNat = kind := by simp; omega
  have g5 : (72 :: 65 :: 83 :: 80 :: 1 :: UInt8.ofNat kind :: UInt8.ofNat (bt f + 2 * bt b) :: wrA big :: p1 :: p2 :: q1 :: q2 :: r1 :: r2 :: rest).getD 5 0 = UInt8.ofNat kind := rfl
  have g6 : (72 :: 65 :: 83 :: 80 :: 1 :: UInt8.ofNat kind :: UInt8.ofNat (bt f + 2 * bt b) :: wrA big :: p1 :: p2 :: q1 :: q2 :: r1 :: r2 :: rest).getD 6 0 = UInt8.ofNat (bt f + 2 * bt b) := rfl
  have g7 : (72 :: 65 :: 83 :: 80 :: 1 :: UInt8.ofNat kind :: UInt8.ofNat (bt f + 2 * bt b) :: wrA big :: p1 :: p2 :: q1 :: q2 :: r1 :: r2 :: rest).getD 7 0 = wrA big := rfl
  have g8 : ((72 :: 65 :: 83 :: 80 :: 1 :: UInt8.ofNat kind :: UInt8.ofNat (bt f + 2 * bt b) :: wrA big :: p1 :: p2 :: q1 :: q2 :: r1 :: r2 :: rest).drop 8).take 6 = pr big acc.length ++ (pr big c ++ (pr big st.toNat ++ [])) := by rw [hp, hq, hr']; rfl
  have g14 : (72 :: 65 :: 83 :: 80 :: 1 :: UInt8.ofNat kind :: UInt8.ofNat (bt f + 2 * bt b) :: wrA big :: p1 :: p2 :: q1 :: q2 :: r1 :: r2 :: rest).drop 14 = rest := rfl
  have g270 : (72 :: 65 :: 83 :: 80 :: 1 :: UInt8.ofNat kind :: UInt8.ofNat (bt f + 2 * bt b) :: wrA big :: p1 :: p2 :: q1 :: q2 :: r1 :: r2 :: rest).drop 270 = acc.map wrA ++ (next.flatMap (wrRow kind big) ++ l) := by
    rw [show (270 : Nat) = 14 + 256 from rfl, ← List.drop_drop, g14, ← hrest, ← hcl]; simp
  unfold rfT
  rw [g5, g6, g7, g8, g14, g270, hk', hbig, if_neg (by simp only [List.length_cons]; omega)]
  have hA := rdA_wr acc acc.length (next.flatMap (wrRow kind big) ++ l) (Nat.le_refl _)
  have hN := rfRs_wr hk big c hc next hr next.length l (Nat.le_refl _)
  rw [List.take_length] at hA hN
  rw [n] at hN
  simp only
  rw [rdP_pr (by omega)]
  simp only
  rw [rdP_pr (by omega)]
  simp only
  rw [rdP_pr (by omega)]
  simp only
  rw [if_neg (by omega), hA]
  simp only
  rw [hN]
  have htk : rest.take 256 = cls := by rw [← hrest, ← hcl]; simp
  have h1 : ((UInt8.ofNat (bt f + 2 * bt b)).toNat % 2 == 1) = f := by cases f <;> cases b <;> rfl
  have h2 : ((UInt8.ofNat (bt f + 2 * bt b)).toNat / 2 % 2 == 1) = b := by cases f <;> cases b <;> rfl
  have h3 : ((st.toNat : Nat) : Int) = st := by omega
  simp only [h1, h2, h3, htk]

def loadM (P : Tb → Bool) (b : List UInt8) : Option Tb :=
  match rdT b with
  | none => none
  | some (t, k, g) => if enc t k g = b then (if P t = true then some t else none) else none
def refM (P : Tb → Bool) (b : List UInt8) : Option Tb :=
  match rfT b with
  | none => none
  | some (t, k, g) => if P t = true then (if enc t k g = b then some t else none) else none
theorem rdT_kind {b : List UInt8} {t : Tb} {k : Nat} {g : Bool} (h : rdT b = some (t, k, g)) : k ≤ 1 ∧ k = (b.getD 5 0).toNat ∧ g = ((b.getD 7 0).toNat == 1) := by
  unfold rdT at h
  simp only at h
  split at h
  · simp at h
  · rename_i hn
    simp only [Option.some.injEq, Prod.mk.injEq] at h
    obtain ⟨_, rfl, rfl⟩ := h
    have hS : ∀ l : List UInt8, (rdS l).1 = (l.getD 0 0).toNat ∧ (rdS l).2 = l.drop 1 := fun l => by cases l <;> simp [rdS]
    have e5 : (rdS (b.drop 5)).1 = (b.getD 5 0).toNat := by rw [(hS _).1]; simp [List.getD_eq_getElem?_getD, List.getElem?_drop]
    refine ⟨by omega, e5, ?_⟩
    congr 1
    rw [(hS _).1, (hS _).2, (hS _).2, List.drop_drop, List.drop_drop]; simp [List.getD_eq_getElem?_getD, List.getElem?_drop]
theorem rfT_kind {b : List UInt8} {t : Tb} {k : Nat} {g : Bool} (h : rfT b = some (t, k, g)) : k ≤ 1 ∧ k = (b.getD 5 0).toNat ∧ g = ((b.getD 7 0).toNat == 1) := by
  unfold rfT at h
  split at h
  · simp at h
  · simp only at h
    split at h
    · simp at h
    · simp only [Option.some.injEq, Prod.mk.injEq] at h
      obtain ⟨_, rfl, rfl⟩ := h
      exact ⟨by omega, rfl, rfl⟩
theorem loadM_some {P : Tb → Bool} (hP : ∀ t, P t = true → ∃ c, Fits t c) {b : List UInt8} {t : Tb} : loadM P b = some t ↔ ∃ k g, k ≤ 1 ∧ P t = true ∧ enc t k g = b := by
  constructor
  · intro h
    unfold loadM at h
    split at h
    · simp at h
    · rename_i t' k g hr
      split at h
      · rename_i he
        split at h
        · rename_i hp
          simp only [Option.some.injEq] at h
          subst h
          exact ⟨k, g, (rdT_kind hr).1, hp, he⟩
        · simp at h
      · simp at h
  · rintro ⟨k, g, hk, hp, rfl⟩
    obtain ⟨c, hf⟩ := hP t hp
    have := rdT_wr hf hk g (num4 g (crc (body t k g)))
    unfold loadM
    rw [show enc t k g = body t k g ++ num4 g (crc (body t k g)) from rfl, this]
    simp only
    rw [if_pos (show enc t k g = body t k g ++ num4 g (crc (body t k g)) from rfl), if_pos hp]
theorem refM_some {P : Tb → Bool} (hP : ∀ t, P t = true → ∃ c, Fits t c) {b : List UInt8} {t : Tb} : refM P b = some t ↔ ∃ k g, k ≤ 1 ∧ P t = true ∧ enc t k g = b := by
  constructor
  · intro h
    unfold refM at h
    split at h
    · simp at h
    · rename_i t' k g hr
      split at h
      · rename_i hp
        split at h
        · rename_i he
          simp only [Option.some.injEq] at h
          subst h
          exact ⟨k, g, (rfT_kind hr).1, hp, he⟩
        · simp at h
      · simp at h
  · rintro ⟨k, g, hk, hp, rfl⟩
    obtain ⟨c, hf⟩ := hP t hp
    have := rfT_wr hf hk g (num4 g (crc (body t k g)))
    unfold refM
    rw [show enc t k g = body t k g ++ num4 g (crc (body t k g)) from rfl, this]
    simp only
    rw [if_pos hp, if_pos (show enc t k g = body t k g ++ num4 g (crc (body t k g)) from rfl)]
theorem load_ref {P : Tb → Bool} (hP : ∀ t, P t = true → ∃ c, Fits t c) (b : List UInt8) : loadM P b = refM P b := by
  apply Option.ext
  intro t
  rw [loadM_some hP, refM_some hP]
/-- What is taken is written again as it was, in its own kind and order. -/
theorem load_enc {P : Tb → Bool} {b : List UInt8} {t : Tb} (h : loadM P b = some t) : (b.getD 5 0).toNat ≤ 1 ∧ enc t (b.getD 5 0).toNat ((b.getD 7 0).toNat == 1) = b ∧ P t = true := by
  unfold loadM at h
  split at h
  · simp at h
  · rename_i t' k g hr
    split at h
    · rename_i he
      split at h
      · rename_i hp
        simp only [Option.some.injEq] at h
        subst h
        obtain ⟨h1, rfl, rfl⟩ := rdT_kind hr
        exact ⟨h1, he, hp⟩
      · simp at h
    · simp at h
end Go.Proofs.Ytbjabpodkaokjaa
