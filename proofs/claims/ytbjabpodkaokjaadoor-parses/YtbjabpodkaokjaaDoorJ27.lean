import Derived.Test.YtbjabpodkaokjaaDoorJ26
import Derived.Lib.BufferRead
set_option linter.unusedVariables false
set_option linter.unusedSimpArgs false
namespace Go.Proofs.YtbjabpodkaokjaaDoor
open Go.RowKit

mutual
/-- A tree whose text can be told. -/
def OkP : Prt → Prop
  | .mk g _ cs => OkVs g ∧ (∀ c ∈ cs, okCnt c) ∧ cs.length ≤ 200 ∧ g.length ≤ 200
def OkPs : List Prt → Prop
  | [] => True
  | p :: ps => OkP p ∧ OkPs ps
def OkVs : List (List Prt) → Prop
  | [] => True
  | c :: cs => (OkPs c ∧ c.length ≤ 200) ∧ OkVs cs
end

theorem tPs_flat (ps : List Prt) : tPs ps = (ps.map tP).flatten := by
  induction ps with
  | nil => simp [tPs]
  | cons p ps ih => simp [tPs, ih]
theorem tBar_eq (cs : List (List Prt)) : tBar cs = (cs.map tC).flatMap fun t => [124] ++ t := by
  induction cs with
  | nil => simp [tBar]
  | cons p ps ih => simp [tBar, ih]
theorem tC_many (ps : List Prt) (h : 2 ≤ ps.length) : tC ps = [40] ++ (ps.map tP).flatten ++ [41] := by
  match ps, h with
  | p :: q :: ps, _ => simp [tC, tPs_flat]
theorem tCs_many (cs : List (List Prt)) (h : 2 ≤ cs.length) : tCs cs = barJ (cs.map tC) ++ [41] := by
  match cs, h with
  | p :: q :: cs, _ => simp [tCs, tBar_eq, barJ]

theorem six_of {w : World} {S : Nat → Prop} {p : Prt} {cells : List Value} (h : RepP w S p cells) : ∃ s : SixV, cells = s.cells := by
  obtain ⟨g, B, cs⟩ := p
  simp only [RepP] at h
  obtain ⟨gv, x0, x1, x2, x3, cv, rfl, ⟨vs, hr, _⟩, _, hc⟩ := h
  have hg : ∃ a n c, gv = .slice a n c := by
    obtain ⟨_, hr⟩ := hr
    rcases hr with ⟨rfl, _⟩ | ⟨g, cap, cur, rfl, _⟩
    · exact ⟨_, _, _, rfl⟩
    · exact ⟨_, _, _, rfl⟩
  have hv : ∃ a n c, cv = .slice a n c := by
    obtain ⟨_, hr⟩ := hc
    rcases hr with ⟨rfl, _⟩ | ⟨g, cap, cur, rfl, _⟩
    · exact ⟨_, _, _, rfl⟩
    · exact ⟨_, _, _, rfl⟩
  obtain ⟨a, n, c, rfl⟩ := hg
  obtain ⟨a', n', c', rfl⟩ := hv
  exact ⟨⟨a, n, c, x0, x1, x2, x3, a', n', c'⟩, rfl⟩

/-- Parts' cells, as numbers and slices, one for each part. -/
theorem six_list {w : World} {S : Nat → Prop} : ∀ (ps : List Prt) (css : List (List Value)), RepPs w S ps css → ∃ vs : List SixV, css = vs.map SixV.cells ∧ vs.length = ps.length ∧ ∀ (k : Nat) (h1 : k < vs.length) (h2 : k < ps.length), RepP w S ps[k] vs[k].cells
  | [], css, h => by
    simp only [RepPs] at h; subst h
    exact ⟨[], rfl, rfl, fun k h1 => by simp at h1⟩
  | p :: ps, css, h => by
    simp only [RepPs] at h
    obtain ⟨c, cs', rfl, h1, h2⟩ := h
    obtain ⟨s, rfl⟩ := six_of h1
    obtain ⟨vs, rfl, hl, hv⟩ := six_list ps cs' h2
    refine ⟨s :: vs, rfl, by simp [hl], fun k k1 k2 => ?_⟩
    cases k with
    | zero => exact h1
    | succ k => exact hv k (by simpa using k1) (by simpa using k2)
theorem slice_list {w : World} {S : Nat → Prop} : ∀ (cs : List (List Prt)) (vs : List Value), RepVs w S cs vs → ∃ xs : List (Option Addr × Nat × Nat), vs = xs.map (fun x => Value.slice x.1 x.2.1 x.2.2) ∧ xs.length = cs.length ∧ ∀ (k : Nat) (h1 : k < xs.length) (h2 : k < cs.length), RepC w S cs[k] (.slice xs[k].1 xs[k].2.1 xs[k].2.2)
  | [], vs, h => by
    simp only [RepVs] at h; subst h
    exact ⟨[], rfl, rfl, fun k h1 => by simp at h1⟩
  | c :: cs, vs, h => by
    simp only [RepVs] at h
    obtain ⟨v, vs', rfl, h1, h2⟩ := h
    have hc : RepC w S c v := h1
    have hf : ∃ a n q, v = .slice a n q := by
      obtain ⟨css, ⟨_, hr⟩, _⟩ := h1
      rcases hr with ⟨rfl, _⟩ | ⟨g, cap, cur, rfl, _⟩
      · exact ⟨_, _, _, rfl⟩
      · exact ⟨_, _, _, rfl⟩
    obtain ⟨a, n, q, rfl⟩ := hf
    obtain ⟨xs, rfl, hl, hv⟩ := slice_list cs vs' h2
    refine ⟨(a, n, q) :: xs, rfl, by simp [hl], fun k k1 k2 => ?_⟩
    cases k with
    | zero => exact hc
    | succ k => exact hv k (by simpa using k1) (by simpa using k2)

/-- A chain's text, if each part's is told. -/
theorem chainTxt_of (base : Nat) (w : World) (ps : List Prt) (v2 : Value) (hR : RepC w (fun g => g < base) ps v2) (hlen : ps.length ≤ 200)
    (hP : ∀ (k : Nat) (h2 : k < ps.length) (s : SixV), RepP w (fun g => g < base) ps[k] s.cells → PartTxt base w s.val (tP ps[k])) : ChainTxt base w v2 (tC ps) := by
  intro w' hbl v bs hB hb hl
  obtain ⟨css, hrow, hps⟩ := hR
  obtain ⟨vs, rfl, hvl, hv⟩ := six_list ps css hps
  have hrow' := hrow.of_heap (w' := w') (S' := fun g => g < base) (fun j hj _ => ⟨hj, hbl.block j hj⟩)
  have hP' : ∀ (k : Nat) (h1 : k < vs.length) (h2 : k < ps.length), PartTxt base w' vs[k].val (tP ps[k]) := fun k h1 h2 w'' hb' => hP k h2 _ (hv k h1 h2) w'' (hbl.trans hb')
  rw [← hvl] at hrow'
  match hm : vs, hvl, hrow', hP' with
  | [], hvl, hrow', hP' =>
    have : ps = [] := List.eq_nil_of_length_eq_zero (by simpa using hvl.symm)
    subst this
    obtain ⟨a, c, rfl⟩ := hrow'.nilForm
    simp only [tC] at hl ⊢
    exact appendChain_0 w' base v bs a c hB hb (by simpa using hl)
  | [s], hvl, hrow', hP' =>
    obtain ⟨g, cap, rfl, _⟩ := hrow'.form (by simp)
    match ps, hvl, hP', hl with
    | [p], _, hP', hl =>
      simp only [tC] at hl ⊢
      exact appendChain_1 w' base v bs g cap s (tP p) hrow' (hP' 0 (by simp) (by simp)) hB hb hl
  | s :: t :: us, hvl, hrow', hP' =>
    obtain ⟨g, cap, rfl, _⟩ := hrow'.form (by simp)
    have h2 : 2 ≤ ps.length := by rw [← hvl]; simp
    rw [tC_many ps h2] at hl ⊢
    have := appendChain_n w' base v bs g cap (s :: t :: us) (ps.map tP) (by simpa using hvl.symm) (by simp) (by omega) hrow' (fun k h1 h2' => by
      have h3 : k < ps.length := by simpa using h2'
      have := hP' k h1 h3
      simpa using this) hB hb (by simp at hl ⊢; omega)
    simpa [List.append_assoc] using this
end Go.Proofs.YtbjabpodkaokjaaDoor

namespace Go.Proofs.YtbjabpodkaokjaaDoor
open Go.RowKit

abbrev ChoicesTxt (base : Nat) (w : World) (val : Value) (T : List UInt8) : Prop :=
  ∀ w' : World, Below base w w' → ∀ (v : Value) (bs : List UInt8), Buf w' base v bs → base ≤ w'.heap.size → bs.length + T.length ≤ 850000 → Calls Tryd.prog 12 #[v, val] w' fun e w'' => ∃ v', e = .returned v' ∧ Out base w' w'' v' (bs ++ T)

/-- The text of choices, if each chain's is told. -/
theorem choicesTxt_of (base : Nat) (w : World) (cs : List (List Prt)) (v2 : Value) (hne : cs ≠ []) (hR : RepCs w (fun g => g < base) cs v2) (hlen : cs.length ≤ 300)
    (hP : ∀ (k : Nat) (h2 : k < cs.length) (x : Value), RepC w (fun g => g < base) cs[k] x → ChainTxt base w x (tC cs[k])) : ChoicesTxt base w v2 (tCs cs) := by
  intro w' hbl v bs hB hb hl
  obtain ⟨vs, hrow, hps⟩ := hR
  obtain ⟨xs, rfl, hvl, hv⟩ := slice_list cs vs hps
  have hrow' := hrow.of_heap (w' := w') (S' := fun g => g < base) (fun j hj _ => ⟨hj, hbl.block j hj⟩)
  have hP' : ∀ (k : Nat) (h1 : k < xs.length) (h2 : k < cs.length), ChainTxt base w' (.slice xs[k].1 xs[k].2.1 xs[k].2.2) (tC cs[k]) := fun k h1 h2 w'' hb' => hP k h2 _ (hv k h1 h2) w'' (hbl.trans hb')
  rw [← hvl] at hrow'
  match hm : xs, hvl, hrow', hP' with
  | [], hvl, hrow', hP' =>
    exact absurd (List.eq_nil_of_length_eq_zero (by simpa using hvl.symm)) hne
  | [s], hvl, hrow', hP' =>
    obtain ⟨g, cap, rfl, _⟩ := hrow'.form (by simp)
    match cs, hvl, hP', hl with
    | [p], _, hP', hl =>
      simp only [tCs] at hl ⊢
      exact appendChoices_1 w' base v bs g cap s.1 s.2.1 s.2.2 (tC p) hrow' (hP' 0 (by simp) (by simp)) hB hb hl
  | s :: t :: us, hvl, hrow', hP' =>
    obtain ⟨g, cap, rfl, _⟩ := hrow'.form (by simp)
    have h2 : 2 ≤ cs.length := by rw [← hvl]; simp
    rw [tCs_many cs h2] at hl ⊢
    rw [List.length_append, barJ_len] at hl
    have := appendChoices_n w' base v bs g cap (s :: t :: us) (cs.map tC) (by simpa using hvl.symm) (by simp) (by omega) hrow' (fun k h1 h2' => by
      have h3 : k < cs.length := by simpa using h2'
      have := hP' k h1 h3
      simpa using this) hB hb (by simp only [List.length_singleton] at hl; omega)
    simpa [List.append_assoc] using this

theorem OkPs_at : ∀ (ps : List Prt), OkPs ps → ∀ (k : Nat) (h : k < ps.length), OkP ps[k]
  | [], _, k, h => by simp at h
  | p :: ps, hp, k, h => by
    simp only [OkPs] at hp
    cases k with
    | zero => exact hp.1
    | succ k => exact OkPs_at ps hp.2 k (by simpa using h)

/-- A part's text, if its group's is told. -/
theorem partTxt_of (base : Nat) (w : World) (g : List (List Prt)) (B : Nat → Bool) (cs : List Cnt) (s : SixV) (hR : RepP w (fun g => g < base) (.mk g B cs) s.cells) (hok : ∀ c ∈ cs, okCnt c) (hl : cs.length ≤ 200)
    (hG : g ≠ [] → ∀ x, RepCs w (fun g => g < base) g x → ChoicesTxt base w x (tCs g)) : PartTxt base w s.val (tP (.mk g B cs)) := by
  intro w' hbl v bs hB hb hlen
  obtain ⟨q0, q1, q2, y0, y1, y2, y3, r0, r1, r2⟩ := s
  simp only [RepP] at hR
  obtain ⟨gv, x0, x1, x2, x3, cv, he, hgr, hw, hc⟩ := hR
  simp only [SixV.cells, List.cons.injEq, and_true, Value.int.injEq, true_and] at he
  obtain ⟨rfl, e0, e1, e2, e3, rfl⟩ := he
  obtain rfl : y0 = x0 := by omega
  obtain rfl : y1 = x1 := by omega
  obtain rfl : y2 = x2 := by omega
  obtain rfl : y3 = x3 := by omega
  have hc' := hc.of_heap (w' := w') (S' := fun g => g < base) (fun j hj _ => ⟨hj, hbl.block j hj⟩)
  have hfl := flat_len cs
  cases g with
  | nil =>
    obtain ⟨vs, hr, _⟩ := hgr
    obtain ⟨a, c, e⟩ := RowIn.nilForm hr
    injection e with e1 e2 e3
    subst e1 e2 e3
    simp only [tP] at hlen ⊢
    rw [← List.append_assoc]
    rw [List.length_append] at hlen
    exact appendPart_b w' base v bs y0 y1 y2 y3 r0 r1 r2 cs hok hc' q0 q2 B hw hB hb (by omega)
  | cons c0 g =>
    have hcs : RepCs w (fun g => g < base) (c0 :: g) (.slice q0 q1 q2) := hgr
    obtain ⟨vs, hr, _⟩ := hgr
    obtain ⟨ga, cap, e, _⟩ := hr.form (by simp)
    injection e with e1 e2 e3
    subst e1 e2 e3
    simp only [tP] at hlen ⊢
    rw [← List.append_assoc]
    rw [List.length_append] at hlen
    exact appendPart_g w' base v bs y0 y1 y2 y3 r0 r1 r2 cs hok hc' ⟨ga, 0, none⟩ _ _ (by simp) (tCs (c0 :: g)) (fun w'' hb' => hG (by simp) _ hcs w'' (hbl.trans hb')) (by omega) hB hb (by omega)

mutual
theorem partTxt (base : Nat) (w : World) : ∀ (p : Prt), OkP p → ∀ (s : SixV), RepP w (fun g => g < base) p s.cells → PartTxt base w s.val (tP p)
  | .mk g B cs, hok, s, hR => by
    simp only [OkP] at hok
    exact partTxt_of base w g B cs s hR hok.2.1 hok.2.2.1 (fun hne x hx => choicesTxt_of base w g x hne hx (Nat.le_trans hok.2.2.2 (by decide)) (vsTxt base w g hok.1))
theorem psTxt (base : Nat) (w : World) : ∀ (ps : List Prt), OkPs ps → ∀ (k : Nat) (h2 : k < ps.length) (s : SixV), RepP w (fun g => g < base) ps[k] s.cells → PartTxt base w s.val (tP ps[k])
  | [], _, k, h2, _, _ => by simp at h2
  | p :: ps, hok, 0, _, s, hR => by
    simp only [OkPs] at hok
    exact partTxt base w p hok.1 s hR
  | p :: ps, hok, k + 1, h2, s, hR => by
    simp only [OkPs] at hok
    exact psTxt base w ps hok.2 k (by simpa using h2) s hR
theorem vsTxt (base : Nat) (w : World) : ∀ (cs : List (List Prt)), OkVs cs → ∀ (k : Nat) (h2 : k < cs.length) (x : Value), RepC w (fun g => g < base) cs[k] x → ChainTxt base w x (tC cs[k])
  | [], _, k, h2, _, _ => by simp at h2
  | c :: cs, hok, 0, _, x, hR => by
    simp only [OkVs] at hok
    exact chainTxt_of base w c x hR hok.1.2 (psTxt base w c hok.1.1)
  | c :: cs, hok, k + 1, h2, x, hR => by
    simp only [OkVs] at hok
    exact vsTxt base w cs hok.2 k (by simpa using h2) x hR
end
theorem choicesTxt (base : Nat) (w : World) (cs : List (List Prt)) (hne : cs ≠ []) (hok : OkVs cs) (hl : cs.length ≤ 300) (x : Value) (hR : RepCs w (fun g => g < base) cs x) : ChoicesTxt base w x (tCs cs) :=
  choicesTxt_of base w cs x hne hR hl (vsTxt base w cs hok)
end Go.Proofs.YtbjabpodkaokjaaDoor

namespace Go.Proofs.YtbjabpodkaokjaaDoor
open Go.RowKit

theorem buf_nil (w : World) (base : Nat) : Buf w base (.slice none 0 0) [] := by
  exact ⟨rfl, Or.inl ⟨rfl, rfl⟩⟩
abbrev ptnObj (f b : Bool) (a : Option Addr) (n c : Nat) : Obj := .cells #[.bool f, .bool b, .slice a n c] 29
theorem ptn_cells {base : Nat} {w w' : World} {f b : Bool} {a : Option Addr} {n c g : Nat} {v : Value} {bs : List UInt8} (h : w.heap[g]? = some (ptnObj f b a n c)) (hO : Out base w w' v bs) :
    w'.heap[g]? = some (ptnObj f b a n c) := by
  have hlt : g < w.heap.size := by
    rcases Nat.lt_or_ge g w.heap.size with h1 | h1
    · exact h1
    · rw [Array.getElem?_eq_none h1] at h; simp at h
  rw [hO.kp.block g hlt (by intro cur; rw [h]; simp), h]
theorem underlyingStr : Tryd.prog.underlying 9 = some .string := by kernel_rfl
theorem underlyingByte : Tryd.prog.underlying 5 = some (.int .u8) := by kernel_rfl
theorem conv_buf {w : World} {base : Nat} {v : Value} {bs : List UInt8} (h : Buf w base v bs) : (convert 42 9 v).run Tryd.prog w = .ok (.string ⟨bs.toArray⟩) w := by
  obtain ⟨hl, hr⟩ := h
  rcases hr with ⟨rfl, hn⟩ | ⟨k, cap, cur, rfl, h1, hh, h2⟩
  · have : bs = [] := by
      have := hn
      simp at this
      exact List.length_eq_zero_iff.1 (by simpa using this)
    subst this
    exact Lib.run_convert_nil_bytes w _ _ _ 0 Tryd.underlying42 underlyingByte underlyingStr
  · refine run_convert_bytes_back w _ _ _ _ cap bs Tryd.underlying42 underlyingByte underlyingStr ?_
    refine Lib.bytes_of_row hh ?_
    have := h2.2.2.2
    rw [Nat.mul_one] at this
    rw [this]
    simp [Lib.byteCells]

set_option maxRecDepth 4000 in
set_option maxHeartbeats 1000000 in
theorem text_ff (w : World) (a : Option Addr) (n c : Nat) (T : List UInt8) (hX : ChoicesTxt w.heap.size w (.slice a n c) T) (hlen : T.length ≤ 849000) :
    Calls Tryd.prog 7 #[.agg #[.bool false, .bool false, .slice a n c]] w fun e w' => e = .returned (.string ⟨(T).toArray⟩) ∧ Below w.heap.size w w' := by
  obtain ⟨i0, hi0, hz0, hz1, hz2⟩ := info_parts Tryd.infoU8
  obtain ⟨base, hbase⟩ : ∃ b, b = w.heap.size := ⟨_, rfl⟩
  have hb : base ≤ w.heap.size := by omega
  have HX : Hid (ChoicesTxt base w (.slice a n c) T) := hbase ▸ hX
  have HB : Hid (base = w.heap.size) := hbase
  clear hX hbase
  have HO : Hid (Out base w (w.alloc (ptnObj false false a n c)) (.slice none 0 0) []) := (Out.start (buf_nil _ _)).alloc hb _
  have HC : Hid ((w.alloc (ptnObj false false a n c)).heap[w.heap.size]? = some (ptnObj false false a n c)) := heap_alloc_new _ _
  have hlT : T.length + 1 ≤ 850000 := by simp; omega
  go_enter Tryd.func7, Tryd.ntmps7
  have HO1 : Hid (Out base w (w.alloc (ptnObj false false a n c)) (.slice none 0 0) []) := HO.out
  have HC1 : Hid ((w.alloc (ptnObj false false a n c)).heap[w.heap.size]? = some (ptnObj false false a n c)) := HC.out
  have hb1 : base ≤ (w.alloc (ptnObj false false a n c)).heap.size := HO1.out.sz hb
  go_wp2_with (go_at_call 12; refine (HX.out _ HO1.out.bl _ [] HO1.out.buf hb1 (by simp; omega)).mono ?_; rintro e w3 ⟨v3, rfl, hO3⟩; have HO3 : Hid (Out base w w3 v3 T) := HO1.out.trans hO3; have hc := ptn_cells (g := w.heap.size) HC1.out hO3; have c1 : w3.cell? ⟨w.heap.size, 1, none⟩ = some (.bool false) := (by simp [World.cell?, hc]); clear hO3 hc; have hb3 : base ≤ w3.heap.size := HO3.out.sz hb; have hcv := conv_buf HO3.out.buf)
  go_ret
  exact ⟨by simp, HB.out ▸ HO3.out.bl⟩
set_option maxRecDepth 4000 in
set_option maxHeartbeats 1000000 in
theorem text_ft (w : World) (a : Option Addr) (n c : Nat) (T : List UInt8) (hX : ChoicesTxt w.heap.size w (.slice a n c) T) (hlen : T.length ≤ 849000) :
    Calls Tryd.prog 7 #[.agg #[.bool false, .bool true, .slice a n c]] w fun e w' => e = .returned (.string ⟨(T ++ [36]).toArray⟩) ∧ Below w.heap.size w w' := by
  obtain ⟨i0, hi0, hz0, hz1, hz2⟩ := info_parts Tryd.infoU8
  obtain ⟨base, hbase⟩ : ∃ b, b = w.heap.size := ⟨_, rfl⟩
  have hb : base ≤ w.heap.size := by omega
  have HX : Hid (ChoicesTxt base w (.slice a n c) T) := hbase ▸ hX
  have HB : Hid (base = w.heap.size) := hbase
  clear hX hbase
  have HO : Hid (Out base w (w.alloc (ptnObj false true a n c)) (.slice none 0 0) []) := (Out.start (buf_nil _ _)).alloc hb _
  have HC : Hid ((w.alloc (ptnObj false true a n c)).heap[w.heap.size]? = some (ptnObj false true a n c)) := heap_alloc_new _ _
  have hlT : T.length + 1 ≤ 850000 := by simp; omega
  go_enter Tryd.func7, Tryd.ntmps7
  have HO1 : Hid (Out base w (w.alloc (ptnObj false true a n c)) (.slice none 0 0) []) := HO.out
  have HC1 : Hid ((w.alloc (ptnObj false true a n c)).heap[w.heap.size]? = some (ptnObj false true a n c)) := HC.out
  have hb1 : base ≤ (w.alloc (ptnObj false true a n c)).heap.size := HO1.out.sz hb
  go_wp2_with (first | ((at_builtin; refine wpList_append_own_at _ rfl (.tmp 15) (.tmp 16) 42 rfl base 5 i0 (.int .u8 0) 1 1 Tryd.underlying42 hi0 hz0 hz1 hz2 rfl (by decide) v3 (T).length ((T).map bv) rfl (HO3.out.buf.alloc _) ⟨w3.heap.size, 0, none⟩ 1 1 [bv 36] rfl rfl (by intro j u hj; cases j with | zero => (simp at hj; subst hj; simp [Addr.add, go_sem]) | succ j => simp at hj) (bv_one [36]) (by unfold maxLen; omega) (by omega) (by simp; omega) ?_)) | (go_at_call 12; refine (HX.out _ HO1.out.bl _ [] HO1.out.buf hb1 (by simp; omega)).mono ?_; rintro e w3 ⟨v3, rfl, hO3⟩; have HO3 : Hid (Out base w w3 v3 T) := HO1.out.trans hO3; have hc := ptn_cells (g := w.heap.size) HC1.out hO3; have c1 : w3.cell? ⟨w.heap.size, 1, none⟩ = some (.bool true) := (by simp [World.cell?, hc]); clear hO3 hc; have hb3 : base ≤ w3.heap.size := HO3.out.sz hb))
  intro v5 w5 hown5 hgr5 _ hob5
  have HO5 : Hid (Out base w w5 v5 (T ++ [36])) := HO3.out.app hb3 hgr5 hown5
  have hcv := conv_buf HO5.out.buf
  clear hown5 hgr5 hob5
  go_wp2
  go_ret
  exact ⟨by simp, HB.out ▸ HO5.out.bl⟩
set_option maxRecDepth 4000 in
set_option maxHeartbeats 1000000 in
theorem text_tf (w : World) (a : Option Addr) (n c : Nat) (T : List UInt8) (hX : ChoicesTxt w.heap.size w (.slice a n c) T) (hlen : T.length ≤ 849000) :
    Calls Tryd.prog 7 #[.agg #[.bool true, .bool false, .slice a n c]] w fun e w' => e = .returned (.string ⟨([94] ++ T).toArray⟩) ∧ Below w.heap.size w w' := by
  obtain ⟨i0, hi0, hz0, hz1, hz2⟩ := info_parts Tryd.infoU8
  obtain ⟨base, hbase⟩ : ∃ b, b = w.heap.size := ⟨_, rfl⟩
  have hb : base ≤ w.heap.size := by omega
  have HX : Hid (ChoicesTxt base w (.slice a n c) T) := hbase ▸ hX
  have HB : Hid (base = w.heap.size) := hbase
  clear hX hbase
  have HO : Hid (Out base w (w.alloc (ptnObj true false a n c)) (.slice none 0 0) []) := (Out.start (buf_nil _ _)).alloc hb _
  have HC : Hid ((w.alloc (ptnObj true false a n c)).heap[w.heap.size]? = some (ptnObj true false a n c)) := heap_alloc_new _ _
  have hlT : ([94] ++ T).length + 1 ≤ 850000 := by simp; omega
  go_enter Tryd.func7, Tryd.ntmps7
  have hnil : ([] : List UInt8).length = 0 := List.length_nil
  go_wp2_with (at_builtin; refine wpList_append_own_at _ rfl (.tmp 6) (.tmp 7) 42 rfl base 5 i0 (.int .u8 0) 1 1 Tryd.underlying42 hi0 hz0 hz1 hz2 rfl (by decide) (Value.slice none 0 0) (([] : List UInt8)).length ((([] : List UInt8)).map bv) rfl (HO.out.buf.alloc _) ⟨w.heap.size + 1, 0, none⟩ 1 1 [bv 94] rfl rfl (by intro j u hj; cases j with | zero => (simp at hj; subst hj; simp [Addr.add, go_sem]) | succ j => simp at hj) (bv_one [94]) (by unfold maxLen; omega) (by omega) (by simp; omega) ?_)
  intro v1 w1 hown1 hgr1 _ hob1
  have hO0 : Out base (w.alloc (ptnObj true false a n c)) w1 v1 [94] := (Out.start (buf_nil _ base)).app (by simp; omega) hgr1 hown1
  have HO1 : Hid (Out base w w1 v1 [94]) := HO.out.trans hO0
  have hc := ptn_cells (g := w.heap.size) HC.out hO0
  have c2 : w1.cell? ⟨w.heap.size, 2, none⟩ = some (.slice a n c) := by simp [World.cell?, hc]
  have HC1 : Hid (w1.heap[w.heap.size]? = some (ptnObj true false a n c)) := hc
  have hb1 : base ≤ w1.heap.size := HO1.out.sz hb
  clear hown1 hgr1 hob1 hO0 hc hnil
  go_wp2_with (go_at_call 12; refine (HX.out _ HO1.out.bl _ [94] HO1.out.buf hb1 (by simp; omega)).mono ?_; rintro e w3 ⟨v3, rfl, hO3⟩; have HO3 : Hid (Out base w w3 v3 ([94] ++ T)) := HO1.out.trans hO3; have hc := ptn_cells (g := w.heap.size) HC1.out hO3; have c1 : w3.cell? ⟨w.heap.size, 1, none⟩ = some (.bool false) := (by simp [World.cell?, hc]); clear hO3 hc; have hb3 : base ≤ w3.heap.size := HO3.out.sz hb; have hcv := conv_buf HO3.out.buf)
  go_ret
  exact ⟨by simp, HB.out ▸ HO3.out.bl⟩
set_option maxRecDepth 4000 in
set_option maxHeartbeats 1000000 in
theorem text_tt (w : World) (a : Option Addr) (n c : Nat) (T : List UInt8) (hX : ChoicesTxt w.heap.size w (.slice a n c) T) (hlen : T.length ≤ 849000) :
    Calls Tryd.prog 7 #[.agg #[.bool true, .bool true, .slice a n c]] w fun e w' => e = .returned (.string ⟨([94] ++ T ++ [36]).toArray⟩) ∧ Below w.heap.size w w' := by
  obtain ⟨i0, hi0, hz0, hz1, hz2⟩ := info_parts Tryd.infoU8
  obtain ⟨base, hbase⟩ : ∃ b, b = w.heap.size := ⟨_, rfl⟩
  have hb : base ≤ w.heap.size := by omega
  have HX : Hid (ChoicesTxt base w (.slice a n c) T) := hbase ▸ hX
  have HB : Hid (base = w.heap.size) := hbase
  clear hX hbase
  have HO : Hid (Out base w (w.alloc (ptnObj true true a n c)) (.slice none 0 0) []) := (Out.start (buf_nil _ _)).alloc hb _
  have HC : Hid ((w.alloc (ptnObj true true a n c)).heap[w.heap.size]? = some (ptnObj true true a n c)) := heap_alloc_new _ _
  have hlT : ([94] ++ T).length + 1 ≤ 850000 := by simp; omega
  go_enter Tryd.func7, Tryd.ntmps7
  have hnil : ([] : List UInt8).length = 0 := List.length_nil
  go_wp2_with (at_builtin; refine wpList_append_own_at _ rfl (.tmp 6) (.tmp 7) 42 rfl base 5 i0 (.int .u8 0) 1 1 Tryd.underlying42 hi0 hz0 hz1 hz2 rfl (by decide) (Value.slice none 0 0) (([] : List UInt8)).length ((([] : List UInt8)).map bv) rfl (HO.out.buf.alloc _) ⟨w.heap.size + 1, 0, none⟩ 1 1 [bv 94] rfl rfl (by intro j u hj; cases j with | zero => (simp at hj; subst hj; simp [Addr.add, go_sem]) | succ j => simp at hj) (bv_one [94]) (by unfold maxLen; omega) (by omega) (by simp; omega) ?_)
  intro v1 w1 hown1 hgr1 _ hob1
  have hO0 : Out base (w.alloc (ptnObj true true a n c)) w1 v1 [94] := (Out.start (buf_nil _ base)).app (by simp; omega) hgr1 hown1
  have HO1 : Hid (Out base w w1 v1 [94]) := HO.out.trans hO0
  have hc := ptn_cells (g := w.heap.size) HC.out hO0
  have c2 : w1.cell? ⟨w.heap.size, 2, none⟩ = some (.slice a n c) := by simp [World.cell?, hc]
  have HC1 : Hid (w1.heap[w.heap.size]? = some (ptnObj true true a n c)) := hc
  have hb1 : base ≤ w1.heap.size := HO1.out.sz hb
  clear hown1 hgr1 hob1 hO0 hc hnil
  go_wp2_with (first | ((at_builtin; refine wpList_append_own_at _ rfl (.tmp 15) (.tmp 16) 42 rfl base 5 i0 (.int .u8 0) 1 1 Tryd.underlying42 hi0 hz0 hz1 hz2 rfl (by decide) v3 (([94] ++ T)).length ((([94] ++ T)).map bv) rfl (HO3.out.buf.alloc _) ⟨w3.heap.size, 0, none⟩ 1 1 [bv 36] rfl rfl (by intro j u hj; cases j with | zero => (simp at hj; subst hj; simp [Addr.add, go_sem]) | succ j => simp at hj) (bv_one [36]) (by unfold maxLen; omega) (by omega) (by simp; omega) ?_)) | (go_at_call 12; refine (HX.out _ HO1.out.bl _ [94] HO1.out.buf hb1 (by simp; omega)).mono ?_; rintro e w3 ⟨v3, rfl, hO3⟩; have HO3 : Hid (Out base w w3 v3 ([94] ++ T)) := HO1.out.trans hO3; have hc := ptn_cells (g := w.heap.size) HC1.out hO3; have c1 : w3.cell? ⟨w.heap.size, 1, none⟩ = some (.bool true) := (by simp [World.cell?, hc]); clear hO3 hc; have hb3 : base ≤ w3.heap.size := HO3.out.sz hb))
  intro v5 w5 hown5 hgr5 _ hob5
  have HO5 : Hid (Out base w w5 v5 (([94] ++ T) ++ [36])) := HO3.out.app hb3 hgr5 hown5
  have hcv := conv_buf HO5.out.buf
  clear hown5 hgr5 hob5
  go_wp2
  go_ret
  exact ⟨by simp, HB.out ▸ HO5.out.bl⟩

theorem text_any (w : World) (p : Ptn) (a : Option Addr) (n c : Nat) (hX : ChoicesTxt w.heap.size w (.slice a n c) (tCs p.choices)) (hlen : (tCs p.choices).length ≤ 849000) :
    Calls Tryd.prog 7 #[.agg #[.bool p.front, .bool p.back, .slice a n c]] w fun e w' => e = .returned (.string ⟨(tPtn p).toArray⟩) ∧ Below w.heap.size w w' := by
  obtain ⟨f, b, cs⟩ := p
  cases f <;> cases b
  · simpa [tPtn] using text_ff w a n c _ hX hlen
  · simpa [tPtn] using text_ft w a n c _ hX hlen
  · simpa [tPtn] using text_tf w a n c _ hX hlen
  · simpa [tPtn] using text_tt w a n c _ hX hlen
end Go.Proofs.YtbjabpodkaokjaaDoor
