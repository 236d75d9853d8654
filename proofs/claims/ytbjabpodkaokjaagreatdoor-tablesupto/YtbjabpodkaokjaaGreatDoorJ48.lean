import Derived.Test.YtbjabpodkaokjaaGreatDoorJ47
set_option linter.unusedVariables false
set_option linter.unusedSimpArgs false
namespace Go.Proofs.YtbjabpodkaokjaaGreatDoor
open Go.RowKit

/-- A step. -/
structure SOp where
  k : Int
  wh : Int
  a : Int
  big : Bool
  tx : List UInt8
  o : Tb
  oa : Option Addr
  oca : Nat
  on : Option Addr
  ocn : Nat
def SOp.cells (p : SOp) : List Value := (opC p.k p.wh p.a p.big p.tx p.o (.slice p.oa p.o.acc.length p.oca) (.slice p.on p.o.next.length p.ocn)).toList
structure SOk (w : World) (p : SOp) : Prop where
  tab : TabIn w p.o (.slice p.oa p.o.acc.length p.oca) (.slice p.on p.o.next.length p.ocn)
  ac : p.o.acc.length ≤ 1048576
  nx : p.o.next.length ≤ 1048576
  rw : ∀ r ∈ p.o.next, r.length ≤ 1048576
  cl : p.o.cls.length ≤ 1048576
  tx : p.tx.length ≤ 1048576
  w1 : -9223372036854775808 ≤ p.wh
  w2 : p.wh ≤ 9223372036854775807
  a1 : -9223372036854775808 ≤ p.a
  a2 : p.a ≤ 9223372036854775807
theorem SOk.below {w w' : World} {p : SOp} (h : SOk w p) (hb : Below w.heap.size w w') : SOk w' p := ⟨h.tab.below hb, h.ac, h.nx, h.rw, h.cl, h.tx, h.w1, h.w2, h.a1, h.a2⟩
theorem does_any (X : World → Prop) (B : Nat) (w : World) (g s : Nat) (hg : Gm X B w g s) (hs : s ≤ 1048576) (p : SOp) (hp : SOk w p) (hk : p.k ≤ 9) :
    Calls Tryz.prog 38 #[.pointer (some ⟨g, 0, none⟩), (opV p.k p.wh p.a p.big p.tx p.o (.slice p.oa p.o.acc.length p.oca) (.slice p.on p.o.next.length p.ocn))] w fun e w' => e = .returned (.bool true) ∧ Gm X B w' g (s + 1) ∧ Below B w w' := by
  obtain ⟨k, wh, a, big, tx, o, oa, oca, on, ocn⟩ := p
  obtain ⟨h1, h2, h3, h4, h5, h6, h7, h8, h9, h10⟩ := hp
  simp only at *
  by_cases k1 : k = 1
  · refine does_makes X B w g s hg hs k wh a big tx o oa oca on ocn (.inl k1) (fun w' hg' ho' => ?_) h1
    subst k1
    cases hf : isTb o with
    | true => exact makes_yes X B w' g s hg' hs wh a big tx o oa oca on ocn ho' h2 h3 h4 h5 hf
    | false => exact makes_no X B w' g s hg' hs wh a big tx o oa oca on ocn ho' h2 h3 h4 h5 hf
  by_cases k7 : k = 7
  · refine does_makes X B w g s hg hs k wh a big tx o oa oca on ocn (.inr k7) (fun w' hg' ho' => ?_) h1
    subst k7
    cases hl : loadM isTb tx with
    | none => exact makes_load_no X B w' g s hg' wh a big tx h6 o oa oca on ocn hl
    | some t => exact makes_load_yes X B w' g s hg' hs wh a big tx h6 o oa oca on ocn t hl
  by_cases k2 : k = 2
  · exact does_nobody X B w g s hg hs k wh a big tx o oa oca on ocn k2
  have e1 : (k == 1) = false := by simpa using k1
  have e2 : (k == 2) = false := by simpa using k2
  have e7 : (k == 7) = false := by simpa using k7
  have e10 : (k == 10) = false := by simp; omega
  have e11 : (k == 11) = false := by simp; omega
  obtain ⟨ρ, N, vs, d, tw, hgs⟩ := id hg
  rcases Nat.eq_zero_or_pos tw.length with h0 | hp
  · have : tw = [] := List.eq_nil_of_length_eq_zero h0
    subst this
    exact does_empty X B w g s hg hs k wh a big tx o oa oca on ocn e1 e2 e7 e10 e11 ⟨ρ, N, vs, d, hgs⟩
  · cases ht : tw[pickN wh tw.length]'(pickN_lt _ _ hp) with
    | none => exact does_twin X B w g s hg hs k wh a big tx o oa oca on ocn h7 h8 e1 e2 e7 e10 e11 ρ N vs d tw hgs hp ht
    | one m t c aa ca an cn => exact does_one X B w g s hg hs k wh a big tx o oa oca on ocn h7 h8 e1 e2 e7 e10 e11 ρ N vs d tw hgs hp m t c aa ca an cn ht h9 h10 h6
/-- The script in memory. -/
structure ScrIn (w : World) (v : Value) (ps : List SOp) : Prop where
  form : (ps = [] ∧ ∃ a c, v = .slice a 0 c) ∨ ∃ b o c, v = .slice (some ⟨b, o, none⟩) ps.length c ∧ ∀ i (h : i < ps.length) j, j < 11 → w.cell? ⟨b, o + i * 11 + j, none⟩ = ps[i].cells[j]?
  ok : ∀ p ∈ ps, SOk w p
  len : ps.length ≤ 1048576
abbrev g0C : Array Value := #[.slice none 0 0, .int .i64 0, .slice none 0 0, .slice none 0 0, .slice none 0 0, .slice none 0 0, .slice none 0 0, .slice none 0 0]
theorem Gm.start {B : Nat} {w : World} (hB : B ≤ w.heap.size) : Gm (fun _ => True) B (w.alloc (.cells g0C 78)) w.heap.size 0 := by
  refine ⟨fun b => if b = w.heap.size then 1 else 0, 0, fun _ => .slice none 0 0, ⟨[], [], [], [], [], []⟩, [], ⟨⟨fun k hk => ?_, ?_, fun o => ?_, fun k hk => ?_, fun k hk b hb => ?_, by simp, fun b hb => ?_, fun b hb => ?_⟩, ⟨rfl, rfl, rfl, fun i h => by simp at h, fun i h => by simp at h, fun i h => by simp at h, fun t h => by simp at h, fun _ _ => trivial⟩, by omega, by omega, by simp, by simp, by simp, by simp⟩⟩
  · have e := heap_alloc_new w (.cells g0C 78)
    match k with
    | 0 => (simp only [World.cell?, spO]; rw [e]; rfl)
    | 1 => (simp only [World.cell?, spO]; rw [e]; rfl)
    | 2 => (simp only [World.cell?, spO]; rw [e]; rfl)
    | 3 => (simp only [World.cell?, spO]; rw [e]; rfl)
    | 4 => (simp only [World.cell?, spO]; rw [e]; rfl)
    | 5 => (simp only [World.cell?, spO]; rw [e]; rfl)
    | 6 => (simp only [World.cell?, spO]; rw [e]; rfl)
    | _ + 7 => omega
  · have e := heap_alloc_new w (.cells g0C 78)
    simp only [World.cell?]; rw [e]; rfl
  · have e := heap_alloc_new w (.cells g0C 78)
    simp only [World.frozen?]; rw [e]; simp
  · match k with
    | 0 => exact World.ownsRow_nil _ _ _ _
    | 1 => exact World.ownsRow_nil _ _ _ _
    | 2 => exact World.ownsRow_nil _ _ _ _
    | 3 => exact World.ownsRow_nil _ _ _ _
    | 4 => exact World.ownsRow_nil _ _ _ _
    | 5 => exact World.ownsRow_nil _ _ _ _
    | 6 => exact World.ownsRow_nil _ _ _ _
    | _ + 7 => omega
  · simp [Value.ownBlock] at hb
  · simp at hb
    rw [if_neg (by omega)]
  · by_cases e : b = w.heap.size
    · omega
    · simp [e] at hb
set_option maxRecDepth 4000 in
set_option maxHeartbeats 8000000 in
theorem holds_any (W : World) (v : Value) (ps : List SOp) (last : Int) (hl : last ≤ 9) (hv : ScrIn W v ps) :
    Calls Tryz.prog 12 #[v, .int .i64 last] W fun e w' => e = .returned (.bool true) ∧ Below W.heap.size W w' := by
  obtain ⟨n, hn⟩ : ∃ n, n = ps.length := ⟨_, rfl⟩
  obtain ⟨a, c, hform⟩ : ∃ a c, v = .slice a n c := by
    rcases hv.form with ⟨rfl, a, c, rfl⟩ | ⟨b, o, c, rfl, _⟩
    · exact ⟨a, c, by rw [hn]; rfl⟩
    · exact ⟨_, c, by rw [hn]⟩
  subst hform
  have HV : Hid (ScrIn W (.slice a n c) ps) := hv
  have HN : Hid (n = ps.length) := hn
  have hn2 : n ≤ 1048576 := by rw [hn]; exact hv.len
  have HKN : Hid (Calls Tryz.prog 37 #[] W fun e w' => e = .returned (.bool true) ∧ Below W.heap.size W w') := known_yes W
  clear hv hn
  go_enter Tryz.func12, Tryz.ntmps12
  go_upto_region 4 with (go_at_call 37; refine HKN.out.mono ?_; rintro e w1 ⟨rfl, hb1⟩; have HB1 : Hid (Below W.heap.size W w1) := hb1; clear hb1)
  have HG : Hid (Gm (fun _ => True) W.heap.size (w1.alloc (.cells g0C 78)) w1.heap.size 0) := Gm.start HB1.out.size
  have HB2 : Hid (Below W.heap.size W (w1.alloc (.cells g0C 78))) := HB1.out.alloc HB1.out.size _
  obtain ⟨g, hgg⟩ : ∃ g, g = w1.heap.size := ⟨_, rfl⟩
  rw [← hgg] at HG
  have HGG : Hid (g = w1.heap.size) := hgg
  clear hgg
  go_wp2
  rw [← HGG.out]
  generalize (w1.alloc (.cells g0C 78)) = w2 at HG HB2 ⊢
  go_loopw [7, 8, 9] (fun i _ _ wr => ∃ k : Nat, i = .int .i64 k ∧ k ≤ n ∧ Gm (fun _ => True) W.heap.size wr g k ∧ Below W.heap.size W wr) (fun i _ _ _ => n - (intOf i).toNat)
  case atStart => exact ⟨0, rfl, Nat.zero_le _, HG.out, HB2.out⟩
  case round =>
    clear HG HB2
    obtain ⟨k, rfl, hk, hg, hb⟩ := hrel
    have HG : Hid (Gm (fun _ => True) W.heap.size wr g k) := hg
    have HB : Hid (Below W.heap.size W wr) := hb
    clear hg hb
    by_cases hlt : k < n
    · have hltI : (k : Int) < n := by omega
      have hkp : k < ps.length := by rw [← HN.out]; exact hlt
      obtain ⟨b, o, c', hv, hcell⟩ : ∃ b o c', Value.slice a n c = .slice (some ⟨b, o, none⟩) ps.length c' ∧ ∀ i (h : i < ps.length) j, j < 11 → W.cell? ⟨b, o + i * 11 + j, none⟩ = ps[i].cells[j]? := by
        rcases HV.out.form with ⟨h, _⟩ | h
        · rw [h] at hkp; simp at hkp
        · exact h
      injection hv with ea e2 e3
      subst ea
      obtain ⟨p, hp⟩ : ∃ p, p = ps[k] := ⟨_, rfl⟩
      have HCE : Hid (∀ j (hj : j < 11), wr.cell? ⟨b, o + k * 11 + j, none⟩ = p.cells[j]?) := fun j hj => by
        have h1 := hcell k hkp j hj
        rw [← hp] at h1
        have h2 : p.cells[j]? = some (p.cells[j]'(by exact hj)) := List.getElem?_eq_getElem _
        rw [h2] at h1 ⊢
        exact cell_below HB.out h1
      have HOK : Hid (SOk wr p) := (HV.out.ok p (by rw [hp]; exact List.getElem_mem hkp)).below HB.out
      have q0 := HCE.out 0 (by omega)
      have q1 := HCE.out 1 (by omega)
      have q2 := HCE.out 2 (by omega)
      have q3 := HCE.out 3 (by omega)
      have q4 := HCE.out 4 (by omega)
      have q5 := HCE.out 5 (by omega)
      have q6 := HCE.out 6 (by omega)
      have q7 := HCE.out 7 (by omega)
      have q8 := HCE.out 8 (by omega)
      have q9 := HCE.out 9 (by omega)
      have q10 := HCE.out 10 (by omega)
      simp only [SOp.cells, opC, List.getElem?_cons_zero, List.getElem?_cons_succ, Nat.add_zero] at q0 q1 q2 q3 q4 q5 q6 q7 q8 q9 q10
      clear e2 e3 hcell hp hkp HCE
      by_cases hkl : last < p.k
      · go_wp2
        go_roundw
        case rel => exact ⟨k + 1, by go_num, by omega, HG.out.more, HB.out⟩
        case measure => simp [intOf] <;> omega
      · have HDO : Hid (Calls Tryz.prog 38 #[.pointer (some ⟨g, 0, none⟩), (opV p.k p.wh p.a p.big p.tx p.o (.slice p.oa p.o.acc.length p.oca) (.slice p.on p.o.next.length p.ocn))] wr fun e w' => e = .returned (.bool true) ∧ Gm (fun _ => True) W.heap.size w' g (k + 1) ∧ Below W.heap.size wr w') := does_any _ _ wr g k HG.out (by omega) p HOK.out (by omega)
        go_wp2_with (first | (go_at_call 19; refine (HG3.out.still (by omega)).mono ?_; rintro e w4 ⟨rfl, hb4⟩; have HG4 : Hid (Gm (fun _ => True) W.heap.size w4 g (k + 1) ∧ Below W.heap.size W w4) := ⟨HG3.out.below hb4, HB3.out.trans (hb4.mono HB3.out.size)⟩; clear hb4) | (go_at_call 38; refine HDO.out.mono ?_; rintro e w3 ⟨rfl, hg3, hb3⟩; have HG3 : Hid (Gm (fun _ => True) W.heap.size w3 g (k + 1)) := hg3; have HB3 : Hid (Below W.heap.size W w3) := HB.out.trans hb3; clear hg3 hb3))
        go_roundw
        case rel => exact ⟨k + 1, by go_num, by omega, HG4.out⟩
        case measure => simp [intOf] <;> omega
    · have hkI : ¬ (k : Int) < n := by omega
      go_wp2
      go_ret
      exact ⟨rfl, HB.out⟩
end Go.Proofs.YtbjabpodkaokjaaGreatDoor
