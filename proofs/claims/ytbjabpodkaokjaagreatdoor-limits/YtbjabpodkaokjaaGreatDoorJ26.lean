import Derived.Test.YtbjabpodkaokjaaGreatDoorJ25
set_option linter.unusedVariables false
set_option linter.unusedSimpArgs false
namespace Go.Proofs.YtbjabpodkaokjaaGreatDoor
open Go.RowKit
open Sx (Prt Cnt)

theorem PB.al {W : World} {H : Nat} {s : Sx.SixV} (h : PB W H s) (ob : Obj) : PB (W.alloc ob) H s := h.keep (fun j h1 h2 => Below.heap_alloc _ _ _ (by have := h.lt; omega))
set_option maxRecDepth 8000 in
set_option maxHeartbeats 4000000 in
theorem part_atom (g : List (List Prt)) (S : Nat → Bool) (hp : SpPK (.mk g S [])) (ha : AtomK g S) (hz : spP (.mk g S []) ≠ 0) (w : World) (sb : Nat) (vb vf : Value) (e : Ex) (n : Nat) (s : Sx.SixV) (h : Beg w sb vb vf e n (spP (.mk g S []))) (hR : Sx.RepP w (fun g => g < sb) (.mk g S []) s.cells) :
    Calls Tryz.prog 176 #[.pointer (some ⟨sb, 0, none⟩), s.val] w (MkRes sb w vb vf (atomM g S e)) := by
  have HH : Hid (Beg w sb vb vf e n (spP (.mk g S []))) := h
  obtain ⟨hrg, hwd, hrc⟩ := six_rep hR
  obtain ⟨a2, c2, e2, -⟩ := cnt_form hrc
  simp only [Value.slice.injEq, List.length_nil] at e2
  have hr1 : s.r1 = 0 := e2.2.1
  obtain ⟨q0, q1, q2, y0, y1, y2, y3, r0, r1, r2⟩ := s
  simp only at hr1
  subst hr1
  clear e2
  simp only at hrg hwd hrc
  have HRG : Hid (Sx.RepCs w (fun g => g < sb) g (.slice q0 q1 q2)) := hrg
  obtain ⟨w1, hw1⟩ : ∃ w1, w1 = (w.alloc (.cells #[.slice q0 q1 q2, .int .u64 y0, .int .u64 y1, .int .u64 y2, .int .u64 y3, .slice r0 0 r2] 231)).alloc (.cells zC 152) := ⟨_, rfl⟩
  have HP1 : Hid (PB w1 w.heap.size ⟨q0, q1, q2, y0, y1, y2, y3, r0, 0, r2⟩) := by rw [hw1]; exact pb_new w ⟨q0, q1, q2, y0, y1, y2, y3, r0, 0, r2⟩
  have hb1 : Below w.heap.size w w1 := by rw [hw1]; exact ((Below.refl _ _).alloc (Nat.le_refl _) _).alloc (by simp) _
  have hs1 : w1.heap.size = w.heap.size + 2 := by rw [hw1]; simp
  have hsp := hp w1 sb _ (by have := h.sb; omega) (repP_keep hR (hb1.mono (Nat.le_of_lt h.sb)))
  have HB1 : Hid (Below w.heap.size w w1) := hb1
  have HW : Hid (w1 = (w.alloc (.cells #[.slice q0 q1 q2, .int .u64 y0, .int .u64 y1, .int .u64 y2, .int .u64 y3, .slice r0 0 r2] 231)).alloc (.cells zC 152)) := hw1
  have hsA : spP (.mk g S []) = spA g := by rw [spP_eq]; rfl
  obtain ⟨m, hm⟩ : ∃ m, m = capN (spP (.mk g S [])) := ⟨_, rfl⟩
  have hm0 : ¬ (m : Int) = 0 := by rw [hm]; unfold capN; omega
  rw [← hm] at hsp
  have hAT := fun w2 (hb : Below w.heap.size w w2) => ha w2 sb vb vf e n ⟨q0, q1, q2, y0, y1, y2, y3, r0, 0, r2⟩ ((HH.out.below hb).less (by rw [hsA]; exact Nat.le_refl _)) (repCs_keep HRG.out (hb.mono (Nat.le_of_lt HH.out.sb))) hwd
  obtain ⟨X, hX⟩ : ∃ X, X = atomM g S e := ⟨_, rfl⟩
  rw [← hX] at hAT ⊢
  have HSB : Hid (sb < w.heap.size) := h.sb
  clear hw1 hb1 h hR hz hm hrg hrc hwd hsA hX
  go_enter Tryz.func176, Tryz.ntmps176
  go_wp2_with (first | (go_at_call 198; refine (hAT w2 HB2.out).mono ?_; rintro r w3 ⟨rfl, vb3, vf3, hx3, hg3⟩; have HX3 : Hid (ExAt w3 sb vb3 vf3 X.2) := hx3; have HG3 : Hid (Grw sb w vb vf w3 vb3 vf3) := ((Grw.of_below HB2.out).trans hg3); have hk3 := hg3.same (b := w.heap.size + 1) HP.out.lt (fun q => by have := (HH.out.lt q).2; omega); have HK3 : Hid (w3.heap[w.heap.size + 1]? = some (.cells zC 152)) := hk3.trans HP.out.k1; have HN3 : Hid (¬ EFoot sb vb3 vf3 (w.heap.size + 1)) := (fun q => by rcases hg3.new _ q with q' | q'; have := (HH.out.lt q').2; omega; have := HP.out.lt; omega); obtain ⟨z0, z1, z2, z3, z4, z5, z6, z7, z8⟩ := box9z HK3.out; have zf : ∀ o, World.frozen? w3 ⟨w.heap.size + 1, o, none⟩ = false := (fun o => by simp [World.frozen?, HK3.out]); clear hx3 hg3 hk3) | (go_at_call 123; rw [← HW.out]; refine hsp.mono ?_; rintro r w2 ⟨rfl, hb2⟩; have HP : Hid (PB w2 w.heap.size ⟨q0, q1, q2, y0, y1, y2, y3, r0, 0, r2⟩) := HP1.out.keep (fun j h1 h2 => hb2.block j (by omega)); have HB2 : Hid (Below w.heap.size w w2) := HB1.out.trans (hb2.mono (by omega)); clear hb2; obtain ⟨p0, p1, p2, p3, p4, p5⟩ := box6' HP.out.k0))
  obtain ⟨W, hW⟩ : ∃ W, W = S9 w3 (w.heap.size + 1) X.1 := ⟨_, rfl⟩; have hW2 := hW; simp only [S9] at hW2; rw [← hW2]; have hq : W.heap[(w.heap.size + 1)]? = some (.cells (pcC X.1) 152) := (by rw [hW]; exact S9_own _ HK3.out); obtain ⟨r0, r1, r2, r3, r4, r5, r6, r7, r8⟩ := box9 hq; refine bodyPost_ret (v := pcV X.1) (by simp [results, Tryz.results176, go_sem, r0, r1, r2, r3, r4, r5, r6, r7, r8]) rfl ⟨rfl, vb3, vf3, ?_, ?_⟩
  · rw [hW]
    exact ExAt.put HX3.out HN3.out _
  · rw [hW]
    exact Grw.put HG3.out (by omega) _
set_option maxRecDepth 8000 in
set_option maxHeartbeats 4000000 in
theorem part_times (g : List (List Prt)) (S : Nat → Bool) (cs : List Cnt) (c : Cnt) (hp : SpPK (.mk g S (cs ++ [c]))) (ht : TimesK (.mk g S cs) c) (hz : spP (.mk g S (cs ++ [c])) ≠ 0) (w : World) (sb : Nat) (vb vf : Value) (e : Ex) (n : Nat) (s : Sx.SixV) (h : Beg w sb vb vf e n (spP (.mk g S (cs ++ [c])))) (hR : Sx.RepP w (fun g => g < sb) (.mk g S (cs ++ [c])) s.cells) :
    Calls Tryz.prog 176 #[.pointer (some ⟨sb, 0, none⟩), s.val] w (MkRes sb w vb vf (timesM (exP (.mk g S cs)) c e)) := by
  have HH : Hid (Beg w sb vb vf e n (spP (.mk g S (cs ++ [c])))) := h
  obtain ⟨hrg, hwd, hrc⟩ := six_rep hR
  obtain ⟨a2, c2, e2, hcl⟩ := cnt_form hrc
  simp only [Value.slice.injEq, List.length_append, List.length_cons, List.length_nil, Nat.zero_add] at e2 hcl
  have hr1 : s.r1 = cs.length + 1 := e2.2.1
  obtain ⟨q0, q1, q2, y0, y1, y2, y3, r0, r1, r2⟩ := s
  simp only at hr1
  subst hr1
  clear e2
  simp only [List.length_append, List.length_cons, List.length_nil, Nat.zero_add] at hrg hwd hrc
  obtain ⟨g2, cap2, er, hg2, hcap, hcapm⟩ := hrc.form (by omega)
  simp only [Value.slice.injEq, true_and] at er
  obtain ⟨rfl, rfl⟩ := er
  have hcut := cnt_cut hrc
  have hrc' : Sx.RowIn w (fun g => g < sb) 282 3 (.slice (some ⟨g2, 0, none⟩) (cs ++ [c]).length r2) (cs ++ [c]).length ((cs ++ [c]).flatMap Sx.cntCells) := by simpa using hrc
  obtain ⟨g3, eg, -, d0, d1, d2⟩ := cnt_at hrc' (i := cs.length) (by simp)
  simp only [Option.some.injEq, Addr.mk.injEq, and_true] at eg
  subst eg
  simp only [List.getElem_concat_length] at d0 d1 d2
  obtain ⟨N, hN⟩ : ∃ N, N = cs.length := ⟨_, rfl⟩
  rw [← hN] at hcl hrc hcut d0 d1 d2 hcap hR ⊢
  have HRT : Hid (∀ w2, Below w.heap.size w w2 → Sx.RepP w2 (fun g => g < sb) (.mk g S cs) (Sx.SixV.cells ⟨q0, q1, q2, y0, y1, y2, y3, (some ⟨g2, 0, none⟩), N, r2⟩)) := fun w2 hb => by
    refine repP_keep ?_ (hb.mono (Nat.le_of_lt h.sb))
    simp only [Sx.RepP, Sx.SixV.cells]
    refine ⟨_, _, _, _, _, _, rfl, hrg, hwd, ?_⟩
    rw [hN] at hcut ⊢
    exact hcut
  obtain ⟨w1, hw1⟩ : ∃ w1, w1 = (w.alloc (.cells #[.slice q0 q1 q2, .int .u64 y0, .int .u64 y1, .int .u64 y2, .int .u64 y3, .slice (some ⟨g2, 0, none⟩) (N + 1) r2] 231)).alloc (.cells zC 152) := ⟨_, rfl⟩
  have HP1 : Hid (PB w1 w.heap.size ⟨q0, q1, q2, y0, y1, y2, y3, (some ⟨g2, 0, none⟩), N + 1, r2⟩) := by rw [hw1]; exact pb_new w ⟨q0, q1, q2, y0, y1, y2, y3, (some ⟨g2, 0, none⟩), N + 1, r2⟩
  have hb1 : Below w.heap.size w w1 := by rw [hw1]; exact ((Below.refl _ _).alloc (Nat.le_refl _) _).alloc (by simp) _
  have hs1 : w1.heap.size = w.heap.size + 2 := by rw [hw1]; simp
  have hsp := hp w1 sb _ (by have := h.sb; omega) (repP_keep hR (hb1.mono (Nat.le_of_lt h.sb)))
  have HB1 : Hid (Below w.heap.size w w1) := hb1
  have HW : Hid (w1 = (w.alloc (.cells #[.slice q0 q1 q2, .int .u64 y0, .int .u64 y1, .int .u64 y2, .int .u64 y3, .slice (some ⟨g2, 0, none⟩) (N + 1) r2] 231)).alloc (.cells zC 152)) := hw1
  obtain ⟨m, hm⟩ : ∃ m, m = capN (spP (.mk g S (cs ++ [c]))) := ⟨_, rfl⟩
  have hm0 : ¬ (m : Int) = 0 := by rw [hm]; unfold capN; omega
  rw [← hm] at hsp
  have hTM := fun w2 (hb : Below w.heap.size w w2) => ht w2 sb vb vf e n ⟨q0, q1, q2, y0, y1, y2, y3, (some ⟨g2, 0, none⟩), N, r2⟩ ((HH.out.below hb).less (by rw [spP_snoc]; exact Nat.le_refl _)) (HRT.out w2 hb)
  obtain ⟨X, hX⟩ : ∃ X, X = timesM (exP (.mk g S cs)) c e := ⟨_, rfl⟩
  rw [← hX] at hTM ⊢
  have HD : Hid (∀ w2, Below w.heap.size w w2 → w2.cell? ⟨g2, N * 3, none⟩ = some (.int .u8 c.sign.toNat) ∧ w2.cell? ⟨g2, N * 3 + 1, none⟩ = some (.int .i64 c.least) ∧ w2.cell? ⟨g2, N * 3 + 2, none⟩ = some (.int .i64 c.most)) := fun w2 hb => ⟨cell_below hb d0, cell_below hb d1, cell_below hb d2⟩
  have HSB : Hid (sb < w.heap.size) := h.sb
  unfold maxLen at hcl
  have hr2 : N < r2 := by omega
  have hcI : (N : Int) ≤ r2 := by omega
  clear hw1 hb1 h hR hz hm hrg hrc hwd hrc' hcut d0 d1 d2 hX hN hcapm
  go_enter Tryz.func176, Tryz.ntmps176
  go_wp2_with (first | (go_at_call 199; obtain ⟨w3, hw3⟩ : ∃ w3, w3 = (w2.alloc (.cells #[.int .u8 c.sign.toNat, .int .i64 c.least, .int .i64 c.most] 282)).setCell ⟨w.heap.size, 5, none⟩ (.slice (some ⟨g2, 0, none⟩) N r2) := ⟨_, rfl⟩; have hb3 : Below w.heap.size w w3 := (by rw [hw3]; exact (HB2.out.alloc HB2.out.size _).setCell (p := ⟨w.heap.size, 5, none⟩) (Nat.le_refl _) _); have hz3 : w3.heap[w.heap.size + 1]? = some (.cells zC 152) := (by rw [hw3, set_blk _ _ _ _ (by omega)]; exact (HP.out.al _).k1); rw [← hw3]; refine (hTM w3 hb3).mono ?_; rintro r w4 ⟨rfl, vb3, vf3, hx3, hg3⟩; have HX3 : Hid (ExAt w4 sb vb3 vf3 X.2) := hx3; have HG3 : Hid (Grw sb w vb vf w4 vb3 vf3) := ((Grw.of_below hb3).trans hg3); have hz3l := (Array.getElem?_eq_some_iff.1 hz3).1; have HK3 : Hid (w4.heap[w.heap.size + 1]? = some (.cells zC 152)) := (hg3.same hz3l (fun q => by have := (HH.out.lt q).2; omega)).trans hz3; have HN3 : Hid (¬ EFoot sb vb3 vf3 (w.heap.size + 1)) := (fun q => by rcases hg3.new _ q with q' | q'; have := (HH.out.lt q').2; omega; omega); clear z0 z1 z2 z3 z4 z5 z6 z7 z8 zf; obtain ⟨z0, z1, z2, z3, z4, z5, z6, z7, z8⟩ := box9z HK3.out; have zf : ∀ o, World.frozen? w4 ⟨w.heap.size + 1, o, none⟩ = false := (fun o => by simp [World.frozen?, HK3.out]); clear hx3 hg3 hz3 hb3 hw3) | (go_at_call 123; rw [← HW.out]; refine hsp.mono ?_; rintro r w2 ⟨rfl, hb2⟩; have HP : Hid (PB w2 w.heap.size ⟨q0, q1, q2, y0, y1, y2, y3, (some ⟨g2, 0, none⟩), N + 1, r2⟩) := HP1.out.keep (fun j h1 h2 => hb2.block j (by omega)); have HB2 : Hid (Below w.heap.size w w2) := HB1.out.trans (hb2.mono (by omega)); clear hb2; obtain ⟨p0, p1, p2, p3, p4, p5⟩ := box6' HP.out.k0; obtain ⟨z0, z1, z2, z3, z4, z5, z6, z7, z8⟩ := box9z HP.out.k1; have zf : ∀ o, World.frozen? w2 ⟨w.heap.size + 1, o, none⟩ = false := (fun o => by simp [World.frozen?, HP.out.k1]); have pf : ∀ o, World.frozen? w2 ⟨w.heap.size, o, none⟩ = false := (fun o => by simp [World.frozen?, HP.out.k0]); have paa := (fun ob => box6' (HP.out.al ob).k0); have pff := (fun ob => (fun o => by simp [World.frozen?, (HP.out.al ob).k0] : ∀ o, World.frozen? (w2.alloc ob) ⟨w.heap.size, o, none⟩ = false)); simp only at paa; obtain ⟨d0, d1, d2⟩ := HD.out w2 HB2.out; have hltP := HP.out.lt))
  obtain ⟨W, hW⟩ : ∃ W, W = S9 w4 (w.heap.size + 1) X.1 := ⟨_, rfl⟩; have hW2 := hW; simp only [S9] at hW2; rw [← hW2]; have hq : W.heap[(w.heap.size + 1)]? = some (.cells (pcC X.1) 152) := (by rw [hW]; exact S9_own _ HK3.out); obtain ⟨r0, r1, r2, r3, r4, r5, r6, r7, r8⟩ := box9 hq; refine bodyPost_ret (v := pcV X.1) (by simp [results, Tryz.results176, go_sem, r0, r1, r2, r3, r4, r5, r6, r7, r8]) rfl ⟨rfl, vb3, vf3, ?_, ?_⟩
  · rw [hW]
    exact ExAt.put HX3.out HN3.out _
  · rw [hW]
    exact Grw.put HG3.out (by omega) _
/-- A part, if its atom and its counts are known. -/
theorem part_of (g : List (List Prt)) (S : Nat → Bool) (ha : AtomK g S) (ht : ∀ cs c, (∀ x ∈ cs, CntOk x) → PartK (.mk g S cs) → CntOk c → TimesK (.mk g S cs) c) (hg : SpCsK g) : ∀ (k : Nat) (cs : List Cnt), cs.length = k → (∀ c ∈ cs, CntOk c) → PartK (.mk g S cs)
  | 0, cs, hk, hc => by
    obtain rfl := List.eq_nil_of_length_eq_zero hk
    intro w sb vb vf e n s h hR
    have hp := spP_step g S [] hg hc
    by_cases hz : spP (.mk g S []) = 0
    · rw [exP_zero hz]; exact part_zero _ hp hz w sb vb vf e n s h hR
    · rw [exP_nil hz]; exact part_atom g S hp ha hz w sb vb vf e n s h hR
  | k + 1, cs, hk, hc => by
    intro w sb vb vf e n s h hR
    have hp := spP_step g S cs hg hc
    by_cases hz : spP (.mk g S cs) = 0
    · rw [exP_zero hz]; exact part_zero _ hp hz w sb vb vf e n s h hR
    · have hne : cs ≠ [] := by rintro rfl; simp at hk
      obtain ⟨ds, c, rfl⟩ : ∃ ds c, cs = ds ++ [c] := ⟨cs.dropLast, cs.getLast hne, (List.dropLast_concat_getLast hne).symm⟩
      rw [exP_snoc hz]
      exact part_times g S ds c hp (ht ds c (fun x hx => hc x (by simp [hx])) (part_of g S ha ht hg k ds (by simpa using hk) (fun x hx => hc x (by simp [hx]))) (hc c (by simp))) hz w sb vb vf e n s h hR
end Go.Proofs.YtbjabpodkaokjaaGreatDoor

namespace Go.Proofs.YtbjabpodkaokjaaGreatDoor
open Go.RowKit
open Sx (Prt Cnt)

set_option maxRecDepth 8000 in
set_option maxHeartbeats 4000000 in
theorem atom_group (g : List (List Prt)) (S : Nat → Bool) (hne : g ≠ []) (hg : ChoicesK g) (w : World) (sb : Nat) (vb vf : Value) (e : Ex) (n : Nat) (s : Sx.SixV) (h : Beg w sb vb vf e n (spCs g)) (hR : Sx.RepCs w (fun g => g < sb) g (.slice s.q0 s.q1 s.q2)) :
    Calls Tryz.prog 198 #[.pointer (some ⟨sb, 0, none⟩), atV s] w (MkRes sb w vb vf (exCs g pc0 e)) := by
  have HH : Hid (Beg w sb vb vf e n (spCs g)) := h
  obtain ⟨a1, c1, e1, hgl⟩ := repCs_form hR
  simp only [Value.slice.injEq] at e1
  obtain ⟨q0, q1, q2, y0, y1, y2, y3, r0, r1, r2⟩ := s
  simp only at e1 hR
  obtain ⟨-, rfl, -⟩ := e1
  have hlen : 0 < g.length := List.length_pos_iff.2 hne
  obtain ⟨N, hN⟩ : ∃ N, N = g.length := ⟨_, rfl⟩
  unfold maxLen at hgl
  rw [← hN] at hlen hgl hR ⊢
  have hNI : (0 : Int) < N := by omega
  obtain ⟨w1, hw1⟩ : ∃ w1, w1 = (w.alloc (.cells #[.slice q0 N q2, .int .u64 y0, .int .u64 y1, .int .u64 y2, .int .u64 y3] 228)).alloc (.cells zC 152) := ⟨_, rfl⟩
  have hb1 : Below w.heap.size w w1 := by rw [hw1]; exact ((Below.refl _ _).alloc (Nat.le_refl _) _).alloc (by simp) _
  have hk1 : w1.heap[w.heap.size + 1]? = some (.cells zC 152) := by
    rw [hw1]
    have := heap_alloc_new (w.alloc (.cells #[.slice q0 N q2, .int .u64 y0, .int .u64 y1, .int .u64 y2, .int .u64 y3] 228)) (.cells zC 152)
    simpa using this
  have hs1 : w1.heap.size = w.heap.size + 2 := by rw [hw1]; simp
  have hcall := hg w1 sb vb vf e n _ (h.below hb1) (repCs_keep hR (hb1.mono (Nat.le_of_lt h.sb)))
  have HB1 : Hid (Below w.heap.size w w1) := hb1
  have HW : Hid (w1 = (w.alloc (.cells #[.slice q0 N q2, .int .u64 y0, .int .u64 y1, .int .u64 y2, .int .u64 y3] 228)).alloc (.cells zC 152)) := hw1
  have HK1 : Hid (w1.heap[w.heap.size + 1]? = some (.cells zC 152)) := hk1
  obtain ⟨X, hX⟩ : ∃ X, X = exCs g pc0 e := ⟨_, rfl⟩
  rw [← hX] at hcall ⊢
  clear hw1 hb1 hk1 h hR hne hg hN hX
  go_enter Tryz.func198, Tryz.ntmps198
  go_wp2_with (go_at_call 73; rw [← HW.out]; refine hcall.mono ?_; rintro r w3 ⟨rfl, vb3, vf3, hx3, hg3⟩; have HX3 : Hid (ExAt w3 sb vb3 vf3 X.2) := hx3; have HG3 : Hid (Grw sb w vb vf w3 vb3 vf3) := ((Grw.of_below HB1.out).trans hg3); have HK3 : Hid (w3.heap[w.heap.size + 1]? = some (.cells zC 152)) := (hg3.same (by omega) (fun q => by have := (HH.out.lt q).2; omega)).trans HK1.out; have HN3 : Hid (¬ EFoot sb vb3 vf3 (w.heap.size + 1)) := (fun q => by rcases hg3.new _ q with q' | q'; have := (HH.out.lt q').2; omega; omega); obtain ⟨z0, z1, z2, z3, z4, z5, z6, z7, z8⟩ := box9z HK3.out; have zf : ∀ o, World.frozen? w3 ⟨w.heap.size + 1, o, none⟩ = false := (fun o => by simp [World.frozen?, HK3.out]); clear hx3 hg3)
  obtain ⟨W, hW⟩ : ∃ W, W = S9 w3 (w.heap.size + 1) X.1 := ⟨_, rfl⟩; have hW2 := hW; simp only [S9] at hW2; rw [← hW2]; have hq : W.heap[(w.heap.size + 1)]? = some (.cells (pcC X.1) 152) := (by rw [hW]; exact S9_own _ HK3.out); obtain ⟨r0, r1, r2, r3, r4, r5, r6, r7, r8⟩ := box9 hq; refine bodyPost_ret (v := pcV X.1) (by simp [results, Tryz.results198, go_sem, r0, r1, r2, r3, r4, r5, r6, r7, r8]) rfl ⟨rfl, vb3, vf3, ?_, ?_⟩
  · rw [hW]
    exact ExAt.put HX3.out HN3.out _
  · rw [hW]
    exact Grw.put HG3.out (by omega) _
theorem atom_of (g : List (List Prt)) (S : Nat → Bool) (hg : ChoicesK g) : AtomK g S := by
  intro w sb vb vf e n s h hR hS
  cases g with
  | nil =>
    obtain ⟨a1, c1, e1, hgl⟩ := repCs_form hR
    simp only [Value.slice.injEq, List.length_nil] at e1
    have := atom_new w sb vb vf e s.q0 s.q2 ⟨s.y0, s.y1, s.y2, s.y3⟩ S n h.s1 h.at_ (by have := h.le; simp [spA] at this; omega) h.ok hS
    rw [show atV s = .agg #[.slice s.q0 0 s.q2, .int .u64 (s.y0 : Int), .int .u64 (s.y1 : Int), .int .u64 (s.y2 : Int), .int .u64 (s.y3 : Int)] by rw [← e1.2.1]]
    exact this
  | cons c gs =>
    rw [spA_cons] at h
    exact atom_group (c :: gs) S (by simp) hg w sb vb vf e n s h hR
end Go.Proofs.YtbjabpodkaokjaaGreatDoor

namespace Go.Proofs.YtbjabpodkaokjaaGreatDoor
open Go.RowKit
open Sx (Prt Cnt)

theorem trC_iff : ∀ {ps : List Prt}, TrOkC ps ↔ ∀ p ∈ ps, TrOk p
  | [] => by simp [TrOkC]
  | p :: ps => by simp [TrOkC, trC_iff (ps := ps)]
theorem trVs_iff : ∀ {cs : List (List Prt)}, TrOkVs cs ↔ ∀ c ∈ cs, TrOkC c
  | [] => by simp [TrOkVs]
  | c :: cs => by simp [TrOkVs, trVs_iff (cs := cs)]
theorem exC_snoc : ∀ (ps : List Prt) (p : Prt) (a : Pc) (e : Ex), exC (ps ++ [p]) a e = ((exC ps a e).1.join (exP p (exC ps a e).2).1, (exP p (exC ps a e).2).2.join (exC ps a e).1 (exP p (exC ps a e).2).1)
  | [], p, a, e => by simp [exC]
  | q :: ps, p, a, e => by simp only [List.cons_append, exC]; exact exC_snoc ps p _ _
theorem exCs_snoc : ∀ (cs : List (List Prt)) (c : List Prt) (a : Pc) (e : Ex), exCs (cs ++ [c]) a e = ((exCs cs a e).1.alt (exC c pcN (exCs cs a e).2).1, (exC c pcN (exCs cs a e).2).2)
  | [], c, a, e => by simp [exCs]
  | d :: cs, c, a, e => by simp only [List.cons_append, exCs]; exact exCs_snoc cs c _ _
/-- The call's own blocks: what is answered, and the piece so far. -/
structure CB (W : World) (H : Nat) (a : Pc) : Prop where
  k0 : W.heap[H]? = some (.cells zC 152)
  k1 : W.heap[H + 1]? = some (.cells (pcC a) 152)
theorem CB.keep {W W' : World} {H : Nat} {a : Pc} (h : CB W H a) (k : ∀ j, H ≤ j → j < H + 2 → W'.heap[j]? = W.heap[j]?) : CB W' H a := ⟨(k _ (by omega) (by omega)).trans h.k0, (k _ (by omega) (by omega)).trans h.k1⟩
theorem CB.lt {W : World} {H : Nat} {a : Pc} (h : CB W H a) : H + 1 < W.heap.size := (Array.getElem?_eq_some_iff.1 h.k1).1
theorem CB.al {W : World} {H : Nat} {a : Pc} (h : CB W H a) (ob : Obj) : CB (W.alloc ob) H a := h.keep (fun j h1 h2 => Below.heap_alloc _ _ _ (by have := h.lt; omega))
theorem CB.put {W : World} {H : Nat} {a : Pc} (h : CB W H a) (b : Pc) : CB (S9 W (H + 1) b) H b := ⟨(S9_blk _ _ _ (by omega)).trans h.k0, S9_own _ h.k1⟩
theorem CB.fz {W : World} {H : Nat} {a : Pc} (h : CB W H a) (o : Nat) : W.frozen? ⟨H + 1, o, none⟩ = false ∧ W.frozen? ⟨H, o, none⟩ = false := ⟨by simp [World.frozen?, h.k1], by simp [World.frozen?, h.k0]⟩
/-- Behind some rounds. -/
structure Rnd (sb : Nat) (w : World) (vb vf : Value) (W : World) (vb' vf' : Value) (e : Ex) (a : Pc) : Prop where
  at_ : ExAt W sb vb' vf' e
  cb : CB W w.heap.size a
  gr : Grw sb w vb vf W vb' vf'
  nw : ∀ b, EFoot sb vb' vf' b → (sb ≤ b ∧ b < w.heap.size) ∨ w.heap.size + 2 ≤ b
theorem Rnd.below {sb : Nat} {w : World} {vb vf : Value} {W W' : World} {vb' vf' : Value} {e : Ex} {a : Pc} (h : Rnd sb w vb vf W vb' vf' e a) (hb : Below W.heap.size W W') : Rnd sb w vb vf W' vb' vf' e a :=
  ⟨h.at_.below hb, h.cb.keep (fun j h1 h2 => hb.block j (by have := h.cb.lt; omega)), h.gr.below hb, h.nw⟩
/-- A call behind it. -/
theorem Rnd.call {sb : Nat} {w : World} {vb vf : Value} {W W' : World} {vb' vf' vb2 vf2 : Value} {e e2 : Ex} {a : Pc} (h : Rnd sb w vb vf W vb' vf' e a) (hx : ExAt W' sb vb2 vf2 e2) (hg : Grw sb W vb' vf' W' vb2 vf2) : Rnd sb w vb vf W' vb2 vf2 e2 a := by
  refine ⟨hx, h.cb.keep (fun j h1 h2 => hg.same (by have := h.cb.lt; omega) (fun q => by rcases h.nw j q with q' | q' <;> omega)), h.gr.trans hg, fun b hb => ?_⟩
  rcases hg.new b hb with q | q
  · exact h.nw b q
  · exact .inr (by have := h.cb.lt; omega)
theorem Rnd.put {sb : Nat} {w : World} {vb vf : Value} {W : World} {vb' vf' : Value} {e : Ex} {a : Pc} (h : Rnd sb w vb vf W vb' vf' e a) (b : Pc) : Rnd sb w vb vf (S9 W (w.heap.size + 1) b) vb' vf' e b :=
  ⟨h.at_.put (fun q => by rcases h.nw _ q with q' | q' <;> omega) b, h.cb.put b, h.gr.put (by omega) b, h.nw⟩
theorem Rnd.fin {sb : Nat} {w : World} {vb vf : Value} {W : World} {vb' vf' : Value} {e : Ex} {a : Pc} (h : Rnd sb w vb vf W vb' vf' e a) (b : Pc) : ExAt (S9 W w.heap.size b) sb vb' vf' e ∧ Grw sb w vb vf (S9 W w.heap.size b) vb' vf' :=
  ⟨h.at_.put (fun q => by rcases h.nw _ q with q' | q' <;> omega) b, h.gr.put (Nat.le_refl _) b⟩
theorem rnd_new {w : World} {sb : Nat} {vb vf : Value} {e : Ex} {n k : Nat} (h : Beg w sb vb vf e n k) {cs : Array Value} {a : Pc} (hc : cs = pcC a) : Rnd sb w vb vf ((w.alloc (.cells zC 152)).alloc (.cells cs 152)) vb vf e a := by
  have hb : Below w.heap.size w ((w.alloc (.cells zC 152)).alloc (.cells cs 152)) := ((Below.refl _ _).alloc (Nat.le_refl _) _).alloc (by simp) _
  refine ⟨h.at_.below hb, ⟨(Below.heap_alloc _ _ _ (by simp)).trans (heap_alloc_new w _), ?_⟩, Grw.of_below hb, fun b hb => .inl (h.lt hb)⟩
  have := heap_alloc_new (w.alloc (.cells zC 152)) (.cells cs 152)
  rw [hc] at this ⊢
  simpa using this
set_option maxRecDepth 8000 in
set_option maxHeartbeats 4000000 in
theorem chain_of (ps : List Prt) (hok : TrOkC ps) (hp : ∀ p ∈ ps, PartK p) : ChainK ps := by
  intro w sb vb vf e n v h hR
  obtain ⟨va, vc, rfl, hlen⟩ := repC_form hR
  have HH : Hid (Beg w sb vb vf e n (spC ps)) := h
  have HR : Hid (Sx.RepC w (fun g => g < sb) ps (.slice va ps.length vc)) := hR
  have HOK : Hid (∀ k, ExOk (n + spC (ps.take k)) (exC (ps.take k) pcN e).2 ∧ Pcs (n + spC (ps.take k)) (exC (ps.take k) pcN e).1) := fun k => by
    have h1 : spC (ps.take k) ≤ spC ps := by
      have := spC_append (ps.take k) (ps.drop k)
      rw [List.take_append_drop] at this
      omega
    exact exC_ok (ps.take k) (trC_iff.2 (fun p hp' => trC_iff.1 hok p (List.mem_of_mem_take hp'))) n e pcN (by have := h.le; omega) h.ok (Pcs.n n)
  have HT : Hid (TrOkC ps) := hok
  have HPK : Hid (∀ p ∈ ps, PartK p) := hp
  unfold maxLen at hlen
  obtain ⟨N, hN⟩ : ∃ N, N = ps.length := ⟨_, rfl⟩
  rw [← hN] at hlen ⊢
  have HN : Hid (N = ps.length) := hN
  have HS : Hid (sb < w.heap.size) := h.sb
  clear hR hN h hok hp
  go_enter Tryz.func124, Tryz.ntmps124
  go_wp2
  go_loopw [11] (fun i wr => ∃ (k : Nat) (vb' vf' : Value), k ≤ N ∧ i = .int .i64 k ∧ Rnd sb w vb vf wr vb' vf' (exC (ps.take k) pcN e).2 (exC (ps.take k) pcN e).1) (fun i _ => N - (intOf i).toNat)
  case atStart =>
    refine ⟨0, vb, vf, by omega, rfl, ?_⟩
    exact rnd_new HH.out rfl
  case round =>
    obtain ⟨k, vb1, vf1, hk, rfl, hrn⟩ := hrel
    have hokk := HOK.out k
    have HE1 : Hid (∀ hk : k < ps.length, exC (ps.take (k + 1)) pcN e = ((exC (ps.take k) pcN e).1.join (exP ps[k] (exC (ps.take k) pcN e).2).1, (exP ps[k] (exC (ps.take k) pcN e).2).2.join (exC (ps.take k) pcN e).1 (exP ps[k] (exC (ps.take k) pcN e).2).1)) := fun hk => by rw [List.take_succ_eq_append_getElem hk, exC_snoc]
    have HE2 : Hid (k = ps.length → exC ps pcN e = ((exC (ps.take k) pcN e).1, (exC (ps.take k) pcN e).2)) := fun hk => by rw [hk, List.take_length]
    obtain ⟨A, hA⟩ : ∃ A, A = (exC (ps.take k) pcN e).1 := ⟨_, rfl⟩
    obtain ⟨E, hE⟩ : ∃ E, E = (exC (ps.take k) pcN e).2 := ⟨_, rfl⟩
    rw [← hA, ← hE] at hrn hokk HE1 HE2
    have HRN : Hid (Rnd sb w vb vf wr vb1 vf1 E A) := hrn
    have HOKK : Hid (ExOk (n + spC (ps.take k)) E ∧ Pcs (n + spC (ps.take k)) A) := hokk
    obtain ⟨a0, a1, a2, a3, a4, a5, a6, a7, a8⟩ := box9 hrn.cb.k1
    obtain ⟨z0, z1, z2, z3, z4, z5, z6, z7, z8⟩ := box9z hrn.cb.k0
    have zf : ∀ o, wr.frozen? ⟨w.heap.size, o, none⟩ = false := fun o => (HRN.out.cb.fz o).2
    clear hrn hokk hA hE
    by_cases hlt : k < N
    · have hltI : (k : Int) < N := by omega
      have hkp : k < ps.length := by have := HN.out; omega
      have hbl := HH.out.bl HRN.out.gr
      obtain ⟨g, s, hga, hg, hcells, hrp⟩ := repC_at (repC_keep HR.out hbl) (i := k) hkp
      subst hga
      have d0 := hcells 0 (by omega)
      have d1 := hcells 1 (by omega)
      have d2 := hcells 2 (by omega)
      have d3 := hcells 3 (by omega)
      have d4 := hcells 4 (by omega)
      have d5 := hcells 5 (by omega)
      simp only [Sx.SixV.cells, Nat.add_zero, List.getElem?_cons_zero, List.getElem?_cons_succ] at d0 d1 d2 d3 d4 d5
      have hsum : spC (ps.take k) + spP ps[k] ≤ spC ps := by
        have h1 := spC_append (ps.take (k + 1)) (ps.drop (k + 1))
        rw [List.take_append_drop, List.take_succ_eq_append_getElem hkp, spC_append, spC_one] at h1
        omega
      have hbeg : Beg wr sb vb1 vf1 E (n + spC (ps.take k)) (spP ps[k]) := HH.out.on HRN.out.at_ HRN.out.gr HOKK.out.1 (by have := HH.out.le; omega)
      have hpok := exP_ok ps[k] (trC_iff.1 HT.out _ (List.getElem_mem _)) (n + spC (ps.take k)) E hbeg.le hbeg.ok
      have hal : Below wr.heap.size wr (wr.alloc (.cells #[.slice s.q0 s.q1 s.q2, .int .u64 s.y0, .int .u64 s.y1, .int .u64 s.y2, .int .u64 s.y3, .slice s.r0 s.r1 s.r2] 231)).drew := ((Below.refl _ _).alloc (Nat.le_refl _) _).drew
      have hpart := HPK.out ps[k] (List.getElem_mem _) (wr.alloc (.cells #[.slice s.q0 s.q1 s.q2, .int .u64 s.y0, .int .u64 s.y1, .int .u64 s.y2, .int .u64 s.y3, .slice s.r0 s.r1 s.r2] 231)).drew sb vb1 vf1 E (n + spC (ps.take k)) s (hbeg.below hal) (repP_keep hrp (hal.mono (Nat.le_of_lt hbeg.sb)))
      have HE3 := HE1.out hkp
      obtain ⟨X, hX⟩ : ∃ X, X = exP ps[k] E := ⟨_, rfl⟩
      rw [← hX] at hpart hpok HE3
      have HRA : Hid (Rnd sb w vb vf (wr.alloc (.cells #[.slice s.q0 s.q1 s.q2, .int .u64 s.y0, .int .u64 s.y1, .int .u64 s.y2, .int .u64 s.y3, .slice s.r0 s.r1 s.r2] 231)).drew vb1 vf1 E A) := HRN.out.below hal
      have HEX : Hid (exC (ps.take (k + 1)) pcN e = (A.join X.1, X.2.join A X.1)) := HE3
      have HPOK : Hid (ExOk (n + spC (ps.take k) + spP ps[k]) X.2 ∧ Pcs (n + spC (ps.take k) + spP ps[k]) X.1) := hpok
      have HTZ : Hid (∀ w2 vb2 vf2, Rnd sb w vb vf w2 vb2 vf2 X.2 A → TabZ w2) := fun w2 vb2 vf2 hr => (HH.out.on hr.at_ hr.gr hpok.1 (k' := 0) hbeg.le).tz
      have HLE : Hid (n + spC (ps.take k) + spP ps[k] ≤ 64) := hbeg.le
      have hs1 := hbeg.s1
      have hltc := HRN.out.cb.lt
      have aa := fun ob => box9 (HRN.out.cb.al ob).k1
      clear hcells hrp hX hpok hbeg hbl HE3 hsum hal HE1 HE2
      go_wp2
      go_region_with (first | (go_at_call 175; refine (join_any w2 sb vb2 vf2 X.2 A X.1 (n + spC (ps.take k) + spP ps[k]) (HTZ.out _ _ _ HR2.out) hs1 HR2.out.at_ HLE.out HPOK.out.1 (HOKK.out.2.mono (by omega)) HPOK.out.2).mono ?_; rintro r w3 ⟨rfl, hx3, hg3⟩; have HR3 : Hid (Rnd sb w vb vf w3 vb2 vf2 (X.2.join A X.1) A) := HR2.out.call hx3 hg3; obtain ⟨f0, f1, f2, f3, f4, f5, f6, f7, f8⟩ := box9 HR3.out.cb.k1; have ff : ∀ o, w3.frozen? ⟨w.heap.size + 1, o, none⟩ = false := (fun o => (HR3.out.cb.fz o).1); clear hx3 hg3) | (go_at_call 176; refine hpart.mono ?_; rintro r w2 ⟨rfl, vb2, vf2, hx2, hg2⟩; have HR2 : Hid (Rnd sb w vb vf w2 vb2 vf2 X.2 A) := HRA.out.call hx2 hg2; obtain ⟨e0, e1, e2, e3, e4, e5, e6, e7, e8⟩ := box9 HR2.out.cb.k1; clear hx2 hg2))
      all_goals (
        obtain ⟨W, hW⟩ : ∃ W, W = S9 w3 (w.heap.size + 1) (A.join X.1) := ⟨_, rfl⟩
        have hW2 := hW
        simp only [S9] at hW2
        rw [← hW2]
        have HR4 : Hid (Rnd sb w vb vf W vb2 vf2 (X.2.join A X.1) (A.join X.1)) := by rw [hW]; exact HR3.out.put _
        clear hW hW2 f0 f1 f2 f3 f4 f5 f6 f7 f8 ff
        go_wp2
        go_roundw
        case rel => exact ⟨k + 1, vb2, vf2, by omega, by go_num, by rw [HEX.out]; exact HR4.out⟩
        case measure => simp [intOf] <;> omega)
    · have hkI : ¬ (k : Int) < N := by omega
      have HE3 := HE2.out (by have := HN.out; omega)
      have HEX : Hid (exC ps pcN e = (A, E)) := HE3
      clear HE3 HE1 HE2
      go_wp2
      obtain ⟨W, hW⟩ : ∃ W, W = S9 wr w.heap.size A := ⟨_, rfl⟩
      have hW2 := hW
      simp only [S9] at hW2
      rw [← hW2]
      have hq : W.heap[w.heap.size]? = some (.cells (pcC A) 152) := by rw [hW]; exact S9_own _ HRN.out.cb.k0
      obtain ⟨r0, r1, r2, r3, r4, r5, r6, r7, r8⟩ := box9 hq
      refine bodyPost_ret (v := pcV A) (by simp [results, Tryz.results124, go_sem, r0, r1, r2, r3, r4, r5, r6, r7, r8]) rfl ?_
      rw [HEX.out]
      refine ⟨rfl, vb1, vf1, ?_⟩
      rw [hW]
      exact HRN.out.fin _
end Go.Proofs.YtbjabpodkaokjaaGreatDoor

namespace Go.Proofs.YtbjabpodkaokjaaGreatDoor
open Go.RowKit
open Sx (Prt Cnt)

theorem Rnd.own {sb : Nat} {w : World} {vb vf : Value} {W W' : World} {vb' vf' : Value} {e : Ex} {a b : Pc} (h : Rnd sb w vb vf W vb' vf' e a) (hx : Exc (fun k => k = w.heap.size + 1) W W') (hk : W'.heap[w.heap.size + 1]? = some (.cells (pcC b) 152)) : Rnd sb w vb vf W' vb' vf' e b := by
  have hl := h.cb.lt
  have hs := h.gr.exc.size
  refine ⟨h.at_.keep (fun j hj => hx.block j (h.at_.lt hj).2 (fun q => by rcases h.nw j hj with q' | q' <;> omega)), ⟨(hx.block _ (by omega) (by omega)).trans h.cb.k0, hk⟩, ⟨⟨hx.os.trans h.gr.exc.os, hx.tape.trans h.gr.exc.tape, hx.output.trans h.gr.exc.output, Nat.le_trans hs hx.size, fun j hj hS => (hx.block j (by omega) (by omega)).trans (h.gr.exc.block j hj hS)⟩, h.gr.new, fun hsb o ho => (cell_same (hx.block sb (by omega) (by omega)) o).trans (h.gr.cl hsb o ho)⟩, h.nw⟩
/-- The piece so far, and one that was made. -/
structure OB (W : World) (P : Nat) (x : Pc) : Prop where
  k : W.heap[P]? = some (.cells (pcC x) 152)
set_option maxRecDepth 8000 in
set_option maxHeartbeats 4000000 in
theorem choices_of (cs : List (List Prt)) (hok : TrOkVs cs) (hp : ∀ c ∈ cs, ChainK c) : ChoicesK cs := by
  intro w sb vb vf e n v h hR
  obtain ⟨va, vc, rfl, hlen⟩ := repCs_form hR
  have HH : Hid (Beg w sb vb vf e n (spCs cs)) := h
  have HRC : Hid (Sx.RepCs w (fun g => g < sb) cs (.slice va cs.length vc)) := hR
  have HOK : Hid (∀ k, ExOk (n + spCs (cs.take k)) (exCs (cs.take k) pc0 e).2 ∧ Pcs (n + spCs (cs.take k)) (exCs (cs.take k) pc0 e).1) := fun k => by
    have h1 : spCs (cs.take k) ≤ spCs cs := by
      have := spCs_append (cs.take k) (cs.drop k)
      rw [List.take_append_drop] at this
      omega
    exact exCs_ok (cs.take k) (trVs_iff.2 (fun p hp' => trVs_iff.1 hok p (List.mem_of_mem_take hp'))) n e pc0 (by have := h.le; omega) h.ok (Pcs.zero n)
  have HT : Hid (TrOkVs cs) := hok
  have HPK : Hid (∀ p ∈ cs, ChainK p) := hp
  unfold maxLen at hlen
  obtain ⟨N, hN⟩ : ∃ N, N = cs.length := ⟨_, rfl⟩
  rw [← hN] at hlen ⊢
  have HN : Hid (N = cs.length) := hN
  have HS : Hid (sb < w.heap.size) := h.sb
  clear hR hN h hok hp
  go_enter Tryz.func73, Tryz.ntmps73
  go_wp2
  go_loopw [11] (fun i wr => ∃ (k : Nat) (vb' vf' : Value), k ≤ N ∧ i = .int .i64 k ∧ Rnd sb w vb vf wr vb' vf' (exCs (cs.take k) pc0 e).2 (exCs (cs.take k) pc0 e).1) (fun i _ => N - (intOf i).toNat)
  case atStart =>
    refine ⟨0, vb, vf, by omega, rfl, ?_⟩
    exact rnd_new HH.out rfl
  case round =>
    obtain ⟨k, vb1, vf1, hk, rfl, hrn⟩ := hrel
    have hokk := HOK.out k
    have HE1 : Hid (∀ hk : k < cs.length, exCs (cs.take (k + 1)) pc0 e = ((exCs (cs.take k) pc0 e).1.alt (exC cs[k] pcN (exCs (cs.take k) pc0 e).2).1, (exC cs[k] pcN (exCs (cs.take k) pc0 e).2).2)) := fun hk => by rw [List.take_succ_eq_append_getElem hk, exCs_snoc]
    have HE2 : Hid (k = cs.length → exCs cs pc0 e = ((exCs (cs.take k) pc0 e).1, (exCs (cs.take k) pc0 e).2)) := fun hk => by rw [hk, List.take_length]
    obtain ⟨A, hA⟩ : ∃ A, A = (exCs (cs.take k) pc0 e).1 := ⟨_, rfl⟩
    obtain ⟨E, hE⟩ : ∃ E, E = (exCs (cs.take k) pc0 e).2 := ⟨_, rfl⟩
    rw [← hA, ← hE] at hrn hokk HE1 HE2
    by_cases hlt : k < N
    · have hltI : (k : Int) < N := by omega
      have hkp : k < cs.length := by have := HN.out; omega
      have hbl := HH.out.bl hrn.gr
      obtain ⟨g, b, c, hga, hg, hcell, hrc⟩ := repCs_at (repCs_keep HRC.out hbl) (i := k) hkp
      subst hga
      have hsum : spCs (cs.take k) + spC cs[k] ≤ spCs cs := by
        have h1 := spCs_append (cs.take (k + 1)) (cs.drop (k + 1))
        rw [List.take_append_drop, List.take_succ_eq_append_getElem hkp, spCs_append, spCs_one] at h1
        omega
      have hbeg : Beg wr sb vb1 vf1 E (n + spCs (cs.take k)) (spC cs[k]) := HH.out.on hrn.at_ hrn.gr hokk.1 (by have := HH.out.le; omega)
      have hpok := exC_ok cs[k] (trVs_iff.1 HT.out _ (List.getElem_mem _)) (n + spCs (cs.take k)) E pcN hbeg.le hbeg.ok (Pcs.n _)
      have hch := HPK.out cs[k] (List.getElem_mem _) wr sb vb1 vf1 E (n + spCs (cs.take k)) _ hbeg hrc
      have HE3 := HE1.out hkp
      have hX := pcs_ok hpok.2 hbeg.le
      have hAok := pcs_ok (hokk.2.mono (by omega : _ ≤ n + spCs (cs.take k) + spC cs[k])) hbeg.le
      obtain ⟨X, hXe⟩ : ∃ X, X = exC cs[k] pcN E := ⟨_, rfl⟩
      rw [← hXe] at hch hpok HE3 hX
      clear hpok hbeg hbl hsum HE1 HE2 hXe hokk
      obtain ⟨M, hM⟩ : ∃ M, M = cs[k].length := ⟨_, rfl⟩
      rw [← hM] at hch hcell
      clear hrc hM hE hA
      obtain ⟨⟨xf, xl, xe⟩, X2⟩ := X
      obtain ⟨af, al, ae⟩ := A
      have hA := hAok
      clear hAok
      simp only at hX hA hch HE3
      cases ae
      · have HRN : Hid (Rnd sb w vb vf wr vb1 vf1 E ⟨af, al, false⟩) := hrn
        have HEX : Hid (exCs (cs.take (k + 1)) pc0 e = (⟨af.or xf, al.or xl, xe⟩, X2)) := by show _ = _; rw [HE3]; simp [Pc.alt]
        clear HE3 hrn
        go_wp2_with (first | (go_at_call 125; refine (addAllS_any w4 (w.heap.size + 1) 4 al xl hA.2 hX.2 (at_last HR4.out.cb.k1)).mono ?_; rintro r w5 ⟨rfl, hx5, hf5⟩; have HR5 : Hid (Rnd sb w vb vf w5 vb2 vf2 X2 { ({ (⟨af, al, false⟩ : Pc) with first := af.or xf } : Pc) with last := al.or xl }) := HR4.out.own hf5.exc (put_last HR4.out.cb.k1 hx5 hf5); have HO5 : Hid (OB w5 w2.heap.size ⟨xf, xl, xe⟩) := ⟨(hf5.four.block _ (Array.getElem?_eq_some_iff.1 HO4.out.k).1 (by omega)).trans HO4.out.k⟩; clear HR HO a0 a1 a2 a3 a4 a5 a6 a7 a8 o0 o1 o2 o3 o4 o5 o6 o7 o8; have HR := HR5; have HO := HO5; clear hx5 hf5; obtain ⟨o0, o1, o2, o3, o4, o5, o6, o7, o8⟩ := box9 HO.out.k; obtain ⟨a0, a1, a2, a3, a4, a5, a6, a7, a8⟩ := box9 HR.out.cb.k1; simp only at a8 o8; have ff : ∀ o, w5.frozen? ⟨w.heap.size + 1, o, none⟩ = false := (fun o => (HR5.out.cb.fz o).1)) | (go_at_call 125; obtain ⟨w3, hw3⟩ : ∃ w3, w3 = w2.alloc (.cells (pcC ⟨xf, xl, xe⟩) 152) := ⟨_, rfl⟩; have hr3 : Rnd sb w vb vf w3 vb2 vf2 X2 ⟨af, al, false⟩ := (by rw [hw3]; exact HR2.out.below ((Below.refl _ _).alloc (Nat.le_refl _) _)); have ho3 : OB w3 w2.heap.size ⟨xf, xl, xe⟩ := ⟨by rw [hw3]; exact heap_alloc_new w2 _⟩; rw [← hw3]; refine (addAllS_any w3 (w.heap.size + 1) 0 af xf hA.1 hX.1 (at_first hr3.cb.k1)).mono ?_; rintro r w4 ⟨rfl, hx4, hf4⟩; have HR4 : Hid (Rnd sb w vb vf w4 vb2 vf2 X2 { (⟨af, al, false⟩ : Pc) with first := af.or xf }) := hr3.own hf4.exc (put_first hr3.cb.k1 hx4 hf4); have HO4 : Hid (OB w4 w2.heap.size ⟨xf, xl, xe⟩) := ⟨(hf4.four.block _ (Array.getElem?_eq_some_iff.1 ho3.k).1 (by omega)).trans ho3.k⟩; have HR := HR4; have HO := HO4; clear hw3 hr3 ho3 hx4 hf4; obtain ⟨o0, o1, o2, o3, o4, o5, o6, o7, o8⟩ := box9 HO.out.k; obtain ⟨a0, a1, a2, a3, a4, a5, a6, a7, a8⟩ := box9 HR.out.cb.k1; simp only at a8 o8) | (go_at_call 124; refine hch.mono ?_; rintro r w2 ⟨rfl, vb2, vf2, hx2, hg2⟩; have HR2 : Hid (Rnd sb w vb vf w2 vb2 vf2 X2 ⟨af, al, false⟩) := HRN.out.call hx2 hg2; have hlt2 := HR2.out.cb.lt; clear hx2 hg2))
        have HR6 : Hid (Rnd sb w vb vf (w5.setCell ⟨w.heap.size + 1, 8, none⟩ (.bool xe)) vb2 vf2 X2 ⟨af.or xf, al.or xl, xe⟩) := HR5.out.own (exc_set rfl) ((set_own HR5.out.cb.k1).trans (by simp))
        go_roundw
        case rel => exact ⟨k + 1, vb2, vf2, by omega, by go_num, by rw [HEX.out]; exact HR6.out⟩
        case measure => simp [intOf] <;> omega
      · have HRN : Hid (Rnd sb w vb vf wr vb1 vf1 E ⟨af, al, true⟩) := hrn
        have HEX : Hid (exCs (cs.take (k + 1)) pc0 e = (⟨af.or xf, al.or xl, true⟩, X2)) := by show _ = _; rw [HE3]; simp [Pc.alt]
        clear HE3 hrn
        go_wp2_with (first | (go_at_call 125; refine (addAllS_any w4 (w.heap.size + 1) 4 al xl hA.2 hX.2 (at_last HR4.out.cb.k1)).mono ?_; rintro r w5 ⟨rfl, hx5, hf5⟩; have HR5 : Hid (Rnd sb w vb vf w5 vb2 vf2 X2 { ({ (⟨af, al, true⟩ : Pc) with first := af.or xf } : Pc) with last := al.or xl }) := HR4.out.own hf5.exc (put_last HR4.out.cb.k1 hx5 hf5); have HO5 : Hid (OB w5 w2.heap.size ⟨xf, xl, xe⟩) := ⟨(hf5.four.block _ (Array.getElem?_eq_some_iff.1 HO4.out.k).1 (by omega)).trans HO4.out.k⟩; clear HR HO a0 a1 a2 a3 a4 a5 a6 a7 a8 o0 o1 o2 o3 o4 o5 o6 o7 o8; have HR := HR5; have HO := HO5; clear hx5 hf5; obtain ⟨o0, o1, o2, o3, o4, o5, o6, o7, o8⟩ := box9 HO.out.k; obtain ⟨a0, a1, a2, a3, a4, a5, a6, a7, a8⟩ := box9 HR.out.cb.k1; simp only at a8 o8; have ff : ∀ o, w5.frozen? ⟨w.heap.size + 1, o, none⟩ = false := (fun o => (HR5.out.cb.fz o).1)) | (go_at_call 125; obtain ⟨w3, hw3⟩ : ∃ w3, w3 = w2.alloc (.cells (pcC ⟨xf, xl, xe⟩) 152) := ⟨_, rfl⟩; have hr3 : Rnd sb w vb vf w3 vb2 vf2 X2 ⟨af, al, true⟩ := (by rw [hw3]; exact HR2.out.below ((Below.refl _ _).alloc (Nat.le_refl _) _)); have ho3 : OB w3 w2.heap.size ⟨xf, xl, xe⟩ := ⟨by rw [hw3]; exact heap_alloc_new w2 _⟩; rw [← hw3]; refine (addAllS_any w3 (w.heap.size + 1) 0 af xf hA.1 hX.1 (at_first hr3.cb.k1)).mono ?_; rintro r w4 ⟨rfl, hx4, hf4⟩; have HR4 : Hid (Rnd sb w vb vf w4 vb2 vf2 X2 { (⟨af, al, true⟩ : Pc) with first := af.or xf }) := hr3.own hf4.exc (put_first hr3.cb.k1 hx4 hf4); have HO4 : Hid (OB w4 w2.heap.size ⟨xf, xl, xe⟩) := ⟨(hf4.four.block _ (Array.getElem?_eq_some_iff.1 ho3.k).1 (by omega)).trans ho3.k⟩; have HR := HR4; have HO := HO4; clear hw3 hr3 ho3 hx4 hf4; obtain ⟨o0, o1, o2, o3, o4, o5, o6, o7, o8⟩ := box9 HO.out.k; obtain ⟨a0, a1, a2, a3, a4, a5, a6, a7, a8⟩ := box9 HR.out.cb.k1; simp only at a8 o8) | (go_at_call 124; refine hch.mono ?_; rintro r w2 ⟨rfl, vb2, vf2, hx2, hg2⟩; have HR2 : Hid (Rnd sb w vb vf w2 vb2 vf2 X2 ⟨af, al, true⟩) := HRN.out.call hx2 hg2; have hlt2 := HR2.out.cb.lt; clear hx2 hg2))
        have HR6 : Hid (Rnd sb w vb vf (w5.setCell ⟨w.heap.size + 1, 8, none⟩ (.bool true)) vb2 vf2 X2 ⟨af.or xf, al.or xl, true⟩) := HR5.out.own (exc_set rfl) ((set_own HR5.out.cb.k1).trans (by simp))
        go_roundw
        case rel => exact ⟨k + 1, vb2, vf2, by omega, by go_num, by rw [HEX.out]; exact HR6.out⟩
        case measure => simp [intOf] <;> omega
    · have hkI : ¬ (k : Int) < N := by omega
      have HE3 := HE2.out (by have := HN.out; omega)
      have HEX : Hid (exCs cs pc0 e = (A, E)) := HE3
      have HRN : Hid (Rnd sb w vb vf wr vb1 vf1 E A) := hrn
      obtain ⟨a0, a1, a2, a3, a4, a5, a6, a7, a8⟩ := box9 hrn.cb.k1
      obtain ⟨z0, z1, z2, z3, z4, z5, z6, z7, z8⟩ := box9z hrn.cb.k0
      have zf : ∀ o, wr.frozen? ⟨w.heap.size, o, none⟩ = false := fun o => (HRN.out.cb.fz o).2
      clear HE3 HE1 HE2 hrn hokk hA hE
      go_wp2
      obtain ⟨W, hW⟩ : ∃ W, W = S9 wr w.heap.size A := ⟨_, rfl⟩
      have hW2 := hW
      simp only [S9] at hW2
      rw [← hW2]
      have hq : W.heap[w.heap.size]? = some (.cells (pcC A) 152) := by rw [hW]; exact S9_own _ HRN.out.cb.k0
      obtain ⟨r0, r1, r2, r3, r4, r5, r6, r7, r8⟩ := box9 hq
      refine bodyPost_ret (v := pcV A) (by simp [results, Tryz.results73, go_sem, r0, r1, r2, r3, r4, r5, r6, r7, r8]) rfl ?_
      rw [HEX.out]
      refine ⟨rfl, vb1, vf1, ?_⟩
      rw [hW]
      exact HRN.out.fin _
end Go.Proofs.YtbjabpodkaokjaaGreatDoor
