import Derived.Test.YtbjabpodkaokjaaJ05
import Derived.Deep.RegionHeld3
set_option linter.unusedVariables false
set_option linter.unusedSimpArgs false
namespace Go.Proofs.Ytbjabpodkaokjaa
open Go.RowKit

structure TbOk (t : Tb) (c : Nat) : Prop where
  a1 : 1 ≤ t.acc.length
  a2 : t.acc.length ≤ 200
  n : t.next.length = t.acc.length
  s1 : 0 ≤ t.start
  s2 : t.start < t.acc.length
  cc : cntR (ba t.cls) = some c
  r : ∀ r ∈ t.next, r.length = c ∧ ∀ z ∈ r, 0 ≤ z ∧ z < t.acc.length
theorem tbOk_of {t : Tb} (h : isTb t = true) : ∃ c, TbOk t c := by
  unfold isTb at h
  simp only [Bool.and_eq_true, decide_eq_true_eq] at h
  obtain ⟨h1, h2, h3, h4, h5⟩ := h
  split at h5
  · simp at h5
  · rename_i c hc
    refine ⟨c, ⟨h1, h2, h3, ?_, ?_, hc, fun r hr => ?_⟩⟩
    · simp [isSt] at h4; exact h4.1
    · simp [isSt] at h4; exact h4.2
    · have := List.all_eq_true.1 h5 r hr
      simp only [rowOk, Bool.and_eq_true, beq_iff_eq] at this
      refine ⟨this.1, fun z hz => ?_⟩
      have := List.all_eq_true.1 this.2 z hz
      simpa [isSt] using this
theorem TbOk.c256 {t : Tb} {c : Nat} (h : TbOk t c) : c ≤ 256 ∧ t.cls.length = 256 := by
  have h5 := h.cc
  unfold cntR at h5
  split at h5
  · rename_i h6
    have := cntC_le _ _ _ h5
    rw [ba_size] at h6
    exact ⟨by omega, h6⟩
  · simp at h5
theorem TbOk.fits {t : Tb} {c : Nat} (h : TbOk t c) : Fits t c := by
  have h2 := h.c256
  have := h.a2
  have := h.s1
  have := h.s2
  exact ⟨h.a1, h.a2, h.n, h2.1, h2.2, ⟨by omega, by omega⟩, fun r hr => ⟨(h.r r hr).1, fun z hz => by have := (h.r r hr).2 z hz; exact ⟨this.1, by omega⟩⟩⟩
set_option maxRecDepth 4000 in
set_option maxHeartbeats 400000 in
theorem new_no (w : World) (t : Tb) (va vn : Value) (h : TabIn w t va vn) (hs : Small t) (hf : isTb t = false) :
    Calls Try.prog 18 #[tv t va vn] w fun e w' => e = .returned (.tuple #[.pointer none, .bool false]) ∧ Below w.heap.size w w' := by
  have hB : Below w.heap.size w (w.alloc (.cells #[.bool t.front, .bool t.back, .int .i64 t.start, .string (ba t.cls), va, vn] 30)) := (Below.refl _ _).alloc (Nat.le_refl _) _
  have hi := isTable_any _ t va vn (h.below hB) hs
  rw [hf] at hi
  have HB : Hid (Below w.heap.size w (w.alloc (.cells #[.bool t.front, .bool t.back, .int .i64 t.start, .string (ba t.cls), va, vn] 30))) := hB
  clear hB h
  go_enter Try.func18, Try.ntmps18
  go_wp2_with (go_at_call 33; refine hi.mono ?_; rintro e w1 ⟨rfl, hb⟩)
  go_ret2
  exact ⟨rfl, HB.out.trans (hb.mono (by simp))⟩
/-- New's loop behind k rounds. -/
structure NI (w wr : World) (g g1 n : Nat) (f b : Bool) (st : Int) (cf : Nat → Int) (acc : List Bool) (next : List (List Int)) (va : Value) (S : Nat → Bool) (k : Nat) (vs : List Value) : Prop where
  au : Au wr g f b st cf S (.slice (some ⟨g1, 0, none⟩) n n)
  nw : Nw wr g1 n (fun j => vs[j]?.getD (.slice none 0 0))
  vl : vs.length = k
  rows : ∀ j (h : j < vs.length), RowN (g + 1) e8 wr vs[j] (next[j]?.getD [])
  bl : Below w.heap.size w wr
  lo : g < wr.heap.size
  c4 : wr.cell? ⟨w.heap.size, 4, none⟩ = some va
  gl : w.heap.size < g1 ∧ g = g1 + 1
theorem NI.step {w wr w4 : World} {g g1 n : Nat} {f b : Bool} {st : Int} {cf : Nat → Int} {acc : List Bool} {next : List (List Int)} {va : Value} {S : Nat → Bool} {k : Nat} {vs : List Value} (h : NI w wr g g1 n f b st cf acc next va S k vs)
    {r : List Int} {g4 : Nat} (hb : Below wr.heap.size wr w4) (hg : wr.heap.size ≤ g4) (hg2 : g4 < w4.heap.size) (hn : Nw w4 g4 r.length fun j => e8 (r[j]?.getD 0)) (hr : next[k]? = some r) (hk : k < n) :
    NI w (w4.setCell ⟨g1, k, none⟩ (.slice (some ⟨g4, 0, none⟩) r.length r.length)) g g1 n f b st cf acc next va S (k + 1) (vs ++ [.slice (some ⟨g4, 0, none⟩) r.length r.length]) := by
  obtain ⟨au, nw, vl, rows, bl, lo, c4, gl, ge⟩ := h
  have nlt : g1 < wr.heap.size := by omega
  have hw5 : Hi (g + 1) wr (w4.setCell ⟨g1, k, none⟩ (.slice (some ⟨g4, 0, none⟩) r.length r.length)) := (Hi.of_below hb).setCell (by omega) _ _
  have hs5 : (w4.setCell ⟨g1, k, none⟩ (.slice (some ⟨g4, 0, none⟩) r.length r.length)).heap.size = w4.heap.size := by simp [World.setCell]
  have hz := hb.size
  refine ⟨(au.of_block (hb.block g lo)).of_block (Below.heap_setCell _ _ _ _ (by simp only; omega)), ?_, by simp [vl], fun j hj => ?_, ?_, by omega, ?_, gl, ge⟩
  · refine ((nw.of_block (hb.block g1 nlt)).set k hk _).congr (fun j hj => ?_)
    by_cases e : j = k
    · subst e; rw [if_pos rfl, List.getElem?_append_right (by omega)]; simp [vl]
    · rw [if_neg e]
      by_cases e2 : j < k
      · rw [List.getElem?_append_left (by omega)]
      · rw [List.getElem?_eq_none (by omega), List.getElem?_eq_none (by simp [vl]; omega)]
  · by_cases e : j < vs.length
    · rw [List.getElem_append_left e]
      exact (rows j e).keep hw5
    · have e2 : j = vs.length := by simp at hj; omega
      subst e2
      rw [List.getElem_append_right (Nat.le_refl _)]
      simp only [Nat.sub_self, List.getElem_cons_zero]
      rw [vl, hr]
      simp only [Option.getD_some]
      exact (RowN.of_nw (lo := g + 1) (enc := e8) hn (by omega) hg2 (fun j hj => by simp [hj])).keep ((Hi.refl _ _).setCell (by omega) _ _)
  · exact (bl.trans (hb.mono bl.size)).setCell (p := ⟨g1, k, none⟩) (by simp only; omega) _
  · rw [World.cell?_setCell_other _ _ _ _ (by first | (simp; done) | (simp; omega))]
    exact cell_below hb c4
theorem NI.drew {w wr : World} {g g1 n : Nat} {f b : Bool} {st : Int} {cf : Nat → Int} {acc : List Bool} {next : List (List Int)} {va : Value} {S : Nat → Bool} {k : Nat} {vs : List Value} (h : NI w wr g g1 n f b st cf acc next va S k vs) : NI w wr.drew g g1 n f b st cf acc next va S k vs := by
  obtain ⟨au, nw, vl, rows, bl, lo, c4, gl⟩ := h
  exact ⟨au.of_block rfl, nw.of_block rfl, vl, fun j hj => (rows j hj).keep (Hi.refl _ _).drew, bl.drew, lo, c4, gl⟩
theorem NI.four {w wr w6 : World} {g g1 n : Nat} {f b : Bool} {st : Int} {cf : Nat → Int} {acc : List Bool} {next : List (List Int)} {va : Value} {S S' : Nat → Bool} {k : Nat} {vs : List Value} (h : NI w wr g g1 n f b st cf acc next va S k vs)
    (h4 : Four g 259 wr w6) (hs : ∃ y0 y1 y2 y3, SetAt w6 g 259 S' y0 y1 y2 y3) : NI w w6 g g1 n f b st cf acc next va S' k vs := by
  obtain ⟨au, nw, vl, rows, bl, lo, c4, gl, ge⟩ := h
  have hz := bl.size
  have hz4 := h4.size
  refine ⟨au.four h4 hs, nw.of_block (h4.block g1 (by omega) (by omega)), vl, fun j hj => (rows j hj).keep ((Hi.refl _ _).four (by omega) h4), ?_, by omega, ?_, gl, ge⟩
  · exact ⟨h4.os.trans bl.os, h4.tape.trans bl.tape, h4.output.trans bl.output, by omega, fun j hj => (h4.block j (by omega) (by omega)).trans (bl.block j hj)⟩
  · have e := h4.block w.heap.size (cell_lt c4) (by omega)
    simp only [World.cell?] at c4 ⊢; rw [e]; exact c4
theorem NI.set {w wr : World} {g g1 n : Nat} {f b : Bool} {st : Int} {cf : Nat → Int} {acc : List Bool} {next : List (List Int)} {va : Value} {S S' : Nat → Bool} {k : Nat} {vs : List Value} (h : NI w wr g g1 n f b st cf acc next va S k vs) (e : ∀ n, n < 256 → S n = S' n) : NI w wr g g1 n f b st cf acc next va S' k vs := by
  obtain ⟨au, nw, vl, rows, bl, lo, c4, gl⟩ := h
  exact ⟨au.set e, nw, vl, rows, bl, lo, c4, gl⟩
set_option maxRecDepth 4000 in
set_option maxHeartbeats 400000 in
theorem new_yes (w : World) (t : Tb) (va vn : Value) (h : TabIn w t va vn) (hs : Small t) (hf : isTb t = true) :
    Calls Try.prog 18 #[tv t va vn] w fun e w' => ∃ g, e = .returned (.tuple #[.pointer (some ⟨g, 0, none⟩), .bool true]) ∧ w.heap.size ≤ g ∧ AuIn w' g t ∧ Below w.heap.size w w' := by
  obtain ⟨c, ok⟩ := tbOk_of hf
  have hc256 := ok.c256
  obtain ⟨f, b, st, cls, acc, next⟩ := t
  obtain ⟨a1, a2, n1, s1, s2, cc, hr⟩ := ok
  simp only at *
  have hB : Below w.heap.size w (w.alloc (.cells #[.bool f, .bool b, .int .i64 st, .string (ba cls), va, vn] 30)) := (Below.refl _ _).alloc (Nat.le_refl _) _
  have hi := isTable_any _ _ va vn (h.below hB) hs
  rw [hf] at hi
  have HB : Hid (Below w.heap.size w (w.alloc (.cells #[.bool f, .bool b, .int .i64 st, .string (ba cls), va, vn] 30))) := hB
  have HT : Hid (TabIn (w.alloc (.cells #[.bool f, .bool b, .int .i64 st, .string (ba cls), va, vn] 30)) ⟨f, b, st, cls, acc, next⟩ va vn) := h.below hB
  obtain ⟨us, hul, hu, hrw⟩ := h.next
  obtain ⟨an, on, cn, hvn, hun⟩ := hu.nonnil (by simp only at *; omega)
  obtain ⟨aa, oa, ca, hva, hca⟩ := h.acc.nonnil (by simp only at *; omega)
  simp only at hul hu hrw hvn hun hva hca
  obtain ⟨n, hn⟩ : ∃ n, n = acc.length := ⟨_, rfl⟩
  have hvn' : vn = .slice (some ⟨an, on, none⟩) n cn := by rw [hvn, hul, n1, hn]
  have hva' : va = .slice (some ⟨aa, oa, none⟩) n ca := by rw [hva, hn]
  clear hvn hva hB h hs hf
  obtain ⟨i0, hi0, hz0, hz1, hz2⟩ := info_parts Try.infoLS
  have hmk := make_eq Try.underlying71 hi0 hz0 hz1 hz2 n (by omega) (by unfold maxLen; omega)
  have hzv := zA_run
  have hzs := zA_size
  have hze := zA_ne
  have hzt := zA_set
  have hw8 := wrap8 st (by omega)
  subst hvn' hva'
  have HN : Hid (n = acc.length) := hn
  have HN1 : Hid (next.length = n) := n1.trans hn.symm
  have HUL : Hid (us.length = n) := hul.trans HN1.out
  have HR : Hid (∀ (r : List Int), r ∈ next → r.length = c ∧ ∀ (z : Int), z ∈ r → 0 ≤ z ∧ z < (n : Int)) := by show ∀ _, _; rw [hn]; exact hr
  have HRW : Hid (∀ (j : Nat) (h1 : j < us.length) (h2 : j < next.length), RowE eI w us[j] next[j]) := hrw
  have HUN : Hid (∀ (j : Nat) (hj : j < us.length), w.cell? ⟨an, on + j, none⟩ = some us[j]) := hun
  have HCA : Hid (∀ (j : Nat) (hj : j < acc.length), w.cell? ⟨aa, oa + j, none⟩ = some (eB acc[j])) := hca
  have HCL : Hid (cls.length = 256) := hc256.2
  have hc := hc256.1
  rw [← hn] at s2 a1 a2
  simp only [tv] at hi
  clear hn n1 hul hr hrw hun hca hc256 cc hu
  go_enter Try.func18, Try.ntmps18
  go_wp2_with (go_at_call 33; refine hi.mono ?_; rintro e w1 ⟨rfl, hb⟩; have k0 : w1.cell? ⟨w.heap.size, 0, none⟩ = some (.bool f) := cell_below hb (by simp [go_sem]); have k1 : w1.cell? ⟨w.heap.size, 1, none⟩ = some (.bool b) := cell_below hb (by simp [go_sem]); have k2 : w1.cell? ⟨w.heap.size, 2, none⟩ = some (.int .i64 st) := cell_below hb (by simp [go_sem]); have k3 : w1.cell? ⟨w.heap.size, 3, none⟩ = some (.string (ba cls)) := cell_below hb (by simp [go_sem]); have k4 : w1.cell? ⟨w.heap.size, 4, none⟩ = some (.slice (some ⟨aa, oa, none⟩) n ca) := cell_below hb (by simp [go_sem]); have k5 : w1.cell? ⟨w.heap.size, 5, none⟩ = some (.slice (some ⟨an, on, none⟩) n cn) := cell_below hb (by simp [go_sem]))
  go_region_held3 (fun w' => w'.cell? ⟨w.heap.size, 0, none⟩ = some (.bool f) ∧ w'.cell? ⟨w.heap.size, 1, none⟩ = some (.bool b) ∧ w'.cell? ⟨w.heap.size, 2, none⟩ = some (.int .i64 st) ∧ w'.cell? ⟨w.heap.size, 5, none⟩ = some (.slice (some ⟨an, on, none⟩) n cn)) (go_keep) (fail)
  have hbA : Below w.heap.size w w1 := HB.out.trans (hb.mono (by simp))
  have hb2 : Below w.heap.size w ((w1.alloc (.cells (mkA n (.slice none 0 0)) 79)).alloc (.cells (auA f b st (.slice (some ⟨w1.heap.size, 0, none⟩) n n)) 78)).drew := ((hbA.alloc hbA.size _).alloc (by have := hbA.size; simp; omega) _).drew
  have hz2 : ((w1.alloc (.cells (mkA n (.slice none 0 0)) 79)).alloc (.cells (auA f b st (.slice (some ⟨w1.heap.size, 0, none⟩) n n)) 78)).drew.heap.size = w1.heap.size + 2 := by simp
  have hau : Au ((w1.alloc (.cells (mkA n (.slice none 0 0)) 79)).alloc (.cells (auA f b st (.slice (some ⟨w1.heap.size, 0, none⟩) n n)) 78)).drew (w1.heap.size + 1) f b st (fun _ => 0) (fun _ => false) (.slice (some ⟨w1.heap.size, 0, none⟩) n n) := by
    have := Au.new (w1.alloc (.cells (mkA n (.slice none 0 0)) 79)) f b st (.slice (some ⟨w1.heap.size, 0, none⟩) n n)
    rw [World.size_alloc] at this
    exact this.of_block rfl
  have hnw : Nw ((w1.alloc (.cells (mkA n (.slice none 0 0)) 79)).alloc (.cells (auA f b st (.slice (some ⟨w1.heap.size, 0, none⟩) n n)) 78)).drew w1.heap.size n (fun _ => .slice none 0 0) :=
    (Nw.new w1 n (.slice none 0 0) rfl _).of_block (Below.heap_alloc _ _ _ (by simp))
  have hlt1 := cell_lt k0
  have j3 : ((w1.alloc (.cells (mkA n (.slice none 0 0)) 79)).alloc (.cells (auA f b st (.slice (some ⟨w1.heap.size, 0, none⟩) n n)) 78)).drew.cell? ⟨w.heap.size, 3, none⟩ = some (.string (ba cls)) := cell_below (((Below.refl w1.heap.size w1).alloc (Nat.le_refl _) _).alloc (by simp) _).drew k3
  have j4 : ((w1.alloc (.cells (mkA n (.slice none 0 0)) 79)).alloc (.cells (auA f b st (.slice (some ⟨w1.heap.size, 0, none⟩) n n)) 78)).drew.cell? ⟨w.heap.size, 4, none⟩ = some (.slice (some ⟨aa, oa, none⟩) n ca) := cell_below (((Below.refl w1.heap.size w1).alloc (Nat.le_refl _) _).alloc (by simp) _).drew k4
  have j5 : ((w1.alloc (.cells (mkA n (.slice none 0 0)) 79)).alloc (.cells (auA f b st (.slice (some ⟨w1.heap.size, 0, none⟩) n n)) 78)).drew.cell? ⟨w.heap.size, 5, none⟩ = some (.slice (some ⟨an, on, none⟩) n cn) := cell_below (((Below.refl w1.heap.size w1).alloc (Nat.le_refl _) _).alloc (by simp) _).drew k5
  rename_i hheld
  clear hheld
  generalize hw2 : ((w1.alloc (.cells (mkA n (.slice none 0 0)) 79)).alloc (.cells (auA f b st (.slice (some ⟨w1.heap.size, 0, none⟩) n n)) 78)).drew = w2 at hb2 hz2 hau hnw j3 j4 j5 ⊢
  clear hw2 k0 k1 k2 k3 k4 k5 hb
  clear hbA HB HT hi hmk hzv hzs hze hzt hz0 hz1 hi0
  generalize hg1 : w1.heap.size = g1 at hau hnw hz2 hlt1 ⊢
  clear hg1
  have HAU : Hid (Au w2 (g1 + 1) f b st (fun _ => 0) (fun _ => false) (.slice (some ⟨g1, 0, none⟩) n n)) := hau
  have HNW : Hid (Nw w2 g1 n fun _ => .slice none 0 0) := hnw
  have HB2 : Hid (Below w.heap.size w w2) := hb2
  clear hau hnw hb2
  have hsz8 : ∀ w, (Go.sizeOf 5).run Try.prog w = .ok 1 w := fun w => by
    have h := Try.infoU8
    obtain ⟨i0, hi, hz0, hz1, hz2⟩ := info_parts Try.infoU8
    simp [Go.sizeOf, typeInfo, hi, hz1]
  have hcsz : (ba cls).size = 256 := by rw [ba_size]; exact HCL.out
  have hcopy : Hid (∀ j, j < (ba cls).size → (w2.drew.cell? ⟨g1 + 1, 3 + j, none⟩).isSome = true) := fun j hj => by
    rw [hcsz] at hj
    have := HAU.out.cl j hj
    rw [show w2.drew.cell? ⟨g1 + 1, 3 + j, none⟩ = w2.cell? ⟨g1 + 1, 3 + j, none⟩ from rfl, this]; rfl
  have hcopf : Hid (∀ j, j < (ba cls).size → w2.drew.frozen? ⟨g1 + 1, 3 + j, none⟩ = false) := fun j _ => HAU.out.fz _
  go_wp2
  go_region_law (refine step_copy_string rfl (.tmp 26) (.tmp 28) 46 9 rfl 5 Try.underlying46 hsz8 (g1 + 1) 3 256 256 (by simp [Act.eval, Act.put]) (ba cls) (by simp [Act.eval, Act.put]) (by rw [hcsz]; exact Nat.le_refl _) hcopy.out hcopf.out ?_)
  have hau3 : Au (w2.drew.setCells (g1 + 1) 3 (cls.map fun x => Value.int .u8 (x.toNat : Int))) (g1 + 1) f b st (fun j => ((cls[j]?.getD 0).toNat : Int)) (fun _ => false) (.slice (some ⟨g1, 0, none⟩) n n) := Au.cls (w := w2.drew) (HAU.out.of_block rfl) cls HCL.out
  have hnw3 : Nw (w2.drew.setCells (g1 + 1) 3 (cls.map fun x => Value.int .u8 (x.toNat : Int))) g1 n (fun _ => .slice none 0 0) := HNW.out.of_block (heap_setCells (by omega) _ _ _)
  have hb3 : Below w.heap.size w (w2.drew.setCells (g1 + 1) 3 (cls.map fun x => Value.int .u8 (x.toNat : Int))) := below_setCells (by omega) _ _ _ HB2.out.drew
  have hj4 : (w2.drew.setCells (g1 + 1) 3 (cls.map fun x => Value.int .u8 (x.toNat : Int))).cell? ⟨w.heap.size, 4, none⟩ = some (.slice (some ⟨aa, oa, none⟩) n ca) := by
    have e := heap_setCells (b := g1 + 1) (k := w.heap.size) (by omega) (cls.map fun x => Value.int .u8 (x.toNat : Int)) 3 w2.drew
    have j4' := j4
    simp only [World.cell?] at j4' ⊢; rw [e]; exact j4'
  have hj5 : (w2.drew.setCells (g1 + 1) 3 (cls.map fun x => Value.int .u8 (x.toNat : Int))).cell? ⟨w.heap.size, 5, none⟩ = some (.slice (some ⟨an, on, none⟩) n cn) := by
    have e := heap_setCells (b := g1 + 1) (k := w.heap.size) (by omega) (cls.map fun x => Value.int .u8 (x.toNat : Int)) 3 w2.drew
    have j5' := j5
    simp only [World.cell?] at j5' ⊢; rw [e]; exact j5'
  generalize hw3 : w2.drew.setCells (g1 + 1) 3 (cls.map fun x => Value.int .u8 (x.toNat : Int)) = w3 at hau3 hnw3 hb3 hj4 hj5 ⊢
  have HNI : Hid (NI w w3 (g1 + 1) g1 n f b st (fun j => ((cls[j]?.getD 0).toNat : Int)) acc next (.slice (some ⟨aa, oa, none⟩) n ca) (fun j => decide (j < 0) && (acc[j]?.getD false)) 0 []) :=
    ⟨hau3.set (fun _ _ => by simp), hnw3.congr (fun _ _ => by simp), rfl, fun j h => by simp at h, hb3, Nat.lt_of_lt_of_le (Nat.lt_succ_self _) hau3.lt, hj4, by omega⟩
  clear hau3 hnw3 hb3 hj4 hw3 j3 j4 j5 hcopy hcopf HAU HNW HB2
  go_wp2
  go_loopw [33, 5, 6] (fun i _ _ wr => ∃ k : Nat, ∃ vs, i = .int .i64 k ∧ k ≤ n ∧ NI w wr (g1 + 1) g1 n f b st (fun j => ((cls[j]?.getD 0).toNat : Int)) acc next (.slice (some ⟨aa, oa, none⟩) n ca) (fun j => decide (j < k) && (acc[j]?.getD false)) k vs) (fun i _ _ _ => n - (intOf i).toNat)
  case atStart => exact ⟨0, [], rfl, Nat.zero_le _, HNI.out⟩
  case round =>
    obtain ⟨k, vs, rfl, hk, hni⟩ := hrel
    have HI : Hid (NI w wr (g1 + 1) g1 n f b st (fun j => ((cls[j]?.getD 0).toNat : Int)) acc next (.slice (some ⟨aa, oa, none⟩) n ca) (fun j => decide (j < k) && (acc[j]?.getD false)) k vs) := hni
    by_cases hlt : k < n
    · have hltI : (k : Int) < n := by omega
      have hk1 : k < us.length := by have := HUL.out; omega
      have hk2 : k < next.length := by have := HN1.out; omega
      have hk3 : k < acc.length := by have := HN.out; omega
      have hcu := cell_below hni.bl (HUN.out k hk1)
      have hca := cell_below hni.bl (HCA.out k hk3)
      have hrk := (HRW.out k hk1 hk2).below hni.bl
      have hrr := HR.out next[k] (List.getElem_mem hk2)
      have c4 := hni.c4
      have cn := hni.au.cn
      have cs := hni.nw.c k hlt
      rw [List.getElem?_eq_none (by rw [hni.vl]; exact Nat.le_refl _)] at cs
      simp only [Option.getD_none] at cs
      have cf := hni.nw.fz k
      obtain ⟨u, hu⟩ : ∃ u, u = us[k] := ⟨_, rfl⟩
      obtain ⟨r, hre⟩ : ∃ r, r = next[k] := ⟨_, rfl⟩
      obtain ⟨ab, hab⟩ : ∃ ab, ab = acc[k] := ⟨_, rfl⟩
      rw [← hu] at hcu hrk
      rw [← hre] at hrk hrr
      rw [← hab] at hca
      have HRE : Hid (r = next[k]) := hre
      have HAB : Hid (ab = acc[k]) := hab
      have hlo := hni.lo
      have hcv := conv8_any wr.drew u r (hrk.below (Below.refl wr.heap.size wr).drew) (by omega) (fun z hz => by have := hrr.2 z hz; omega)
      have hw8k := wrap8 (k : Int) (by omega)
      have HRL : Hid (r.length = c) := hrr.1
      clear hni hu hre hab hrk hrr
      go_wp2
      go_region_held3 (fun w' => w'.cell? ⟨g1 + 1, 263, none⟩ = some (.slice (some ⟨g1, 0, none⟩) n n)) (go_keep) (first | (go_at_call 34; refine hcv.mono ?_; rintro e w4 ⟨g4, rfl, hg4, hl4, hn4, hb4⟩; have cs4 : w4.cell? ⟨g1, k, none⟩ = some (.slice none 0 0) := cell_below hb4 cs; have cn4 : w4.cell? ⟨g1 + 1, 263, none⟩ = some (.slice (some ⟨g1, 0, none⟩) n n) := cell_below hb4 cn; have cf4 : w4.frozen? ⟨g1, k, none⟩ = false := (by have := cf; have e := hb4.block g1 (cell_lt cs); simp only [World.frozen?] at this ⊢; rw [e]; exact this)))
      rename_i hheld
      clear hheld
      have HN5 : Hid (NI w (w4.setCell ⟨g1, k, none⟩ (.slice (some ⟨g4, 0, none⟩) r.length r.length)) (g1 + 1) g1 n f b st (fun j => ((cls[j]?.getD 0).toNat : Int)) acc next (.slice (some ⟨aa, oa, none⟩) n ca) (fun j => decide (j < k) && (acc[j]?.getD false)) (k + 1) (vs ++ [.slice (some ⟨g4, 0, none⟩) r.length r.length])) :=
        HI.out.drew.step hb4 hg4 hl4 hn4 (by rw [List.getElem?_eq_getElem hk2, HRE.out]) hlt
      generalize hw5 : w4.setCell ⟨g1, k, none⟩ (.slice (some ⟨g4, 0, none⟩) r.length r.length) = w5 at HN5 ⊢
      generalize (vs ++ [.slice (some ⟨g4, 0, none⟩) r.length r.length]) = vs' at HN5
      clear hw5 cs4 cn4 cf4 hb4 hn4 hl4 hg4 hcu hca cs cf c4 cn
      have c4 := HN5.out.c4
      have hca := cell_below HN5.out.bl (HCA.out k hk3)
      rw [← HAB.out] at hca
      cases ab with
      | false =>
        go_wp2
        go_roundw
        case rel => exact ⟨k + 1, vs', by go_num, by omega, HN5.out.set (fun j hj => by
          by_cases e : j = k
          · subst e; have := HAB.out; simp [hk3, ← this]
          · have e2 : (j < k + 1) = (j < k) := by rw [eq_iff_iff]; omega
            simp only [e2])⟩
        case measure => simp [intOf] <;> omega
      | true =>
        obtain ⟨x0, x1, x2, x3, hset⟩ := HN5.out.au.st
        have hadd := add_any w5 (g1 + 1) 259 k _ x0 x1 x2 x3 (by omega) hset
        clear hset
        go_wp2_with (go_at_call 35; refine hadd.mono ?_; rintro e w6 ⟨rfl, hs6, hf6⟩)
        go_roundw
        case rel => exact ⟨k + 1, vs', by go_num, by omega, (HN5.out.four hf6 hs6).set (fun j hj => by
          by_cases e : j = k
          · subst e; have := HAB.out; simp [hk3, ← this, orS, inSpan]
          · have e2 : (j < k + 1) = (j < k) := by rw [eq_iff_iff]; omega
            have e3 : inSpan k k j = false := by simp [inSpan]; omega
            simp only [e2, orS, e3, Bool.or_false])⟩
        case measure => simp [intOf] <;> omega
    · have hkI : ¬ (k : Int) < n := by omega
      clear hni
      go_wp2
      go_ret2
      refine ⟨g1 + 1, rfl, by omega, ?_, HI.out.bl⟩
      have hkn : k = n := by omega
      obtain ⟨au, nw, vl, rows, bl, lo, c4, gl⟩ := HI.out
      refine ⟨⟨_, _, au, fun j hj => ?_, ⟨vs, ?_, ?_, fun j h1 h2 => ?_⟩⟩⟩
      · by_cases hjk : j < k
        · simp [hjk]
        · have : acc.length ≤ j := by have := HN.out; omega
          simp [hjk, List.getElem?_eq_none this]
      · show vs.length = next.length
        rw [HN1.out]; omega
      · have e : vs.length = n := by omega
        have := Nw.row (α := Value) (l := vs) (enc := id) (c := n) (by rw [e]; exact nw) (fun j hj => by simp [hj])
        rw [e] at this
        exact this
      · have := (rows j h1).row
        have h2' : j < next.length := h2
        simpa [h2'] using this
end Go.Proofs.Ytbjabpodkaokjaa
