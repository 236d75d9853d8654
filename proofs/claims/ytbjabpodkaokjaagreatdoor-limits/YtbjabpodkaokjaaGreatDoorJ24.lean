import Derived.Test.YtbjabpodkaokjaaGreatDoorJ23
import Derived.Test.YtbjabpodkaokjaaGreatDoorJ11
set_option linter.unusedVariables false
set_option linter.unusedSimpArgs false
namespace Go.Proofs.YtbjabpodkaokjaaGreatDoor
open Go.RowKit Go.Shelf
attribute [local go_sem] Oper.semAt_some

theorem iterS_stops (n : Nat) (hn : 2 ≤ n) (q : Nat) (s : W4) (hs : s.ok) (w0 : World) (hT : TabZ w0)
    (hq : w0.heap[q]? = some (.cells #[.int .u64 (s.x0 : Int), .int .u64 (s.x1 : Int), .int .u64 (s.x2 : Int), .int .u64 (s.x3 : Int)] 150)) :
    SeqStopsK Fence.wide n Tryz.prog 200 #[.pointer (some ⟨q, 0, none⟩)] (fun x : {x : Nat // x ∈ s.all} => #[Value.int .u8 (x.val : Int)]) (Kz q) (fun xs => xs.map Subtype.val = s.all) (fun pre => pre.map Subtype.val <+: s.all) s.all.length w0 := fun l J Jx W hW hJ hJx hY h0 =>
  iterS_in n hn l q s hs J Jx W hJ hJx hY (hT.keep (hW.block 1 hT.lt)) ((hW.block q (Array.getElem?_eq_some_iff.1 hq).1).trans hq) h0
theorem kz_b {q : Nat} {w : World} (hq : q < w.heap.size) (h1 : 1 < w.heap.size) (W : World) (l : Nat) (o o' : Obj) (hl : w.heap.size ≤ l) (h2 : W.heap[l]? = some o) (h3 : o.isCells = false) (h4 : o.isWalk = false) : Kz q W (W.putObj l o') := by
  have hb : Below w.heap.size W (W.putObj l o') := belowK_b (Nat.le_refl _) W l o o' hl h2 h3 h4
  exact ⟨hb.size, hb.block 1 h1, hb.block q hq⟩
theorem ownFrom_exc {β : Type} {S : Nat → Prop} {w0 : World} {B : Nat} (hB : w0.heap.size ≤ B) : OwnFrom B (fun (_ : β) W => Exc S w0 W) := fun s W W' row hs hg hr =>
  ⟨hg.os.trans hs.os, hg.tape.trans hs.tape, hg.output.trans hs.output, Nat.le_trans hs.size hg.size, fun b hb hS => (hg.block b (Nat.lt_of_lt_of_le hb hs.size) (fun e => by have := (hr b e.symm).1; omega)).trans (hs.block b hb hS)⟩
theorem fsAt_own {te : TypeId} {W W' : World} {base : Nat} {v : Value} {fs : List W4} {row : Option Nat} (h : FsAt te W base v fs) (hg : W.grownBy W' row) (hr : ∀ r, row = some r → ∃ o : Obj, W.heap[r]? = some o ∧ o.isCells = false) : FsAt te W' base v fs := by
  refine h.blk (fun b hb => hg.block b (h.lt hb).2 (fun e => ?_))
  obtain ⟨o, h1, h2⟩ := hr b e.symm
  rcases h.2 with ⟨rfl, _⟩ | ⟨g, cap, cur, rfl, _, h3, _⟩
  · simp [Value.ownBlock] at hb
  · simp [Value.ownBlock] at hb
    subst hb
    rw [h3] at h1; simp at h1; subst h1; cases h2
set_option maxRecDepth 100000 in
set_option maxHeartbeats 4000000 in
theorem follow_in (w : World) (sb base : Nat) (v : Value) (fs : List W4) (ls fr : W4) (hT : TabZ w) (c1 : w.cell? ⟨sb, 1, none⟩ = some v) (h : FsAt 150 w base v fs) (hb1 : 1 < base) (hsb : sb < base) (hl : ls.ok) (hf : fr.ok) (hok : ∀ x ∈ fs, x.ok) (hr : ∀ i ∈ ls.all, i < fs.length) :
    CallsIn Fence.wide 8 Tryz.prog 197 #[.pointer (some ⟨sb, 0, none⟩), ls.v, fr.v] w fun e w' => e = .returned (.tuple #[]) ∧ FsAt 150 w' base v (foM fs ls fr) ∧ Exc (fun b => v.ownBlock = some b) w w' := by
  have HH : Hid (FsAt 150 w base v fs) := h
  have HT : Hid (TabZ w) := hT
  have HC : Hid (w.cell? ⟨sb, 1, none⟩ = some v) := c1
  clear h hT c1
  refine callsIn_of_wp_marks Tryz.func197 rfl trivial ?_ rfl
  simp only [Tryz.ntmps197, List.size_toArray, List.length_cons, List.length_nil, Nat.reduceAdd, Nat.reduceSub, Array.replicate_succ, Array.replicate_zero, List.push_toArray, List.append_toArray, List.nil_append, List.cons_append]
  simp only [W4.v]
  gi_wp2_with (refine ⟨trivial, ?_⟩; gi_at_call 184; refine (all_in _ ls _).mono ?_; rintro e w' ⟨rfl, hw'⟩; subst hw')
  obtain ⟨w0, hw0⟩ : ∃ w0, w0 = (((w.alloc (.cells #[.pointer (some ⟨sb, 0, none⟩)] 233)).alloc (.cells #[.int .u64 (ls.x0 : Int), .int .u64 (ls.x1 : Int), .int .u64 (ls.x2 : Int), .int .u64 (ls.x3 : Int)] 150)).alloc (.cells #[.int .u64 (fr.x0 : Int), .int .u64 (fr.x1 : Int), .int .u64 (fr.x2 : Int), .int .u64 (fr.x3 : Int)] 150)).alloc (.cells #[.int .u64 (ls.x0 : Int), .int .u64 (ls.x1 : Int), .int .u64 (ls.x2 : Int), .int .u64 (ls.x3 : Int)] 150) := ⟨_, rfl⟩
  have hB0 : Below w.heap.size w w0 := by rw [hw0]; exact ((((Below.refl _ w).alloc (Nat.le_refl _) _).alloc (by simp) _).alloc (by simp; omega) _).alloc (by simp; omega) _
  have hz0 : w0.heap.size = w.heap.size + 4 := by rw [hw0]; simp
  have j0 : w0.heap[w.heap.size]? = some (.cells #[.pointer (some ⟨sb, 0, none⟩)] 233) := by rw [hw0, Below.heap_alloc _ _ _ (by simp; omega)]; exact al0 w _ _ _
  have j2 : w0.heap[w.heap.size + 2]? = some (.cells #[.int .u64 (fr.x0 : Int), .int .u64 (fr.x1 : Int), .int .u64 (fr.x2 : Int), .int .u64 (fr.x3 : Int)] 150) := by rw [hw0, Below.heap_alloc _ _ _ (by simp)]; exact al2 w _ _ _
  have j3 : w0.heap[w.heap.size + 3]? = some (.cells #[.int .u64 (ls.x0 : Int), .int .u64 (ls.x1 : Int), .int .u64 (ls.x2 : Int), .int .u64 (ls.x3 : Int)] 150) := by
    rw [hw0]
    have := heap_alloc_new (((w.alloc (.cells #[.pointer (some ⟨sb, 0, none⟩)] 233)).alloc (.cells #[.int .u64 (ls.x0 : Int), .int .u64 (ls.x1 : Int), .int .u64 (ls.x2 : Int), .int .u64 (ls.x3 : Int)] 150)).alloc (.cells #[.int .u64 (fr.x0 : Int), .int .u64 (fr.x1 : Int), .int .u64 (fr.x2 : Int), .int .u64 (fr.x3 : Int)] 150)) (.cells #[.int .u64 (ls.x0 : Int), .int .u64 (ls.x1 : Int), .int .u64 (ls.x2 : Int), .int .u64 (ls.x3 : Int)] 150)
    simpa using this
  rw [← hw0]
  have hvl : ∀ b, v.ownBlock = some b → base ≤ b ∧ b < w.heap.size := fun b hb => HH.out.lt hb
  have hF0 : FsAt 150 w0 base v fs := HH.out.blk (fun b hb => hB0.block b (hvl b hb).2)
  have hsbl : sb < w.heap.size := cell_lt HC.out
  have h1l := HT.out.lt
  have hC0 : w0.cell? ⟨sb, 1, none⟩ = some v := cell_below hB0 HC.out
  have HB0 : Hid (Below w.heap.size w w0) := hB0
  clear hw0
  refine wpIn_rangeFunc_ownF (α := {x : Nat // x ∈ ls.all}) rfl (by omega) (gf := 200) (lb := #[.pointer (some ⟨w.heap.size + 3, 0, none⟩)]) rfl trivial (enters_of Tryz.func200 (by kernel_rfl) rfl)
    (iterS_stops (8 - 1) (by omega) (w.heap.size + 3) ls hl w0 (HT.out.keep (hB0.block 1 h1l)) j3) (fun h k => h.trans k) (kz_b (by omega) (by omega)) (Below.refl _ _) (fun _ => rfl)
    (fun pre W => FsAt 150 W base v (foL fs (pre.map Subtype.val) fr) ∧ Exc (fun b => v.ownBlock = some b) w0 W)
    (fun _ _ _ => False)
    (OwnFrom.and (fun s A B row hs hg hr => fsAt_own hs hg (fun r e => (hr r e).2)) (ownFrom_exc (Nat.le_refl _)))
    (fun _ _ _ _ _ hs _ _ => hs)
    ⟨hF0, Exc.refl _ _⟩
    (fun x => { tmps := #[.pointer (some ⟨sb, 0, none⟩), seV ls.x0 ls.x1 ls.x2 ls.x3, seV fr.x0 fr.x1 fr.x2 fr.x3, .pointer (some ⟨w.heap.size, 0, none⟩), .pointer (some ⟨w.heap.size + 1, 0, none⟩), .pointer (some ⟨w.heap.size + 1 + 1, 0, none⟩), .int .u8 (x.val : Int), .agg #[.int .u64 (ls.x0 : Int), .int .u64 (ls.x1 : Int), .int .u64 (ls.x2 : Int), .int .u64 (ls.x3 : Int)], .func (.func 200) #[] #[.pointer (some ⟨w.heap.size + 1 + 1 + 1, 0, none⟩)], .int .u8 (x.val : Int), undef, undef, undef, undef, undef, undef, undef, undef], defers := [] }) ?assign ?body ?done ?stop
  case assign =>
    intro l x W K hK
    gi_wp2
    exact hK
  case body =>
    rintro l pre x W ⟨hFs, hE⟩ _
    have hlen : x.val < (foL fs (pre.map Subtype.val) fr).length := by rw [foL_len]; exact hr _ x.2
    obtain ⟨g, cap, rfl, hgb, hat⟩ := hFs.at hlen
    have hL := foL_len fs (pre.map Subtype.val) fr
    obtain ⟨k, hk⟩ := x
    simp only at hlen hat ⊢
    obtain ⟨F, hFe⟩ : ∃ F, F = foL fs (pre.map Subtype.val) fr := ⟨_, rfl⟩
    rw [← hFe] at hlen
    have hat' : W4At W g (k * 4) F[k] := by simpa [hFe] using hat
    have hFk : F[k].ok := by
      have := foL_ok (pre.map Subtype.val) hok hf
      rw [← hFe] at this
      exact this _ (List.getElem_mem _)
    have hcall := addAllS_any W.drew g (k * 4) F[k] fr hFk hf ⟨hat'.c0, hat'.c1, hat'.c2, hat'.c3, hat'.fz⟩
    have HFE : Hid (F = foL fs (pre.map Subtype.val) fr) := hFe
    have HAT : Hid (W4At W g (k * 4) F[k]) := hat'
    have HFS : Hid (FsAt 150 W base (.slice (some ⟨g, 0, none⟩) F.length cap) F) := by rw [hFe]; exact hFs
    have d0 : W.cell? ⟨w.heap.size, 0, none⟩ = some (.pointer (some ⟨sb, 0, none⟩)) := by
      have := hE.block w.heap.size (by omega) (fun e => by have := (hvl _ e).2; omega)
      simp [World.cell?, this, j0]
    have d1 : W.cell? ⟨sb, 1, none⟩ = some (.slice (some ⟨g, 0, none⟩) F.length cap) := by
      have := hE.block sb (by omega) (fun e => by have := (hvl _ e).1; omega)
      rw [hFe, ← hC0]; simp [World.cell?, this]
    have e2 := hE.block (w.heap.size + 2) (by omega) (fun e => by have := (hvl _ e).2; omega)
    have f0 : W.cell? ⟨w.heap.size + 1 + 1, 0, none⟩ = some (.int .u64 (fr.x0 : Int)) := by simp [World.cell?, e2, j2]
    have f1 : W.cell? ⟨w.heap.size + 1 + 1, 1, none⟩ = some (.int .u64 (fr.x1 : Int)) := by simp [World.cell?, e2, j2]
    have f2 : W.cell? ⟨w.heap.size + 1 + 1, 2, none⟩ = some (.int .u64 (fr.x2 : Int)) := by simp [World.cell?, e2, j2]
    have f3 : W.cell? ⟨w.heap.size + 1 + 1, 3, none⟩ = some (.int .u64 (fr.x3 : Int)) := by simp [World.cell?, e2, j2]
    have hkI : (k : Int) < F.length := by omega
    have hmix : Tryz.prog.follows .mixedOrders = true := by kernel_rfl
    have hvg := (hvl g rfl)
    have HFIN : Hid (∀ w2, W4At w2 g (k * 4) (F[k].or fr) → Fo g (k * 4) W.drew w2 → KeepsOthers W w2 ∧ Kz (w.heap.size + 3) W w2 ∧ FsAt 150 w2 base (.slice (some ⟨g, 0, none⟩) (foL fs (pre.map Subtype.val) fr).length cap) (foL fs ((pre ++ [(⟨k, hk⟩ : {x : Nat // x ∈ ls.all})]).map Subtype.val) fr) ∧ Exc (fun b => (Value.slice (some ⟨g, 0, none⟩) (foL fs (pre.map Subtype.val) fr).length cap).ownBlock = some b) w0 w2) := fun w2 hx2 hf2 => by
      have hf2' : Fo g (k * 4) W w2 := ⟨⟨hf2.four.os, hf2.four.tape, hf2.four.output, hf2.four.size, hf2.four.block, hf2.four.cell⟩, hf2.shp⟩
      have hsz := hE.size
      refine ⟨hf2'.others HAT.out.c0, ⟨hf2'.four.size, hf2'.four.block 1 (by omega) (by omega), hf2'.four.block _ (by omega) (by omega)⟩, ?_, ?_⟩
      · have := HFS.out.mod hlen hf2' hx2
        rw [List.map_append, List.map_cons, List.map_nil, foL_snoc, ← HFE.out, modify_set _ _ hlen]
        exact this
      · refine hE.trans (hf2'.exc.mono (fun b _ hb => ?_))
        subst hb; rfl
    clear hat hFe hat' hFs hL
    gi_wp2
    gi_region_with_o (refine ⟨trivial, ?_⟩; gi_at_call 125; refine (CallsIn.inRound l (callsIn_wide.2 hcall)).mono ?_; rintro e w2 ⟨rfl, hx2, hf2⟩)
    all_goals exact HFIN.out _ hx2 hf2
  case done =>
    rintro D ys W hD hys ⟨hFs, hE⟩ hK
    gi_wp2
    refine ⟨by simp, .inl ⟨_, _, rfl, run_takeDeferred hK, ?_⟩⟩
    have hbD : Below w0.heap.size W (W.putObj D (.deferred none)) := belowK_b (w := w0) (Nat.le_refl _) W D _ _ hD hK rfl rfl
    have hbS := hbD.size
    refine ⟨_, results_none rfl _ _ _, rfl, ?_, ?_⟩
    · have : foM fs ls fr = foL fs (ys.map Subtype.val) fr := by rw [hys]; rfl
      rw [this]
      exact hFs.blk (fun b hb => hbD.block b (by have := (hvl b hb).2; omega))
    · have h1 : Exc (fun b => v.ownBlock = some b) w w0 := Exc.of_below _ HB0.out
      refine ⟨hE.os.trans h1.os, hE.tape.trans h1.tape, hE.output.trans h1.output, Nat.le_trans h1.size (Nat.le_trans hE.size hbS), fun b hb hS => ?_⟩
      rw [hbD.block b (by omega)]
      exact (hE.block b (by omega) hS).trans (h1.block b hb hS)
  case stop =>
    rintro D c pre W _ _ h _
    exact h.elim
theorem follow_any (w : World) (sb base : Nat) (v : Value) (fs : List W4) (ls fr : W4) (hT : TabZ w) (c1 : w.cell? ⟨sb, 1, none⟩ = some v) (h : FsAt 150 w base v fs) (hb1 : 1 < base) (hsb : sb < base) (hl : ls.ok) (hf : fr.ok) (hok : ∀ x ∈ fs, x.ok) (hr : ∀ i ∈ ls.all, i < fs.length) :
    Calls Tryz.prog 197 #[.pointer (some ⟨sb, 0, none⟩), ls.v, fr.v] w fun e w' => e = .returned (.tuple #[]) ∧ FsAt 150 w' base v (foM fs ls fr) ∧ Exc (fun b => v.ownBlock = some b) w w' := callsIn_wide.1 (follow_in w sb base v fs ls fr hT c1 h hb1 hsb hl hf hok hr)
end Go.Proofs.YtbjabpodkaokjaaGreatDoor
