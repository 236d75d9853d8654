import Derived.Test.YtbjabpodkaokjaaJ20
import Derived.Test.YtbjabpodkaokjaaJ19
set_option linter.unusedVariables false
set_option linter.unusedSimpArgs false
namespace Go.Proofs.Ytbjabpodkaokjaa
open Go.RowKit Go.Shelf
attribute [local go_sem] Oper.semAt_some

theorem ends_stops (n : Nat) (hn : 2 ≤ n) (H g : Nat) (t : Tb) (c : Nat) (hok : TbOk t c) (tx : List UInt8) (htx : tx.length ≤ maxLen) (w0 : World)
    (hau : ∀ W', Below H w0 W' → AuIn W' g t) (hsz : w0.heap.size = H + 3)
    (hB1 : w0.cell? ⟨H + 1, 0, none⟩ = some (.pointer (some ⟨g, 0, none⟩))) (hB2 : w0.cell? ⟨H + 2, 0, none⟩ = some (.string (ba tx))) :
    SeqStopsK Fence.wide n Try.prog 55 #[.pointer (some ⟨H + 1, 0, none⟩), .pointer (some ⟨H + 2, 0, none⟩)] (fun x : Nat => #[Value.int .i64 (x : Int)]) (Kq H) (fun xs => xs = endsL t tx) (fun pre => pre <+: endsL t tx) (tx.length + 1) w0 := fun l J Jx W hW hJ hJx hY h0 => by
  have hs := hW.size
  exact iter_in n hn l H g t c hok tx htx J Jx W hJ hJx hY (fun W' hb => hau W' ((hW.mono (by omega)).trans hb)) (by omega) ((cell_of_block (hW.block _ (by omega)) 0).trans hB1) ((cell_of_block (hW.block _ (by omega)) 0).trans hB2) h0
def lastI (l : List Nat) : Int := match l.getLast? with | some x => x | none => -1
theorem lastI_snoc (l : List Nat) (x : Nat) : lastI (l ++ [x]) = x := by simp [lastI]
def firstI (l : List Nat) : Int := match l with | x :: _ => x | [] => -1
theorem kq_b {H : Nat} {w : World} (hw : H + 3 ≤ w.heap.size) (W : World) (l : Nat) (o o' : Obj) (h1 : w.heap.size ≤ l) (h2 : W.heap[l]? = some o) (h3 : o.isCells = false) (h4 : o.isWalk = false) : Kq H W (W.putObj l o') := by
  have hb : Below (H + 3) W (W.putObj l o') := belowK_b hw W l o o' h1 h2 h3 h4
  exact ⟨hb.mono (by omega), hb.block _ (by omega), hb.block _ (by omega)⟩
theorem kq_set (H : Nat) (W : World) (v : Value) : Kq H W (W.setCell ⟨H, 0, none⟩ v) :=
  ⟨(Below.refl H W).setCell (p := ⟨H, 0, none⟩) (Nat.le_refl _) _, Below.heap_setCell _ _ _ _ (by simp), Below.heap_setCell _ _ _ _ (by simp)⟩
set_option maxRecDepth 100000 in
set_option maxHeartbeats 4000000 in
theorem last_in (w : World) (g : Nat) (t : Tb) (c : Nat) (h : AuIn w g t) (hok : TbOk t c) (tx : List UInt8) (htx : tx.length ≤ maxLen) :
    CallsIn Fence.wide 8 Try.prog 28 #[.pointer (some ⟨g, 0, none⟩), .string (ba tx)] w fun e w' => e = .returned (.int .i64 (lastI (endsL t tx))) ∧ Below w.heap.size w w' := by
  have HH : Hid (AuIn w g t) := h
  clear h
  refine callsIn_of_wp_marks Try.func28 rfl trivial ?_ rfl
  simp only [Try.ntmps28, List.size_toArray, List.length_cons, List.length_nil, Nat.reduceAdd, Nat.reduceSub, Array.replicate_succ, Array.replicate_zero, List.push_toArray, List.append_toArray, List.nil_append, List.cons_append]
  gi_wp2_with (refine ⟨trivial, ?_⟩; gi_at_call 49; refine (ends_in _ g (ba tx) _).mono ?_; rintro e w' ⟨rfl, hw'⟩; subst hw')
  obtain ⟨w0, hw0⟩ : ∃ w0, w0 = ((w.alloc (.cells #[.int .i64 (-1)] 3)).alloc (.cells #[.pointer (some ⟨g, 0, none⟩)] 49)).alloc (.cells #[.string (ba tx)] 9) := ⟨_, rfl⟩
  have hB0 : Below w.heap.size w w0 := by rw [hw0]; exact (((Below.refl _ w).alloc (Nat.le_refl _) _).alloc (by simp) _).alloc (by simp; omega) _
  have hz0 : w0.heap.size = w.heap.size + 3 := by rw [hw0]; simp
  have j0 : w0.heap[w.heap.size]? = some (.cells #[.int .i64 (-1)] 3) := by rw [hw0]; exact al0 w _ _ _
  have j1 : w0.heap[w.heap.size + 1]? = some (.cells #[.pointer (some ⟨g, 0, none⟩)] 49) := by rw [hw0]; exact al1 w _ _ _
  have j2 : w0.heap[w.heap.size + 2]? = some (.cells #[.string (ba tx)] 9) := by rw [hw0]; exact al2 w _ _ _
  have k0 : w0.cell? ⟨w.heap.size, 0, none⟩ = some (.int .i64 (-1)) := by simp [World.cell?, j0]
  have kf : w0.frozen? ⟨w.heap.size, 0, none⟩ = false := by simp [World.frozen?, j0]
  have k1 : w0.cell? ⟨w.heap.size + 1, 0, none⟩ = some (.pointer (some ⟨g, 0, none⟩)) := by simp [World.cell?, j1]
  have k2 : w0.cell? ⟨w.heap.size + 2, 0, none⟩ = some (.string (ba tx)) := by simp [World.cell?, j2]
  rw [← hw0]
  refine wpIn_rangeFunc_ownF (α := Nat) rfl (by omega) (gf := 55) (lb := #[.pointer (some ⟨w.heap.size + 1, 0, none⟩), .pointer (some ⟨w.heap.size + 2, 0, none⟩)]) rfl trivial (enters_of Try.func55 (by kernel_rfl) rfl)
    (ends_stops (8 - 1) (by omega) w.heap.size g t c hok tx htx w0 (fun W' hb => HH.out.below (hB0.trans hb)) hz0 k1 k2) (fun h k => h.trans k) (kq_b (by omega)) (Below.refl _ _) (fun _ => rfl)
    (fun pre W => (W.cell? ⟨w.heap.size, 0, none⟩ = some (.int .i64 (lastI pre)) ∧ W.frozen? ⟨w.heap.size, 0, none⟩ = false) ∧ Below w.heap.size w W)
    (fun _ _ _ => False)
    (OwnFrom.and (Own.from (fun s A B row hs hg hr => ⟨cell_kept hs.1 hg hr, (frozen_kept hs.1 hg hr).trans hs.2⟩) _) (ownFrom_below (Nat.le_refl _) (by omega)))
    (fun _ _ _ _ _ hs _ _ => hs)
    ⟨⟨k0, kf⟩, hB0⟩
    (fun x => { tmps := #[.pointer (some ⟨g, 0, none⟩), .string (ba tx), undef, undef, .int .i64 0, .pointer (some ⟨w.heap.size, 0, none⟩), .int .i64 (x : Int), .pointer (some ⟨g, 0, none⟩), .string (ba tx), .func (.func 55) #[] #[.pointer (some ⟨w.heap.size + 1, 0, none⟩), .pointer (some ⟨w.heap.size + 2, 0, none⟩)], .int .i64 (x : Int), undef, undef], defers := [] }) ?assign ?body ?done ?stop
  case assign =>
    intro l x W K hK
    gi_wp2
    exact hK
  case body =>
    rintro l pre x W ⟨⟨hc, hf⟩, hB⟩ _
    gi_wp2
    exact ⟨KeepsOthers.setCell _ _ _, kq_set _ _ _, ⟨by rw [lastI_snoc]; exact World.cell?_setCell_same' _ _ _ (by rw [hc]; rfl), by rw [World.frozen?_setCell]; exact hf⟩, hB.setCell (p := ⟨w.heap.size, 0, none⟩) (Nat.le_refl _) _⟩
  case done =>
    rintro D ys W hD rfl ⟨⟨hc, _⟩, hB⟩ hK
    gi_wp2
    refine ⟨by simp, .inl ⟨_, _, rfl, run_takeDeferred hK, ?_⟩⟩
    exact ⟨_, results_tmp rfl _ _ _, rfl, hB.trans (belowK_b (w := w) (Nat.le_refl _) W D _ _ (by omega) hK rfl rfl)⟩
  case stop =>
    rintro D c pre W _ _ h _
    exact h.elim
theorem last_any (w : World) (g : Nat) (t : Tb) (c : Nat) (h : AuIn w g t) (hok : TbOk t c) (tx : List UInt8) (htx : tx.length ≤ maxLen) :
    Calls Try.prog 28 #[.pointer (some ⟨g, 0, none⟩), .string (ba tx)] w fun e w' => e = .returned (.int .i64 (lastI (endsL t tx))) ∧ Below w.heap.size w w' := callsIn_wide.1 (last_in w g t c h hok tx htx)
set_option maxRecDepth 100000 in
set_option maxHeartbeats 4000000 in
theorem first_in (w : World) (g : Nat) (t : Tb) (c : Nat) (h : AuIn w g t) (hok : TbOk t c) (tx : List UInt8) (htx : tx.length ≤ maxLen) :
    CallsIn Fence.wide 8 Try.prog 27 #[.pointer (some ⟨g, 0, none⟩), .string (ba tx)] w fun e w' => e = .returned (.int .i64 (firstI (endsL t tx))) ∧ Below w.heap.size w w' := by
  have HH : Hid (AuIn w g t) := h
  clear h
  refine callsIn_of_wp_marks Try.func27 rfl trivial ?_ rfl
  simp only [Try.ntmps27, List.size_toArray, List.length_cons, List.length_nil, Nat.reduceAdd, Nat.reduceSub, Array.replicate_succ, Array.replicate_zero, List.push_toArray, List.append_toArray, List.nil_append, List.cons_append]
  gi_wp2_with (refine ⟨trivial, ?_⟩; gi_at_call 49; refine (ends_in _ g (ba tx) _).mono ?_; rintro e w' ⟨rfl, hw'⟩; subst hw')
  obtain ⟨w0, hw0⟩ : ∃ w0, w0 = ((w.alloc (.cells #[.int .i64 0] 3)).alloc (.cells #[.pointer (some ⟨g, 0, none⟩)] 49)).alloc (.cells #[.string (ba tx)] 9) := ⟨_, rfl⟩
  have hB0 : Below w.heap.size w w0 := by rw [hw0]; exact (((Below.refl _ w).alloc (Nat.le_refl _) _).alloc (by simp) _).alloc (by simp; omega) _
  have hz0 : w0.heap.size = w.heap.size + 3 := by rw [hw0]; simp
  have j0 : w0.heap[w.heap.size]? = some (.cells #[.int .i64 0] 3) := by rw [hw0]; exact al0 w _ _ _
  have j1 : w0.heap[w.heap.size + 1]? = some (.cells #[.pointer (some ⟨g, 0, none⟩)] 49) := by rw [hw0]; exact al1 w _ _ _
  have j2 : w0.heap[w.heap.size + 2]? = some (.cells #[.string (ba tx)] 9) := by rw [hw0]; exact al2 w _ _ _
  have k0 : w0.cell? ⟨w.heap.size, 0, none⟩ = some (.int .i64 0) := by simp [World.cell?, j0]
  have kf : w0.frozen? ⟨w.heap.size, 0, none⟩ = false := by simp [World.frozen?, j0]
  have k1 : w0.cell? ⟨w.heap.size + 1, 0, none⟩ = some (.pointer (some ⟨g, 0, none⟩)) := by simp [World.cell?, j1]
  have k2 : w0.cell? ⟨w.heap.size + 2, 0, none⟩ = some (.string (ba tx)) := by simp [World.cell?, j2]
  rw [← hw0]
  refine wpIn_rangeFunc_ownF (α := Nat) rfl (by omega) (gf := 55) (lb := #[.pointer (some ⟨w.heap.size + 1, 0, none⟩), .pointer (some ⟨w.heap.size + 2, 0, none⟩)]) rfl trivial (enters_of Try.func55 (by kernel_rfl) rfl)
    (ends_stops (8 - 1) (by omega) w.heap.size g t c hok tx htx w0 (fun W' hb => HH.out.below (hB0.trans hb)) hz0 k1 k2) (fun h k => h.trans k) (kq_b (by omega)) (Below.refl _ _) (fun _ => rfl)
    (fun pre W => (pre = [] ∧ W.cell? ⟨w.heap.size, 0, none⟩ = some (.int .i64 0) ∧ W.frozen? ⟨w.heap.size, 0, none⟩ = false) ∧ Below w.heap.size w W)
    (fun c pre W => (c = .ret ∧ (∃ x : Nat, pre = [x] ∧ W.cell? ⟨w.heap.size, 0, none⟩ = some (.int .i64 (x : Int)))) ∧ Below w.heap.size w W)
    (OwnFrom.and (Own.from (fun s A B row hs hg hr => ⟨hs.1, cell_kept hs.2.1 hg hr, (frozen_kept hs.2.1 hg hr).trans hs.2.2⟩) _) (ownFrom_below (Nat.le_refl _) (by omega)))
    (fun c => OwnFrom.and (Own.from (fun s A B row hs hg hr => ⟨hs.1, let ⟨x, h1, h2⟩ := hs.2; ⟨x, h1, cell_kept h2 hg hr⟩⟩) _) (ownFrom_below (Nat.le_refl _) (by omega)))
    ⟨⟨rfl, k0, kf⟩, hB0⟩
    (fun x => { tmps := #[.pointer (some ⟨g, 0, none⟩), .string (ba tx), undef, undef, .pointer (some ⟨w.heap.size, 0, none⟩), .int .i64 (x : Int), .pointer (some ⟨g, 0, none⟩), .string (ba tx), .func (.func 55) #[] #[.pointer (some ⟨w.heap.size + 1, 0, none⟩), .pointer (some ⟨w.heap.size + 2, 0, none⟩)], .int .i64 (x : Int), undef], defers := [] }) ?assign ?body ?done ?stop
  case assign =>
    intro l x W K hK
    gi_wp2
    exact hK
  case body =>
    rintro l pre x W ⟨⟨hp, hc, hf⟩, hB⟩ _
    subst hp
    gi_wp2
    exact ⟨KeepsOthers.setCell _ _ _, ⟨rfl, x, rfl, World.cell?_setCell_same' _ _ _ (by rw [hc]; rfl)⟩, hB.setCell (p := ⟨w.heap.size, 0, none⟩) (Nat.le_refl _) _⟩
  case done =>
    rintro D ys W hD hys ⟨⟨hp, hc, hf⟩, hB⟩ hK
    have hys2 : endsL t tx = [] := by rw [← hys, hp]
    gi_wp2
    have hK' := (KeepsOthers.setCell W ⟨w.heap.size, 0, none⟩ (.int .i64 (-1))).same D _ hK rfl
    refine ⟨by simp, .inl ⟨_, _, rfl, run_takeDeferred hK', ?_⟩⟩
    have hc5 := cell_kept (World.cell?_setCell_same' W ⟨w.heap.size, 0, none⟩ (.int .i64 (-1)) (by rw [hc]; rfl)) (grownBy_putObj' _ D (.deferred none)) (fun r e => by cases e; exact ⟨_, hK', rfl⟩)
    refine ⟨.int .i64 (-1), ?_, by rw [hys2]; rfl, (hB.setCell (p := ⟨w.heap.size, 0, none⟩) (Nat.le_refl _) _).trans (belowK_b (w := w) (Nat.le_refl _) _ D _ _ (by omega) hK' rfl rfl)⟩
    simp [results, Try.f27, go_sem, hc5]
  case stop =>
    rintro D c pre W hD hpre ⟨⟨rfl, x, rfl, hcr⟩, hB⟩ hK
    gi_wp2
    refine ⟨by simp, .inl ⟨_, _, rfl, run_takeDeferred hK, ?_⟩⟩
    have hc5 := cell_kept hcr (grownBy_putObj' _ D (.deferred none)) (fun r e => by cases e; exact ⟨_, hK, rfl⟩)
    refine ⟨.int .i64 (x : Int), ?_, ?_, hB.trans (belowK_b (w := w) (Nat.le_refl _) W D _ _ (by omega) hK rfl rfl)⟩
    · simp [results, Try.f27, go_sem, hc5]
    · obtain ⟨r, hr⟩ := hpre
      rw [← hr]; rfl
theorem first_any (w : World) (g : Nat) (t : Tb) (c : Nat) (h : AuIn w g t) (hok : TbOk t c) (tx : List UInt8) (htx : tx.length ≤ maxLen) :
    Calls Try.prog 27 #[.pointer (some ⟨g, 0, none⟩), .string (ba tx)] w fun e w' => e = .returned (.int .i64 (firstI (endsL t tx))) ∧ Below w.heap.size w w' := callsIn_wide.1 (first_in w g t c h hok tx htx)
end Go.Proofs.Ytbjabpodkaokjaa
