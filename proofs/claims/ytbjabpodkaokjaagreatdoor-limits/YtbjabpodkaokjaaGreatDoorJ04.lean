import Derived.Test.YtbjabpodkaokjaaGreatDoorJ03
import Derived.Test.YtbjabpodkaokjaaGreatDoorJ02
import Derived.Deep.RegionHeld3
import Derived.Deep.RegionLaw
import Derived.Deep.QuietTactic
import Derived.BigQuiet
import Derived.DeepKeys4
set_option linter.unusedVariables false
set_option linter.unusedSimpArgs false
namespace Go.Proofs.YtbjabpodkaokjaaGreatDoor
open Go.RowKit

theorem own_lt {w : World} {base : Nat} {e : TypeId} {size : Nat} {v : Value} {n q : Nat} {xs : List Value} (h : w.ownsRow base e size v n xs) (hq : v.ownBlock = some q) : q < w.heap.size := by
  rcases h.2 with ⟨rfl, _⟩ | ⟨g, cap, cur, rfl, h1, h2, r⟩
  · simp [Value.ownBlock] at hq
  · simp [Value.ownBlock] at hq
    subst hq
    exact (Array.getElem?_eq_some_iff.1 h2).1
/-- A cell of a block, and a row, may have changed. -/
structure Ap (p off : Nat) (r : Option Nat) (w w' : World) : Prop where
  os : w'.os = w.os
  tape : w'.tape = w.tape
  output : w'.output = w.output
  size : w.heap.size ≤ w'.heap.size
  block : ∀ b, b < w.heap.size → b ≠ p → some b ≠ r → w'.heap[b]? = w.heap[b]?
  cell : ∀ o, o ≠ off → w'.cell? ⟨p, o, none⟩ = w.cell? ⟨p, o, none⟩
  fz : ∀ o, w'.frozen? ⟨p, o, none⟩ = w.frozen? ⟨p, o, none⟩
theorem own_blk {w w' : World} {base : Nat} {e : TypeId} {size : Nat} {v : Value} {n : Nat} {xs : List Value} (h : w.ownsRow base e size v n xs) (hb : ∀ b, v.ownBlock = some b → w'.heap[b]? = w.heap[b]?) : w'.ownsRow base e size v n xs := by
  refine ⟨h.1, ?_⟩
  rcases h.2 with q | ⟨g, cap, cur, rfl, h1, h2, r⟩
  · exact .inl q
  · exact .inr ⟨g, cap, cur, rfl, h1, (hb g rfl).trans h2, r⟩
theorem set_blk (w : World) (b o : Nat) (v : Value) {k : Nat} (h : k ≠ b) : (w.setCell ⟨b, o, none⟩ v).heap[k]? = w.heap[k]? := by
  simp [World.setCell, Array.getElem?_setIfInBounds, Array.getElem?_modify, Ne.symm h, h]
theorem ap_of {w wa w4 : World} {v x : Value} {p off g : Nat} (hb : Below w.heap.size w wa) (hp : p < w.heap.size) (hne : v.ownBlock ≠ some p) (hl : ∀ q, v.ownBlock = some q → q < w.heap.size)
    (hg : (v.ownBlock = some g ∧ wa.grownBy w4 (some g)) ∨ (g = wa.heap.size ∧ wa.grownBy w4 none)) (hf : w.frozen? ⟨p, off, none⟩ = false) :
    Ap p off v.ownBlock w (w4.setCell ⟨p, off, none⟩ x) ∧ g ≠ p ∧ (v.ownBlock = some g ∨ w.heap.size ≤ g) ∧ w4.frozen? ⟨p, off, none⟩ = false := by
  have hbs := hb.size
  have hgp : g ≠ p := by
    rcases hg with ⟨h1, _⟩ | ⟨h1, _⟩
    · rintro rfl; exact hne h1
    · omega
  have hblk : ∀ b, b < w.heap.size → some b ≠ v.ownBlock → w4.heap[b]? = w.heap[b]? := by
    intro b hb1 hb2
    rcases hg with ⟨h1, h2⟩ | ⟨h1, h2⟩
    · exact (h2.block b (by omega) (by rw [← h1]; exact hb2)).trans (hb.block b hb1)
    · exact (h2.block b (by omega) (by simp)).trans (hb.block b hb1)
  have hpp := hblk p hp (fun e => hne e.symm)
  have hsz : w.heap.size ≤ w4.heap.size ∧ w4.os = w.os ∧ w4.tape = w.tape ∧ w4.output = w.output := by
    rcases hg with ⟨h1, h2⟩ | ⟨h1, h2⟩
    · exact ⟨Nat.le_trans hbs h2.size, h2.os.trans hb.os, h2.tape.trans hb.tape, h2.output.trans hb.output⟩
    · exact ⟨Nat.le_trans hbs h2.size, h2.os.trans hb.os, h2.tape.trans hb.tape, h2.output.trans hb.output⟩
  refine ⟨⟨hsz.2.1, hsz.2.2.1, hsz.2.2.2, by simp [World.setCell]; exact hsz.1, fun b h1 h2 h3 => ?_, fun o ho => ?_, fun o => ?_⟩, hgp, ?_, ?_⟩
  · rw [set_blk _ _ _ _ h2]; exact hblk b h1 h3
  · have : (w4.setCell ⟨p, off, none⟩ x).cell? ⟨p, o, none⟩ = w4.cell? ⟨p, o, none⟩ := by simp [go_sem, Ne.symm ho, ho]
    rw [this]; simp [World.cell?, hpp]
  · have : (w4.setCell ⟨p, off, none⟩ x).frozen? ⟨p, o, none⟩ = w4.frozen? ⟨p, o, none⟩ := by simp [go_sem]
    rw [this]; simp [World.frozen?, hpp]
  · rcases hg with ⟨h1, _⟩ | ⟨h1, _⟩
    · exact .inl h1
    · exact .inr (by omega)
  · rw [← hf]; simp [World.frozen?, hpp]

theorem step_mapUpdate {P : Program} (w : World) {ops : Array Oper} {o : Oper} {a : Act} {K : Act → World → Prop} {Q : Exit → Act → World → Prop} {E : Prop} (hgd : o.guard = none) (m x v : Operand) (t : TypeId)
    (ho : o.op = .mapUpdate t m x v) (mv xv vv : Value) (hm : a.eval m = mv) (hx : a.eval x = xv) (hv : a.eval v = vv) (w' : World) (hr : (Instr.mapUpdate t mv xv vv).run P w = .ok () w') (h : K (a.put o.dst undef) w') :
    if Region.wanted o (yielded ops a.tmps) = true then Oper.wp P o a w K Q else E := by
  have hw : Region.wanted o (yielded ops a.tmps) = true := by simp [Region.wanted, hgd]
  rw [if_pos hw]
  unfold Oper.wp
  simp [execOp, ho, hm, hx, hv, hr, Result.andThen]
  exact h

/-- Some blocks may have changed. -/
structure Exc (S : Nat → Prop) (w w' : World) : Prop where
  os : w'.os = w.os
  tape : w'.tape = w.tape
  output : w'.output = w.output
  size : w.heap.size ≤ w'.heap.size
  block : ∀ b, b < w.heap.size → ¬ S b → w'.heap[b]? = w.heap[b]?
theorem Exc.refl (S : Nat → Prop) (w : World) : Exc S w w := ⟨rfl, rfl, rfl, Nat.le_refl _, fun _ _ _ => rfl⟩
theorem Exc.trans {S : Nat → Prop} {w w' w'' : World} (h : Exc S w w') (g : Exc S w' w'') : Exc S w w'' :=
  ⟨g.os.trans h.os, g.tape.trans h.tape, g.output.trans h.output, Nat.le_trans h.size g.size, fun b hb hs => (g.block b (Nat.lt_of_lt_of_le hb h.size) hs).trans (h.block b hb hs)⟩
theorem Exc.mono {S S' : Nat → Prop} {w w' : World} (h : Exc S w w') (k : ∀ b, b < w.heap.size → S b → S' b) : Exc S' w w' := ⟨h.os, h.tape, h.output, h.size, fun b hb hs => h.block b hb (fun q => hs (k b hb q))⟩
theorem Exc.of_below {w w' : World} (S : Nat → Prop) (h : Below w.heap.size w w') : Exc S w w' := ⟨h.os, h.tape, h.output, h.size, fun b hb _ => h.block b hb⟩
theorem Exc.drew {S : Nat → Prop} {w w' : World} (h : Exc S w w') : Exc S w w'.drew := ⟨h.os, h.tape, h.output, h.size, h.block⟩
theorem Exc.alloc {S : Nat → Prop} {w w' : World} (h : Exc S w w') (o : Obj) : Exc S w (w'.alloc o) := h.trans (Exc.of_below S ((Below.refl _ _).alloc (Nat.le_refl _) _))
theorem Ap.exc {p off : Nat} {r : Option Nat} {w w' : World} (h : Ap p off r w w') : Exc (fun b => b = p ∨ some b = r) w w' :=
  ⟨h.os, h.tape, h.output, h.size, fun b hb hs => h.block b hb (fun e => hs (.inl e)) (fun e => hs (.inr e))⟩
open Go.ChangeMaps (setBlock)
theorem Exc.setBlock {S : Nat → Prop} {w w' : World} (h : Exc S w w') {b : Nat} (hb : S b) (o : Obj) : Exc S w (Go.ChangeMaps.setBlock w' b o) :=
  ⟨h.os, h.tape, h.output, by simp [Go.ChangeMaps.setBlock]; exact h.size, fun k hk hs => by
    rw [← h.block k hk hs]
    have : b ≠ k := fun e => hs (e ▸ hb)
    simp [Go.ChangeMaps.setBlock, Array.getElem?_setIfInBounds, this]⟩

/-- Things with numbers, in memory. -/
structure NumAt (te : TypeId) (size : Nat) (w : World) (p mb : Nat) (v : Value) (vs : List Value) (tk : Nat) : Prop where
  c0 : w.cell? ⟨p, 0, none⟩ = some (.map (some mb))
  c1 : w.cell? ⟨p, 1, none⟩ = some v
  c2 : w.cell? ⟨p, 2, none⟩ = some (.int .i64 (tk : Int))
  fz : ∀ o, w.frozen? ⟨p, o, none⟩ = false
  mp : w.heap[mb]? = some (.map (numEs vs) vs.length)
  own : w.ownsRow 0 te size v vs.length (vs.flatMap fun x => x.cells.toList)
  ne : v.ownBlock ≠ some p
  tl : tk ≤ vs.length
  sz : ∀ x ∈ vs, x.cells.size = size
/-- Its blocks. -/
def Foot (p mb : Nat) (v : Value) (b : Nat) : Prop := b = p ∨ b = mb ∨ some b = v.ownBlock
theorem NumAt.lt {te : TypeId} {size : Nat} {w : World} {p mb : Nat} {v : Value} {vs : List Value} {tk : Nat} (h : NumAt te size w p mb v vs tk) {b : Nat} (hb : Foot p mb v b) : b < w.heap.size := by
  rcases hb with rfl | rfl | hb
  · exact cell_lt h.c0
  · exact (Array.getElem?_eq_some_iff.1 h.mp).1
  · exact own_lt h.own hb.symm
theorem NumAt.keep {te : TypeId} {size : Nat} {w w' : World} {p mb : Nat} {v : Value} {vs : List Value} {tk : Nat} (h : NumAt te size w p mb v vs tk) (k : ∀ b, Foot p mb v b → w'.heap[b]? = w.heap[b]?) : NumAt te size w' p mb v vs tk := by
  have hp := k p (.inl rfl)
  refine ⟨?_, ?_, ?_, fun o => ?_, (k mb (.inr (.inl rfl))).trans h.mp, own_blk h.own (fun b e => k b (.inr (.inr e.symm))), h.ne, h.tl, h.sz⟩
  · rw [← h.c0]; simp [World.cell?, hp]
  · rw [← h.c1]; simp [World.cell?, hp]
  · rw [← h.c2]; simp [World.cell?, hp]
  · rw [← h.fz o]; simp [World.frozen?, hp]
theorem NumAt.made (te T : TypeId) (size : Nat) (w : World) : NumAt te size ((w.alloc (.map #[] 0)).alloc (.cells #[.map (some w.heap.size), .slice none 0 0, .int .i64 0] T)) (w.heap.size + 1) w.heap.size (.slice none 0 0) [] 0 := by
  have e : ((w.alloc (.map #[] 0)).alloc (.cells #[.map (some w.heap.size), .slice none 0 0, .int .i64 0] T)).heap[w.heap.size + 1]? = some (.cells #[.map (some w.heap.size), .slice none 0 0, .int .i64 0] T) := by
    have := heap_alloc_new (w.alloc (.map #[] 0)) (.cells #[.map (some w.heap.size), .slice none 0 0, .int .i64 0] T)
    simpa using this
  have m : ((w.alloc (.map #[] 0)).alloc (.cells #[.map (some w.heap.size), .slice none 0 0, .int .i64 0] T)).heap[w.heap.size]? = some (.map (numEs []) 0) := by
    rw [Below.heap_alloc _ _ _ (by simp), heap_alloc_new]
    simp [numEs]
  generalize ((w.alloc (.map #[] 0)).alloc (.cells #[.map (some w.heap.size), .slice none 0 0, .int .i64 0] T)) = W at e m
  exact ⟨by simp [World.cell?, e], by simp [World.cell?, e], by simp [World.cell?, e], fun o => by simp [World.frozen?, e], m, World.ownsRow_nil _ _ _ _, by simp [Value.ownBlock], Nat.le_refl _, by simp⟩
theorem NumAt.exc {te : TypeId} {size : Nat} {w w' : World} {p mb : Nat} {v : Value} {vs : List Value} {tk : Nat} {S : Nat → Prop} (h : NumAt te size w p mb v vs tk) (k : Exc S w w') (hs : ∀ b, Foot p mb v b → ¬ S b) : NumAt te size w' p mb v vs tk :=
  h.keep (fun b hb => k.block b (h.lt hb) (hs b hb))
theorem flat_len {vs : List Value} {s : Nat} (h : ∀ x ∈ vs, x.cells.size = s) : (vs.flatMap fun x => x.cells.toList).length = vs.length * s := by
  induction vs with
  | nil => simp
  | cons a l ih =>
    have ha := h a (by simp)
    have := ih (fun x hx => h x (by simp [hx]))
    simp only [List.flatMap_cons, List.length_append, Array.length_toList, ha, this, List.length_cons, Nat.add_mul]
    omega
theorem flat_get {vs : List Value} {s : Nat} (h : ∀ x ∈ vs, x.cells.size = s) : ∀ {i : Nat} {x : Value}, vs[i]? = some x → ∀ j, j < s → (vs.flatMap fun x => x.cells.toList)[i * s + j]? = x.cells[j]? := by
  induction vs with
  | nil => intro i x hx; simp at hx
  | cons a l ih =>
    intro i x hx j hj
    have ha := h a (by simp)
    cases i with
    | zero =>
      simp at hx; subst hx
      rw [List.flatMap_cons, List.getElem?_append_left (by simp [ha]; omega)]
      simp
    | succ i =>
      simp at hx
      have := ih (fun x hx => h x (by simp [hx])) hx j hj
      rw [List.flatMap_cons, List.getElem?_append_right (by simp [ha, Nat.add_mul]; omega), ← this]
      congr 1
      simp [ha, Nat.add_mul]
      omega
/-- The cells of the thing with a number. -/
theorem NumAt.at {te : TypeId} {size : Nat} {w : World} {p mb : Nat} {v : Value} {vs : List Value} {tk : Nat} (h : NumAt te size w p mb v vs tk) {i : Nat} {x : Value} (hx : vs[i]? = some x) (hs : 0 < size) :
    ∃ g cap, v = .slice (some ⟨g, 0, none⟩) vs.length cap ∧ ∀ j, j < size → w.cell? ⟨g, i * size + j, none⟩ = x.cells[j]? := by
  rcases h.own.2 with ⟨_, hn⟩ | ⟨g, cap, cur, rfl, _⟩
  · have := (List.getElem?_eq_some_iff.1 hx).1
    omega
  · refine ⟨g, cap, rfl, fun j hj => ?_⟩
    have hi := (List.getElem?_eq_some_iff.1 hx).1
    have hlt : i * size + j < vs.length * size := by
      have := Nat.mul_le_mul_right size (show i + 1 ≤ vs.length by omega)
      rw [Nat.add_mul] at this
      omega
    rw [h.own.cellAt _ hlt, flat_get h.sz hx j hj]
end Go.Proofs.YtbjabpodkaokjaaGreatDoor

namespace Go.Proofs.YtbjabpodkaokjaaGreatDoor
open Go.RowKit

theorem box5 {w : World} {b : Nat} {x0 x1 x2 x3 x4 : Value} {T : TypeId} (h : w.heap[b]? = some (.cells #[x0, x1, x2, x3, x4] T)) : w.cell? ⟨b, 0, none⟩ = some x0 ∧ w.cell? ⟨b, 1, none⟩ = some x1 ∧ w.cell? ⟨b, 2, none⟩ = some x2 ∧ w.cell? ⟨b, 3, none⟩ = some x3 ∧ w.cell? ⟨b, 4, none⟩ = some x4 := by
  refine ⟨?_, ?_, ?_, ?_, ?_⟩ <;> simp [World.cell?, h]
abbrev stV (x0 x1 x2 x3 : Nat) (b : Bool) : Value := .agg #[.int .u64 (x0 : Int), .int .u64 (x1 : Int), .int .u64 (x2 : Int), .int .u64 (x3 : Int), .bool b]
theorem Tryz.infoStt : (Tryz.prog.info? 244).map (fun i => (i.zero, i.size, i.bytes)) = some (some (.agg #[.int .u64 0, .int .u64 0, .int .u64 0, .int .u64 0, .bool false]), 5, 40) := by kernel_rfl
set_option maxRecDepth 4000 in
set_option maxHeartbeats 2000000 in
theorem addSt_any (w : World) (p off : Nat) (v : Value) (n : Nat) (xs : List Value) (x0 x1 x2 x3 : Nat) (b : Bool) (hc : w.cell? ⟨p, off, none⟩ = some v) (hf : w.frozen? ⟨p, off, none⟩ = false) (hne : v.ownBlock ≠ some p)
    (ho : w.ownsRow 0 244 5 v n xs) (hn : n ≤ 1048576) :
    Calls Tryz.prog 180 #[.pointer (some ⟨p, off, none⟩), stV x0 x1 x2 x3 b] w fun e w' => e = .returned (.tuple #[]) ∧ ∃ g cap, w'.cell? ⟨p, off, none⟩ = some (.slice (some ⟨g, 0, none⟩) (n + 1) cap) ∧
      w'.ownsRow 0 244 5 (.slice (some ⟨g, 0, none⟩) (n + 1) cap) (n + 1) (xs ++ (stV x0 x1 x2 x3 b).cells.toList) ∧ g ≠ p ∧ (v.ownBlock = some g ∨ w.heap.size ≤ g) ∧ Ap p off v.ownBlock w w' := by
  have hp : p < w.heap.size := cell_lt hc
  obtain ⟨i0, hi0, hz0, hz1, hz2⟩ := info_parts Tryz.infoStt
  obtain ⟨w1, hw1⟩ : ∃ w1, w1 = w.alloc (.cells #[.int .u64 (x0 : Int), .int .u64 (x1 : Int), .int .u64 (x2 : Int), .int .u64 (x3 : Int), .bool b] 244) := ⟨_, rfl⟩
  have hb1 : Below w.heap.size w w1 := by rw [hw1]; exact (Below.refl _ _).alloc (Nat.le_refl _) _
  have hc1 : w1.cell? ⟨p, off, none⟩ = some v := cell_below hb1 hc
  have HO : Hid (w1.ownsRow 0 244 5 v n xs) := by rw [hw1]; exact ho.alloc _
  have hx : w1.heap[w.heap.size]? = some (.cells #[.int .u64 (x0 : Int), .int .u64 (x1 : Int), .int .u64 (x2 : Int), .int .u64 (x3 : Int), .bool b] 244) := by rw [hw1]; exact heap_alloc_new w _
  have HW : Hid (w1 = w.alloc (.cells #[.int .u64 (x0 : Int), .int .u64 (x1 : Int), .int .u64 (x2 : Int), .int .u64 (x3 : Int), .bool b] 244)) := hw1
  obtain ⟨y0, y1, y2, y3, y4⟩ := box5 hx
  clear hw1 hx
  have c0n : (w1.alloc (.cells #[.int .u64 (x0 : Int), .int .u64 (x1 : Int), .int .u64 (x2 : Int), .int .u64 (x3 : Int), .bool b] 244)).cell? ⟨p, off, none⟩ = some v := cell_below ((Below.refl _ _).alloc (Nat.le_refl _) _) hc1
  have c0e := World.new_ne w1 ⟨p, off, none⟩ hc1
  have hl0 : ∀ q, v.ownBlock = some q → q < w.heap.size := fun q e => own_lt ho e
  have HAP : Hid (∀ {w4 : World} {g : Nat} (x : Value), ((v.ownBlock = some g ∧ (w1.alloc (.cells #[.int .u64 (x0 : Int), .int .u64 (x1 : Int), .int .u64 (x2 : Int), .int .u64 (x3 : Int), .bool b] 244)).drew.grownBy w4 (some g)) ∨ (g = (w1.alloc (.cells #[.int .u64 (x0 : Int), .int .u64 (x1 : Int), .int .u64 (x2 : Int), .int .u64 (x3 : Int), .bool b] 244)).heap.size ∧ (w1.alloc (.cells #[.int .u64 (x0 : Int), .int .u64 (x1 : Int), .int .u64 (x2 : Int), .int .u64 (x3 : Int), .bool b] 244)).drew.grownBy w4 none)) → Ap p off v.ownBlock w (w4.setCell ⟨p, off, none⟩ x) ∧ g ≠ p ∧ (v.ownBlock = some g ∨ w.heap.size ≤ g) ∧ w4.frozen? ⟨p, off, none⟩ = false ∧ w4.cell? ⟨p, off, none⟩ = some v) := fun {w4 g} x hg => by
    obtain ⟨a1, a2, a3, a4⟩ := ap_of (x := x) (hb1.trans (((Below.refl _ w1).alloc (Nat.le_refl _) _).drew.mono hb1.size)) hp hne hl0 hg hf
    refine ⟨a1, a2, a3, a4, ?_⟩
    have : w4.heap[p]? = w.heap[p]? := by
      rcases hg with ⟨h1, h2⟩ | ⟨h1, h2⟩
      · exact (h2.block p (by have := hb1.size; simp; omega) (by rw [← h1]; exact fun e => hne e.symm)).trans ((hb1.trans (((Below.refl _ w1).alloc (Nat.le_refl _) _).drew.mono hb1.size)).block p hp)
      · exact (h2.block p (by have := hb1.size; simp; omega) (by simp)).trans ((hb1.trans (((Below.refl _ w1).alloc (Nat.le_refl _) _).drew.mono hb1.size)).block p hp)
    rw [← hc]; simp [World.cell?, this]
  clear hb1 hc hf ho hl0 hne
  go_enter Tryz.func180, Tryz.ntmps180
  go_wp2
  rw [← HW.out]
  go_region_law (refine step_append_str _ (by rfl) (.tmp 8) (.tmp 10) 294 (by rfl) 0 244 i0 _ 5 40 Tryz.underlying294 hi0 hz0 hz1 hz2 (by rfl) (by decide) v n xs (by rfl) (show World.ownsRow _ _ _ _ _ _ _ from World.ownsRow.alloc HO.out _) ⟨w1.heap.size, 0, none⟩ 1 1 [.int .u64 (x0 : Int), .int .u64 (x1 : Int), .int .u64 (x2 : Int), .int .u64 (x3 : Int), .bool b] (by rfl) (by rfl) (World.news_of_block (w := w1.alloc (.cells #[.int .u64 (x0 : Int), .int .u64 (x1 : Int), .int .u64 (x2 : Int), .int .u64 (x3 : Int), .bool b] 244)) (heap_alloc_new w1 _)) (by simp [Value.oneCell']) (by omega) (by unfold maxLen; omega) (by omega) (Nat.zero_le _) _ (by rfl) ?_; intro g4 k4 w4 ho4 hc4 hl4; obtain ⟨a1, a2, a3, f0, e0⟩ := HAP.out (.slice (some ⟨g4, 0, none⟩) (n + 1) k4) hc4; have HA : Hid (g4 ≠ p ∧ (v.ownBlock = some g4 ∨ w.heap.size ≤ g4) ∧ Ap p off v.ownBlock w (w4.setCell ⟨p, off, none⟩ (.slice (some ⟨g4, 0, none⟩) (n + 1) k4))) := ⟨a2, a3, a1⟩; have HO4 : Hid (w4.ownsRow 0 244 5 (.slice (some ⟨g4, 0, none⟩) (n + 1) k4) (n + 1) (xs ++ [.int .u64 (x0 : Int), .int .u64 (x1 : Int), .int .u64 (x2 : Int), .int .u64 (x3 : Int), .bool b])) := ho4; clear ho4 hc4 a1 a2 a3)
  all_goals go_wp2
  all_goals refine bodyPost_end (results_none rfl _ _ _) rfl ?_
  all_goals exact ⟨rfl, g4, k4, by simp [go_sem, e0], own_blk HO4.out (fun b hb => set_blk _ _ _ _ (by simp [Value.ownBlock] at hb; rw [← hb]; exact HA.out.1)), HA.out⟩
set_option maxRecDepth 4000 in
set_option maxHeartbeats 2000000 in
theorem newSt_any (w : World) :
    Calls Tryz.prog 129 #[] w fun e w' => e = .returned (.pointer (some ⟨w.heap.size + 1, 0, none⟩)) ∧ NumAt 244 5 w' (w.heap.size + 1) w.heap.size (.slice none 0 0) [] 0 ∧ Below w.heap.size w w' := by
  have hmk : (Instr.makeMap 293 none).run Tryz.prog w = .ok (.map (some w.heap.size)) (w.alloc (.map #[] 0)) := run_makeMap _ _
  go_enter Tryz.func129, Tryz.ntmps129
  go_wp2
  go_ret
  exact ⟨rfl, NumAt.made _ _ _ w, ((Below.refl _ _).alloc (Nat.le_refl _) _).alloc (by simp) _⟩
set_option maxRecDepth 4000 in
set_option maxHeartbeats 2000000 in
theorem countSt_any (w : World) (p mb : Nat) (v : Value) (vs : List Value) (tk : Nat) (h : NumAt 244 5 w p mb v vs tk) :
    Calls Tryz.prog 133 #[.pointer (some ⟨p, 0, none⟩)] w fun e w' => e = .returned (.int .i64 (vs.length : Int)) ∧ w' = w := by
  have c0 := h.c0
  have hm := h.mp
  have hl : (Builtin.len_ #[293] 3 #[.map (some mb)]).run Tryz.prog w = .ok (.int .i64 (vs.length : Int)) w := num_len _ Tryz.underlying293 hm
  go_enter Tryz.func133, Tryz.ntmps133
  go_wp2
  go_ret
  exact ⟨rfl, rfl⟩
end Go.Proofs.YtbjabpodkaokjaaGreatDoor

namespace Go.Proofs.YtbjabpodkaokjaaGreatDoor
open Go.RowKit
theorem laid0 : laidOutB Tryz.prog = true := by kernel_rfl
theorem kt_state : Tryz.prog.keyTypeAt 5 244 = true := by kernel_rfl
theorem kt_set : Tryz.prog.keyTypeAt 5 150 = true := by kernel_rfl
theorem keyed_state : Go.Maps.Keyed Tryz.prog 244 := .of_law (deep_law_laid laid0 (m := 5) (by omega) (Nat.le_of_ble_eq_true (by kernel_rfl)) kt_state (by kernel_rfl))
theorem keyed_set : Go.Maps.Keyed Tryz.prog 150 := .of_law (deep_law_laid laid0 (m := 5) (by omega) (Nat.le_of_ble_eq_true (by kernel_rfl)) kt_set (by kernel_rfl))
theorem cf_u64 : Tryz.prog.cellsOf 147 = 1 := by kernel_rfl
theorem cf_4 : Tryz.prog.cellsOf 148 = 4 := by kernel_rfl
theorem cf_set : Tryz.prog.cellsOf 150 = 4 := by kernel_rfl
theorem cf_state : Tryz.prog.cellsOf 244 = 5 := by kernel_rfl
theorem cf_bool : Tryz.prog.cellsOf 4 = 1 := by kernel_rfl
theorem wf_u64 (x : Nat) (h : x < 18446744073709551616) : (Lit.int .u64 (x : Int)).wf = true := by
  have h1 : IntKind.u64.min = 0 := rfl
  have h2 : IntKind.u64.max = 18446744073709551615 := rfl
  simp [Lit.wf, h1, h2]
  omega
theorem lits_4 (d x0 x1 x2 x3 : Nat) (h0 : x0 < 18446744073709551616) (h1 : x1 < 18446744073709551616) (h2 : x2 < 18446744073709551616) (h3 : x3 < 18446744073709551616) :
    Tryz.prog.keyLits (d + 2) 148 [.int .u64 (x0 : Int), .int .u64 (x1 : Int), .int .u64 (x2 : Int), .int .u64 (x3 : Int)] = some [.int .u64 (x0 : Int), .int .u64 (x1 : Int), .int .u64 (x2 : Int), .int .u64 (x3 : Int)] := by
  have r4 : List.range 4 = [0, 1, 2, 3] := rfl
  simp [Program.keyLits, Tryz.underlying148, Tryz.underlying147, cf_4, cf_u64, wf_u64, h0, h1, h2, h3, r4]
theorem lits_set (d x0 x1 x2 x3 : Nat) (h0 : x0 < 18446744073709551616) (h1 : x1 < 18446744073709551616) (h2 : x2 < 18446744073709551616) (h3 : x3 < 18446744073709551616) :
    Tryz.prog.keyLits (d + 3) 150 [.int .u64 (x0 : Int), .int .u64 (x1 : Int), .int .u64 (x2 : Int), .int .u64 (x3 : Int)] = some [.int .u64 (x0 : Int), .int .u64 (x1 : Int), .int .u64 (x2 : Int), .int .u64 (x3 : Int)] := by
  have r4 : List.range 4 = [0, 1, 2, 3] := rfl
  simp [Program.keyLits, Tryz.underlying150, Tryz.underlying148, Tryz.underlying147, cf_set, cf_4, cf_u64, wf_u64, h0, h1, h2, h3, r4]
theorem lits_state (d x0 x1 x2 x3 : Nat) (b : Bool) (h0 : x0 < 18446744073709551616) (h1 : x1 < 18446744073709551616) (h2 : x2 < 18446744073709551616) (h3 : x3 < 18446744073709551616) :
    Tryz.prog.keyLits (d + 4) 244 [.int .u64 (x0 : Int), .int .u64 (x1 : Int), .int .u64 (x2 : Int), .int .u64 (x3 : Int), .bool b] = some [.int .u64 (x0 : Int), .int .u64 (x1 : Int), .int .u64 (x2 : Int), .int .u64 (x3 : Int), .bool b] := by
  have r4 : List.range 4 = [0, 1, 2, 3] := rfl
  simp [Program.keyLits, Tryz.underlying244, Tryz.underlying150, Tryz.underlying148, Tryz.underlying147, Tryz.underlying4, cf_state, cf_set, cf_4, cf_u64, cf_bool, wf_u64, h0, h1, h2, h3, r4]
theorem kty_state : Tryz.prog.keyType 244 = true := by kernel_rfl
theorem kty_set : Tryz.prog.keyType 150 = true := by kernel_rfl
theorem tsz : ∃ n, Tryz.prog.types.size = n + 4 := ⟨Tryz.prog.types.size - 4, by
  have : 4 ≤ Tryz.prog.types.size := Nat.le_of_ble_eq_true (by kernel_rfl)
  omega⟩
theorem key_set (x0 x1 x2 x3 : Nat) (h0 : x0 < 18446744073709551616) (h1 : x1 < 18446744073709551616) (h2 : x2 < 18446744073709551616) (h3 : x3 < 18446744073709551616) :
    ∃ l, keyOf Tryz.prog 150 (.agg #[.int .u64 (x0 : Int), .int .u64 (x1 : Int), .int .u64 (x2 : Int), .int .u64 (x3 : Int)]) = some l := by
  obtain ⟨n, hn⟩ := tsz
  simp [keyOf, Tryz.underlying150, kty_set, Value.formed, Value.cells, hn, cf_set, lits_set, h0, h1, h2, h3]
theorem key_state (x0 x1 x2 x3 : Nat) (b : Bool) (h0 : x0 < 18446744073709551616) (h1 : x1 < 18446744073709551616) (h2 : x2 < 18446744073709551616) (h3 : x3 < 18446744073709551616) :
    ∃ l, keyOf Tryz.prog 244 (stV x0 x1 x2 x3 b) = some l := by
  obtain ⟨n, hn⟩ := tsz
  simp [keyOf, Tryz.underlying244, kty_state, Value.formed, Value.cells, hn, cf_state, lits_state, h0, h1, h2, h3]
end Go.Proofs.YtbjabpodkaokjaaGreatDoor

namespace Go.Proofs.YtbjabpodkaokjaaGreatDoor
open Go.RowKit
open Go.ChangeMaps (setBlock)

theorem zi0 (w : World) : (zeroValue 3).run Tryz.prog w = .ok (.int .i64 0) w := by kernel_rfl
/-- What a list of things met becomes, and the number that is told. -/
def Met (vs : List Value) (x : Value) (i : Nat) (vs' : List Value) : Prop := (vs' = vs ∧ vs[i]? = some x) ∨ (x ∉ vs ∧ vs' = vs ++ [x] ∧ i = vs.length)
theorem NumAt.put {te : TypeId} {size : Nat} {w : World} {p mb : Nat} {v : Value} {vs : List Value} {tk : Nat} (h : NumAt te size w p mb v vs tk) (x : Value) :
    (setBlock w mb (.map (numEs (vs ++ [x])) (vs ++ [x]).length)).cell? ⟨p, 1, none⟩ = some v ∧ (∀ o, (setBlock w mb (.map (numEs (vs ++ [x])) (vs ++ [x]).length)).cell? ⟨p, o, none⟩ = w.cell? ⟨p, o, none⟩) ∧ (∀ o, (setBlock w mb (.map (numEs (vs ++ [x])) (vs ++ [x]).length)).frozen? ⟨p, o, none⟩ = false) ∧
      (setBlock w mb (.map (numEs (vs ++ [x])) (vs ++ [x]).length)).ownsRow 0 te size v vs.length (vs.flatMap fun x => x.cells.toList) ∧ (setBlock w mb (.map (numEs (vs ++ [x])) (vs ++ [x]).length)).heap[mb]? = some (.map (numEs (vs ++ [x])) (vs ++ [x]).length) ∧
      (∀ b, b ≠ mb → (setBlock w mb (.map (numEs (vs ++ [x])) (vs ++ [x]).length)).heap[b]? = w.heap[b]?) ∧ p ≠ mb ∧ (v.ownBlock ≠ some mb) := by
  have hpm : p ≠ mb := by
    rintro rfl
    have := h.c0
    simp [World.cell?, h.mp] at this
  have hvm : v.ownBlock ≠ some mb := by
    intro e
    rcases h.own.2 with ⟨rfl, _⟩ | ⟨g, cap, cur, rfl, h1, h2, r⟩
    · simp [Value.ownBlock] at e
    · simp [Value.ownBlock] at e
      subst e
      rw [h.mp] at h2
      simp at h2
  have hblk : ∀ b, b ≠ mb → (setBlock w mb (.map (numEs (vs ++ [x])) (vs ++ [x]).length)).heap[b]? = w.heap[b]? := fun b hb => by
    simp [setBlock, Array.getElem?_setIfInBounds, Ne.symm hb]
  have hmb : (setBlock w mb (.map (numEs (vs ++ [x])) (vs ++ [x]).length)).heap[mb]? = some (.map (numEs (vs ++ [x])) (vs ++ [x]).length) := by
    have := (Array.getElem?_eq_some_iff.1 h.mp).1
    simp [setBlock, Array.getElem?_setIfInBounds, this]
  generalize setBlock w mb (.map (numEs (vs ++ [x])) (vs ++ [x]).length) = W at hblk hmb
  have hp := hblk p hpm
  refine ⟨?_, fun o => by simp [World.cell?, hp], fun o => ?_, own_blk h.own (fun b e => hblk b (by rintro rfl; exact hvm e)), hmb, hblk, hpm, hvm⟩
  · rw [← h.c1]; simp [World.cell?, hp]
  · rw [← h.fz o]; simp [World.frozen?, hp]
set_option maxRecDepth 4000 in
set_option maxHeartbeats 2000000 in
theorem ofSt_old (w : World) (p mb : Nat) (v : Value) (vs : List Value) (tk : Nat) (x0 x1 x2 x3 : Nat) (b : Bool) (i : Nat) (h : NumAt 244 5 w p mb v vs tk) (hi : vs[i]? = some (stV x0 x1 x2 x3 b))
    (hr : ∀ w1 : World, w1.heap[mb]? = w.heap[mb]? → (Instr.lookup 293 (.map (some mb)) (stV x0 x1 x2 x3 b) true).run Tryz.prog w1 = .ok (.tuple #[.int .i64 (i : Int), .bool true]) w1) :
    Calls Tryz.prog 130 #[.pointer (some ⟨p, 0, none⟩), stV x0 x1 x2 x3 b] w fun e w' => e = .returned (.int .i64 (i : Int)) ∧ Below w.heap.size w w' := by
  obtain ⟨w1, hw1⟩ : ∃ w1, w1 = w.alloc (.cells #[.int .u64 (x0 : Int), .int .u64 (x1 : Int), .int .u64 (x2 : Int), .int .u64 (x3 : Int), .bool b] 244) := ⟨_, rfl⟩
  have hb1 : Below w.heap.size w w1 := by rw [hw1]; exact (Below.refl _ _).alloc (Nat.le_refl _) _
  have hc1 : w1.cell? ⟨p, 0, none⟩ = some (.map (some mb)) := cell_below hb1 h.c0
  have hx : w1.heap[w.heap.size]? = some (.cells #[.int .u64 (x0 : Int), .int .u64 (x1 : Int), .int .u64 (x2 : Int), .int .u64 (x3 : Int), .bool b] 244) := by rw [hw1]; exact heap_alloc_new w _
  have hr1 := hr w1.drew (by show w1.heap[mb]? = _; exact hb1.block mb (h.lt (.inr (.inl rfl))))
  obtain ⟨y0, y1, y2, y3, y4⟩ := box5 hx
  have HW : Hid (w1 = w.alloc (.cells #[.int .u64 (x0 : Int), .int .u64 (x1 : Int), .int .u64 (x2 : Int), .int .u64 (x3 : Int), .bool b] 244)) := hw1
  have HB : Hid (Below w.heap.size w w1) := hb1
  clear hw1 hx hb1 h hi hr
  go_enter Tryz.func130, Tryz.ntmps130
  go_wp2
  rw [← HW.out]
  go_region
  go_wp2
  go_ret
  exact ⟨rfl, HB.out.drew⟩
theorem flat_snoc (vs : List Value) (x : Value) : (vs.flatMap fun x => x.cells.toList) ++ x.cells.toList = (vs ++ [x]).flatMap fun x => x.cells.toList := by simp
/-- Behind the map's store and the list's. -/
theorem NumAt.grow {te : TypeId} {size : Nat} {w w1 w2 w3 : World} {p mb : Nat} {v : Value} {vs : List Value} {tk g cap : Nat} {x : Value} (h : NumAt te size w p mb v vs tk) (hb : Below w.heap.size w w1) (h2 : w2 = setBlock w1 mb (.map (numEs (vs ++ [x])) (vs ++ [x]).length))
    (hc : w3.cell? ⟨p, 1, none⟩ = some (.slice (some ⟨g, 0, none⟩) (vs.length + 1) cap)) (ho : w3.ownsRow 0 te size (.slice (some ⟨g, 0, none⟩) (vs.length + 1) cap) (vs.length + 1) ((vs.flatMap fun x => x.cells.toList) ++ x.cells.toList))
    (hg : g ≠ p) (hf : v.ownBlock = some g ∨ w2.heap.size ≤ g) (ha : Ap p 1 v.ownBlock w2 w3) :
    NumAt te size w3 p mb (.slice (some ⟨g, 0, none⟩) (vs.length + 1) cap) (vs ++ [x]) tk ∧ (v.ownBlock = some g ∨ w.heap.size ≤ g) ∧ Exc (Foot p mb v) w w3 := by
  have h1 : NumAt te size w1 p mb v vs tk := h.keep (fun b hb' => hb.block b (h.lt hb'))
  obtain ⟨q1, q2, q3, q4, q5, q6, q7, q8⟩ := h1.put x
  rw [← h2] at q1 q2 q3 q4 q5 q6
  have hs : w2.heap.size = w1.heap.size := by rw [h2]; simp [setBlock]
  have hbs := hb.size
  have e2 : Exc (Foot p mb v) w w2 := by rw [h2]; exact (Exc.of_below _ hb).setBlock (.inr (.inl rfl)) _
  have hxs : x.cells.size = size := by
    have e1 := ho.1
    rw [List.length_append, flat_len h.sz, Nat.add_mul] at e1
    simp at e1
    omega
  refine ⟨⟨?_, hc, ?_, fun o => (ha.fz o).trans (q3 o), ?_, ?_, ?_, ?_, ?_⟩, ?_, e2.trans (ha.exc.mono fun b _ hb' => ?_)⟩
  · rw [ha.cell 0 (by omega), q2]; exact h1.c0
  · rw [ha.cell 2 (by omega), q2]; exact h1.c2
  · rw [ha.block mb (by rw [hs]; exact h1.lt (.inr (.inl rfl))) (Ne.symm q7) (Ne.symm q8)]; exact q5
  · rw [List.length_append]; rw [flat_snoc] at ho; exact ho
  · simp [Value.ownBlock]; exact hg
  · have := h.tl; simp; omega
  · intro y hy
    rcases List.mem_append.1 hy with hy | hy
    · exact h.sz y hy
    · simp at hy; subst hy; exact hxs
  · rcases hf with hf | hf
    · exact .inl hf
    · exact .inr (by omega)
  · rcases hb' with hb' | hb'
    · exact .inl hb'
    · exact .inr (.inr hb')
set_option maxRecDepth 4000 in
set_option maxHeartbeats 2000000 in
theorem ofSt_new (w : World) (p mb : Nat) (v : Value) (vs : List Value) (tk : Nat) (x0 x1 x2 x3 : Nat) (b : Bool) (h : NumAt 244 5 w p mb v vs tk) (hn : vs.length ≤ 1048576)
    (hr : ∀ w1 : World, w1.heap[mb]? = w.heap[mb]? → (Instr.lookup 293 (.map (some mb)) (stV x0 x1 x2 x3 b) true).run Tryz.prog w1 = .ok (.tuple #[.int .i64 0, .bool false]) w1)
    (hu : ∀ w1 : World, w1.heap[mb]? = w.heap[mb]? → (Instr.mapUpdate 293 (.map (some mb)) (stV x0 x1 x2 x3 b) (.int .i64 (vs.length : Int))).run Tryz.prog w1 = .ok () (setBlock w1 mb (.map (numEs (vs ++ [stV x0 x1 x2 x3 b])) (vs ++ [stV x0 x1 x2 x3 b]).length))) :
    Calls Tryz.prog 130 #[.pointer (some ⟨p, 0, none⟩), stV x0 x1 x2 x3 b] w fun e w' => e = .returned (.int .i64 (vs.length : Int)) ∧
      ∃ g cap, NumAt 244 5 w' p mb (.slice (some ⟨g, 0, none⟩) (vs.length + 1) cap) (vs ++ [stV x0 x1 x2 x3 b]) tk ∧ (v.ownBlock = some g ∨ w.heap.size ≤ g) ∧ Exc (Foot p mb v) w w' := by
  obtain ⟨w1, hw1⟩ : ∃ w1, w1 = w.alloc (.cells #[.int .u64 (x0 : Int), .int .u64 (x1 : Int), .int .u64 (x2 : Int), .int .u64 (x3 : Int), .bool b] 244) := ⟨_, rfl⟩
  have hb1 : Below w.heap.size w w1 := by rw [hw1]; exact (Below.refl _ _).alloc (Nat.le_refl _) _
  have hc1 : w1.cell? ⟨p, 0, none⟩ = some (.map (some mb)) := cell_below hb1 h.c0
  have hx : w1.heap[w.heap.size]? = some (.cells #[.int .u64 (x0 : Int), .int .u64 (x1 : Int), .int .u64 (x2 : Int), .int .u64 (x3 : Int), .bool b] 244) := by rw [hw1]; exact heap_alloc_new w _
  have hm1 : w1.heap[mb]? = w.heap[mb]? := hb1.block mb (h.lt (.inr (.inl rfl)))
  have hr1 := hr w1.drew hm1
  have hl1 : (Builtin.len_ #[293] 3 #[.map (some mb)]).run Tryz.prog w1.drew = .ok (.int .i64 (vs.length : Int)) w1.drew := num_len _ Tryz.underlying293 (show w1.heap[mb]? = _ by rw [hm1]; exact h.mp)
  obtain ⟨w2, hw2⟩ : ∃ w2, w2 = setBlock w1.drew.drew mb (.map (numEs (vs ++ [stV x0 x1 x2 x3 b])) (vs ++ [stV x0 x1 x2 x3 b]).length) := ⟨_, rfl⟩
  have hu1 := hu w1.drew.drew hm1
  rw [← hw2] at hu1
  have hmlt := h.lt (.inr (.inl rfl))
  have hblk : ∀ k, k ≠ mb → w2.heap[k]? = w1.heap[k]? := fun k hk => by rw [hw2]; simp [setBlock, Array.getElem?_setIfInBounds, Ne.symm hk]; rfl
  have hx2 : w2.heap[w.heap.size]? = some (.cells #[.int .u64 (x0 : Int), .int .u64 (x1 : Int), .int .u64 (x2 : Int), .int .u64 (x3 : Int), .bool b] 244) := by rw [hblk _ (by omega)]; exact hx
  obtain ⟨y0, y1, y2, y3, y4⟩ := box5 hx
  obtain ⟨z0, z1, z2, z3, z4⟩ := box5 hx2
  have h1 : NumAt 244 5 w1.drew.drew p mb v vs tk := h.keep (fun k hk => hb1.block k (h.lt hk))
  obtain ⟨q1, q2, q3, q4, q5, q6, q7, q8⟩ := h1.put (stV x0 x1 x2 x3 b)
  rw [← hw2] at q1 q2 q3 q4 q5 q6
  have hadd := fun (w9 : World) (e9 : ∀ k, w9.heap[k]? = w2.heap[k]?) => addSt_any w9 p 1 v vs.length (vs.flatMap fun x => x.cells.toList) x0 x1 x2 x3 b (by rw [← q1]; simp [World.cell?, e9]) (by rw [← q3 1]; simp [World.frozen?, e9]) h1.ne (own_blk q4 (fun k _ => e9 k)) hn
  have HADD : Hid (∀ (w9 : World) (e9 : ∀ k, w9.heap[k]? = w2.heap[k]?), Calls Tryz.prog 180 #[.pointer (some ⟨p, 1, none⟩), stV x0 x1 x2 x3 b] w9 fun e w' => e = .returned (.tuple #[]) ∧ ∃ g cap, w'.cell? ⟨p, 1, none⟩ = some (.slice (some ⟨g, 0, none⟩) (vs.length + 1) cap) ∧
      w'.ownsRow 0 244 5 (.slice (some ⟨g, 0, none⟩) (vs.length + 1) cap) (vs.length + 1) ((vs.flatMap fun x => x.cells.toList) ++ (stV x0 x1 x2 x3 b).cells.toList) ∧ g ≠ p ∧ (v.ownBlock = some g ∨ w9.heap.size ≤ g) ∧ Ap p 1 v.ownBlock w9 w') := hadd
  have HX2 : Hid (∀ w3 : World, Ap p 1 v.ownBlock w2.drew w3 → w3.heap[w.heap.size]? = some (.cells #[.int .u64 (x0 : Int), .int .u64 (x1 : Int), .int .u64 (x2 : Int), .int .u64 (x3 : Int), .bool b] 244)) := fun w3 a => by
    rw [a.block w.heap.size ((Array.getElem?_eq_some_iff.1 hx2).1) (by have := h.lt (.inl rfl); omega) (fun e => by have := own_lt h.own e.symm; omega)]
    exact hx2
  obtain ⟨nv, hnv⟩ : ∃ nv, nv = vs.length := ⟨_, rfl⟩
  have HH : Hid (NumAt 244 5 w p mb v vs tk) := h
  have HNV : Hid (nv = vs.length) := hnv
  rw [← hnv] at hl1 hu1 ⊢
  have HW : Hid (w1 = w.alloc (.cells #[.int .u64 (x0 : Int), .int .u64 (x1 : Int), .int .u64 (x2 : Int), .int .u64 (x3 : Int), .bool b] 244)) := hw1
  have HB : Hid (Below w.heap.size w w1.drew.drew) := hb1.drew.drew
  have HW2 : Hid (w2 = setBlock w1.drew.drew mb (.map (numEs (vs ++ [stV x0 x1 x2 x3 b])) (vs ++ [stV x0 x1 x2 x3 b]).length)) := hw2
  clear hw1 hx hx2 hb1 h hr hu hw2 hm1 hblk h1 q1 q2 q3 q4 q5 q6 q7 q8 hadd hnv hn hmlt
  go_enter Tryz.func130, Tryz.ntmps130
  go_wp2
  rw [← HW.out]
  go_region
  go_wp2
  go_region_law (refine step_mapUpdate _ (by rfl) (.tmp 26) (.tmp 27) (.tmp 28) 293 (by rfl) _ _ _ (by rfl) (by rfl) (by rfl) _ hu1 ?_)
  all_goals go_wp2
  all_goals go_region_held3 (fun w' => w'.cell? ⟨w.heap.size, 0, none⟩ = some (.int .u64 (x0 : Int)) ∧ w'.cell? ⟨w.heap.size, 1, none⟩ = some (.int .u64 (x1 : Int)) ∧ w'.cell? ⟨w.heap.size, 2, none⟩ = some (.int .u64 (x2 : Int)) ∧ w'.cell? ⟨w.heap.size, 3, none⟩ = some (.int .u64 (x3 : Int)) ∧ w'.cell? ⟨w.heap.size, 4, none⟩ = some (.bool b)) (go_keep) ((go_at_call 180; refine (HADD.out w2.drew (fun k => rfl)).mono ?_; rintro e w3 ⟨rfl, g, cap, a1, a2, a3, a4, a5⟩; obtain ⟨r0, r1, r2, r3, r4⟩ := box5 (HX2.out w3 a5); have HN : Hid (∃ g cap, NumAt 244 5 w3 p mb (.slice (some ⟨g, 0, none⟩) (nv + 1) cap) (vs ++ [stV x0 x1 x2 x3 b]) tk ∧ (v.ownBlock = some g ∨ w.heap.size ≤ g) ∧ Exc (Foot p mb v) w w3) := (by rw [HNV.out]; exact ⟨g, cap, HH.out.grow HB.out HW2.out a1 a2 a3 a4 ⟨a5.os, a5.tape, a5.output, a5.size, a5.block, a5.cell, a5.fz⟩⟩); clear a1 a2 a3 a4 a5))
  all_goals go_wp2
  all_goals go_ret
  all_goals exact ⟨rfl, HN.out⟩
end Go.Proofs.YtbjabpodkaokjaaGreatDoor
