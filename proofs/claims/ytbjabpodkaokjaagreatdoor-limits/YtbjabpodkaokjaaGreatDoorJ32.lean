import Derived.Test.YtbjabpodkaokjaaGreatDoorJ31
import Derived.Great.Walk
set_option linter.unusedVariables false
set_option linter.unusedSimpArgs false
namespace Go.Proofs.YtbjabpodkaokjaaGreatDoor
open Go.RowKit

def zA256 : Array Value := (List.replicate 256 (Value.int .u8 0)).toArray
theorem Tryz.infoA256 : (Tryz.prog.info? 160).map (fun i => (i.zero, i.size, i.bytes)) = some (some (.agg zA256), 256, 256) := by kernel_rfl
/-- A new list of 256 bytes. -/
theorem wpList_alloc256 {ops : Array Oper} {rest : List Oper} {o : Oper} {a : Act} {w : World} {Q : Exit → Act → World → Prop} (hg : o.guard = none) (ho : o.op = .alloc 160) (dst : Option Tmp) (hdst : o.dst = dst) (N : Nat) (hN : w.heap.size = N)
    (h : wpList Tryz.prog ops Q rest (a.put dst (.pointer (some ⟨N, 0, none⟩))) (w.alloc (.cells zA256 160))) : wpList Tryz.prog ops Q (o :: rest) a w := by
  obtain ⟨i0, hi, hz0, hz1, hz2⟩ := info_parts Tryz.infoA256
  refine Great.wpList_runTo hg dst hdst _ _ ?_ h
  subst hN
  unfold execOp
  simp only [ho, Instr.alloc, zeroValue, newVar, newRow, Sem.run_bind, run_newObj_alloc, Sem.run_pure, Result.andThen_ok]
  have hti : (typeInfo 160).run Tryz.prog w = .ok i0 w := by unfold typeInfo; simp [hi]
  rw [hti]
  simp [hz0, Value.cells]
theorem nw256 (w : World) (T : TypeId) : Nw (w.alloc (.cells zA256 T)) w.heap.size 256 (fun _ => .int .u8 0) := by
  refine ⟨fun i hi => ?_, fun o => by simp [go_sem]⟩
  rw [World.cell?_alloc_at _ _ _ _ rfl]
  unfold zA256
  rw [List.getElem?_toArray, List.getElem?_replicate, if_pos hi]
theorem nw_conv {w : World} {g : Nat} {l : List UInt8} (h : Nw w g 256 (fun j => .int .u8 ((l[j]?.getD 0).toNat : Int))) (hl : l.length = 256) : (convert 73 9 (.slice (some ⟨g, 0, none⟩) 256 256)).run Tryz.prog w = .ok (.string (ba l)) w := by
  have := run_convert_bytes_back (P := Tryz.prog) w 73 9 5 ⟨g, 0, none⟩ 256 l Tryz.underlying73 und_byte und_str (by
    intro j hj
    have := h.c j (by omega)
    have e : (⟨g, 0, none⟩ : Addr).add j = ⟨g, j, none⟩ := by unfold Addr.add; split <;> simp_all
    rw [e]
    simpa [hj] using this)
  rw [hl] at this
  exact this
/-- Between the rounds of classes. -/
structure CI (w : World) (sb a : Nat) (W : World) (v vr : Value) (met : List W4) (f : Nat → Value) : Prop where
  num : NumAt 150 4 W (w.heap.size + 1) w.heap.size v (met.map W4.v) 0
  ar : Nw W a 256 f
  rc : W.cell? ⟨sb, 12, none⟩ = some vr
  rf : FsAt 150 W w.heap.size vr met
  nv : ∀ g, v.ownBlock = some g → w.heap.size + 2 ≤ g ∧ g ≠ a ∧ vr.ownBlock ≠ some g
  nr : ∀ g, vr.ownBlock = some g → w.heap.size + 2 ≤ g ∧ g ≠ a
  al : w.heap.size + 2 ≤ a ∧ a < W.heap.size
  cs : ∀ o, o ≠ 12 → W.cell? ⟨sb, o, none⟩ = w.cell? ⟨sb, o, none⟩
  fz : ∀ o, W.frozen? ⟨sb, o, none⟩ = false
  ex : Exc (fun b => b = sb) w W
  hs : sb < w.heap.size
section
variable {w : World} {sb a : Nat} {W W' : World} {v vr : Value} {met : List W4} {f : Nat → Value}
theorem CI.foot (h : CI w sb a W v vr met f) {g : Nat} (hg : Foot (w.heap.size + 1) w.heap.size v g) : w.heap.size ≤ g ∧ g ≠ a ∧ vr.ownBlock ≠ some g := by
  have h3 := h.al
  rcases hg with rfl | rfl | hg
  · exact ⟨by omega, by omega, fun q => by have := (h.nr _ q).1; omega⟩
  · exact ⟨by omega, by omega, fun q => by have := (h.nr _ q).1; omega⟩
  · have := h.nv g hg.symm
    exact ⟨by omega, this.2.1, this.2.2⟩
/-- Some blocks of none of it may have changed. -/
theorem CI.keep (h : CI w sb a W v vr met f) {S : Nat → Prop} (hx : Exc S W W') (h1 : ¬ S sb) (h2 : ∀ b, b < w.heap.size → ¬ S b) (h3 : ∀ g, Foot (w.heap.size + 1) w.heap.size v g → ¬ S g) (h4 : ¬ S a) (h5 : ∀ g, vr.ownBlock = some g → ¬ S g) : CI w sb a W' v vr met f := by
  have hsz := h.ex.size
  have hs := h.hs
  have es := hx.block sb (by omega) h1
  refine ⟨h.num.exc hx h3, h.ar.of_block (hx.block a h.al.2 h4), ?_, h.rf.blk (fun b hb => hx.block b (h.rf.lt hb).2 (h5 b hb)), h.nv, h.nr, ⟨h.al.1, Nat.lt_of_lt_of_le h.al.2 hx.size⟩, fun o ho => ?_, fun o => ?_, ?_, hs⟩
  · rw [← h.rc]; simp [World.cell?, es]
  · rw [← h.cs o ho]; simp [World.cell?, es]
  · rw [← h.fz o]; simp [World.frozen?, es]
  · exact ⟨hx.os.trans h.ex.os, hx.tape.trans h.ex.tape, hx.output.trans h.ex.output, Nat.le_trans hsz hx.size, fun b hb hn => (hx.block b (by omega) (h2 b hb)).trans (h.ex.block b hb hn)⟩
theorem CI.below (h : CI w sb a W v vr met f) (hb : Below W.heap.size W W') : CI w sb a W' v vr met f :=
  h.keep (S := fun _ => False) (Exc.of_below _ hb) id (fun _ _ => id) (fun _ _ => id) id (fun _ _ => id)
/-- A thing was numbered. -/
theorem CI.of (h : CI w sb a W v vr met f) {v' : Value} {met' : List W4} (hn : NumAt 150 4 W' (w.heap.size + 1) w.heap.size v' (met'.map W4.v) 0) (hg : ∀ g, v'.ownBlock = some g → v.ownBlock = some g ∨ W.heap.size ≤ g) (hx : Exc (Foot (w.heap.size + 1) w.heap.size v) W W') :
    (W'.heap[sb]? = W.heap[sb]? ∧ Nw W' a 256 f ∧ FsAt 150 W' w.heap.size vr met ∧ (∀ g, v'.ownBlock = some g → w.heap.size + 2 ≤ g ∧ g ≠ a ∧ vr.ownBlock ≠ some g) ∧ Exc (fun b => b = sb) w W' ∧ a < W'.heap.size) := by
  have hsz := h.ex.size
  have hs := h.hs
  have hal := h.al
  refine ⟨hx.block sb (by omega) (fun q => by have := (h.foot q).1; omega), h.ar.of_block (hx.block a h.al.2 (fun q => (h.foot q).2.1 rfl)), h.rf.blk (fun b hb => hx.block b (h.rf.lt hb).2 (fun q => (h.foot q).2.2 hb)), fun g hg' => ?_, ?_, Nat.lt_of_lt_of_le hal.2 hx.size⟩
  · rcases hg g hg' with q | q
    · exact h.nv g q
    · exact ⟨by omega, by omega, fun k => by have := (h.rf.lt k).2; omega⟩
  · exact ⟨hx.os.trans h.ex.os, hx.tape.trans h.ex.tape, hx.output.trans h.ex.output, Nat.le_trans hsz hx.size, fun b hb hn => (hx.block b (by omega) (fun q => by have := (h.foot q).1; omega)).trans (h.ex.block b hb hn)⟩
/-- It was known. -/
theorem CI.old (h : CI w sb a W v vr met f) {v' : Value} (hn : NumAt 150 4 W' (w.heap.size + 1) w.heap.size v' (met.map W4.v) 0) (hg : ∀ g, v'.ownBlock = some g → v.ownBlock = some g ∨ W.heap.size ≤ g) (hx : Exc (Foot (w.heap.size + 1) w.heap.size v) W W') : CI w sb a W' v' vr met f := by
  obtain ⟨e1, e2, e3, e4, e5, e6⟩ := h.of hn hg hx
  refine ⟨hn, e2, ?_, e3, e4, h.nr, ⟨h.al.1, e6⟩, fun o ho => ?_, fun o => ?_, e5, h.hs⟩
  · rw [← h.rc]; simp [World.cell?, e1]
  · rw [← h.cs o ho]; simp [World.cell?, e1]
  · rw [← h.fz o]; simp [World.frozen?, e1]
theorem CI.set (h : CI w sb a W v vr met f) (k : Nat) (hk : k < 256) (x : Value) : CI w sb a (W.setCell ⟨a, k, none⟩ x) v vr met (fun j => if j = k then x else f j) := by
  have hsz := h.ex.size
  have hs := h.hs
  have hal := h.al
  have hx : Exc (fun b => b = a) W (W.setCell ⟨a, k, none⟩ x) := exc_set rfl
  have hsa : sb ≠ a := by omega
  have es : (W.setCell ⟨a, k, none⟩ x).heap[sb]? = W.heap[sb]? := set_blk _ _ _ _ hsa
  refine ⟨h.num.exc hx (fun g hg q => (h.foot hg).2.1 q), h.ar.set k hk x, ?_, h.rf.blk (fun b hb => hx.block b (h.rf.lt hb).2 (fun q => (h.nr b hb).2 q)), h.nv, h.nr, ⟨hal.1, by rw [size_set']; exact hal.2⟩, fun o ho => ?_, fun o => ?_, ?_, hs⟩
  · rw [← h.rc]; simp [World.cell?, es]
  · rw [← h.cs o ho]; simp [World.cell?, es]
  · rw [← h.fz o]; simp [World.frozen?, es]
  · exact ⟨h.ex.os, h.ex.tape, h.ex.output, by rw [size_set']; exact hsz, fun b hb hn => (hx.block b (by omega) (by omega)).trans (h.ex.block b hb hn)⟩
/-- It was new: the list of readers gets it, too. -/
theorem CI.new (h : CI w sb a W v vr met f) {wa w4 : World} {v' : Value} {x : W4} {g k H : Nat} (hn : NumAt 150 4 W' (w.heap.size + 1) w.heap.size v' ((met ++ [x]).map W4.v) 0) (hg : ∀ g, v'.ownBlock = some g → v.ownBlock = some g ∨ W.heap.size ≤ g) (hx : Exc (Foot (w.heap.size + 1) w.heap.size v) W W')
    (hwa : Below W'.heap.size W' wa) (ho : w4.ownsRow w.heap.size 150 4 (.slice (some ⟨g, 0, none⟩) (met.length + 1) k) (met.length + 1) (met.flatMap W4.cs ++ x.cs)) (hH : wa.heap.size = H) (hl : g < w4.heap.size)
    (hc : (vr.ownBlock = some g ∧ wa.grownBy w4 (some g)) ∨ (g = H ∧ wa.grownBy w4 none)) :
    CI w sb a (w4.setCell ⟨sb, 12, none⟩ (.slice (some ⟨g, 0, none⟩) (met.length + 1) k)) v' (.slice (some ⟨g, 0, none⟩) (met.length + 1) k) (met ++ [x]) f ∧ w4.cell? ⟨sb, 12, none⟩ = some vr ∧ w4.frozen? ⟨sb, 12, none⟩ = false := by
  obtain ⟨e1, e2, e3, e4, e5, e6⟩ := h.of hn hg hx
  have hsz := h.ex.size
  have hs := h.hs
  have hal := h.al
  have hsz' := hx.size
  have hsza := hwa.size
  have hgW : vr.ownBlock = some g ∨ W'.heap.size ≤ g := by
    rcases hc with ⟨q, _⟩ | ⟨q, _⟩
    · exact .inl q
    · exact .inr (by omega)
  have hga : g ≠ a ∧ w.heap.size + 2 ≤ g := by
    rcases hgW with q | q
    · exact ⟨(h.nr g q).2, (h.nr g q).1⟩
    · exact ⟨by omega, by omega⟩
  have blk : ∀ b, b < W'.heap.size → vr.ownBlock ≠ some b → w4.heap[b]? = W'.heap[b]? := fun b hb hne => (grown_blk hH hc (by omega) hne).trans (hwa.block b hb)
  obtain ⟨g1, g2, g3, g4⟩ := grown_env hc
  have hvs : vr.ownBlock ≠ some sb := fun q => by have := (h.rf.lt q).1; omega
  have es4 : w4.heap[sb]? = W.heap[sb]? := (blk sb (by omega) hvs).trans e1
  have k12 : w4.cell? ⟨sb, 12, none⟩ = some vr := by rw [← h.rc]; simp [World.cell?, es4]
  have kf : ∀ o, w4.frozen? ⟨sb, o, none⟩ = false := fun o => by rw [← h.fz o]; simp [World.frozen?, es4]
  have hftlt : ∀ b, Foot (w.heap.size + 1) w.heap.size v' b → b < W'.heap.size := fun b hb => hn.lt hb
  have hft : ∀ b, Foot (w.heap.size + 1) w.heap.size v' b → w.heap.size ≤ b ∧ vr.ownBlock ≠ some b := fun b hb => by
    rcases hb with rfl | rfl | hb
    · exact ⟨by omega, fun q => by have := (h.nr _ q).1; omega⟩
    · exact ⟨by omega, fun q => by have := (h.nr _ q).1; omega⟩
    · have := e4 b hb.symm
      exact ⟨by omega, this.2.2⟩
  refine ⟨⟨?_, ?_, ?_, ?_, ?_, ?_, ?_, ?_, ?_, ?_, hs⟩, k12, kf 12⟩
  · refine hn.keep (fun b hb => ?_)
    rw [set_blk _ _ _ _ (by have := (hft b hb).1; omega)]
    exact blk b (hftlt b hb) (hft b hb).2
  · refine e2.of_block ?_
    rw [set_blk _ _ _ _ (by omega)]
    exact blk a e6 (fun q => (h.nr a q).2 rfl)
  · exact World.cell?_setCell_same' _ _ _ (by rw [k12]; rfl)
  · have : FsAt 150 w4 w.heap.size (.slice (some ⟨g, 0, none⟩) (met.length + 1) k) (met ++ [x]) := by
      unfold FsAt
      simpa using ho
    exact this.blk (fun b hb => set_blk _ _ _ _ (by simp [Value.ownBlock] at hb; omega))
  · intro b hb
    refine ⟨(e4 b hb).1, (e4 b hb).2.1, fun q => ?_⟩
    simp [Value.ownBlock] at q
    subst q
    rcases hgW with q' | q'
    · exact (e4 _ hb).2.2 q'
    · have := hftlt _ (.inr (.inr hb.symm))
      omega
  · intro b hb
    simp [Value.ownBlock] at hb
    subst hb
    exact ⟨hga.2, hga.1⟩
  · exact ⟨hal.1, by rw [size_set']; omega⟩
  · intro o ho'
    have : (w4.setCell ⟨sb, 12, none⟩ (.slice (some ⟨g, 0, none⟩) (met.length + 1) k)).cell? ⟨sb, o, none⟩ = w4.cell? ⟨sb, o, none⟩ := by simp [go_sem, Ne.symm ho', ho']
    rw [this, ← h.cs o ho']; simp [World.cell?, es4]
  · intro o
    simp [go_sem, kf]
  · refine ⟨g1.trans (hwa.os.trans e5.os), g2.trans (hwa.tape.trans e5.tape), g3.trans (hwa.output.trans e5.output), by rw [size_set']; omega, fun b hb hne => ?_⟩
    rw [set_blk _ _ _ _ hne]
    exact (blk b (by omega) (fun q => by have := (h.rf.lt q).1; omega)).trans (e5.block b hb hne)
end
end Go.Proofs.YtbjabpodkaokjaaGreatDoor
