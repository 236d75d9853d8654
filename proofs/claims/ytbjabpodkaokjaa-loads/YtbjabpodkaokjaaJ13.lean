import Derived.Test.YtbjabpodkaokjaaJ07
import Derived.Test.YtbjabpodkaokjaaJ01
set_option linter.unusedVariables false
set_option linter.unusedSimpArgs false
namespace Go.Proofs.Ytbjabpodkaokjaa
open Go.RowKit

/-- A reader in block g. -/
structure Rdr (w : World) (g : Nat) (big : Bool) (l : List UInt8) : Prop where
  c0 : w.cell? ⟨g, 0, none⟩ = some (.bool big)
  c1 : w.cell? ⟨g, 1, none⟩ = some (.string (ba l))
  fz : ∀ o, w.frozen? ⟨g, o, none⟩ = false
  sz : l.length ≤ maxLen
theorem Rdr.lt {w : World} {g : Nat} {big : Bool} {l : List UInt8} (h : Rdr w g big l) : g < w.heap.size := cell_lt h.c0
def RdOut (g : Nat) (big : Bool) (w : World) (l : List UInt8) (w' : World) : Prop := Rdr w' g big l ∧ w.grownBy w' (some g)
theorem grown_refl (w : World) (r : Option Nat) : w.grownBy w r := ⟨rfl, rfl, rfl, Nat.le_refl _, fun _ _ _ => rfl⟩
theorem grown_trans {x y z : World} {r : Option Nat} (h : x.grownBy y r) (k : y.grownBy z r) : x.grownBy z r :=
  ⟨k.os.trans h.os, k.tape.trans h.tape, k.output.trans h.output, Nat.le_trans h.size k.size, fun j h1 h2 => (k.block j (Nat.lt_of_lt_of_le h1 h.size) h2).trans (h.block j h1 h2)⟩
theorem grown_set (w : World) (g o : Nat) (v : Value) : w.grownBy (w.setCell ⟨g, o, none⟩ v) (some g) :=
  ⟨rfl, rfl, rfl, by simp [World.setCell], fun k _ hk => Below.heap_setCell _ _ _ _ (fun e => hk (by rw [e]))⟩
theorem RdOut.trans {g : Nat} {big : Bool} {x y z : World} {l l' : List UInt8} (h : RdOut g big x l y) (k : RdOut g big y l' z) : RdOut g big x l' z := ⟨k.1, grown_trans h.2 k.2⟩
theorem RdOut.start {g : Nat} {big : Bool} {w : World} {l : List UInt8} (h : Rdr w g big l) : RdOut g big w l w := ⟨h, grown_refl _ _⟩
theorem Rdr.put {w : World} {g : Nat} {big : Bool} {l l' : List UInt8} (h : Rdr w g big l) (hl : l'.length ≤ l.length) : RdOut g big w l' (w.setCell ⟨g, 1, none⟩ (.string (ba l'))) :=
  ⟨⟨by rw [World.cell?_setCell_other _ _ _ _ (by simp)]; exact h.c0, World.cell?_setCell_same _ _ _ h.c1, fun o => by rw [World.frozen?_setCell]; exact h.fz o, Nat.le_trans hl h.sz⟩, grown_set _ _ _ _⟩
theorem Rdr.of_block {w w' : World} {g : Nat} {big : Bool} {l : List UInt8} (h : Rdr w g big l) (e : w'.heap[g]? = w.heap[g]?) : Rdr w' g big l :=
  ⟨(cell_of_block e 0).trans h.c0, (cell_of_block e 1).trans h.c1, fun o => (frozen_of_block e o).trans (h.fz o), h.sz⟩
theorem Rdr.below {w w' : World} {g : Nat} {big : Bool} {l : List UInt8} (h : Rdr w g big l) (hb : Below w.heap.size w w') : Rdr w' g big l := h.of_block (hb.block g h.lt)

theorem ba_extract (l : List UInt8) (a b : Nat) : (ba l).extract a b = ba ((l.take b).drop a) := by
  apply ByteArray.ext
  rw [ByteArray.data_extract]
  apply Array.ext'
  simp [List.extract_eq_take_drop, List.drop_take]
theorem ba_take (l : List UInt8) (n : Nat) : (ba l).extract 0 n = ba (l.take n) := by rw [ba_extract]; rfl
theorem ba_drop (l : List UInt8) (n : Nat) : (ba l).extract n l.length = ba (l.drop n) := by rw [ba_extract, List.take_length]
theorem ret_s {a b : ByteArray} (h : a = b) : Ending.returned (.string a) = .returned (.string b) := by rw [h]
set_option maxHeartbeats 1000000 in
theorem text_r (w : World) (g : Nat) (big : Bool) (l : List UInt8) (n : Nat) (hn : n ≤ 300) (h : Rdr w g big l) :
    Calls Try.prog 29 #[.pointer (some ⟨g, 0, none⟩), .int .i64 n] w fun e w' => e = .returned (.string (ba (l.take n))) ∧ RdOut g big w (l.drop n) w' := by
  have c1 := h.c1
  have f1 := h.fz 1
  have hsz := h.sz
  unfold maxLen at hsz
  have hbs := ba_size l
  have H : Hid (Rdr w g big l) := h
  clear h
  by_cases hc : n ≤ l.length
  · have hcI : (n : Int) ≤ l.length := by omega
    go_enter Try.func29, Try.ntmps29
    go_wp2
    go_ret
    refine ⟨ret_s (ba_take l n), ?_⟩
    have := H.out.put (l' := l.drop n) (by simp)
    rw [← ba_drop] at this
    exact this
  · have hcI : ¬ (n : Int) ≤ l.length := by omega
    have hcJ : (l.length : Int) < n := by omega
    go_enter Try.func29, Try.ntmps29
    go_wp2
    go_ret
    refine ⟨ret_s (by rw [ba_take, List.take_of_length_le (Nat.le_refl _), List.take_of_length_le (by omega)]), ?_⟩
    rw [List.drop_of_length_le (by omega)]
    exact H.out.put (l' := []) (by simp)
theorem tail1 (l : List UInt8) : l.drop 1 = (rdS l).2 := by cases l <;> rfl
set_option maxHeartbeats 1000000 in
theorem small_r (w : World) (g : Nat) (big : Bool) (l : List UInt8) (h : Rdr w g big l) :
    Calls Try.prog 30 #[.pointer (some ⟨g, 0, none⟩)] w fun e w' => e = .returned (.int .u8 (rdS l).1) ∧ RdOut g big w (rdS l).2 w' := by
  have HT : Hid (Calls Try.prog 29 #[.pointer (some ⟨g, 0, none⟩), .int .i64 1] w fun e w' => e = .returned (.string (ba (l.take 1))) ∧ RdOut g big w (rdS l).2 w') := by
    show Calls _ _ _ _ _
    rw [← tail1]
    exact text_r w g big l 1 (by omega) h
  clear h
  cases l with
  | nil =>
    go_enter Try.func30, Try.ntmps30
    go_wp2_with (go_at_call 29; refine HT.out.mono ?_; rintro e w2 ⟨rfl, ho2⟩; have HO2 : Hid _ := ho2; clear ho2)
    go_ret
    exact ⟨rfl, HO2.out⟩
  | cons c t =>
    go_enter Try.func30, Try.ntmps30
    go_wp2_with (go_at_call 29; refine HT.out.mono ?_; rintro e w2 ⟨rfl, ho2⟩; have HO2 : Hid _ := ho2; clear ho2)
    go_ret
    exact ⟨rfl, HO2.out⟩
set_option maxHeartbeats 1000000 in
theorem pair_r (w : World) (g : Nat) (big : Bool) (l : List UInt8) (h : Rdr w g big l) :
    Calls Try.prog 31 #[.pointer (some ⟨g, 0, none⟩)] w fun e w' => e = .returned (.int .i64 (rdP big l).1) ∧ RdOut g big w (rdP big l).2 w' := by
  have HS1 : Hid (Calls Try.prog 30 #[.pointer (some ⟨g, 0, none⟩)] w fun e w' => e = .returned (.int .u8 (rdS l).1) ∧ RdOut g big w (rdS l).2 w') := small_r w g big l h
  have b1 := rdS_lt l
  have b2 := rdS_lt (rdS l).2
  obtain ⟨x, hx⟩ : ∃ x, x = (rdS l).1 := ⟨_, rfl⟩
  obtain ⟨l1, hl1⟩ : ∃ x, x = (rdS l).2 := ⟨_, rfl⟩
  obtain ⟨y, hy⟩ : ∃ x, x = (rdS l1).1 := ⟨_, rfl⟩
  obtain ⟨l2, hl2⟩ : ∃ x, x = (rdS l1).2 := ⟨_, rfl⟩
  rw [← hx] at HS1 b1
  rw [← hl1] at HS1 b2
  rw [← hy] at b2
  have HS2 : Hid (∀ w, Rdr w g big l1 → Calls Try.prog 30 #[.pointer (some ⟨g, 0, none⟩)] w fun e w' => e = .returned (.int .u8 y) ∧ RdOut g big w l2 w') := fun w h => by rw [hy, hl2]; exact small_r w g big l1 h
  have HP : Hid (rdP big l = (if big then y + 256 * x else x + 256 * y, l2)) := by show _ = _; rw [hy, hl2, hl1, hx]; rfl
  clear hx hl1 hy hl2 h
  cases big with
  | false =>
    go_enter Try.func31, Try.ntmps31
    go_wp2_with (first | (go_at_call 30; refine (HS2.out _ HO1.out.1).mono ?_; rintro e w2 ⟨rfl, ho2⟩; have HO2 : Hid (RdOut g false w1 l2 w2) := ho2; have c0 := ho2.1.c0; clear ho2) | (go_at_call 30; refine HS1.out.mono ?_; rintro e w1 ⟨rfl, ho1⟩; have HO1 : Hid (RdOut g false w l1 w1) := ho1; clear ho1))
    go_ret
    rw [HP.out]
    exact ⟨ret_i (by simp; omega), HO1.out.trans HO2.out⟩
  | true =>
    go_enter Try.func31, Try.ntmps31
    go_wp2_with (first | (go_at_call 30; refine (HS2.out _ HO1.out.1).mono ?_; rintro e w2 ⟨rfl, ho2⟩; have HO2 : Hid (RdOut g true w1 l2 w2) := ho2; have c0 := ho2.1.c0; clear ho2) | (go_at_call 30; refine HS1.out.mono ?_; rintro e w1 ⟨rfl, ho1⟩; have HO1 : Hid (RdOut g true w l1 w1) := ho1; clear ho1))
    go_ret
    rw [HP.out]
    exact ⟨ret_i (by simp; omega), HO1.out.trans HO2.out⟩
end Go.Proofs.Ytbjabpodkaokjaa

namespace Go.Proofs.Ytbjabpodkaokjaa
open Go.RowKit

/-- A row of numbers of the call's own. -/
abbrev IRow (w : World) (base : Nat) (v : Value) (zs : List Int) : Prop := w.ownsRow base 3 1 v zs.length (zs.map eI)
theorem ownsRow_shape {w : World} {base n size : Nat} {v : Value} {e : TypeId} {xs : List Value} (h : w.ownsRow base e size v n xs) : ∃ a c, v = .slice a n c := by
  rcases h.2 with ⟨rfl, h0⟩ | ⟨q, cap, cur, rfl, _⟩
  · exact ⟨none, 0, by rw [h0]⟩
  · exact ⟨_, cap, rfl⟩
theorem ownsRow_keep {w w' : World} {base n size g : Nat} {v : Value} {e : TypeId} {xs : List Value} (h : w.ownsRow base e size v n xs) (hg : w.grownBy w' (some g)) (hb : g < base) : w'.ownsRow base e size v n xs :=
  h.kept hg (by
    cases e : v.ownBlock with
    | none => exact .inl rfl
    | some k => exact .inr (fun q => by injection q with q; have := (h.lt k e).1; omega))
theorem grown_new {w w2 : World} {r : Option Nat} (h : w.grownBy w2 r) {b : Nat} (hb : w.heap.size ≤ b) (o : Nat) (v : Value) : w.grownBy (w2.setCell ⟨b, o, none⟩ v) r :=
  ⟨h.os, h.tape, h.output, by simpa [World.setCell] using h.size, fun k h1 h2 => (Below.heap_setCell _ _ _ _ (by simp only; omega)).trans (h.block k h1 h2)⟩
theorem grown_alloc {w w2 : World} {r : Option Nat} (h : w.grownBy w2 r) (o : Obj) : w.grownBy (w2.alloc o) r :=
  ⟨h.os, h.tape, h.output, by have := h.size; simp; omega, fun k h1 h2 => (Below.heap_alloc _ _ _ (Nat.lt_of_lt_of_le h1 h.size)).trans (h.block k h1 h2)⟩
theorem grown_own {w w2 w3 : World} {r row : Option Nat} (h : w.grownBy w2 r) (k : w2.grownBy w3 row) (hr : ∀ q, row = some q → w.heap.size ≤ q) : w.grownBy w3 r :=
  ⟨k.os.trans h.os, k.tape.trans h.tape, k.output.trans h.output, Nat.le_trans h.size k.size, fun j h1 h2 => (k.block j (Nat.lt_of_lt_of_le h1 h.size) (fun e => by have := hr j e.symm; omega)).trans (h.block j h1 h2)⟩
theorem Rdr.set {w : World} {g b : Nat} {big : Bool} {l : List UInt8} (h : Rdr w g big l) (hb : b ≠ g) (o : Nat) (v : Value) : Rdr (w.setCell ⟨b, o, none⟩ v) g big l := h.of_block (Below.heap_setCell _ _ _ _ (by simpa using fun e => hb e.symm))
theorem mkA_list (n : Nat) : (mkA n (.int .i64 0)).toList = List.replicate n (eI 0) := by
  have : mkA n (.int .i64 0) = madeCells #[.int .i64 0] n := rfl
  rw [this, toList_madeCells_one]

theorem dcell {w : World} {g c k : Nat} {base : Nat} {zs : List Int} (h : w.ownsRow base 3 1 (.slice (some ⟨g, 0, none⟩) c c) c (zs.map eI ++ List.replicate (c - k) (eI 0))) (hz : zs.length = k) (hk : k < c) : w.cell? ⟨g, k, none⟩ = some (eI 0) := by
  rw [h.cellAt k (by omega), List.getElem?_append_right (by rw [List.length_map, hz]; exact Nat.le_refl _), List.length_map, hz, Nat.sub_self, show c - k = (c - (k + 1)) + 1 by omega, List.replicate_succ]; rfl
set_option maxRecDepth 4000 in
set_option maxHeartbeats 1000000 in
theorem dense_r (w : World) (g : Nat) (big : Bool) (l : List UInt8) (c : Nat) (hc : c ≤ 256) (h : Rdr w g big l) :
    Calls Try.prog 32 #[.pointer (some ⟨g, 0, none⟩), .int .i64 0, .int .i64 c] w fun e w' => ∃ v, e = .returned v ∧ IRow w' w.heap.size v (rdD big c l).1 ∧ RdOut g big w (rdD big c l).2 w' := by
  obtain ⟨i0, hi, hz0, hz1, hz2⟩ := info_parts Try.infoI
  have hmk := fun w => make_eq Try.underlying39 hi hz0 hz1 hz2 c (by omega) (by unfold maxLen; omega) w
  have H : Hid (Rdr w g big l) := h
  have hgl := h.lt
  clear h
  have HOW : Hid ((w.alloc (.cells (mkA c (.int .i64 0)) 3)).ownsRow w.heap.size 3 1 (.slice (some ⟨w.heap.size, 0, none⟩) c c) c (List.replicate c (eI 0))) := by
    show World.ownsRow _ _ _ _ _ _ _
    have := World.ownsRow_lit (base := w.heap.size) (e := 3) (size := 1) w (mkA c (.int .i64 0)) c (Nat.le_refl _) (by unfold maxLen; omega) (by rw [← Array.length_toList, mkA_list]; simp)
    rw [mkA_list] at this
    exact this
  have HR : Hid (RdOut g big w l (w.alloc (.cells (mkA c (.int .i64 0)) 3))) := ⟨H.out.below ((Below.refl _ _).alloc (Nat.le_refl _) _), grown_alloc (grown_refl _ _) _⟩
  go_enter Try.func32, Try.ntmps32
  go_wp2
  go_loopw [18] (fun i wr => ∃ k : Nat, i = .int .i64 k ∧ k ≤ c ∧ wr.ownsRow w.heap.size 3 1 (.slice (some ⟨w.heap.size, 0, none⟩) c c) c ((rdD big k l).1.map eI ++ List.replicate (c - k) (eI 0)) ∧ RdOut g big w (rdD big k l).2 wr) (fun i _ => c - (intOf i).toNat)
  case atStart => exact ⟨0, rfl, Nat.zero_le _, by simpa [rdD] using HOW.out, HR.out⟩
  case round =>
    obtain ⟨k, rfl, hk, how, hro⟩ := hrel
    clear HOW HR
    have HO : Hid (wr.ownsRow w.heap.size 3 1 (.slice (some ⟨w.heap.size, 0, none⟩) c c) c ((rdD big k l).1.map eI ++ List.replicate (c - k) (eI 0))) := how
    have HR : Hid (RdOut g big w (rdD big k l).2 wr) := hro
    clear how hro
    by_cases hlt : k < c
    · have hltI : (k : Int) < c := by omega
      have hp := pair_r wr g big (rdD big k l).2 HR.out.1
      have HP : Hid (Calls Try.prog 31 #[.pointer (some ⟨g, 0, none⟩)] wr fun e w' => e = .returned (.int .i64 (rdP big (rdD big k l).2).1) ∧ RdOut g big wr (rdP big (rdD big k l).2).2 w') := hp
      clear hp
      obtain ⟨z, hz⟩ : ∃ z, z = (rdP big (rdD big k l).2).1 := ⟨_, rfl⟩
      obtain ⟨l2, hl2⟩ : ∃ z, z = (rdP big (rdD big k l).2).2 := ⟨_, rfl⟩
      rw [← hz, ← hl2] at HP
      have HD : Hid (rdD big (k + 1) l = ((rdD big k l).1 ++ [(z : Int)], l2)) := by show _ = _; rw [rdD, hz, hl2]
      clear hz hl2
      go_wp2_with (go_at_call 31; refine HP.out.mono ?_; rintro e w2 ⟨rfl, ho2⟩; have HO2 : Hid (RdOut g big wr l2 w2) := ho2; have how2 := ownsRow_keep HO.out ho2.2 (by omega); have d1 := dcell how2 (rdD_len _ _ _) hlt; have d2 := how2.frozenAt k; have HW2 : Hid (w2.ownsRow w.heap.size 3 1 (.slice (some ⟨w.heap.size, 0, none⟩) c c) c ((rdD big k l).1.map eI ++ List.replicate (c - k) (eI 0))) := how2; clear ho2 how2)
      go_roundw
      case rel =>
        refine ⟨k + 1, by go_num, by omega, ?_, ?_⟩
        · rw [HD.out]
          have := (HW2.out.stored k (eI z)).1
          rw [List.set_append_right _ _ (by rw [List.length_map, rdD_len]; exact Nat.le_refl _), List.length_map, rdD_len, Nat.sub_self, show c - k = (c - (k + 1)) + 1 by omega, List.replicate_succ, List.set_cons_zero] at this
          simpa using this
        · rw [HD.out]
          exact ⟨HO2.out.1.set (by omega) _ _, grown_new (grown_trans HR.out.2 HO2.out.2) (Nat.le_refl _) _ _⟩
      case measure => simp [intOf] <;> omega
    · have hkI : ¬ (k : Int) < c := by omega
      have hkc : k = c := by omega
      go_wp2
      go_ret
      have h1 := HO.out
      have h2 := HR.out
      rw [hkc, Nat.sub_self] at h1
      rw [hkc] at h2
      refine ⟨_, rfl, ?_, h2⟩
      have e : (rdD big c l).1.length = c := rdD_len _ _ _
      show World.ownsRow _ _ _ _ _ _ _
      rw [e]
      simpa using h1
end Go.Proofs.Ytbjabpodkaokjaa
