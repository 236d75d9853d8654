import Derived.Test.YtbjabpodkaokjaaGreatDoorJ08
import Derived.Test.YtbjabpodkaokjaaGreatDoorJ02
import Derived.Test.YtbjabpodkaokjaaGreatDoorJ09
set_option linter.unusedVariables false
set_option linter.unusedSimpArgs false
namespace Go.Proofs.YtbjabpodkaokjaaGreatDoor
open Go.RowKit

/-- A reader in block g. -/
structure Rdr (w : World) (g : Nat) (big : Bool) (l : List UInt8) : Prop where
  c0 : w.cell? ⟨g, 0, none⟩ = some (.bool big)
  c1 : w.cell? ⟨g, 1, none⟩ = some (.string (ba l))
  fz : ∀ o, w.frozen? ⟨g, o, none⟩ = false
  sz : l.length ≤ maxLen
theorem Rdr.lt {w : World} {g : Nat} {big : Bool} {l : List UInt8} (h : Rdr w g big l) : g < w.heap.size := cell_lt h.c0
def RdOut (g : Nat) (big : Bool) (w : World) (l : List UInt8) (w' : World) : Prop := Rdr w' g big l ∧ w.grownBy w' (some g)
theorem grown_refl (w : World) (r : Option Nat) : w.grownBy w r := ⟨rfl, rfl, rfl, Nat.le_refl _, fun _ _ _ => rfl⟩
theorem grown_trans {x y z : World} {r : Option Nat} (h : x.grownBy y r) (k : y.grownBy z r) : x.grownBy z r :=
  ⟨k.os.trans h.os, k.tape.trans h.tape, k.output.trans h.output, Nat.le_trans h.size k.size, fun j h1 h2 => (k.block j (Nat.lt_of_lt_of_le h1 h.size) h2).trans (h.block j h1 h2)⟩
theorem grown_set (w : World) (g o : Nat) (v : Value) : w.grownBy (w.setCell ⟨g, o, none⟩ v) (some g) :=
  ⟨rfl, rfl, rfl, by simp [World.setCell], fun k _ hk => Below.heap_setCell _ _ _ _ (fun e => hk (by rw [e]))⟩
theorem RdOut.trans {g : Nat} {big : Bool} {x y z : World} {l l' : List UInt8} (h : RdOut g big x l y) (k : RdOut g big y l' z) : RdOut g big x l' z := ⟨k.1, grown_trans h.2 k.2⟩
theorem RdOut.start {g : Nat} {big : Bool} {w : World} {l : List UInt8} (h : Rdr w g big l) : RdOut g big w l w := ⟨h, grown_refl _ _⟩
theorem Rdr.put {w : World} {g : Nat} {big : Bool} {l l' : List UInt8} (h : Rdr w g big l) (hl : l'.length ≤ l.length) : RdOut g big w l' (w.setCell ⟨g, 1, none⟩ (.string (ba l'))) :=
  ⟨⟨by rw [World.cell?_setCell_other _ _ _ _ (by simp)]; exact h.c0, World.cell?_setCell_same _ _ _ h.c1, fun o => by rw [World.frozen?_setCell]; exact h.fz o, Nat.le_trans hl h.sz⟩, grown_set _ _ _ _⟩
theorem Rdr.of_block {w w' : World} {g : Nat} {big : Bool} {l : List UInt8} (h : Rdr w g big l) (e : w'.heap[g]? = w.heap[g]?) : Rdr w' g big l :=
  ⟨(cell_of_block e 0).trans h.c0, (cell_of_block e 1).trans h.c1, fun o => (frozen_of_block e o).trans (h.fz o), h.sz⟩
theorem Rdr.below {w w' : World} {g : Nat} {big : Bool} {l : List UInt8} (h : Rdr w g big l) (hb : Below w.heap.size w w') : Rdr w' g big l := h.of_block (hb.block g h.lt)

theorem ba_extract (l : List UInt8) (a b : Nat) : (ba l).extract a b = ba ((l.take b).drop a) := by
  apply ByteArray.ext
  rw [ByteArray.data_extract]
  apply Array.ext'
  simp [List.extract_eq_take_drop, List.drop_take]
theorem ba_take (l : List UInt8) (n : Nat) : (ba l).extract 0 n = ba (l.take n) := by rw [ba_extract]; rfl
theorem ba_drop (l : List UInt8) (n : Nat) : (ba l).extract n l.length = ba (l.drop n) := by rw [ba_extract, List.take_length]
theorem ret_s {a b : ByteArray} (h : a = b) : Ending.returned (.string a) = .returned (.string b) := by rw [h]
set_option maxHeartbeats 1000000 in
theorem text_r (w : World) (g : Nat) (big : Bool) (l : List UInt8) (n : Nat) (hn : n ≤ 300) (h : Rdr w g big l) :
    Calls Tryz.prog 106 #[.pointer (some ⟨g, 0, none⟩), .int .i64 n] w fun e w' => e = .returned (.string (ba (l.take n))) ∧ RdOut g big w (l.drop n) w' := by
  have c1 := h.c1
  have f1 := h.fz 1
  have hsz := h.sz
  unfold maxLen at hsz
  have hbs := ba_size l
  have H : Hid (Rdr w g big l) := h
  clear h
  by_cases hc : n ≤ l.length
  · have hcI : (n : Int) ≤ l.length := by omega
    go_enter Tryz.func106, Tryz.ntmps106
    go_wp2
    go_ret
    refine ⟨ret_s (ba_take l n), ?_⟩
    have := H.out.put (l' := l.drop n) (by simp)
    rw [← ba_drop] at this
    exact this
  · have hcI : ¬ (n : Int) ≤ l.length := by omega
    have hcJ : (l.length : Int) < n := by omega
    go_enter Tryz.func106, Tryz.ntmps106
    go_wp2
    go_ret
    refine ⟨ret_s (by rw [ba_take, List.take_of_length_le (Nat.le_refl _), List.take_of_length_le (by omega)]), ?_⟩
    rw [List.drop_of_length_le (by omega)]
    exact H.out.put (l' := []) (by simp)
theorem tail1 (l : List UInt8) : l.drop 1 = (rdS l).2 := by cases l <;> rfl
set_option maxHeartbeats 1000000 in
theorem small_r (w : World) (g : Nat) (big : Bool) (l : List UInt8) (h : Rdr w g big l) :
    Calls Tryz.prog 107 #[.pointer (some ⟨g, 0, none⟩)] w fun e w' => e = .returned (.int .u8 (rdS l).1) ∧ RdOut g big w (rdS l).2 w' := by
  have HT : Hid (Calls Tryz.prog 106 #[.pointer (some ⟨g, 0, none⟩), .int .i64 1] w fun e w' => e = .returned (.string (ba (l.take 1))) ∧ RdOut g big w (rdS l).2 w') := by
    show Calls _ _ _ _ _
    rw [← tail1]
    exact text_r w g big l 1 (by omega) h
  clear h
  cases l with
  | nil =>
    go_enter Tryz.func107, Tryz.ntmps107
    go_wp2_with (go_at_call 106; refine HT.out.mono ?_; rintro e w2 ⟨rfl, ho2⟩; have HO2 : Hid _ := ho2; clear ho2)
    go_ret
    exact ⟨rfl, HO2.out⟩
  | cons c t =>
    go_enter Tryz.func107, Tryz.ntmps107
    go_wp2_with (go_at_call 106; refine HT.out.mono ?_; rintro e w2 ⟨rfl, ho2⟩; have HO2 : Hid _ := ho2; clear ho2)
    go_ret
    exact ⟨rfl, HO2.out⟩
set_option maxHeartbeats 1000000 in
theorem pair_r (w : World) (g : Nat) (big : Bool) (l : List UInt8) (h : Rdr w g big l) :
    Calls Tryz.prog 108 #[.pointer (some ⟨g, 0, none⟩)] w fun e w' => e = .returned (.int .i64 (rdP big l).1) ∧ RdOut g big w (rdP big l).2 w' := by
  have HS1 : Hid (Calls Tryz.prog 107 #[.pointer (some ⟨g, 0, none⟩)] w fun e w' => e = .returned (.int .u8 (rdS l).1) ∧ RdOut g big w (rdS l).2 w') := small_r w g big l h
  have b1 := rdS_lt l
  have b2 := rdS_lt (rdS l).2
  obtain ⟨x, hx⟩ : ∃ x, x = (rdS l).1 := ⟨_, rfl⟩
  obtain ⟨l1, hl1⟩ : ∃ x, x = (rdS l).2 := ⟨_, rfl⟩
  obtain ⟨y, hy⟩ : ∃ x, x = (rdS l1).1 := ⟨_, rfl⟩
  obtain ⟨l2, hl2⟩ : ∃ x, x = (rdS l1).2 := ⟨_, rfl⟩
  rw [← hx] at HS1 b1
  rw [← hl1] at HS1 b2
  rw [← hy] at b2
  have HS2 : Hid (∀ w, Rdr w g big l1 → Calls Tryz.prog 107 #[.pointer (some ⟨g, 0, none⟩)] w fun e w' => e = .returned (.int .u8 y) ∧ RdOut g big w l2 w') := fun w h => by rw [hy, hl2]; exact small_r w g big l1 h
  have HP : Hid (rdP big l = (if big then y + 256 * x else x + 256 * y, l2)) := by show _ = _; rw [hy, hl2, hl1, hx]; rfl
  clear hx hl1 hy hl2 h
  cases big with
  | false =>
    go_enter Tryz.func108, Tryz.ntmps108
    go_wp2_with (first | (go_at_call 107; refine (HS2.out _ HO1.out.1).mono ?_; rintro e w2 ⟨rfl, ho2⟩; have HO2 : Hid (RdOut g false w1 l2 w2) := ho2; have c0 := ho2.1.c0; clear ho2) | (go_at_call 107; refine HS1.out.mono ?_; rintro e w1 ⟨rfl, ho1⟩; have HO1 : Hid (RdOut g false w l1 w1) := ho1; clear ho1))
    go_ret
    rw [HP.out]
    exact ⟨ret_i (by simp; omega), HO1.out.trans HO2.out⟩
  | true =>
    go_enter Tryz.func108, Tryz.ntmps108
    go_wp2_with (first | (go_at_call 107; refine (HS2.out _ HO1.out.1).mono ?_; rintro e w2 ⟨rfl, ho2⟩; have HO2 : Hid (RdOut g true w1 l2 w2) := ho2; have c0 := ho2.1.c0; clear ho2) | (go_at_call 107; refine HS1.out.mono ?_; rintro e w1 ⟨rfl, ho1⟩; have HO1 : Hid (RdOut g true w l1 w1) := ho1; clear ho1))
    go_ret
    rw [HP.out]
    exact ⟨ret_i (by simp; omega), HO1.out.trans HO2.out⟩
end Go.Proofs.YtbjabpodkaokjaaGreatDoor

namespace Go.Proofs.YtbjabpodkaokjaaGreatDoor
open Go.RowKit

/-- A row of numbers of the call's own. -/
abbrev IRow (w : World) (base : Nat) (v : Value) (zs : List Int) : Prop := w.ownsRow base 3 1 v zs.length (zs.map eI)
theorem ownsRow_shape {w : World} {base n size : Nat} {v : Value} {e : TypeId} {xs : List Value} (h : w.ownsRow base e size v n xs) : ∃ a c, v = .slice a n c := by
  rcases h.2 with ⟨rfl, h0⟩ | ⟨q, cap, cur, rfl, _⟩
  · exact ⟨none, 0, by rw [h0]⟩
  · exact ⟨_, cap, rfl⟩
theorem ownsRow_keep {w w' : World} {base n size g : Nat} {v : Value} {e : TypeId} {xs : List Value} (h : w.ownsRow base e size v n xs) (hg : w.grownBy w' (some g)) (hb : g < base) : w'.ownsRow base e size v n xs :=
  h.kept hg (by
    cases e : v.ownBlock with
    | none => exact .inl rfl
    | some k => exact .inr (fun q => by injection q with q; have := (h.lt k e).1; omega))
theorem grown_new {w w2 : World} {r : Option Nat} (h : w.grownBy w2 r) {b : Nat} (hb : w.heap.size ≤ b) (o : Nat) (v : Value) : w.grownBy (w2.setCell ⟨b, o, none⟩ v) r :=
  ⟨h.os, h.tape, h.output, by simpa [World.setCell] using h.size, fun k h1 h2 => (Below.heap_setCell _ _ _ _ (by simp only; omega)).trans (h.block k h1 h2)⟩
theorem grown_alloc {w w2 : World} {r : Option Nat} (h : w.grownBy w2 r) (o : Obj) : w.grownBy (w2.alloc o) r :=
  ⟨h.os, h.tape, h.output, by have := h.size; simp; omega, fun k h1 h2 => (Below.heap_alloc _ _ _ (Nat.lt_of_lt_of_le h1 h.size)).trans (h.block k h1 h2)⟩
theorem grown_own {w w2 w3 : World} {r row : Option Nat} (h : w.grownBy w2 r) (k : w2.grownBy w3 row) (hr : ∀ q, row = some q → w.heap.size ≤ q) : w.grownBy w3 r :=
  ⟨k.os.trans h.os, k.tape.trans h.tape, k.output.trans h.output, Nat.le_trans h.size k.size, fun j h1 h2 => (k.block j (Nat.lt_of_lt_of_le h1 h.size) (fun e => by have := hr j e.symm; omega)).trans (h.block j h1 h2)⟩
theorem Rdr.set {w : World} {g b : Nat} {big : Bool} {l : List UInt8} (h : Rdr w g big l) (hb : b ≠ g) (o : Nat) (v : Value) : Rdr (w.setCell ⟨b, o, none⟩ v) g big l := h.of_block (Below.heap_setCell _ _ _ _ (by simpa using fun e => hb e.symm))
theorem mkA_list (n : Nat) : (mkA n (.int .i64 0)).toList = List.replicate n (eI 0) := by
  have : mkA n (.int .i64 0) = madeCells #[.int .i64 0] n := rfl
  rw [this, toList_madeCells_one]

theorem dcell {w : World} {g c k : Nat} {base : Nat} {zs : List Int} (h : w.ownsRow base 3 1 (.slice (some ⟨g, 0, none⟩) c c) c (zs.map eI ++ List.replicate (c - k) (eI 0))) (hz : zs.length = k) (hk : k < c) : w.cell? ⟨g, k, none⟩ = some (eI 0) := by
  rw [h.cellAt k (by omega), List.getElem?_append_right (by rw [List.length_map, hz]; exact Nat.le_refl _), List.length_map, hz, Nat.sub_self, show c - k = (c - (k + 1)) + 1 by omega, List.replicate_succ]; rfl
set_option maxRecDepth 4000 in
set_option maxHeartbeats 1000000 in
theorem dense_r (w : World) (g : Nat) (big : Bool) (l : List UInt8) (c : Nat) (hc : c ≤ 256) (h : Rdr w g big l) :
    Calls Tryz.prog 109 #[.pointer (some ⟨g, 0, none⟩), .int .i64 0, .int .i64 c] w fun e w' => ∃ v, e = .returned v ∧ IRow w' w.heap.size v (rdD big c l).1 ∧ RdOut g big w (rdD big c l).2 w' := by
  obtain ⟨i0, hi, hz0, hz1, hz2⟩ := info_parts Tryz.infoI
  have hmk := fun w => make_eq Tryz.underlying40 hi hz0 hz1 hz2 c (by omega) (by unfold maxLen; omega) w
  have H : Hid (Rdr w g big l) := h
  have hgl := h.lt
  clear h
  have HOW : Hid ((w.alloc (.cells (mkA c (.int .i64 0)) 3)).ownsRow w.heap.size 3 1 (.slice (some ⟨w.heap.size, 0, none⟩) c c) c (List.replicate c (eI 0))) := by
    show World.ownsRow _ _ _ _ _ _ _
    have := World.ownsRow_lit (base := w.heap.size) (e := 3) (size := 1) w (mkA c (.int .i64 0)) c (Nat.le_refl _) (by unfold maxLen; omega) (by rw [← Array.length_toList, mkA_list]; simp)
    rw [mkA_list] at this
    exact this
  have HR : Hid (RdOut g big w l (w.alloc (.cells (mkA c (.int .i64 0)) 3))) := ⟨H.out.below ((Below.refl _ _).alloc (Nat.le_refl _) _), grown_alloc (grown_refl _ _) _⟩
  go_enter Tryz.func109, Tryz.ntmps109
  go_wp2
  go_loopw [18] (fun i wr => ∃ k : Nat, i = .int .i64 k ∧ k ≤ c ∧ wr.ownsRow w.heap.size 3 1 (.slice (some ⟨w.heap.size, 0, none⟩) c c) c ((rdD big k l).1.map eI ++ List.replicate (c - k) (eI 0)) ∧ RdOut g big w (rdD big k l).2 wr) (fun i _ => c - (intOf i).toNat)
  case atStart => exact ⟨0, rfl, Nat.zero_le _, by simpa [rdD] using HOW.out, HR.out⟩
  case round =>
    obtain ⟨k, rfl, hk, how, hro⟩ := hrel
    clear HOW HR
    have HO : Hid (wr.ownsRow w.heap.size 3 1 (.slice (some ⟨w.heap.size, 0, none⟩) c c) c ((rdD big k l).1.map eI ++ List.replicate (c - k) (eI 0))) := how
    have HR : Hid (RdOut g big w (rdD big k l).2 wr) := hro
    clear how hro
    by_cases hlt : k < c
    · have hltI : (k : Int) < c := by omega
      have hp := pair_r wr g big (rdD big k l).2 HR.out.1
      have HP : Hid (Calls Tryz.prog 108 #[.pointer (some ⟨g, 0, none⟩)] wr fun e w' => e = .returned (.int .i64 (rdP big (rdD big k l).2).1) ∧ RdOut g big wr (rdP big (rdD big k l).2).2 w') := hp
      clear hp
      obtain ⟨z, hz⟩ : ∃ z, z = (rdP big (rdD big k l).2).1 := ⟨_, rfl⟩
      obtain ⟨l2, hl2⟩ : ∃ z, z = (rdP big (rdD big k l).2).2 := ⟨_, rfl⟩
      rw [← hz, ← hl2] at HP
      have HD : Hid (rdD big (k + 1) l = ((rdD big k l).1 ++ [(z : Int)], l2)) := by show _ = _; rw [rdD, hz, hl2]
      clear hz hl2
      go_wp2_with (go_at_call 108; refine HP.out.mono ?_; rintro e w2 ⟨rfl, ho2⟩; have HO2 : Hid (RdOut g big wr l2 w2) := ho2; have how2 := ownsRow_keep HO.out ho2.2 (by omega); have d1 := dcell how2 (rdD_len _ _ _) hlt; have d2 := how2.frozenAt k; have HW2 : Hid (w2.ownsRow w.heap.size 3 1 (.slice (some ⟨w.heap.size, 0, none⟩) c c) c ((rdD big k l).1.map eI ++ List.replicate (c - k) (eI 0))) := how2; clear ho2 how2)
      go_roundw
      case rel =>
        refine ⟨k + 1, by go_num, by omega, ?_, ?_⟩
        · rw [HD.out]
          have := (HW2.out.stored k (eI z)).1
          rw [List.set_append_right _ _ (by rw [List.length_map, rdD_len]; exact Nat.le_refl _), List.length_map, rdD_len, Nat.sub_self, show c - k = (c - (k + 1)) + 1 by omega, List.replicate_succ, List.set_cons_zero] at this
          simpa using this
        · rw [HD.out]
          exact ⟨HO2.out.1.set (by omega) _ _, grown_new (grown_trans HR.out.2 HO2.out.2) (Nat.le_refl _) _ _⟩
      case measure => simp [intOf] <;> omega
    · have hkI : ¬ (k : Int) < c := by omega
      have hkc : k = c := by omega
      go_wp2
      go_ret
      have h1 := HO.out
      have h2 := HR.out
      rw [hkc, Nat.sub_self] at h1
      rw [hkc] at h2
      refine ⟨_, rfl, ?_, h2⟩
      have e : (rdD big c l).1.length = c := rdD_len _ _ _
      show World.ownsRow _ _ _ _ _ _ _
      rw [e]
      simpa using h1
end Go.Proofs.YtbjabpodkaokjaaGreatDoor

namespace Go.Proofs.YtbjabpodkaokjaaGreatDoor
open Go.RowKit

set_option maxRecDepth 4000 in
set_option maxHeartbeats 2000000 in
theorem sparse_r (w : World) (g : Nat) (big : Bool) (l : List UInt8) (c : Nat) (hc : c ≤ 256) (h : Rdr w g big l) :
    Calls Tryz.prog 162 #[.pointer (some ⟨g, 0, none⟩), .int .i64 c] w fun e w' => ∃ v, e = .returned v ∧ IRow w' w.heap.size v (rdSp big c l).1 ∧ RdOut g big w (rdSp big c l).2 w' := by
  obtain ⟨i0, hi0, hz0, hz1, hz2⟩ := info_parts Tryz.infoI
  have hgl := h.lt
  have HP : Hid (Calls Tryz.prog 108 #[.pointer (some ⟨g, 0, none⟩)] w fun e w' => e = .returned (.int .i64 (rdP big l).1) ∧ RdOut g big w (rdP big l).2 w') := pair_r w g big l h
  clear h
  have hn := rdP_lt big l
  obtain ⟨n, hne⟩ : ∃ n, n = (rdP big l).1 := ⟨_, rfl⟩
  obtain ⟨l1, hl1⟩ : ∃ n, n = (rdP big l).2 := ⟨_, rfl⟩
  rw [← hne] at hn
  rw [← hne, ← hl1] at HP
  have HE : Hid (rdSp big c l = rdR big c n l1) := by show _ = _; rw [hne, hl1]; rfl
  clear hne hl1
  go_enter Tryz.func162, Tryz.ntmps162
  go_wp2_with (go_at_call 108; refine HP.out.mono ?_; rintro e w1 ⟨rfl, ho1⟩; have HO1 : Hid (RdOut g big w l1 w1) := ho1; clear ho1)
  go_loopw [5, 10] (fun r i wr => ∃ j : Nat, i = .int .i64 j ∧ j ≤ n ∧ IRow wr w.heap.size r (rdR big c j l1).1 ∧ RdOut g big w (rdR big c j l1).2 wr) (fun _ i _ => n - (intOf i).toNat)
  case atStart => exact ⟨0, rfl, Nat.zero_le _, World.ownsRow_nil _ _ _ _, HO1.out⟩
  case round =>
    obtain ⟨j, rfl, hj, hir, hro⟩ := hrel
    clear HO1
    have hlen := rdR_len big c l1 j
    by_cases hlt : j < n
    · have hltI : (j : Int) < n := by omega
      have HR : Hid (RdOut g big w (rdR big c j l1).2 wr) := hro
      obtain ⟨S, hS⟩ : ∃ S, S = (rdR big c j l1).1 := ⟨_, rfl⟩
      obtain ⟨R, hR⟩ : ∃ S, S = (rdR big c j l1).2 := ⟨_, rfl⟩
      have hq1 := rdP_lt big R
      have hq2 := rdP_lt big (rdP big R).2
      rw [← hS] at hir hlen
      rw [← hR] at HR
      obtain ⟨m, hm⟩ : ∃ n, n = (rdP big R).1 := ⟨_, rfl⟩
      obtain ⟨R1, hR1⟩ : ∃ n, n = (rdP big R).2 := ⟨_, rfl⟩
      obtain ⟨z, hz⟩ : ∃ n, n = (rdP big R1).1 := ⟨_, rfl⟩
      obtain ⟨R2, hR2⟩ : ∃ n, n = (rdP big R1).2 := ⟨_, rfl⟩
      rw [← hm] at hq1
      rw [← hR1, ← hz] at hq2
      have HP1 : Hid (Calls Tryz.prog 108 #[.pointer (some ⟨g, 0, none⟩)] wr fun e w' => e = .returned (.int .i64 m) ∧ RdOut g big wr R1 w') := by
        show Calls _ _ _ _ _
        rw [hm, hR1]; exact pair_r wr g big R HR.out.1
      have HP2 : Hid (∀ w, Rdr w g big R1 → Calls Tryz.prog 108 #[.pointer (some ⟨g, 0, none⟩)] w fun e w' => e = .returned (.int .i64 z) ∧ RdOut g big w R2 w') := fun w h => by rw [hz, hR2]; exact pair_r w g big R1 h
      have HJ : Hid (rdR big c (j + 1) l1 = (S ++ List.replicate (min m (c - S.length)) (z : Int), R2)) := by
        show _ = _
        simp only [rdR]
        rw [← hR, ← hS, ← hR1, ← hm, ← hz, ← hR2]
      obtain ⟨a5, c5, hform⟩ := ownsRow_shape hir
      subst hform
      have HI : Hid (IRow wr w.heap.size (.slice a5 S.length c5) S) := hir
      obtain ⟨q, hq⟩ : ∃ q, q = min m (c - S.length) := ⟨_, rfl⟩
      rw [← hq] at HJ
      have HQ : Hid (q = min m (c - S.length)) := hq
      have hqb : S.length + q ≤ 256 := by omega
      clear hS hR hm hR1 hz hR2 hir hro hq
      by_cases hmn : (m : Int) ≤ c - S.length
      all_goals
        first | (have hmq : q = m := (by have := HQ.out; omega); have hmn' : ¬ ((c : Int) - S.length < m) := (by omega)) | (have hmq : q = c - S.length := (by have := HQ.out; omega); have hmn' : ((c : Int) - S.length < m) := (by omega))
        go_wp2_with (first | (go_at_call 108; refine (HP2.out _ HO2.out.1).mono ?_; rintro e w3 ⟨rfl, ho3⟩; have HO3 : Hid (RdOut g big wr R2 w3) := HO2.out.trans ho3; clear ho3) | (go_at_call 108; refine HP1.out.mono ?_; rintro e w2 ⟨rfl, ho2⟩; have HO2 : Hid (RdOut g big wr R1 w2) := ho2; clear ho2))
      all_goals
        have HI3 : Hid (IRow w3 w.heap.size (.slice a5 S.length c5) S) := ownsRow_keep HI.out HO3.out.2 (by omega)
        have HR3 : Hid (RdOut g big w R2 w3) := HR.out.trans HO3.out
        have HSL : Hid (S.length = S.length) := rfl
        clear HO3 HO2 HP1 HP2 HI HR HP
        go_loopw [5, 22] (fun r i wr => ∃ k : Nat, i = .int .i64 k ∧ k ≤ q ∧ IRow wr w.heap.size r (S ++ List.replicate k (z : Int)) ∧ RdOut g big w R2 wr) (fun _ i _ => q - (intOf i).toNat)
        case atStart => exact ⟨0, rfl, Nat.zero_le _, by simpa using HI3.out, HR3.out⟩
        case round =>
          obtain ⟨k, rfl, hk, hir, hro⟩ := hrel
          clear HI3 HR3
          have HI : Hid (IRow wr w.heap.size u5 (S ++ List.replicate k (z : Int))) := hir
          have HR : Hid (RdOut g big w R2 wr) := hro
          have hws := hro.2.size
          clear hir hro
          by_cases hltq : k < q
          · first | (have hltI : (k : Int) < m := (by omega); clear hmn) | (have hltI : (k : Int) < (c : Int) - S.length := (by omega); clear hmn)
            have HOW : Hid (wr.ownsRow w.heap.size 3 1 u5 (S.length + k) ((S ++ List.replicate k (z : Int)).map eI)) := by
              show World.ownsRow _ _ _ _ _ _ _
              have := HI.out
              rw [IRow, show (S ++ List.replicate k (z : Int)).length = S.length + k by simp] at this
              exact this
            go_wp2_with (at_builtin; refine wpList_append_lies _ rfl (.tmp 24) (.tmp 26) 40 rfl w.heap.size 3 i0 (.int .i64 0) 1 8 Tryz.underlying40 hi0 hz0 hz1 hz2 rfl (by decide) u5 (S.length + k) ((S ++ List.replicate k (z : Int)).map eI) rfl (World.ownsRow.alloc HOW.out _) ⟨wr.heap.size, 0, none⟩ 1 1 [.int .i64 (z : Int)] rfl rfl (one_cell_new _ _ _) (by simp [Value.oneCell']) (by omega) (by unfold maxLen; omega) (by omega) (by simp; omega) _ rfl ?_)
            intro g1 cap1 w4 hown hgr hat hlt4
            have HI4 : Hid (IRow w4 w.heap.size (.slice (some ⟨g1, 0, none⟩) (S.length + k + 1) cap1) (S ++ List.replicate (k + 1) (z : Int))) := by
              show w4.ownsRow w.heap.size 3 1 (.slice (some ⟨g1, 0, none⟩) (S.length + k + 1) cap1) (S ++ List.replicate (k + 1) (z : Int)).length ((S ++ List.replicate (k + 1) (z : Int)).map eI)
              rw [show (S ++ List.replicate (k + 1) (z : Int)).length = S.length + k + 1 by simp; omega, List.replicate_succ']
              simpa using hown
            have HR4 : Hid (RdOut g big w R2 w4) := ⟨(HR.out.1.below ((Below.refl _ _).alloc (Nat.le_refl _) _)).of_block (hgr.block g (by simp; omega) (fun e => by have := (HOW.out.lt g e.symm).1; omega)), grown_own (grown_alloc HR.out.2 _) hgr (fun q e => (HOW.out.lt q e).1)⟩
            clear hown hgr hat
            go_wp2
            go_roundw
            case rel => exact ⟨k + 1, by go_num, by omega, HI4.out, HR4.out⟩
            case measure => simp [intOf] <;> omega
          · have hkq : k = q := by omega
            first | (have hltI : ¬ (k : Int) < m := (by omega); clear hmn) | (have hltI : ¬ (k : Int) < (c : Int) - S.length := (by omega); clear hmn)
            go_wp2
            go_roundw
            case rel =>
              refine ⟨j + 1, by go_num, by omega, ?_, ?_⟩
              · rw [HJ.out, ← hkq]; exact HI.out
              · rw [HJ.out]; exact HR.out
            case measure => simp [intOf] <;> omega
    · have hkI : ¬ (j : Int) < n := by omega
      have hjn : j = n := by omega
      have HI : Hid (IRow wr w.heap.size u5 (rdR big c j l1).1 ∧ RdOut g big w (rdR big c j l1).2 wr) := ⟨hir, hro⟩
      clear hir hro
      go_wp2
      go_ret
      have h := HI.out
      rw [hjn] at h
      rw [HE.out]
      exact ⟨_, rfl, h.1, h.2⟩
set_option maxHeartbeats 1000000 in
theorem row1_r (w : World) (g : Nat) (big : Bool) (l : List UInt8) (c : Nat) (hc : c ≤ 256) (h : Rdr w g big l) :
    Calls Tryz.prog 109 #[.pointer (some ⟨g, 0, none⟩), .int .i64 1, .int .i64 c] w fun e w' => ∃ v, e = .returned v ∧ IRow w' w.heap.size v (rdSp big c l).1 ∧ RdOut g big w (rdSp big c l).2 w' := by
  have HC : Hid (Calls Tryz.prog 162 #[.pointer (some ⟨g, 0, none⟩), .int .i64 c] w fun e w' => ∃ v, e = .returned v ∧ IRow w' w.heap.size v (rdSp big c l).1 ∧ RdOut g big w (rdSp big c l).2 w') := sparse_r w g big l c hc h
  clear h
  go_enter Tryz.func109, Tryz.ntmps109
  go_wp2_with (go_at_call 162; refine HC.out.mono ?_; rintro e w1 ⟨v, rfl, hi1, ho1⟩; have HO1 : Hid _ := ho1; have HI1 : Hid _ := hi1; clear ho1 hi1)
  go_ret
  exact ⟨_, rfl, HI1.out, HO1.out⟩
theorem row_r (w : World) (g : Nat) (big : Bool) (l : List UInt8) (kind c : Nat) (z : Int) (hz : z = (kind : Int)) (hk : kind ≤ 1) (hc : c ≤ 256) (h : Rdr w g big l) :
    Calls Tryz.prog 109 #[.pointer (some ⟨g, 0, none⟩), .int .i64 z, .int .i64 c] w fun e w' => ∃ v, e = .returned v ∧ IRow w' w.heap.size v (rdRow kind big c l).1 ∧ RdOut g big w (rdRow kind big c l).2 w' := by
  subst hz
  rcases (show kind = 0 ∨ kind = 1 by omega) with rfl | rfl
  · exact dense_r w g big l c hc h
  · exact row1_r w g big l c hc h
end Go.Proofs.YtbjabpodkaokjaaGreatDoor

namespace Go.Proofs.YtbjabpodkaokjaaGreatDoor
open Go.RowKit

theorem ownsRow_apart {w : World} {b1 b2 s1 s2 n1 n2 : Nat} {e1 e2 : TypeId} {v1 v2 : Value} {x1 x2 : List Value} (h1 : w.ownsRow b1 e1 s1 v1 n1 x1) (h2 : w.ownsRow b2 e2 s2 v2 n2 x2) (he : e1 ≠ e2) : v1.ownBlock = none ∨ v1.ownBlock ≠ v2.ownBlock := by
  rcases h1.2 with ⟨rfl, _⟩ | ⟨k1, c1, cur1, rfl, _, hh1, _⟩
  · exact .inl rfl
  · rcases h2.2 with ⟨rfl, _⟩ | ⟨k2, c2, cur2, rfl, _, hh2, _⟩
    · exact .inr (by simp [Value.ownBlock])
    · refine .inr (fun e => ?_)
      simp only [Value.ownBlock, Option.some.injEq] at e
      subst e
      rw [hh1] at hh2
      injection hh2 with e
      injection e with _ e
      exact he e
/-- Between Read's steps: the reader in block g, the table in block tb. -/
structure RI (w1 wr : World) (g tb : Nat) (big : Bool) (l : List UInt8) (f bk : Bool) (st : Int) (cls : List UInt8) (va vn : Value) (acc : List Bool) (us : List Value) (rows : List (List Int)) : Prop where
  rd : Rdr wr g big l
  bl : Below g w1 wr
  b0 : wr.cell? ⟨tb, 0, none⟩ = some (.bool f)
  b1 : wr.cell? ⟨tb, 1, none⟩ = some (.bool bk)
  b2 : wr.cell? ⟨tb, 2, none⟩ = some (.int .i64 st)
  b3 : wr.cell? ⟨tb, 3, none⟩ = some (.string (ba cls))
  b4 : wr.cell? ⟨tb, 4, none⟩ = some va
  b5 : wr.cell? ⟨tb, 5, none⟩ = some vn
  bf : ∀ o, wr.frozen? ⟨tb, o, none⟩ = false
  ac : wr.ownsRow (tb + 1) 4 1 va acc.length (acc.map eB)
  nx : wr.ownsRow (tb + 1) 40 1 vn us.length us
  ul : us.length = rows.length
  rw : ∀ j (h1 : j < us.length) (h2 : j < rows.length), IRow wr (tb + 1) us[j] rows[j]
  gt : g < tb
section
variable {w1 wr w2 : World} {g tb : Nat} {big : Bool} {l l' : List UInt8} {f bk : Bool} {st : Int} {cls : List UInt8} {va vn : Value} {acc : List Bool} {us : List Value} {rows : List (List Int)}
theorem RI.lt (h : RI w1 wr g tb big l f bk st cls va vn acc us rows) : tb < wr.heap.size := cell_lt h.b0
/-- The reader has gone on. -/
theorem RI.read (h : RI w1 wr g tb big l f bk st cls va vn acc us rows) (ho : RdOut g big wr l' w2) : RI w1 w2 g tb big l' f bk st cls va vn acc us rows := by
  have hg := h.gt
  have e : w2.heap[tb]? = wr.heap[tb]? := ho.2.block tb h.lt (fun e => by injection e with e; omega)
  have hc := fun o => cell_of_block e o
  have hgl := h.rd.lt
  exact ⟨ho.1, h.bl.grown ho.2 (Nat.le_of_lt hgl) (fun k e => by injection e with e; omega), (hc 0).trans h.b0, (hc 1).trans h.b1, (hc 2).trans h.b2, (hc 3).trans h.b3, (hc 4).trans h.b4, (hc 5).trans h.b5, fun o => (frozen_of_block e o).trans (h.bf o), ownsRow_keep h.ac ho.2 (by omega), ownsRow_keep h.nx ho.2 (by omega), h.ul, fun j h1 h2 => ownsRow_keep (h.rw j h1 h2) ho.2 (by omega), hg⟩
/-- More memory was made. -/
theorem RI.below (h : RI w1 wr g tb big l f bk st cls va vn acc us rows) (hb : Below wr.heap.size wr w2) : RI w1 w2 g tb big l f bk st cls va vn acc us rows := by
  have e : w2.heap[tb]? = wr.heap[tb]? := hb.block tb h.lt
  have hc := fun o => cell_of_block e o
  have hgr : wr.grownBy w2 none := ⟨hb.os, hb.tape, hb.output, hb.size, fun k hk _ => hb.block k hk⟩
  have hk : ∀ {b n s : Nat} {v : Value} {e : TypeId} {xs : List Value}, wr.ownsRow b e s v n xs → w2.ownsRow b e s v n xs := fun h => h.kept hgr (by
    rename_i v _ _
    cases e : v.ownBlock with
    | none => exact .inl rfl
    | some k => exact .inr (by simp))
  have hgl := h.rd.lt
  exact ⟨h.rd.below hb, h.bl.trans (hb.mono (Nat.le_of_lt hgl)), (hc 0).trans h.b0, (hc 1).trans h.b1, (hc 2).trans h.b2, (hc 3).trans h.b3, (hc 4).trans h.b4, (hc 5).trans h.b5, fun o => (frozen_of_block e o).trans (h.bf o), hk h.ac, hk h.nx, h.ul, fun j h1 h2 => hk (h.rw j h1 h2), h.gt⟩
theorem set_keep {w : World} {base n size b o : Nat} {u v : Value} {e : TypeId} {xs : List Value} (h : w.ownsRow base e size v n xs) (hb : b < base) : (w.setCell ⟨b, o, none⟩ u).ownsRow base e size v n xs := ownsRow_keep h (grown_set w b o u) hb
/-- The states' list has grown. -/
theorem RI.accs (h : RI w1 wr g tb big l f bk st cls va vn acc us rows) {va' : Value} {acc' : List Bool} (hg : wr.grownBy w2 va.ownBlock) (ho : w2.ownsRow (tb + 1) 4 1 va' acc'.length (acc'.map eB)) :
    RI w1 (w2.setCell ⟨tb, 4, none⟩ va') g tb big l f bk st cls va' vn acc' us rows ∧ w2.cell? ⟨tb, 4, none⟩ = some va ∧ w2.frozen? ⟨tb, 4, none⟩ = false := by
  have hgt := h.gt
  have hgl := h.rd.lt
  have htb : some tb ≠ va.ownBlock := fun e => by have := (h.ac.lt tb e.symm).1; omega
  have hgg : some g ≠ va.ownBlock := fun e => by have := (h.ac.lt g e.symm).1; omega
  have e : w2.heap[tb]? = wr.heap[tb]? := hg.block tb h.lt htb
  have e2 : w2.heap[g]? = wr.heap[g]? := hg.block g hgl hgg
  have hc := fun o => cell_of_block e o
  have h4 := (hc 4).trans h.b4
  refine ⟨⟨(h.rd.of_block e2).set (by omega) _ _, (h.bl.grown hg (Nat.le_of_lt hgl) (fun k e => by have := (h.ac.lt k e).1; omega)).setCell (p := ⟨tb, 4, none⟩) (Nat.le_of_lt hgt) _, ?_, ?_, ?_, ?_, ?_, ?_, fun o => ?_, set_keep ho (by omega), set_keep (h.nx.kept hg (ownsRow_apart h.nx h.ac (by decide))) (by omega), h.ul, fun j h1 h2 => set_keep ((h.rw j h1 h2).kept hg (ownsRow_apart (h.rw j h1 h2) h.ac (by decide))) (by omega), hgt⟩, h4, (frozen_of_block e 4).trans (h.bf 4)⟩
  · rw [World.cell?_setCell_other _ _ _ _ (by simp)]; exact (hc 0).trans h.b0
  · rw [World.cell?_setCell_other _ _ _ _ (by simp)]; exact (hc 1).trans h.b1
  · rw [World.cell?_setCell_other _ _ _ _ (by simp)]; exact (hc 2).trans h.b2
  · rw [World.cell?_setCell_other _ _ _ _ (by simp)]; exact (hc 3).trans h.b3
  · exact World.cell?_setCell_same _ _ _ h4
  · rw [World.cell?_setCell_other _ _ _ _ (by simp)]; exact (hc 5).trans h.b5
  · rw [World.frozen?_setCell]; exact (frozen_of_block e o).trans (h.bf o)
/-- The list of rows has grown. -/
theorem RI.nexts (h : RI w1 wr g tb big l f bk st cls va vn acc us rows) {vn' u : Value} {r : List Int} (hu : IRow wr (tb + 1) u r) (hg : wr.grownBy w2 vn.ownBlock) (ho : w2.ownsRow (tb + 1) 40 1 vn' (us ++ [u]).length (us ++ [u])) :
    RI w1 (w2.setCell ⟨tb, 5, none⟩ vn') g tb big l f bk st cls va vn' acc (us ++ [u]) (rows ++ [r]) ∧ w2.cell? ⟨tb, 5, none⟩ = some vn ∧ w2.frozen? ⟨tb, 5, none⟩ = false := by
  have hgt := h.gt
  have hgl := h.rd.lt
  have htb : some tb ≠ vn.ownBlock := fun e => by have := (h.nx.lt tb e.symm).1; omega
  have hgg : some g ≠ vn.ownBlock := fun e => by have := (h.nx.lt g e.symm).1; omega
  have e : w2.heap[tb]? = wr.heap[tb]? := hg.block tb h.lt htb
  have e2 : w2.heap[g]? = wr.heap[g]? := hg.block g hgl hgg
  have hc := fun o => cell_of_block e o
  have h5 := (hc 5).trans h.b5
  refine ⟨⟨(h.rd.of_block e2).set (by omega) _ _, (h.bl.grown hg (Nat.le_of_lt hgl) (fun k e => by have := (h.nx.lt k e).1; omega)).setCell (p := ⟨tb, 5, none⟩) (Nat.le_of_lt hgt) _, ?_, ?_, ?_, ?_, ?_, ?_, fun o => ?_, set_keep (h.ac.kept hg (ownsRow_apart h.ac h.nx (by decide))) (by omega), set_keep ho (by omega), by simp [h.ul], fun j h1 h2 => ?_, hgt⟩, h5, (frozen_of_block e 5).trans (h.bf 5)⟩
  · rw [World.cell?_setCell_other _ _ _ _ (by simp)]; exact (hc 0).trans h.b0
  · rw [World.cell?_setCell_other _ _ _ _ (by simp)]; exact (hc 1).trans h.b1
  · rw [World.cell?_setCell_other _ _ _ _ (by simp)]; exact (hc 2).trans h.b2
  · rw [World.cell?_setCell_other _ _ _ _ (by simp)]; exact (hc 3).trans h.b3
  · rw [World.cell?_setCell_other _ _ _ _ (by simp)]; exact (hc 4).trans h.b4
  · exact World.cell?_setCell_same _ _ _ h5
  · rw [World.frozen?_setCell]; exact (frozen_of_block e o).trans (h.bf o)
  · have hul := h.ul
    by_cases hj : j < us.length
    · have := set_keep (b := tb) (o := 5) (u := vn') ((h.rw j hj (by omega)).kept hg (ownsRow_apart (h.rw j hj (by omega)) h.nx (by decide))) (by omega)
      rw [List.getElem_append_left hj, List.getElem_append_left (by omega)]
      exact this
    · have := set_keep (b := tb) (o := 5) (u := vn') (hu.kept hg (ownsRow_apart hu h.nx (by decide))) (by omega)
      have e1 : (us ++ [u])[j] = u := by rw [List.getElem_append_right (by omega)]; simp
      have e2 : (rows ++ [r])[j] = r := by rw [List.getElem_append_right (by omega)]; simp
      rw [e1, e2]
      exact this
/-- The table that stands there. -/
theorem RI.tab (h : RI w1 wr g tb big l f bk st cls va vn acc us rows) : TabIn wr ⟨f, bk, st, cls, acc, rows⟩ va vn := by
  have key : ∀ {α : Type} {enc : α → Value} {b : Nat} {e : TypeId} {v : Value} {xs : List α}, wr.ownsRow b e 1 v xs.length (xs.map enc) → RowE enc wr v xs := by
    intro α enc b e v xs h
    rcases h.2 with ⟨rfl, hn⟩ | ⟨k, cap, cur, rfl, _⟩
    · exact .inl ⟨List.length_eq_zero_iff.1 hn, _, _, rfl⟩
    · refine .inr ⟨k, 0, cap, rfl, fun j hj => ?_⟩
      rw [Nat.zero_add, h.cellAt j (by omega)]
      simp [hj]
  refine ⟨key h.ac, us, h.ul, key (enc := id) (by simpa using h.nx), fun j h1 h2 => key (h.rw j h1 h2)⟩
end
theorem Rdr.setBig {w : World} {g : Nat} {l : List UInt8} (h : Rdr w g false l) (b : Bool) : Rdr (w.setCell ⟨g, 0, none⟩ (.bool b)) g b l :=
  ⟨World.cell?_setCell_same _ _ _ h.c0, by rw [World.cell?_setCell_other _ _ _ _ (by simp)]; exact h.c1, fun o => by rw [World.frozen?_setCell]; exact h.fz o, h.sz⟩
theorem Rdr.new (w : World) (l : List UInt8) (hl : l.length ≤ maxLen) : Rdr (w.alloc (.cells #[.bool false, .string (ba l)] 211)) w.heap.size false l :=
  ⟨by simp [go_sem], by simp [go_sem], fun o => by simp [go_sem], hl⟩
theorem and_u8_1 (e : Nat) (h : e < 256) : (bits .and .u8 (e : Int) 1 != 0) = (e % 2 == 1) := by
  have := (bits_nat .u8 8 (by decide) (fun n h1 h2 => by rw [IntKind.wrap_u8]; omega) e 1 h (by omega)).1
  rw [show ((1 : Nat) : Int) = 1 from rfl] at this
  rw [this, Nat.and_one_is_mod]
  rcases Nat.mod_two_eq_zero_or_one e with q | q <;> rw [q] <;> rfl
set_option maxRecDepth 100000 in
theorem and_u8_2 (e : Nat) (h : e < 256) : (bits .and .u8 (e : Int) 2 != 0) = (e / 2 % 2 == 1) := by
  have := (bits_nat .u8 8 (by decide) (fun n h1 h2 => by rw [IntKind.wrap_u8]; omega) e 2 h (by omega)).1
  rw [show ((2 : Nat) : Int) = 2 from rfl] at this
  rw [this]
  have H : ∀ i : Fin 256, ((((i.val &&& 2 : Nat) : Int)) != 0) = (i.val / 2 % 2 == 1) := by decide
  exact H ⟨e, h⟩
end Go.Proofs.YtbjabpodkaokjaaGreatDoor
