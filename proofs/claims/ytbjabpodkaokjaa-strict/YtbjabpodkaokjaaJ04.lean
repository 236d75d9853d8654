import Derived.Test.YtbjabpodkaokjaaJ02
import Derived.Test.YtbjabpodkaokjaaJ01
import Derived.Test.YtbjabpodkaokjaaJ03
import Derived.OwnWalk
import Derived.BigRegion
import Derived.Deep.QuietTactic
import Derived.Deep.RegionLaw
import Derived.Lib.LazyBuf
import Derived.Great.BuildSlice
set_option linter.unusedVariables false
set_option linter.unusedSimpArgs false
namespace Go.Proofs.Ytbjabpodkaokjaa
open Go.RowKit

/-- A list in memory. -/
def RowE {α : Type} (enc : α → Value) (w : World) (v : Value) (l : List α) : Prop :=
  (l = [] ∧ ∃ a c, v = .slice a 0 c) ∨ ∃ b o c, v = .slice (some ⟨b, o, none⟩) l.length c ∧ ∀ j (hj : j < l.length), w.cell? ⟨b, o + j, none⟩ = some (enc l[j])
theorem RowE.form {α : Type} {enc : α → Value} {w : World} {v : Value} {l : List α} (h : RowE enc w v l) : ∃ a c, v = .slice a l.length c := by
  rcases h with ⟨rfl, a, c, rfl⟩ | ⟨b, o, c, rfl, _⟩
  · exact ⟨a, c, rfl⟩
  · exact ⟨_, c, rfl⟩
theorem RowE.nonnil {α : Type} {enc : α → Value} {w : World} {v : Value} {l : List α} (h : RowE enc w v l) (hl : 0 < l.length) : ∃ b o c, v = .slice (some ⟨b, o, none⟩) l.length c ∧ ∀ j (hj : j < l.length), w.cell? ⟨b, o + j, none⟩ = some (enc l[j]) := by
  rcases h with ⟨rfl, _⟩ | h
  · simp at hl
  · exact h
theorem cell_lt {w : World} {b o : Nat} {v : Value} (h : w.cell? ⟨b, o, none⟩ = some v) : b < w.heap.size := by
  rcases Nat.lt_or_ge b w.heap.size with q | q
  · exact q
  · simp [World.cell?, Array.getElem?_eq_none q] at h
theorem cell_below {w w' : World} {b o : Nat} {v : Value} (hb : Below w.heap.size w w') (h : w.cell? ⟨b, o, none⟩ = some v) : w'.cell? ⟨b, o, none⟩ = some v := by
  have e := hb.block b (cell_lt h)
  simp only [World.cell?] at h ⊢
  rw [e]; exact h
theorem RowE.below {α : Type} {enc : α → Value} {w w' : World} {v : Value} {l : List α} (h : RowE enc w v l) (hb : Below w.heap.size w w') : RowE enc w' v l := by
  rcases h with h | ⟨b, o, c, rfl, hc⟩
  · exact .inl h
  · exact .inr ⟨b, o, c, rfl, fun j hj => cell_below hb (hc j hj)⟩
/-- A list of lists in memory. -/
def RowsE {α : Type} (enc : α → Value) (w : World) (v : Value) (ls : List (List α)) : Prop :=
  ∃ us : List Value, us.length = ls.length ∧ RowE id w v us ∧ ∀ j (h1 : j < us.length) (h2 : j < ls.length), RowE enc w us[j] ls[j]
theorem RowsE.below {α : Type} {enc : α → Value} {w w' : World} {v : Value} {ls : List (List α)} (h : RowsE enc w v ls) (hb : Below w.heap.size w w') : RowsE enc w' v ls := by
  obtain ⟨us, h1, h2, h3⟩ := h
  exact ⟨us, h1, h2.below hb, fun j a b => (h3 j a b).below hb⟩
abbrev eI (z : Int) : Value := .int .i64 z
abbrev eB (b : Bool) : Value := .bool b
abbrev e8 (z : Int) : Value := .int .u8 z
abbrev ba (l : List UInt8) : ByteArray := ⟨l.toArray⟩
theorem ba_size (l : List UInt8) : (ba l).size = l.length := by simp [ByteArray.size]
theorem ba_list (l : List UInt8) : (ba l).data.toList = l := rfl
/-- A table as a value, and its lists in memory. -/
abbrev tv (t : Tb) (va vn : Value) : Value := .agg #[.bool t.front, .bool t.back, .int .i64 t.start, .string (ba t.cls), va, vn]
structure TabIn (w : World) (t : Tb) (va vn : Value) : Prop where
  acc : RowE eB w va t.acc
  next : RowsE eI w vn t.next
theorem TabIn.below {w w' : World} {t : Tb} {va vn : Value} (h : TabIn w t va vn) (hb : Below w.heap.size w w') : TabIn w' t va vn := ⟨h.acc.below hb, h.next.below hb⟩
/-- The numbers of a table that the machine can hold. -/
structure Small (t : Tb) : Prop where
  a : t.acc.length ≤ maxLen
  n : t.next.length ≤ maxLen
  r : ∀ r ∈ t.next, r.length ≤ maxLen
  c : t.cls.length ≤ maxLen

def rowOk (c : Nat) (n : Nat) (r : List Int) : Bool := r.length == c && r.all fun z => isSt z n
def isTb (t : Tb) : Bool :=
  decide (1 ≤ t.acc.length) && (decide (t.acc.length ≤ 200) && (decide (t.next.length = t.acc.length) && (isSt t.start t.acc.length && match cntR (ba t.cls) with
    | none => false
    | some c => t.next.all (rowOk c t.acc.length))))

set_option maxRecDepth 4000 in
set_option maxHeartbeats 1000000 in
theorem isTable_any (w : World) (t : Tb) (va vn : Value) (h : TabIn w t va vn) (hs : Small t) :
    Calls Try.prog 33 #[tv t va vn] w fun e w' => e = .returned (.bool (isTb t)) ∧ Below w.heap.size w w' := by
  obtain ⟨ha, hn⟩ := h
  obtain ⟨s1, s2, s3, s4⟩ := hs
  obtain ⟨a, ca, rfl⟩ := ha.form
  obtain ⟨us, hul, hu, hr⟩ := hn
  obtain ⟨f, b, st, cls, acc, next⟩ := t
  simp only at *
  obtain ⟨an, cn, rfl⟩ := hu.form
  obtain ⟨na, hna⟩ : ∃ na, na = acc.length := ⟨_, rfl⟩
  obtain ⟨nn, hnn⟩ : ∃ nn, nn = us.length := ⟨_, rfl⟩
  have HT : Hid (isTb ⟨f, b, st, cls, acc, next⟩ = (decide (1 ≤ na) && (decide (na ≤ 200) && (decide (nn = na) && (isSt st na && match cntR (ba cls) with | none => false | some c => next.all (rowOk c na)))))) := by
    show _ = _
    rw [hna, hnn, hul]; rfl
  rw [← hna] at s1 ⊢
  rw [← hnn] at hul hu ⊢
  have HB : Hid (Below w.heap.size w (w.alloc (.cells #[.bool f, .bool b, .int .i64 st, .string (ba cls), .slice a na ca, .slice an nn cn] 30))) := (Below.refl _ _).alloc (Nat.le_refl _) _
  have hU : Hid (RowE id (w.alloc (.cells #[.bool f, .bool b, .int .i64 st, .string (ba cls), .slice a na ca, .slice an nn cn] 30)) (.slice an nn cn) us) := hu.below HB.out
  have hRw : Hid (∀ j (h1 : j < us.length) (h2 : j < next.length), RowE eI (w.alloc (.cells #[.bool f, .bool b, .int .i64 st, .string (ba cls), .slice a na ca, .slice an nn cn] 30)) us[j] next[j]) := fun j h1 h2 => (hr j h1 h2).below HB.out
  unfold maxLen at s1 s2 s3 s4
  have HUL : Hid (nn = next.length) := hul
  have HNN : Hid (nn = us.length) := hnn
  rw [← hul] at s2
  clear hna ha hu hr hul hnn
  by_cases h1 : (na : Int) < 1
  · have HF : Hid (isTb ⟨f, b, st, cls, acc, next⟩ = false) := by
      show _ = _
      rw [HT.out, decide_eq_false (by omega)]; rfl
    clear HT
    go_enter Try.func33, Try.ntmps33
    go_wp2
    go_ret
    exact ⟨ret_bool HF.out.symm, HB.out⟩
  by_cases h2 : 200 < (na : Int)
  · have HF : Hid (isTb ⟨f, b, st, cls, acc, next⟩ = false) := by
      show _ = _
      rw [HT.out, decide_eq_false (p := na ≤ 200) (by omega)]; simp
    clear HT
    go_enter Try.func33, Try.ntmps33
    go_wp2
    go_ret
    exact ⟨ret_bool HF.out.symm, HB.out⟩
  by_cases h3 : (nn : Int) = na
  rotate_left
  · have HF : Hid (isTb ⟨f, b, st, cls, acc, next⟩ = false) := by
      show _ = _
      rw [HT.out, decide_eq_false (p := nn = na) (by omega)]; simp
    have h3' : ((nn : Int) != na) = true := by simpa using h3
    clear HT
    go_enter Try.func33, Try.ntmps33
    go_wp2
    go_ret
    exact ⟨ret_bool HF.out.symm, HB.out⟩
  have h3' : ((nn : Int) != na) = false := by simpa using h3
  cases h4 : isSt st na with
  | false =>
    have HF : Hid (isTb ⟨f, b, st, cls, acc, next⟩ = false) := by
      show _ = _
      rw [HT.out, h4]; simp
    clear HT
    have hst := isState_any st na
    rw [h4] at hst
    go_enter Try.func33, Try.ntmps33
    go_wp2_with (go_at_call 51; refine (hst _).mono ?_; rintro e w1 ⟨rfl, hw⟩; obtain rfl := hw.symm)
    go_ret
    exact ⟨ret_bool HF.out.symm, HB.out⟩
  | true =>
  have hst := isState_any st na
  rw [h4] at hst
  have hcc := countClasses_any (ba cls) (by rw [ba_size]; unfold maxLen; exact s4)
  cases h5 : cntR (ba cls) with
  | none =>
    have HF : Hid (isTb ⟨f, b, st, cls, acc, next⟩ = false) := by
      show _ = _
      rw [HT.out, h5]; simp
    rw [h5] at hcc
    clear HT
    go_enter Try.func33, Try.ntmps33
    go_wp2_with (first | (go_at_call 52; refine (hcc _).mono ?_; rintro e w2 ⟨rfl, hw2⟩; obtain rfl := hw2.symm) | (go_at_call 51; refine (hst _).mono ?_; rintro e w1 ⟨rfl, hw⟩; obtain rfl := hw.symm))
    go_ret
    exact ⟨ret_bool HF.out.symm, HB.out⟩
  | some c =>
  rw [h5] at hcc
  have HF : Hid (isTb ⟨f, b, st, cls, acc, next⟩ = next.all (rowOk c na)) := by
    show _ = _
    rw [HT.out, h5, h4, decide_eq_true (p := 1 ≤ na) (by omega), decide_eq_true (p := na ≤ 200) (by omega), decide_eq_true (p := nn = na) (by omega)]; simp
  have hc256 : c ≤ 256 := by
    unfold cntR at h5
    split at h5
    · have := cntC_le _ _ _ h5; omega
    · simp at h5
  clear HT h5
  simp only [Option.getD_some, Option.isSome_some] at hcc
  obtain ⟨wx, hwx⟩ : ∃ wx, wx = w.alloc (.cells #[.bool f, .bool b, .int .i64 st, .string (ba cls), .slice a na ca, .slice an nn cn] 30) := ⟨_, rfl⟩
  rw [← hwx] at HB hU hRw
  have HW : Hid (wx = w.alloc (.cells #[.bool f, .bool b, .int .i64 st, .string (ba cls), .slice a na ca, .slice an nn cn] 30)) := hwx
  obtain ⟨bn, on, cn', hvn, hcell⟩ := hU.out.nonnil (by have := HNN.out; omega)
  injection hvn with e1 e2 e3
  subst e1
  have HC : Hid (∀ j (hj : j < us.length), wx.cell? ⟨bn, on + j, none⟩ = some us[j]) := hcell
  clear hcell e2 e3 hU hwx
  go_enter Try.func33, Try.ntmps33
  go_wp2_with (first | (go_at_call 52; refine (hcc _).mono ?_; rintro e w2 ⟨rfl, hw2⟩; obtain rfl := hw2.symm) | (go_at_call 51; refine (hst _).mono ?_; rintro e w1 ⟨rfl, hw⟩; obtain rfl := hw.symm))
  rw [← HW.out]
  go_loop [42] (fun i => ∃ k : Nat, i = .int .i64 k ∧ k ≤ nn ∧ next.all (rowOk c na) = (next.drop k).all (rowOk c na)) (fun i => nn - (intOf i).toNat)
  case atStart => exact ⟨0, rfl, Nat.zero_le _, rfl⟩
  case round =>
    obtain ⟨k, rfl, hk, heq⟩ := hrel
    have HE : Hid (next.all (rowOk c na) = (next.drop k).all (rowOk c na)) := heq
    clear heq
    by_cases hlt : k < nn
    · have hlt1 : k < us.length := by have := HNN.out; omega
      have hlt2 : k < next.length := by have := HUL.out; omega
      have hltI : (k : Int) < nn := by omega
      have hck := HC.out k hlt1
      have hrk := hRw.out k hlt1 hlt2
      have hlen : next[k].length ≤ 9223372036854775807 := s3 _ (List.getElem_mem hlt2)
      obtain ⟨u, hu⟩ : ∃ u, u = us[k] := ⟨_, rfl⟩
      obtain ⟨r, hre⟩ : ∃ r, r = next[k] := ⟨_, rfl⟩
      rw [← hu] at hck hrk
      rw [← hre] at hrk hlen
      have HD : Hid (next.all (rowOk c na) = (rowOk c na r && (next.drop (k + 1)).all (rowOk c na))) := by
        show _ = _
        have := HE.out; rw [List.drop_eq_getElem_cons hlt2, ← hre] at this; simpa only [List.all_cons] using this
      have has := areStates_any u r na wx hrk (by unfold maxLen; exact hlen)
      obtain ⟨au, cu, hform⟩ := hrk.form
      subst hform
      clear hu hre hrk
      by_cases hc : (r.length : Int) = c
      · have hcb : ((r.length : Int) != c) = false := by simpa using hc
        cases hal : r.all fun z => isSt z na with
        | true =>
          rw [hal] at has
          have HQ : Hid (next.all (rowOk c na) = (next.drop (k + 1)).all (rowOk c na)) := by
            show _ = _
            rw [HD.out]; simp only [rowOk]; rw [hal]; simp; omega
          clear hal
          go_wp2_with (go_at_call 53; refine has.mono ?_; rintro e w3 ⟨rfl, hw3⟩; obtain rfl := hw3.symm)
          go_round
          case rel => exact ⟨k + 1, by go_num, by omega, HQ.out⟩
          case measure => simp [intOf] <;> omega
        | false =>
          rw [hal] at has
          have HQ : Hid (next.all (rowOk c na) = false) := by
            show _ = _
            rw [HD.out]; simp only [rowOk]; rw [hal]; simp
          clear hal
          go_wp2_with (go_at_call 53; refine has.mono ?_; rintro e w3 ⟨rfl, hw3⟩; obtain rfl := hw3.symm)
          go_ret
          exact ⟨ret_bool (by rw [HF.out, HQ.out]), HB.out⟩
      · have hcb : ((r.length : Int) != c) = true := by simpa using hc
        have HQ : Hid (next.all (rowOk c na) = false) := by
          show _ = _
          rw [HD.out]; simp only [rowOk]; rw [show (r.length == c) = false by simp; omega]; simp
        clear has
        go_wp2
        go_ret
        exact ⟨ret_bool (by rw [HF.out, HQ.out]), HB.out⟩
    · have hkI : ¬ (k : Int) < nn := by omega
      have HQ : Hid (next.all (rowOk c na) = true) := by
        show _ = _
        rw [HE.out, List.drop_of_length_le (by have := HUL.out; omega)]; rfl
      go_wp2
      go_ret
      exact ⟨ret_bool (by rw [HF.out, HQ.out]), HB.out⟩
end Go.Proofs.Ytbjabpodkaokjaa

namespace Go.Proofs.Ytbjabpodkaokjaa
open Go.RowKit

def mkA (n : Nat) (z : Value) : Array Value := madeCells z.cells n
theorem made_one {z : Value} (hz : z.cells = #[z]) (n j : Nat) (hj : j < n) : (mkA n z)[j]? = some z := by
  simp [mkA, madeCells, hz, hj, Nat.mod_one]
theorem make_eq {t e : TypeId} {i : TypeInfo} {z : Value} {b : Nat} (ht : Try.prog.underlying t = some (.slice e)) (hi : Try.prog.info? e = some i) (hz : i.zero = some z) (h1 : i.size = 1) (h2 : i.bytes = b) (n : Nat) (hn : b * n ≤ 281474976710656) (hm : n ≤ maxLen) (w : World) :
    (Instr.makeSlice t (.int .i64 (n : Int)) (.int .i64 (n : Int))).run Try.prog w = .ok (.slice (some ⟨w.heap.size, 0, none⟩) n n) (w.alloc (.cells (mkA n z) e)) := by
  have hb' : (i.bytes : Int) * (n : Int) ≤ 281474976710656 := by
    have h : ((i.bytes * n : Nat) : Int) ≤ 281474976710656 := by rw [h2]; omega
    rwa [Int.natCast_mul] at h
  have hr := run_make (P := Try.prog) w t e i z ht hi hz .i64 .i64 n n (by omega) (Int.le_refl _) hb' (by simp [maxLen] at hm; omega)
  simp only [Int.toNat_natCast, h1, Nat.mul_one] at hr
  exact hr
theorem Try.infoI : (Try.prog.info? 3).map (fun i => (i.zero, i.size, i.bytes)) = some (some (.int .i64 0), 1, 8) := by kernel_rfl
theorem Try.infoB : (Try.prog.info? 4).map (fun i => (i.zero, i.size, i.bytes)) = some (some (.bool false), 1, 1) := by kernel_rfl
theorem Try.infoU8 : (Try.prog.info? 5).map (fun i => (i.zero, i.size, i.bytes)) = some (some (.int .u8 0), 1, 1) := by kernel_rfl
theorem Try.infoSt : (Try.prog.info? 70).map (fun i => (i.zero, i.size, i.bytes)) = some (some (.int .u8 0), 1, 1) := by kernel_rfl
theorem Try.infoLI : (Try.prog.info? 39).map (fun i => (i.zero, i.size, i.bytes)) = some (some (.slice none 0 0), 1, 24) := by kernel_rfl
theorem Try.infoLS : (Try.prog.info? 79).map (fun i => (i.zero, i.size, i.bytes)) = some (some (.slice none 0 0), 1, 24) := by kernel_rfl

/-- A list of the call's own in block g. -/
structure Nw (w : World) (g n : Nat) (f : Nat → Value) : Prop where
  c : ∀ j, j < n → w.cell? ⟨g, j, none⟩ = some (f j)
  fz : ∀ o, w.frozen? ⟨g, o, none⟩ = false
theorem Nw.new (w : World) (n : Nat) (z : Value) (hz : z.cells = #[z]) (e : TypeId) : Nw (w.alloc (.cells (mkA n z) e)) w.heap.size n (fun _ => z) :=
  ⟨fun j hj => by rw [World.cell?_alloc_at _ _ _ _ rfl]; exact made_one hz n j hj, fun o => by simp [go_sem]⟩
theorem Nw.set {w : World} {g n : Nat} {f : Nat → Value} (h : Nw w g n f) (k : Nat) (hk : k < n) (v : Value) : Nw (w.setCell ⟨g, k, none⟩ v) g n (fun j => if j = k then v else f j) := by
  refine ⟨fun j hj => ?_, fun o => by simpa using h.fz o⟩
  by_cases e : j = k
  · subst e; rw [World.cell?_setCell_same _ _ _ (h.c j hj)]; simp
  · rw [World.cell?_setCell_other _ _ _ _ (by first | (simp; done) | (simp; omega)), h.c j hj]; simp [e]
theorem Nw.congr {w : World} {g n : Nat} {f f' : Nat → Value} (h : Nw w g n f) (e : ∀ j, j < n → f j = f' j) : Nw w g n f' := ⟨fun j hj => by rw [h.c j hj, e j hj], h.fz⟩
theorem Nw.of_block {w w' : World} {g n : Nat} {f : Nat → Value} (h : Nw w g n f) (e : w'.heap[g]? = w.heap[g]?) : Nw w' g n f :=
  ⟨fun j hj => by have := h.c j hj; simp only [World.cell?] at this ⊢; rw [e]; exact this, fun o => by have := h.fz o; simp only [World.frozen?] at this ⊢; rw [e]; exact this⟩
theorem Nw.row {α : Type} {w : World} {g : Nat} {l : List α} {enc : α → Value} {c : Nat} {f : Nat → Value} (h : Nw w g l.length f) (e : ∀ j (hj : j < l.length), f j = enc l[j]) : RowE enc w (.slice (some ⟨g, 0, none⟩) l.length c) l :=
  .inr ⟨g, 0, c, rfl, fun j hj => by rw [Nat.zero_add, h.c j hj, e j hj]⟩
theorem wrap8 (z : Int) (h : 0 ≤ z ∧ z < 256) : IntKind.u8.wrap z = z := by
  rw [IntKind.wrap_u8]; omega

set_option maxRecDepth 4000 in
set_option maxHeartbeats 400000 in
theorem conv8_any (w : World) (v : Value) (zs : List Int) (hv : RowE eI w v zs) (hl : zs.length ≤ 65536) (hz : ∀ z ∈ zs, 0 ≤ z ∧ z < 256) :
    Calls Try.prog 34 #[v] w fun e w' => ∃ g, e = .returned (.slice (some ⟨g, 0, none⟩) zs.length zs.length) ∧ w.heap.size ≤ g ∧ g < w'.heap.size ∧ Nw w' g zs.length (fun j => e8 (zs[j]?.getD 0)) ∧ Below w.heap.size w w' := by
  obtain ⟨i0, hi, hz0, hz1, hz2⟩ := info_parts Try.infoSt
  have hmk := fun n hn hm w => make_eq Try.underlying79 hi hz0 hz1 hz2 n hn hm w
  obtain ⟨a, c, hform⟩ := hv.form
  subst hform
  obtain ⟨n, hn⟩ : ∃ n, n = zs.length := ⟨_, rfl⟩
  have HN : Hid (n = zs.length) := hn
  rw [← hn] at hl ⊢
  have hmk1 := hmk n (by omega) (by unfold maxLen; omega)
  clear hmk
  have hB : Below w.heap.size w (w.alloc (.cells (mkA n (.int .u8 0)) 70)) := (Below.refl _ _).alloc (Nat.le_refl _) _
  have HV : Hid (RowE eI w (.slice a n c) zs) := by show RowE _ _ _ _; rw [hn]; exact hv
  have HNW : Hid (Nw (w.alloc (.cells (mkA n (.int .u8 0)) 70)) w.heap.size n (fun _ => .int .u8 0)) := Nw.new w n _ rfl _
  clear hn hv
  go_enter Try.func34, Try.ntmps34
  go_wp2
  go_loopw [11] (fun i wr => ∃ k : Nat, i = .int .i64 k ∧ k ≤ n ∧ Nw wr w.heap.size n (fun j => if j < k then e8 (zs[j]?.getD 0) else .int .u8 0) ∧ Below w.heap.size w wr ∧ w.heap.size < wr.heap.size) (fun i _ => n - (intOf i).toNat)
  case atStart => exact ⟨0, rfl, Nat.zero_le _, HNW.out.congr (fun j _ => by simp), hB, by simp⟩
  case round =>
    obtain ⟨k, rfl, hk, hnw, hbl, hsz⟩ := hrel
    have HSZ : Hid (w.heap.size < wr.heap.size) := hsz
    clear hsz
    have HW : Hid (Nw wr w.heap.size n (fun j => if j < k then e8 (zs[j]?.getD 0) else .int .u8 0)) := hnw
    have HBL : Hid (Below w.heap.size w wr) := hbl
    clear hnw hbl
    by_cases hlt : k < n
    · have hlt1 : k < zs.length := by have := HN.out; omega
      have hltI : (k : Int) < n := by omega
      obtain ⟨b, o, c', hform, hcell⟩ := (HV.out.below HBL.out).nonnil (by omega)
      injection hform with e1 e2 e3
      subst e1
      have hck := hcell k hlt1
      obtain ⟨z, hzk⟩ : ∃ z, z = zs[k] := ⟨_, rfl⟩
      rw [← hzk] at hck
      have HZ : Hid (z = zs[k]) := hzk
      have hw8 := wrap8 z (hz _ (by rw [hzk]; exact List.getElem_mem _))
      have hc0 := HW.out.c k hlt
      simp only [Nat.lt_irrefl, if_false] at hc0
      have hf0 := HW.out.fz k
      clear hcell hzk e2 e3
      go_wp2
      go_roundw
      case rel =>
        refine ⟨k + 1, by go_num, by omega, (HW.out.set k hlt _).congr (fun j hj => ?_), HBL.out.setCell (p := ⟨w.heap.size, k, none⟩) (Nat.le_refl _) _, by have := HSZ.out; simpa [World.setCell] using this⟩
        by_cases e : j = k
        · subst e; simp [HZ.out, hlt1]
        · simp only [e, if_false]
          by_cases h2 : j < k
          · rw [if_pos h2, if_pos (by omega)]
          · rw [if_neg h2, if_neg (by omega)]
      case measure => simp [intOf] <;> omega
    · have hkI : ¬ (k : Int) < n := by omega
      go_wp2
      go_ret
      exact ⟨_, rfl, Nat.le_refl _, HSZ.out, HW.out.congr (fun j hj => by rw [if_pos (by omega)]), HBL.out⟩

set_option maxRecDepth 4000 in
set_option maxHeartbeats 400000 in
theorem convI_any (w : World) (v : Value) (zs : List Int) (hv : RowE e8 w v zs) (hl : zs.length ≤ 65536) (hz : ∀ z ∈ zs, 0 ≤ z ∧ z < 256) :
    Calls Try.prog 41 #[v] w fun e w' => ∃ g, e = .returned (.slice (some ⟨g, 0, none⟩) zs.length zs.length) ∧ w.heap.size ≤ g ∧ g < w'.heap.size ∧ Nw w' g zs.length (fun j => eI (zs[j]?.getD 0)) ∧ Below w.heap.size w w' := by
  obtain ⟨i0, hi, hz0, hz1, hz2⟩ := info_parts Try.infoI
  have hmk := fun n hn hm w => make_eq Try.underlying39 hi hz0 hz1 hz2 n hn hm w
  obtain ⟨a, c, hform⟩ := hv.form
  subst hform
  obtain ⟨n, hn⟩ : ∃ n, n = zs.length := ⟨_, rfl⟩
  have HN : Hid (n = zs.length) := hn
  rw [← hn] at hl ⊢
  have hmk1 := hmk n (by omega) (by unfold maxLen; omega)
  clear hmk
  have hB : Below w.heap.size w (w.alloc (.cells (mkA n (.int .i64 0)) 3)) := (Below.refl _ _).alloc (Nat.le_refl _) _
  have HV : Hid (RowE e8 w (.slice a n c) zs) := by show RowE _ _ _ _; rw [hn]; exact hv
  have HNW : Hid (Nw (w.alloc (.cells (mkA n (.int .i64 0)) 3)) w.heap.size n (fun _ => .int .i64 0)) := Nw.new w n _ rfl _
  clear hn hv
  go_enter Try.func41, Try.ntmps41
  go_wp2
  go_loopw [11] (fun i wr => ∃ k : Nat, i = .int .i64 k ∧ k ≤ n ∧ Nw wr w.heap.size n (fun j => if j < k then eI (zs[j]?.getD 0) else .int .i64 0) ∧ Below w.heap.size w wr ∧ w.heap.size < wr.heap.size) (fun i _ => n - (intOf i).toNat)
  case atStart => exact ⟨0, rfl, Nat.zero_le _, HNW.out.congr (fun j _ => by simp), hB, by simp⟩
  case round =>
    obtain ⟨k, rfl, hk, hnw, hbl, hsz⟩ := hrel
    have HSZ : Hid (w.heap.size < wr.heap.size) := hsz
    clear hsz
    have HW : Hid (Nw wr w.heap.size n (fun j => if j < k then eI (zs[j]?.getD 0) else .int .i64 0)) := hnw
    have HBL : Hid (Below w.heap.size w wr) := hbl
    clear hnw hbl
    by_cases hlt : k < n
    · have hlt1 : k < zs.length := by have := HN.out; omega
      have hltI : (k : Int) < n := by omega
      obtain ⟨b, o, c', hform, hcell⟩ := (HV.out.below HBL.out).nonnil (by omega)
      injection hform with e1 e2 e3
      subst e1
      have hck := hcell k hlt1
      obtain ⟨z, hzk⟩ : ∃ z, z = zs[k] := ⟨_, rfl⟩
      rw [← hzk] at hck
      have HZ : Hid (z = zs[k]) := hzk
      have hzr := hz _ (show z ∈ zs by rw [hzk]; exact List.getElem_mem _)
      have hw8 : IntKind.i64.wrap z = z := by rw [IntKind.wrap_i64]; omega
      have hc0 := HW.out.c k hlt
      simp only [Nat.lt_irrefl, if_false] at hc0
      have hf0 := HW.out.fz k
      clear hcell hzk e2 e3
      go_wp2
      go_roundw
      case rel =>
        refine ⟨k + 1, by go_num, by omega, (HW.out.set k hlt _).congr (fun j hj => ?_), HBL.out.setCell (p := ⟨w.heap.size, k, none⟩) (Nat.le_refl _) _, by have := HSZ.out; simpa [World.setCell] using this⟩
        by_cases e : j = k
        · subst e; simp [HZ.out, hlt1]
        · simp only [e, if_false]
          by_cases h2 : j < k
          · rw [if_pos h2, if_pos (by omega)]
          · rw [if_neg h2, if_neg (by omega)]
      case measure => simp [intOf] <;> omega
    · have hkI : ¬ (k : Int) < n := by omega
      go_wp2
      go_ret
      exact ⟨_, rfl, Nat.le_refl _, HSZ.out, HW.out.congr (fun j hj => by rw [if_pos (by omega)]), HBL.out⟩
end Go.Proofs.Ytbjabpodkaokjaa

namespace Go.Proofs.Ytbjabpodkaokjaa
open Go.RowKit

def rg (n : Nat) (z : Value) : List Value := (List.range n).map fun _ => z
theorem rg_len (n : Nat) (z : Value) : (rg n z).length = n := by simp [rg]
theorem rg_get (n : Nat) (z : Value) (j : Nat) (h : j < n) : (rg n z)[j]? = some z := by simp [rg, h]
/-- An automaton's cells, as it is laid first. -/
def auA (f b : Bool) (s : Int) (v : Value) : Array Value := ([Value.bool f, .bool b, .int .u8 s] ++ rg 256 (Value.int .u8 0) ++ rg 4 (Value.int .u64 0) ++ [v]).toArray
theorem auA_built (f b : Bool) (s : Int) (a : Option Addr) (n c : Nat) : Try.prog.built 78 [(0, .bool f), (1, .bool b), (2, .int .u8 s), (5, .slice a n c)] = some (auA f b s (.slice a n c)) := by kernel_rfl
def zA : Array Value := auA false false 0 (.slice none 0 0)
theorem zA_size : zA.size = 264 := by kernel_rfl
theorem zA_ne : (zA = #[]) = False := by
  have := zA_size
  simp only [eq_iff_iff, iff_false]
  intro e
  rw [e] at this
  simp at this
theorem Try.infoAu : (Try.prog.info? 78).map (fun i => (i.zero, i.size)) = some (some (.agg zA), 264) := by kernel_rfl
theorem zA_run (w : World) : (zeroValue 78).run Try.prog w = .ok (.agg zA) w := by
  have h := Try.infoAu
  cases hi : Try.prog.info? 78 with
  | none => simp [hi] at h
  | some i =>
    simp only [hi, Option.map_some, Option.some.injEq, Prod.mk.injEq] at h
    simp [zeroValue, typeInfo, hi, h.1]
theorem zA_set (f b : Bool) (s : Int) (a : Option Addr) (n c : Nat) : (((zA.setIfInBounds 0 (.bool f)).setIfInBounds 1 (.bool b)).setIfInBounds 2 (.int .u8 s)).setIfInBounds 263 (.slice a n c) = auA f b s (.slice a n c) := by kernel_rfl
end Go.Proofs.Ytbjabpodkaokjaa
