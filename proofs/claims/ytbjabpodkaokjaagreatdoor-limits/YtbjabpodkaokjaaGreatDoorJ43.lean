import Derived.Test.YtbjabpodkaokjaaGreatDoorJ42
import Derived.Test.YtbjabpodkaokjaaGreatDoorJ13
import Derived.Test.YtbjabpodkaokjaaGreatDoorJ22
set_option linter.unusedVariables false
set_option linter.unusedSimpArgs false
namespace Go.Proofs.YtbjabpodkaokjaaGreatDoor
open Go.RowKit

/-- The calls that Limits makes first. -/
structure LmC (w : World) (s : ByteArray) (limit more : Int) (a b : Nat) (ga gb : World → World → Ending → Prop) (sx : ByteArray) (x y : Int) : Prop where
  pl : Calls Tryz.prog 20 #[] w fun e w' => e = .returned (.bool true) ∧ Below w.heap.size w w'
  p1 : ∀ W, Calls Tryz.prog 21 #[.int .i64 limit, .int .i64 200] W fun e w' => e = .returned (.int .i64 (a : Int)) ∧ w' = W
  p2 : ∀ W, Calls Tryz.prog 21 #[.int .i64 more, .int .i64 (200 - (1 + (a : Int)) + 1)] W fun e w' => e = .returned (.int .i64 (b : Int)) ∧ w' = W
  la : a ≤ 199
  lb : a + b ≤ 199
  c1 : ∀ W, Below w.heap.size w W → Calls Tryz.prog 14 #[.string s, .int .i64 (1 + (a : Int))] W fun e w' => ga W w' e ∧ Below W.heap.size W w'
  c2 : ∀ W, Below w.heap.size w W → Calls Tryz.prog 14 #[.string s, .int .i64 (1 + (a : Int) + (b : Int))] W fun e w' => gb W w' e ∧ Below W.heap.size W w'
  ps : ∀ W, Below w.heap.size w W → Calls Tryz.prog 25 #[.string s] W fun e w' => e = .returned (.tuple #[.string sx, .int .i64 x, .int .i64 y]) ∧ Below W.heap.size W w'
  c0 : ∀ W, Calls Tryz.prog 14 #[.string s, .int .i64 0] W fun e w' => e = .returned (.tuple #[.pointer none, .int .i64 2, .int .i64 0]) ∧ Below W.heap.size W w'
/-- What neither takes. -/
abbrev No (x y : Int) (_ _ : World) (e : Ending) : Prop := e = .returned (.tuple #[.pointer none, .int .i64 x, .int .i64 y])
/-- What is compiled. -/
abbrev Ye (t : Tb) (w w' : World) (e : Ending) : Prop := ∃ m c, e = .returned (.tuple #[.pointer (some ⟨m, 0, none⟩), .int .i64 0, .int .i64 0]) ∧ Mch w' m t c
set_option maxRecDepth 4000 in
set_option maxHeartbeats 2000000 in
theorem lim_syn (w : World) (s : ByteArray) (hs : s.size ≤ maxLen) (limit more : Int) (a b : Nat) (y : Nat) (hy : y ≤ s.size) (h : LmC w s limit more a b (No 3 y) (No 3 y) ⟨#[]⟩ 3 y) :
    Calls Tryz.prog 7 #[.string s, .int .i64 limit, .int .i64 more] w fun e w' => e = .returned (.bool true) ∧ Below w.heap.size w w' := by
  have HH : Hid (LmC w s limit more a b (No 3 y) (No 3 y) ⟨#[]⟩ 3 y) := h
  have ha := h.la
  have hb := h.lb
  have hyI : (y : Int) ≤ s.size := by omega
  unfold maxLen at hs
  clear h
  go_enter Tryz.func7, Tryz.ntmps7
  go_wp2_with (first | (have hmk4 := HB4.out; go_at_call 14; refine (HH.out.c0 _).mono ?_; clear hmk4; rintro e w5 ⟨rfl, hb5⟩; have HB5 : Hid (Below w.heap.size w w5) := HB4.out.trans (hb5.mono HB4.out.size); have HB45 : Hid (Below w4.heap.size w4 w5) := hb5; clear hb5) | (go_at_call 25; refine (HH.out.ps _ HB3.out).mono ?_; rintro e w4 ⟨rfl, hb4⟩; have HB4 : Hid (Below w.heap.size w w4) := HB3.out.trans (hb4.mono HB3.out.size); have HB34 : Hid (Below w3.heap.size w3 w4) := hb4; clear hb4) | (go_at_call 14; refine (HH.out.c2 _ HB2.out).mono ?_; rintro e w3 ⟨rfl, hb3⟩; have HB3 : Hid (Below w.heap.size w w3) := HB2.out.trans (hb3.mono HB2.out.size); have HB23 : Hid (Below w2.heap.size w2 w3) := hb3; clear hb3) | (go_at_call 14; refine (HH.out.c1 _ HB1.out).mono ?_; rintro e w2 ⟨rfl, hb2⟩; have HB2 : Hid (Below w.heap.size w w2) := HB1.out.trans (hb2.mono HB1.out.size); clear hb2) | (have hmk1 := HMK.out; go_at_call 21; refine (HH.out.p2 _).mono ?_; clear hmk1; rintro e w' ⟨rfl, hw'⟩; obtain rfl := hw'.symm) | (go_at_call 21; refine (HH.out.p1 _).mono ?_; rintro e w' ⟨rfl, hw'⟩; obtain rfl := hw'.symm; have HMK : Hid True := trivial) | (go_at_call 20; refine HH.out.pl.mono ?_; rintro e w1 ⟨rfl, hb1⟩; have HB1 : Hid (Below w.heap.size w w1) := hb1; clear hb1))
  go_ret
  exact ⟨rfl, HB5.out⟩
set_option maxRecDepth 4000 in
set_option maxHeartbeats 2000000 in
theorem lim_nil (w : World) (s : ByteArray) (limit more : Int) (a b : Nat) (sx : ByteArray) (x : Int) (hx : (x == 3) = false) (h : LmC w s limit more a b (No 4 0) (No 4 0) sx x 0) :
    Calls Tryz.prog 7 #[.string s, .int .i64 limit, .int .i64 more] w fun e w' => e = .returned (.bool true) ∧ Below w.heap.size w w' := by
  have HH : Hid (LmC w s limit more a b (No 4 0) (No 4 0) sx x 0) := h
  have ha := h.la
  have hb := h.lb
  clear h
  go_enter Tryz.func7, Tryz.ntmps7
  go_wp2_with (first | (have hmk4 := HB4.out; go_at_call 14; refine (HH.out.c0 _).mono ?_; clear hmk4; rintro e w5 ⟨rfl, hb5⟩; have HB5 : Hid (Below w.heap.size w w5) := HB4.out.trans (hb5.mono HB4.out.size); have HB45 : Hid (Below w4.heap.size w4 w5) := hb5; clear hb5) | (go_at_call 25; refine (HH.out.ps _ HB3.out).mono ?_; rintro e w4 ⟨rfl, hb4⟩; have HB4 : Hid (Below w.heap.size w w4) := HB3.out.trans (hb4.mono HB3.out.size); have HB34 : Hid (Below w3.heap.size w3 w4) := hb4; clear hb4) | (go_at_call 14; refine (HH.out.c2 _ HB2.out).mono ?_; rintro e w3 ⟨rfl, hb3⟩; have HB3 : Hid (Below w.heap.size w w3) := HB2.out.trans (hb3.mono HB2.out.size); have HB23 : Hid (Below w2.heap.size w2 w3) := hb3; clear hb3) | (go_at_call 14; refine (HH.out.c1 _ HB1.out).mono ?_; rintro e w2 ⟨rfl, hb2⟩; have HB2 : Hid (Below w.heap.size w w2) := HB1.out.trans (hb2.mono HB1.out.size); clear hb2) | (have hmk1 := HMK.out; go_at_call 21; refine (HH.out.p2 _).mono ?_; clear hmk1; rintro e w' ⟨rfl, hw'⟩; obtain rfl := hw'.symm) | (go_at_call 21; refine (HH.out.p1 _).mono ?_; rintro e w' ⟨rfl, hw'⟩; obtain rfl := hw'.symm; have HMK : Hid True := trivial) | (go_at_call 20; refine HH.out.pl.mono ?_; rintro e w1 ⟨rfl, hb1⟩; have HB1 : Hid (Below w.heap.size w w1) := hb1; clear hb1))
  go_ret
  exact ⟨rfl, HB5.out⟩
set_option maxRecDepth 4000 in
set_option maxHeartbeats 2000000 in
theorem lim_ny (w : World) (s : ByteArray) (limit more : Int) (a b : Nat) (sx : ByteArray) (t : Tb) (h : LmC w s limit more a b (No 4 0) (Ye t) sx 0 0) :
    Calls Tryz.prog 7 #[.string s, .int .i64 limit, .int .i64 more] w fun e w' => e = .returned (.bool true) ∧ Below w.heap.size w w' := by
  have HH : Hid (LmC w s limit more a b (No 4 0) (Ye t) sx 0 0) := h
  have ha := h.la
  have hb := h.lb
  clear h
  go_enter Tryz.func7, Tryz.ntmps7
  go_wp2_with (first | (have hmk4 := HB4.out; go_at_call 14; refine (HH.out.c0 _).mono ?_; clear hmk4; rintro e w5 ⟨rfl, hb5⟩; have HB5 : Hid (Below w.heap.size w w5) := HB4.out.trans (hb5.mono HB4.out.size); have HB45 : Hid (Below w4.heap.size w4 w5) := hb5; clear hb5) | (go_at_call 25; refine (HH.out.ps _ HB3.out).mono ?_; rintro e w4 ⟨rfl, hb4⟩; have HB4 : Hid (Below w.heap.size w w4) := HB3.out.trans (hb4.mono HB3.out.size); have HB34 : Hid (Below w3.heap.size w3 w4) := hb4; clear hb4) | (go_at_call 14; refine (HH.out.c2 _ HB2.out).mono ?_; rintro e w3 ⟨⟨m, c, rfl, hm⟩, hb3⟩; have HB3 : Hid (Below w.heap.size w w3) := HB2.out.trans (hb3.mono HB2.out.size); have HB23 : Hid (Below w2.heap.size w2 w3) := hb3; clear hb3) | (go_at_call 14; refine (HH.out.c1 _ HB1.out).mono ?_; rintro e w2 ⟨rfl, hb2⟩; have HB2 : Hid (Below w.heap.size w w2) := HB1.out.trans (hb2.mono HB1.out.size); clear hb2) | (have hmk1 := HMK.out; go_at_call 21; refine (HH.out.p2 _).mono ?_; clear hmk1; rintro e w' ⟨rfl, hw'⟩; obtain rfl := hw'.symm) | (go_at_call 21; refine (HH.out.p1 _).mono ?_; rintro e w' ⟨rfl, hw'⟩; obtain rfl := hw'.symm; have HMK : Hid True := trivial) | (go_at_call 20; refine HH.out.pl.mono ?_; rintro e w1 ⟨rfl, hb1⟩; have HB1 : Hid (Below w.heap.size w w1) := hb1; clear hb1))
  go_ret
  exact ⟨rfl, HB5.out⟩
set_option maxRecDepth 4000 in
set_option maxHeartbeats 4000000 in
theorem lim_yy (w : World) (s : ByteArray) (limit more : Int) (a b : Nat) (sx : ByteArray) (hsx : sx.toList.isEmpty = false) (t : Tb) (hsm : Small t) (h : LmC w s limit more a b (Ye t) (Ye t) sx 0 0) :
    Calls Tryz.prog 7 #[.string s, .int .i64 limit, .int .i64 more] w fun e w' => e = .returned (.bool true) ∧ Below w.heap.size w w' := by
  have HH : Hid (LmC w s limit more a b (Ye t) (Ye t) sx 0 0) := h
  have HSM : Hid (Small t) := hsm
  have ha := h.la
  have hb := h.lb
  clear h hsm
  go_enter Tryz.func7, Tryz.ntmps7
  go_upto_region 18 with (first | (have hmk4 := HB4.out; go_at_call 14; refine (HH.out.c0 _).mono ?_; clear hmk4; rintro e w5 ⟨rfl, hb5⟩; have HB5 : Hid (Below w.heap.size w w5) := HB4.out.trans (hb5.mono HB4.out.size); have HB45 : Hid (Below w4.heap.size w4 w5) := hb5; clear hb5) | (go_at_call 25; refine (HH.out.ps _ HB3.out).mono ?_; rintro e w4 ⟨rfl, hb4⟩; have HB4 : Hid (Below w.heap.size w w4) := HB3.out.trans (hb4.mono HB3.out.size); have HB34 : Hid (Below w3.heap.size w3 w4) := hb4; clear hb4) | (go_at_call 14; refine (HH.out.c2 _ HB2.out).mono ?_; rintro e w3 ⟨⟨m', c', rfl, hm'⟩, hb3⟩; have HB3 : Hid (Below w.heap.size w w3) := HB2.out.trans (hb3.mono HB2.out.size); have HB23 : Hid (Below w2.heap.size w2 w3) := hb3; clear hb3) | (go_at_call 14; refine (HH.out.c1 _ HB1.out).mono ?_; rintro e w2 ⟨⟨m, c, rfl, hm⟩, hb2⟩; have HB2 : Hid (Below w.heap.size w w2) := HB1.out.trans (hb2.mono HB1.out.size); clear hb2) | (have hmk1 := HMK.out; go_at_call 21; refine (HH.out.p2 _).mono ?_; clear hmk1; rintro e w' ⟨rfl, hw'⟩; obtain rfl := hw'.symm) | (go_at_call 21; refine (HH.out.p1 _).mono ?_; rintro e w' ⟨rfl, hw'⟩; obtain rfl := hw'.symm; have HMK : Hid True := trivial) | (go_at_call 20; refine HH.out.pl.mono ?_; rintro e w1 ⟨rfl, hb1⟩; have HB1 : Hid (Below w.heap.size w w1) := hb1; clear hb1))
  have HM5 : Hid (Mch w5 m t c ∧ Mch w5 m' t c') := by
    have h35 := HB34.out.trans (HB45.out.mono HB34.out.size)
    exact ⟨(hm.below HB23.out).below h35, hm'.below h35⟩
  clear hm hm' HB1 HB2 HB3 HB4 HB23 HB34 HB45 HH HMK ha hb
  have HST : Hid (∀ W va vn va' vn', TabIn W t va vn → TabIn W t va' vn' → Calls Tryz.prog 26 #[tv t va vn, tv t va' vn'] W fun e w' => e = .returned (.bool true) ∧ Below W.heap.size W w') := fun W va vn va' vn' h h' => sameTable_eq W t va vn va' vn' h h' HSM.out
  go_wp2_with (first | (have hmk7 := HB7.out; go_at_call 26; refine (HST.out _ _ _ _ _ (HT7.out.1.below ((Below.refl _ _).alloc (Nat.le_refl _) _)) (HT7.out.2.below ((Below.refl _ _).alloc (Nat.le_refl _) _))).mono ?_; clear hmk7; rintro e w8 ⟨rfl, hb8⟩; have HB8 : Hid (Below w.heap.size w w8) := (HB7.out.alloc HB7.out.size _).trans (hb8.mono (by have := HB7.out.size; simp; omega)); clear hb8) | (have hmk6 := HB6.out; go_at_call 16; refine (mtable_any _ m' t c' HM6.out).mono ?_; clear hmk6; rintro e w7 ⟨tC, tD, gs', rfl, htn', hb7⟩; have HT7 : Hid (TabIn w7 t (.slice (some ⟨tA, 0, none⟩) t.acc.length t.acc.length) (.slice (some ⟨tB, 0, none⟩) t.next.length t.next.length) ∧ TabIn w7 t (.slice (some ⟨tC, 0, none⟩) t.acc.length t.acc.length) (.slice (some ⟨tD, 0, none⟩) t.next.length t.next.length)) := ⟨HT6.out.below hb7, htn'.tab⟩; have HB7 : Hid (Below w.heap.size w w7) := HB6.out.trans (hb7.mono HB6.out.size); obtain ⟨x0, x1, x2, x3, x4, x5⟩ := box6 ((hb7.block w6.heap.size (by simp)).trans (heap_alloc_new w6 _)); have hs7 : w6.heap.size < w7.heap.size := (by have := hb7.size; simp at this; omega); clear hb7 htn') | (go_at_call 16; refine (mtable_any _ m t c HM5.out.1).mono ?_; rintro e w6 ⟨tA, tB, gs, rfl, htn, hb6⟩; have HT6 : Hid (TabIn (w6.alloc (.cells #[.bool t.front, .bool t.back, .int .i64 t.start, .string (ba t.cls), .slice (some ⟨tA, 0, none⟩) t.acc.length t.acc.length, .slice (some ⟨tB, 0, none⟩) t.next.length t.next.length] 33)) t (.slice (some ⟨tA, 0, none⟩) t.acc.length t.acc.length) (.slice (some ⟨tB, 0, none⟩) t.next.length t.next.length)) := htn.tab.below ((Below.refl _ _).alloc (Nat.le_refl _) _); have HM6 : Hid (Mch (w6.alloc (.cells #[.bool t.front, .bool t.back, .int .i64 t.start, .string (ba t.cls), .slice (some ⟨tA, 0, none⟩) t.acc.length t.acc.length, .slice (some ⟨tB, 0, none⟩) t.next.length t.next.length] 33)) m' t c') := (HM5.out.2.below hb6).below ((Below.refl _ _).alloc (Nat.le_refl _) _); have HB6 : Hid (Below w.heap.size w (w6.alloc (.cells #[.bool t.front, .bool t.back, .int .i64 t.start, .string (ba t.cls), .slice (some ⟨tA, 0, none⟩) t.acc.length t.acc.length, .slice (some ⟨tB, 0, none⟩) t.next.length t.next.length] 33))) := (HB5.out.trans (hb6.mono HB5.out.size)).alloc (HB5.out.trans (hb6.mono HB5.out.size)).size _; clear hb6 htn))
  go_ret
  exact ⟨rfl, HB8.out⟩
end Go.Proofs.YtbjabpodkaokjaaGreatDoor

namespace Go.Proofs.YtbjabpodkaokjaaGreatDoor
open Go.RowKit
open Sx (Prt Cnt)

/-- What Compile answers, in a word. -/
abbrev toG (r : (Int × Int) ⊕ Tb) : World → World → Ending → Prop := match r with
  | .inl x => No x.1 x.2
  | .inr t => Ye t
theorem tabs_at {w W : World} (hS : Sx.Tabs w) (hb : Below w.heap.size w W) : Sx.Tabs W := hS.of_block (fun k hk => hb.block k (by have := hS.lt; omega))
theorem tabz_at {w W : World} (hT : TabZ w) (hb : Below w.heap.size w W) : TabZ W := hT.keep (hb.block 1 hT.lt)
theorem comp_g (w W : World) (s : ByteArray) (limit : Int) (hS : Sx.Tabs w) (hT : TabZ w) (hs : s.size ≤ maxLen) (hb : Below w.heap.size w W) (r : (Int × Int) ⊕ Tb) (hr : compM s.data.toList limit = r) :
    Calls Tryz.prog 14 #[.string s, .int .i64 limit] W fun e w' => toG r W w' e ∧ Below W.heap.size W w' := by
  refine (comp_any W s limit (tabs_at hS hb) (tabz_at hT hb) hs).mono ?_
  rintro e w' ⟨h, hb'⟩
  rw [hr] at h
  refine ⟨?_, hb'⟩
  cases r with
  | inl x => exact h
  | inr t =>
    obtain ⟨m, c, h1, h2, -⟩ := h
    exact ⟨m, c, h1, h2 _ (Hi.refl _ _)⟩
theorem tCs_ne (n : Nat) : ∀ (cs : List (List Prt)), SizeOf.sizeOf cs ≤ n → cs ≠ [] → Sx.tCs cs ≠ [] := by
  induction n with
  | zero =>
    intro cs h hne
    cases cs with
    | nil => exact absurd rfl hne
    | cons c cs => simp at h
  | succ n ih =>
    intro cs h hne
    cases cs with
    | nil => exact absurd rfl hne
    | cons c cs =>
      cases cs with
      | cons d cs => simp [Sx.tCs]
      | nil =>
        rw [Sx.tCs]
        cases c with
        | nil => simp [Sx.tC]
        | cons p ps =>
          cases ps with
          | cons q ps => simp [Sx.tC]
          | nil =>
            rw [Sx.tC]
            cases p with
            | mk g B ks =>
              cases g with
              | nil => simp [Sx.tP, Sx.tBytes]
              | cons c cs' =>
                have := ih (c :: cs') (by simp at h ⊢; omega) (by simp)
                simp [Sx.tP, this]
theorem pkN_two (limit more : Int) : pkN limit 200 ≤ 199 ∧ pkN limit 200 + pkN more (200 - pkN limit 200) ≤ 199 := by
  have h1 := pkN_lt limit 200 (by omega)
  have h2 := pkN_lt more (200 - pkN limit 200) (by omega)
  omega
theorem limits_any (w : World) (s : ByteArray) (limit more : Int) (hS : Sx.Tabs w) (hT : TabZ w) (hs : s.size ≤ maxLen) (l1 : -9223372036854775808 ≤ limit) (l2 : limit ≤ 9223372036854775807) (m1 : -9223372036854775808 ≤ more) (m2 : more ≤ 9223372036854775807) :
    Calls Tryz.prog 7 #[.string s, .int .i64 limit, .int .i64 more] w fun e w' => e = .returned (.bool true) ∧ Below w.heap.size w w' := by
  obtain ⟨ha, hb⟩ := pkN_two limit more
  obtain ⟨a, hae⟩ : ∃ a, a = pkN limit 200 := ⟨_, rfl⟩
  obtain ⟨b, hbe⟩ : ∃ b, b = pkN more (200 - a) := ⟨_, rfl⟩
  rw [← hae] at ha hb
  rw [← hbe] at hb
  have hmk : ∀ (r1 r2 : (Int × Int) ⊕ Tb) (sx : ByteArray) (x y : Int), compM s.data.toList (1 + (a : Int)) = r1 → compM s.data.toList (1 + (a : Int) + (b : Int)) = r2 → (∀ e, Sx.ParseRes s e → e = .returned (.tuple #[.string sx, .int .i64 x, .int .i64 y])) → LmC w s limit more a b (toG r1) (toG r2) sx x y := fun r1 r2 sx x y h1 h2 hp => by
    refine ⟨plain_yes w hS hT, fun W => ?_, fun W => ?_, ha, hb, fun W hW => comp_g w W s _ hS hT hs hW r1 h1, fun W hW => comp_g w W s _ hS hT hs hW r2 h2, fun W hW => ?_, fun W => comp_arg W s 0 (by omega)⟩
    · rw [hae]; exact kpick_any W limit 200 l1 l2 (by omega) (by omega)
    · have e : (200 - (1 + (a : Int)) + 1) = ((200 - a : Nat) : Int) := by omega
      rw [e, hbe]
      exact kpick_any W more (200 - a) m1 m2 (by omega) (by omega)
    · refine (Sx.parse_any W s (tabs_at hS hW) hs).mono ?_
      rintro e w' ⟨h, hb'⟩
      exact ⟨hp e h, hb'⟩
  clear hae hbe
  have hsl : s.data.toList.length = s.size := by simp
  have hlim : ∀ k : Int, 1 ≤ k → k ≤ 200 → ¬ (k < 1 ∨ 200 < k) := fun k h1 h2 => by omega
  by_cases h200 : 200 < s.size
  · have hc : ∀ k : Int, 1 ≤ k → k ≤ 200 → compM s.data.toList k = .inl (4, 0) := fun k h1 h2 => by unfold compM; rw [if_neg (hlim k h1 h2), hsl, if_pos h200]
    refine lim_nil w s limit more a b ⟨#[]⟩ 4 rfl (hmk _ _ _ _ _ (hc _ (by omega) (by omega)) (hc _ (by omega) (by omega)) ?_)
    rintro e (q | q | q | q)
    · exact q.2
    all_goals exact absurd q.1 (by omega)
  · cases hR : Sx.readP s.data.toList with
    | bad r' =>
      have hc : ∀ k : Int, 1 ≤ k → k ≤ 200 → compM s.data.toList k = .inl (3, ((s.size - r'.length : Nat) : Int)) := fun k h1 h2 => by unfold compM; rw [if_neg (hlim k h1 h2), hsl, if_neg h200, hR]
      refine lim_syn w s hs limit more a b (s.size - r'.length) (by omega) (hmk _ _ _ _ _ (hc _ (by omega) (by omega)) (hc _ (by omega) (by omega)) ?_)
      rintro e (q | ⟨-, r2, q1, q2⟩ | ⟨-, p, q1, -⟩ | ⟨-, p, q1, -⟩)
      · exact absurd q.1 h200
      · rw [hR] at q1; injection q1 with q1; subst q1; exact q2
      · rw [hR] at q1; cases q1
      · rw [hR] at q1; cases q1
    | ok p r' =>
      obtain rfl := Sx.readP_rest hR
      by_cases hn : 20 < Sx.nestCs p.choices
      · have hc : ∀ k : Int, 1 ≤ k → k ≤ 200 → compM s.data.toList k = .inl (4, 0) := fun k h1 h2 => by unfold compM; rw [if_neg (hlim k h1 h2), hsl, if_neg h200, hR]; simp only; rw [if_pos hn]
        refine lim_nil w s limit more a b ⟨#[]⟩ 4 rfl (hmk _ _ _ _ _ (hc _ (by omega) (by omega)) (hc _ (by omega) (by omega)) ?_)
        rintro e (q | ⟨-, r2, q1, q2⟩ | ⟨-, p2, q1, q2, q3⟩ | ⟨-, p2, q1, q2, -⟩)
        · exact absurd q.1 h200
        · rw [hR] at q1; cases q1
        · exact q3
        · rw [hR] at q1; injection q1 with q1; subst q1; omega
      · have hc : ∀ k : Nat, 1 ≤ k → k ≤ 200 → compM s.data.toList (k : Int) = match compT p k with | none => .inl (4, 0) | some t => .inr t := fun k h1 h2 => by unfold compM; rw [if_neg (hlim k (by omega) (by omega)), hsl, if_neg h200, hR]; simp only; rw [if_neg hn, Int.toNat_natCast]; cases compT p k <;> rfl
        have hpr : ∀ e, Sx.ParseRes s e → e = .returned (.tuple #[.string ⟨(Sx.tPtn p).toArray⟩, .int .i64 0, .int .i64 0]) := by
          rintro e (q | ⟨-, r2, q1, q2⟩ | ⟨-, p2, q1, q2, q3⟩ | ⟨-, p2, q1, q2, q3⟩)
          · exact absurd q.1 h200
          · rw [hR] at q1; cases q1
          · rw [hR] at q1; injection q1 with q1; subst q1; omega
          · rw [hR] at q1; injection q1 with q1; subst q1; exact q3
        have c1 := hc (1 + a) (by omega) (by omega)
        have c2 := hc (1 + a + b) (by omega) (by omega)
        rw [show ((1 + a : Nat) : Int) = 1 + (a : Int) by omega] at c1
        rw [show ((1 + a + b : Nat) : Int) = 1 + (a : Int) + (b : Int) by omega] at c2
        cases hM : searchM p (1 + a) with
        | none =>
          have e1 : compT p (1 + a) = none := by unfold compT; rw [hM]; rfl
          rw [e1] at c1
          cases hM2 : compT p (1 + a + b) with
          | none => rw [hM2] at c2; exact lim_nil w s limit more a b _ 0 rfl (hmk _ _ _ _ _ c1 c2 hpr)
          | some t => rw [hM2] at c2; exact lim_ny w s limit more a b _ t (hmk _ _ _ _ _ c1 c2 hpr)
        | some t =>
          have e1 : compT p (1 + a) = some (tbOf (leastM t)) := by unfold compT; rw [hM]; rfl
          have e2 : compT p (1 + a + b) = some (tbOf (leastM t)) := by unfold compT; rw [searchM_more (by omega) hM]; rfl
          rw [e1] at c1
          rw [e2] at c2
          obtain ⟨n, k, hn1, hk, hok⟩ := searchM_k (by omega) hM
          obtain ⟨-, i2⟩ := least_small hok (by omega) hk
          refine lim_yy w s limit more a b _ ?_ _ i2 (hmk _ _ _ _ _ c1 c2 hpr)
          have hne : Sx.tPtn p ≠ [] := by
            have h1 := (Sx.readP_txt (by rw [hsl]; omega) hR).1
            have := tCs_ne _ p.choices (Nat.le_refl _) h1
            unfold Sx.tPtn
            simp [this]
          rw [ByteArray.toList_mk]
          simpa using hne
end Go.Proofs.YtbjabpodkaokjaaGreatDoor
