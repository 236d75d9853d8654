/- For every text the law hasplaw.Loads answers true: hasp.Load takes what the document's own Load takes, with the same error or the same table, and Encode writes it again, byte for byte. -/
import Derived.Test.YtbjabpodkaokjaaJ41
import Derived.Test.YtbjabpodkaokjaaJ22
import Derived.Deep.CutRange
import Derived.Test.YtbjabpodkaokjaaRows
import Derived.ProofKit
import Derived.LaidMore
import Derived.OpenShut
import Derived.Stop.Joined
set_option linter.unusedVariables false
set_option linter.unusedSimpArgs false
namespace Go.Proofs.Ytbjabpodkaokjaa
open Go.RowKit

theorem TbOk.small {t : Tb} {c : Nat} (h : TbOk t c) : Small t := by
  have h2 := h.c256
  have := h.a2
  have := h.n
  exact ⟨by unfold maxLen; omega, by unfold maxLen; omega, fun r hr => by have := (h.r r hr).1; unfold maxLen; omega, by unfold maxLen; omega⟩
theorem fits_tb : ∀ t, isTb t = true → ∃ c, Fits t c := fun t h => by obtain ⟨c, hc⟩ := tbOk_of h; exact ⟨c, hc.fits⟩
theorem rload_no (w : World) (b : List UInt8) (hb : b.length ≤ maxLen) (h : loadM isTb b = none) :
    Calls Try.prog 7 #[.string (ba b)] w fun e w' => e = .returned (.tuple #[tv0, .int .i64 6]) ∧ Below w.heap.size w w' := by
  refine (rload_any w b hb).mono ?_
  rintro e w' ⟨hr, hbl⟩
  rw [load_ref fits_tb] at h
  unfold RefRes at hr
  rw [h] at hr
  exact ⟨hr, hbl⟩
theorem rload_yes (w : World) (b : List UInt8) (hb : b.length ≤ maxLen) (t : Tb) (h : loadM isTb b = some t) :
    Calls Try.prog 7 #[.string (ba b)] w fun e w' => ∃ a ca n cn, e = .returned (.tuple #[tv t (.slice a t.acc.length ca) (.slice n t.next.length cn), .int .i64 0]) ∧ TabIn w' t (.slice a t.acc.length ca) (.slice n t.next.length cn) ∧ Below w.heap.size w w' := by
  refine (rload_any w b hb).mono ?_
  rintro e w' ⟨hr, hbl⟩
  rw [load_ref fits_tb] at h
  unfold RefRes at hr
  rw [h] at hr
  obtain ⟨va, vn, rfl, ht⟩ := hr
  obtain ⟨a, ca, rfl⟩ := ht.acc.form
  obtain ⟨us, hul, hu, hr⟩ := ht.next
  obtain ⟨n, cn, rfl⟩ := hu.form
  rw [hul]
  rw [hul] at ht
  exact ⟨a, ca, n, cn, rfl, ht, hbl⟩
set_option maxRecDepth 4000 in
set_option maxHeartbeats 4000000 in
theorem loads_no (w : World) (b : List UInt8) (hb : b.length ≤ maxLen) (h : loadM isTb b = none) :
    Calls Try.prog 3 #[.string (ba b)] w fun e w' => e = .returned (.bool true) ∧ Below w.heap.size w w' := by
  have HK : Hid (∀ w, Calls Try.prog 5 #[] w fun e w' => e = .returned (.bool true) ∧ Below w.heap.size w w') := known_yes
  have HL : Hid (∀ w, Calls Try.prog 6 #[.string (ba b)] w fun e w' => e = .returned (.tuple #[.pointer none, .int .i64 6]) ∧ Below w.heap.size w w') := fun w => load_none w b hb h
  have HR : Hid (∀ w, Calls Try.prog 7 #[.string (ba b)] w fun e w' => e = .returned (.tuple #[tv0, .int .i64 6]) ∧ Below w.heap.size w w') := fun w => rload_no w b hb h
  clear hb h
  go_enter Try.func3, Try.ntmps3
  go_wp2_with (first | (go_at_call 5; refine (HK.out _).mono ?_; rintro e w1 ⟨rfl, hb1⟩; have HB1 : Hid (Below w.heap.size w w1) := hb1; clear hb1) | (go_at_call 6; refine (HL.out _).mono ?_; rintro e w2 ⟨rfl, hb2⟩; have HB2 : Hid (Below w.heap.size w w2) := HB1.out.trans (hb2.mono HB1.out.size); clear hb2) | (go_at_call 7; refine (HR.out _).mono ?_; rintro e w3 ⟨rfl, hb3⟩; have HB3 : Hid (Below w.heap.size w w3) := HB2.out.trans (hb3.mono HB2.out.size); clear hb3))
  go_ret
  exact ⟨rfl, HB3.out.alloc HB3.out.size _⟩
theorem load_long {b : List UInt8} {t : Tb} (h : loadM isTb b = some t) : ¬ b.length < 270 := by
  intro h1
  rw [load_ref fits_tb] at h
  unfold refM rfT at h
  rw [if_pos (.inl h1)] at h
  simp at h
set_option maxRecDepth 4000 in
set_option maxHeartbeats 4000000 in
theorem loads_yes (w : World) (b : List UInt8) (hb : b.length ≤ maxLen) (t : Tb) (h : loadM isTb b = some t) :
    Calls Try.prog 3 #[.string (ba b)] w fun e w' => e = .returned (.bool true) ∧ Below w.heap.size w w' := by
  have HK : Hid (∀ w, Calls Try.prog 5 #[] w fun e w' => e = .returned (.bool true) ∧ Below w.heap.size w w') := known_yes
  have HL : Hid (∀ w, Calls Try.prog 6 #[.string (ba b)] w fun e w' => ∃ m c, e = .returned (.tuple #[.pointer (some ⟨m, 0, none⟩), .int .i64 0]) ∧ Mch w' m t c ∧ w.heap.size ≤ m ∧ Below w.heap.size w w') := fun w => load_some w b hb t h
  have HR : Hid (∀ w, Calls Try.prog 7 #[.string (ba b)] w fun e w' => ∃ a ca n cn, e = .returned (.tuple #[tv t (.slice a t.acc.length ca) (.slice n t.next.length cn), .int .i64 0]) ∧ TabIn w' t (.slice a t.acc.length ca) (.slice n t.next.length cn) ∧ Below w.heap.size w w') := fun w => rload_yes w b hb t h
  obtain ⟨k1, k2, k3⟩ := load_enc h
  have hlong := load_long h
  have a5 := byA_at b 5 (by omega)
  have a7 := byA_at b 7 (by omega)
  have b7 := byA_lt b 7
  obtain ⟨x5, hx5⟩ : ∃ x, x = byA b 5 := ⟨_, rfl⟩
  obtain ⟨x7, hx7⟩ : ∃ x, x = byA b 7 := ⟨_, rfl⟩
  obtain ⟨big, hbig⟩ : ∃ g, g = (x7 == 1) := ⟨_, rfl⟩
  have HE : Hid (x5 ≤ 1 ∧ enc t x5 big = b) := by rw [hbig, hx5, hx7]; exact ⟨k1, k2⟩
  rw [← hx5] at a5
  rw [← hx7] at a7 b7
  have hx1 : x5 ≤ 1 := HE.out.1
  have HS : Hid (Small t) := by obtain ⟨c, hc⟩ := tbOk_of k3; exact hc.small
  have z5 : ∀ h : 5 < (ba b).size, ((ba b)[5]'h).toNat = x5 := fun h => by rw [a5]; rfl
  have z7 : ∀ h : 7 < (ba b).size, ((ba b)[7]'h).toNat = x7 := fun h => by rw [a7]; rfl
  have hbs := ba_size b
  obtain ⟨N, hN⟩ : ∃ N, N = b.length := ⟨_, rfl⟩
  rw [← hN] at hbs hlong hb
  have hbigI : ((x7 : Int) == 1) = big := by rw [hbig, Bool.eq_iff_iff]; simp; omega
  have i5 : (5 : Int) < N := by omega
  have i7 : (7 : Int) < N := by omega
  have hbeq : (ba b).toList = b := ByteArray.toList_mk b
  unfold maxLen at hb
  clear h k1 k2 k3 a5 a7 hx5 hx7 hbig hN hlong
  go_enter Try.func3, Try.ntmps3
  go_upto_region 9 with (first | (go_at_call 5; refine (HK.out _).mono ?_; rintro e w1 ⟨rfl, hb1⟩; have HB1 : Hid (Below w.heap.size w w1) := hb1; clear hb1) | (go_at_call 6; refine (HL.out _).mono ?_; rintro e w2 ⟨m, c, rfl, hm, _, hb2⟩; have HM : Hid (Mch w2 m t c) := hm; have HB2 : Hid (Below w.heap.size w w2) := HB1.out.trans (hb2.mono HB1.out.size); clear hb2 hm) | (go_at_call 7; refine (HR.out _).mono ?_; rintro e w3 ⟨a, ca, an, cn, rfl, ht, hb3⟩; have HT : Hid (TabIn w3 t (.slice a t.acc.length ca) (.slice an t.next.length cn)) := ht; have HM3 : Hid (Mch w3 m t c) := HM.out.below hb3;  have HB3 : Hid (Below w.heap.size w w3) := HB2.out.trans (hb3.mono HB2.out.size); clear hb3 ht) | (go_at_call 8; refine (mtable_any _ m t c (HM3.out.below ((Below.refl _ _).alloc (Nat.le_refl _) _))).mono ?_; rintro e w4 ⟨tA, tB, gs, rfl, htn, hb4⟩; have HX4 : Hid (w4.heap[w3.heap.size]? = some (.cells #[.bool t.front, .bool t.back, .int .i64 t.start, .string (ba t.cls), .slice a t.acc.length ca, .slice an t.next.length cn] 30)) := (hb4.block _ (by simp)).trans (heap_alloc_new w3 _); have HT4 : Hid (TabIn w4 t (.slice a t.acc.length ca) (.slice an t.next.length cn)) := (HT.out.below ((Below.refl _ _).alloc (Nat.le_refl _) _)).below hb4; have HN4 : Hid (TabIn w4 t (.slice (some ⟨tA, 0, none⟩) t.acc.length t.acc.length) (.slice (some ⟨tB, 0, none⟩) t.next.length t.next.length)) := htn.tab; have HM4 : Hid (Mch w4 m t c) := (HM3.out.below ((Below.refl _ _).alloc (Nat.le_refl _) _)).below hb4; have HB4 : Hid (Below w.heap.size w w4) := (HB3.out.alloc HB3.out.size _).trans (hb4.mono (by have := HB3.out.size; simp; omega)); clear hb4 htn))
  obtain ⟨w5, hw5⟩ : ∃ w5, w5 = w4.alloc (.cells #[.bool t.front, .bool t.back, .int .i64 t.start, .string (ba t.cls), .slice (some ⟨tA, 0, none⟩) t.acc.length t.acc.length, .slice (some ⟨tB, 0, none⟩) t.next.length t.next.length] 30) := ⟨_, rfl⟩
  rw [← hw5]
  have hb5 : Below w4.heap.size w4 w5 := by rw [hw5]; exact (Below.refl _ _).alloc (Nat.le_refl _) _
  have HX5 : Hid (∀ w', Below w5.heap.size w5 w' → w'.heap[w3.heap.size]? = some (.cells #[.bool t.front, .bool t.back, .int .i64 t.start, .string (ba t.cls), .slice a t.acc.length ca, .slice an t.next.length cn] 30)) := fun w' hb => by
    have hlt : w3.heap.size < w4.heap.size := by
      rcases Nat.lt_or_ge w3.heap.size w4.heap.size with q | q
      · exact q
      · have := HX4.out
        rw [Array.getElem?_eq_none q] at this
        simp at this
    rw [hb.block _ (by have := hb5.size; omega), hb5.block _ hlt]
    exact HX4.out
  have HY5 : Hid (∀ w', Below w5.heap.size w5 w' → w'.heap[w4.heap.size]? = some (.cells #[.bool t.front, .bool t.back, .int .i64 t.start, .string (ba t.cls), .slice (some ⟨tA, 0, none⟩) t.acc.length t.acc.length, .slice (some ⟨tB, 0, none⟩) t.next.length t.next.length] 30)) := fun w' hb => by
    rw [hb.block _ (by rw [hw5]; simp), hw5]
    exact heap_alloc_new w4 _
  have HB5 : Hid (Below w.heap.size w w5) := HB4.out.trans (hb5.mono HB4.out.size)
  have HM5 : Hid (Mch w5 m t c) := HM4.out.below hb5
  have HT5 : Hid (TabIn w5 t (.slice a t.acc.length ca) (.slice an t.next.length cn)) := HT4.out.below hb5
  have HN5 : Hid (TabIn w5 t (.slice (some ⟨tA, 0, none⟩) t.acc.length t.acc.length) (.slice (some ⟨tB, 0, none⟩) t.next.length t.next.length)) := HN4.out.below hb5
  have HEN : Hid (Calls Try.prog 9 #[.pointer (some ⟨m, 0, none⟩), .int .i64 x5, .bool big] w5.drew fun e w' => e = .returned (.tuple #[.string (ba b), .int .i64 0]) ∧ Below w5.heap.size w5 w') := by
    refine (encode_any w5.drew m t c (HM5.out.below ((Below.refl _ _).drew)) x5 HE.out.1 big).mono ?_
    rintro e w' ⟨rfl, hb'⟩
    rw [HE.out.2]
    exact ⟨rfl, (Below.refl _ _).drew.trans hb'⟩
  have HWR : Hid (IntKind.i64.wrap (x5 : Int) = x5) := by show IntKind.i64.wrap (x5 : Int) = x5; rw [IntKind.wrap_i64]; omega
  clear hw5 hb5
  go_region_held3 (fun w' => True) (trivial) ((go_at_call 9; rw [HWR.out]; refine HEN.out.mono ?_; rintro e w6 ⟨rfl, hb6⟩; have HB6 : Hid (Below w5.heap.size w5 w6) := hb6; obtain ⟨p0, p1, p2, p3, p4, p5⟩ := box6 (HX5.out w6 hb6); obtain ⟨q0, q1, q2, q3, q4, q5⟩ := box6 (HY5.out w6 hb6); clear hb6))
  all_goals go_wp2_with (go_at_call 10; refine (sameT_eq w6 t _ _ _ _ (HN5.out.below HB6.out) (HT5.out.below HB6.out) HS.out).mono ?_; rintro e w7 ⟨rfl, hb7⟩; have HB7 : Hid (Below w.heap.size w w7) := (HB5.out.trans (HB6.out.mono HB5.out.size)).trans (hb7.mono (by have h1 := HB5.out.size; have h2 := HB6.out.size; omega)); clear hb7)
  all_goals go_ret
  all_goals exact ⟨rfl, HB7.out⟩
theorem loads_any (w : World) (b : List UInt8) (hb : b.length ≤ maxLen) :
    Calls Try.prog 3 #[.string (ba b)] w fun e w' => e = .returned (.bool true) ∧ Below w.heap.size w w' := by
  cases h : loadM isTb b with
  | none => exact loads_no w b hb h
  | some t => exact loads_yes w b hb t h
end Go.Proofs.Ytbjabpodkaokjaa

namespace Go.Proofs.Ytbjabpodkaokjaa
open Go.ChangeShapes Go.WideShapes Go.ChangeAt Go.WideMaps Go.WideElems Go.RowKit

theorem own : ownKnob Try.prog.godebug = none := by kernel_rfl
set_option maxRecDepth 100000 in
theorem loads_lifted (os : Os) (started : os.Started) (H : Type) (enc : TypeId × Value → H) :
    ReturnsInHanded {} Try.checked os 3 .any (Rows.loadsSpec.pre6 enc Try.prog Try.f3 Rows.loadsRow.domain false) (Rows.loadsSpec.post enc Try.prog Try.f3 false true false false) := by
  refine returnsInHanded_of_change (C := Try.checked) own started (by kernel_rfl) Try.func3
    (ChangeSpec.witness6 (enc := enc) (C := Try.checked) false ⟨#[], #[.string ⟨#[]⟩], []⟩ 8 (by kernel_rfl) (by kernel_rfl) (by kernel_rfl) (by kernel_rfl)) ?_
  intro W base args ds gs before hval0 hW hcnd _
  have hval : ∀ (j : Nat) t v, Try.f3.params[j]? = some t → args[j]? = some v → Value.okWide Try.prog W .any base t v := hval0
  have hW' := hW
  obtain ⟨p, q, hA0, hV, rfl, hfz, hnd⟩ := hW
  have hA : DataW.TrodAll enc Try.prog W 0 (fun _ => true) true Try.f3.params.toList args.toList ds p := hA0
  rw [Try.params3] at hA hval
  obtain ⟨v0, d0, rfl, rfl, h0⟩ := trodAll_one hA
  obtain ⟨rfl, rfl⟩ := trodVars_none hV
  obtain ⟨s, rfl, rfl, rfl, hs⟩ := Go.ChangeMaps.open_string Try.underlying9 (hval 0 9 v0 rfl rfl) h0
  clear hA0 hval0
  have law := loads_any W s.data.toList (by simpa using hs)
  have es : ba s.data.toList = s := rfl
  rw [es] at law
  refine law.mono fun e W' ⟨he, bel⟩ => ?_
  subst he
  exact ⟨_, rfl, _, _, _, [], _, [], hW', trodAll_mk1 (shut_bool Try.underlying4 _), trodAll_mk1 (Go.ChangeMaps.shut_string Try.underlying9 hs), rfl, bel.frame _, fun h => by cases h⟩

theorem loads_said : Rows.LoadsSaid :=
  OpenClaim.holds_of_wide 3 Try.f3 rfl rfl rfl rfl rfl rfl rfl ⟨rfl, rfl, rfl, rfl, rfl⟩ rfl rfl rfl rfl rfl (by kernel_rfl) Try.func3 (by kernel_rfl)
    (of_decide_eq_true (by kernel_rfl)) (by unfold Func.isWrapper; first | (rw [if_pos (by decide +kernel)]; kernel_rfl) | (rw [if_neg (by decide +kernel)]; exact ⟨rfl, rfl⟩))
    (fun os started H enc _ => loads_lifted os started H enc)
#print axioms loads_said
end Go.Proofs.Ytbjabpodkaokjaa
