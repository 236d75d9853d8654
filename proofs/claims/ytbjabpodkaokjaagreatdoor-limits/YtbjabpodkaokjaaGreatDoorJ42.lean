import Derived.Test.YtbjabpodkaokjaaGreatDoorJ41
import Derived.KernelRfl
set_option linter.unusedVariables false
set_option linter.unusedSimpArgs false
namespace Go.Proofs.YtbjabpodkaokjaaGreatDoor
open Go.RowKit
open Sx (Prt Cnt)

set_option maxHeartbeats 1000000 in
theorem comp_arg (w : World) (s : ByteArray) (limit : Int) (h : limit < 1 ∨ 200 < limit) :
    Calls Tryz.prog 14 #[.string s, .int .i64 limit] w fun e w' => e = .returned (.tuple #[.pointer none, .int .i64 2, .int .i64 0]) ∧ Below w.heap.size w w' := by
  by_cases h1 : limit < 1
  · clear h
    go_enter Tryz.func14, Tryz.ntmps14
    go_wp2
    refine bodyPost_ret (v := .tuple #[.pointer none, .int .i64 2, .int .i64 0]) (by simp [results, Tryz.results14, go_sem]) rfl ?_
    exact ⟨rfl, Below.refl _ _⟩
  · have h2 : 200 < limit := by omega
    clear h
    go_enter Tryz.func14, Tryz.ntmps14
    go_wp2
    refine bodyPost_ret (v := .tuple #[.pointer none, .int .i64 2, .int .i64 0]) (by simp [results, Tryz.results14, go_sem]) rfl ?_
    exact ⟨rfl, Below.refl _ _⟩
set_option maxHeartbeats 1000000 in
theorem comp_read (w : World) (s : ByteArray) (limit : Int) (h1 : ¬ limit < 1) (h2 : ¬ 200 < limit) (err pl : Int) (herr : (err == 0) = false) (hr : Calls Tryz.prog 40 #[.string s] w fun e w' => e = .returned (.tuple #[Sx.ptnV false false none 0 0, .int .i64 err, .int .i64 pl]) ∧ Below w.heap.size w w') :
    Calls Tryz.prog 14 #[.string s, .int .i64 limit] w fun e w' => e = .returned (.tuple #[.pointer none, .int .i64 err, .int .i64 pl]) ∧ Below w.heap.size w w' := by
  have HR : Hid (Calls Tryz.prog 40 #[.string s] w fun e w' => e = .returned (.tuple #[Sx.ptnV false false none 0 0, .int .i64 err, .int .i64 pl]) ∧ Below w.heap.size w w') := hr
  clear hr
  go_enter Tryz.func14, Tryz.ntmps14
  go_wp2_with (go_at_call 40; refine HR.out.mono ?_; rintro e w1 ⟨rfl, hb1⟩)
  refine bodyPost_ret (v := .tuple #[.pointer none, .int .i64 err, .int .i64 pl]) (by simp [results, Tryz.results14, go_sem]) rfl ?_
  exact ⟨rfl, hb1.alloc hb1.size _⟩
set_option maxHeartbeats 1000000 in
theorem comp_none (w : World) (s : ByteArray) (limit : Int) (h1 : ¬ limit < 1) (h2 : ¬ 200 < limit) (f b : Bool)
    (hr : Calls Tryz.prog 40 #[.string s] w fun e w1 => (∃ g0 n0 c0, e = .returned (.tuple #[Sx.ptnV f b g0 n0 c0, .int .i64 0, .int .i64 0]) ∧ ∀ W, Below w1.heap.size w1 W → Calls Tryz.prog 41 #[.agg #[.bool f, .bool b, .slice g0 n0 c0], .int .i64 limit] W fun e W2 => e = .returned (.tuple #[zT, .bool false]) ∧ Below W.heap.size W W2) ∧ Below w.heap.size w w1) :
    Calls Tryz.prog 14 #[.string s, .int .i64 limit] w fun e w' => e = .returned (.tuple #[.pointer none, .int .i64 4, .int .i64 0]) ∧ Below w.heap.size w w' := by
  have HR : Hid (Calls Tryz.prog 40 #[.string s] w fun e w1 => (∃ g0 n0 c0, e = .returned (.tuple #[Sx.ptnV f b g0 n0 c0, .int .i64 0, .int .i64 0]) ∧ ∀ W, Below w1.heap.size w1 W → Calls Tryz.prog 41 #[.agg #[.bool f, .bool b, .slice g0 n0 c0], .int .i64 limit] W fun e W2 => e = .returned (.tuple #[zT, .bool false]) ∧ Below W.heap.size W W2) ∧ Below w.heap.size w w1) := hr
  clear hr
  go_enter Tryz.func14, Tryz.ntmps14
  go_wp2_with (first | (go_at_call 41; refine (HS.out _ ((Below.refl _ _).alloc (Nat.le_refl _) _)).mono ?_; rintro e w2 ⟨rfl, hb2⟩; have HB2 : Hid (Below w.heap.size w w2) := (hb1.alloc hb1.size _).trans (hb2.mono (by have := hb1.size; simp; omega)); clear hb2) | (go_at_call 40; refine HR.out.mono ?_; rintro e w1 ⟨⟨g0, n0, c0, rfl, hs⟩, hb1⟩; have HS : Hid (∀ W, Below w1.heap.size w1 W → Calls Tryz.prog 41 #[.agg #[.bool f, .bool b, .slice g0 n0 c0], .int .i64 limit] W fun e W2 => e = .returned (.tuple #[zT, .bool false]) ∧ Below W.heap.size W W2) := hs; clear hs))
  refine bodyPost_ret (v := .tuple #[.pointer none, .int .i64 4, .int .i64 0]) (by simp [results, Tryz.results14, go_sem]) rfl ?_
  exact ⟨rfl, HB2.out.alloc HB2.out.size _⟩
set_option maxHeartbeats 2000000 in
theorem comp_some (w : World) (s : ByteArray) (limit : Int) (h1 : ¬ limit < 1) (h2 : ¬ 200 < limit) (f b : Bool) (T1 T2 : Tb) (hi : isTb T2 = true) (hsm : Small T2)
    (hr : Calls Tryz.prog 40 #[.string s] w fun e w1 => (∃ g0 n0 c0, e = .returned (.tuple #[Sx.ptnV f b g0 n0 c0, .int .i64 0, .int .i64 0]) ∧ ∀ W, Below w1.heap.size w1 W → Calls Tryz.prog 41 #[.agg #[.bool f, .bool b, .slice g0 n0 c0], .int .i64 limit] W fun e W2 => (∃ va vn, e = .returned (.tuple #[tv T1 va vn, .bool true]) ∧ TabIn W2 T1 va vn) ∧ Below W.heap.size W W2) ∧ Below w.heap.size w w1)
    (hl : ∀ W va vn, TabIn W T1 va vn → Calls Tryz.prog 43 #[tv T1 va vn] W fun e W' => ∃ va' vn', e = .returned (tv T2 va' vn') ∧ TabIn W' T2 va' vn' ∧ Below W.heap.size W W') :
    Calls Tryz.prog 14 #[.string s, .int .i64 limit] w fun e w' => ∃ m c, e = .returned (.tuple #[.pointer (some ⟨m, 0, none⟩), .int .i64 0, .int .i64 0]) ∧ (∀ w2, Hi w.heap.size w' w2 → Mch w2 m T2 c) ∧ w.heap.size ≤ m ∧ Below w.heap.size w w' := by
  obtain ⟨c, hok⟩ := tbOk_of hi
  have HOK : Hid (TbOk T2 c) := hok
  have HR : Hid (Calls Tryz.prog 40 #[.string s] w fun e w1 => (∃ g0 n0 c0, e = .returned (.tuple #[Sx.ptnV f b g0 n0 c0, .int .i64 0, .int .i64 0]) ∧ ∀ W, Below w1.heap.size w1 W → Calls Tryz.prog 41 #[.agg #[.bool f, .bool b, .slice g0 n0 c0], .int .i64 limit] W fun e W2 => (∃ va vn, e = .returned (.tuple #[tv T1 va vn, .bool true]) ∧ TabIn W2 T1 va vn) ∧ Below W.heap.size W W2) ∧ Below w.heap.size w w1) := hr
  have HL : Hid (∀ W va vn, TabIn W T1 va vn → Calls Tryz.prog 43 #[tv T1 va vn] W fun e W' => ∃ va' vn', e = .returned (tv T2 va' vn') ∧ TabIn W' T2 va' vn' ∧ Below W.heap.size W W') := hl
  have HNW : Hid (∀ w va vn, TabIn w T2 va vn → Calls Tryz.prog 42 #[tv T2 va vn] w fun e w' => ∃ g, e = .returned (.tuple #[.pointer (some ⟨g, 0, none⟩), .bool true]) ∧ w.heap.size ≤ g ∧ (∀ w2, Hi w.heap.size w' w2 → AuIn w2 g T2) ∧ Below w.heap.size w w') := fun w va vn h => new_yesN w T2 va vn h hsm hi
  clear hr hl hi hsm hok
  go_enter Tryz.func14, Tryz.ntmps14
  go_wp2_with (first | (go_at_call 42; refine (HNW.out _ _ _ HT3.out).mono ?_; rintro e w4 ⟨g4, rfl, hg4, hau, hb4⟩; have HA : Hid (∀ w5, Hi w.heap.size w4 w5 → AuIn w5 g4 T2) := (fun w5 k => hau w5 (k.mono HB3.out.size)); have HB4 : Hid (Below w.heap.size w w4) := HB3.out.trans (hb4.mono HB3.out.size); clear hau hb4 hg4) | (go_at_call 43; refine (HL.out _ _ _ (HT2.out.below ((Below.refl _ _).alloc (Nat.le_refl _) _))).mono ?_; rintro e w3 ⟨va', vn', rfl, ht3, hb3⟩; have HT3 : Hid (TabIn w3 T2 va' vn') := ht3; have HB3 : Hid (Below w.heap.size w w3) := (HB2.out.alloc HB2.out.size _).trans (hb3.mono (by have := HB2.out.size; simp; omega)); clear ht3 hb3) | (go_at_call 41; refine (HS.out _ ((Below.refl _ _).alloc (Nat.le_refl _) _)).mono ?_; rintro e w2 ⟨⟨va, vn, rfl, ht2⟩, hb2⟩; obtain ⟨a, ca, a2, n2, c2, e1, e2⟩ := ht2.shapes; subst e1; subst e2; have HT2 : Hid (TabIn w2 T1 (.slice a T1.acc.length ca) (.slice a2 n2 c2)) := ht2; have HB2 : Hid (Below w.heap.size w w2) := (hb1.alloc hb1.size _).trans (hb2.mono (by have := hb1.size; simp; omega)); clear hb2 ht2) | (go_at_call 40; refine HR.out.mono ?_; rintro e w1 ⟨⟨g0, n0, c0, rfl, hs⟩, hb1⟩; have HS : Hid (∀ W, Below w1.heap.size w1 W → Calls Tryz.prog 41 #[.agg #[.bool f, .bool b, .slice g0 n0 c0], .int .i64 limit] W fun e W2 => (∃ va vn, e = .returned (.tuple #[tv T1 va vn, .bool true]) ∧ TabIn W2 T1 va vn) ∧ Below W.heap.size W W2) := hs; clear hs))
  refine bodyPost_ret (v := .tuple #[.pointer (some ⟨w4.heap.size, 0, none⟩), .int .i64 0, .int .i64 0]) (by simp [results, Tryz.results14, go_sem]) rfl ?_
  exact ⟨_, c, rfl, fun w2 k => mch_new HA.out HOK.out HB4.out.size k, HB4.out.size, HB4.out.alloc HB4.out.size _⟩
end Go.Proofs.YtbjabpodkaokjaaGreatDoor

namespace Go.Proofs.YtbjabpodkaokjaaGreatDoor
open Go.RowKit
open Sx (Prt Cnt)

/-- What Compile answers. -/
def CompRes (w w' : World) (r : (Int × Int) ⊕ Tb) (e : Ending) : Prop := match r with
  | .inl x => e = .returned (.tuple #[.pointer none, .int .i64 x.1, .int .i64 x.2])
  | .inr t => ∃ m c, e = .returned (.tuple #[.pointer (some ⟨m, 0, none⟩), .int .i64 0, .int .i64 0]) ∧ (∀ w2, Hi w.heap.size w' w2 → Mch w2 m t c) ∧ w.heap.size ≤ m
theorem repCs_len {w : World} {S : Nat → Prop} {cs : List (List Prt)} {g0 : Option Addr} {n0 c0 : Nat} (h : Sx.RepCs w S cs (.slice g0 n0 c0)) : n0 = cs.length := by
  obtain ⟨vs, ⟨-, q⟩, -⟩ := h
  rcases q with ⟨e, h0⟩ | ⟨g, cap, cur, e, -⟩
  · injection e with _ e2 _; omega
  · injection e
theorem comp_any (w : World) (s : ByteArray) (limit : Int) (hS : Sx.Tabs w) (hT : TabZ w) (hs : s.size ≤ maxLen) :
    Calls Tryz.prog 14 #[.string s, .int .i64 limit] w fun e w' => CompRes w w' (compM s.data.toList limit) e ∧ Below w.heap.size w w' := by
  by_cases hlim : limit < 1 ∨ 200 < limit
  · have hc : compM s.data.toList limit = .inl (2, 0) := by unfold compM; rw [if_pos hlim]
    rw [hc]
    exact comp_arg w s limit hlim
  · have h1 : ¬ limit < 1 := fun h => hlim (.inl h)
    have h2 : ¬ 200 < limit := fun h => hlim (.inr h)
    have hsl : s.data.toList.length = s.size := by simp
    have hr := Sx.read_any w s hS hs
    unfold compM
    rw [if_neg hlim, hsl]
    by_cases h200 : 200 < s.size
    · rw [if_pos h200]
      refine comp_read w s limit h1 h2 4 0 rfl (hr.mono ?_)
      rintro e w' ⟨q | q | q | q, hb⟩
      · exact ⟨q.2, hb⟩
      · exact absurd q.1 (by omega)
      · exact absurd q.1 (by omega)
      · exact absurd q.1 (by omega)
    · rw [if_neg h200]
      cases hR : Sx.readP s.data.toList with
      | bad r' =>
        simp only
        refine comp_read w s limit h1 h2 3 _ rfl (hr.mono ?_)
        rintro e w' ⟨q | ⟨-, r2, q1, q2⟩ | ⟨-, p, q1, -⟩ | ⟨-, p, q1, -⟩, hb⟩
        · exact absurd q.1 h200
        · rw [hR] at q1; injection q1 with q1; subst q1; exact ⟨q2, hb⟩
        · rw [hR] at q1; cases q1
        · rw [hR] at q1; cases q1
      | ok p r' =>
        obtain rfl := Sx.readP_rest hR
        simp only
        by_cases hn : 20 < Sx.nestCs p.choices
        · rw [if_pos hn]
          refine comp_read w s limit h1 h2 4 0 rfl (hr.mono ?_)
          rintro e w' ⟨q | ⟨-, r2, q1, q2⟩ | ⟨-, p2, q1, q2, q3⟩ | ⟨-, p2, q1, q2, -⟩, hb⟩
          · exact absurd q.1 h200
          · rw [hR] at q1; cases q1
          · exact ⟨q3, hb⟩
          · rw [hR] at q1; injection q1 with q1; subst q1; omega
        · rw [if_neg hn]
          obtain ⟨n, rfl⟩ : ∃ n : Nat, limit = n := ⟨limit.toNat, by omega⟩
          have hl : 1 ≤ n ∧ n ≤ 200 := by omega
          rw [Int.toNat_natCast]
          have hread : Calls Tryz.prog 40 #[.string s] w fun e w1 => (∃ g0 n0 c0, e = .returned (.tuple #[Sx.ptnV p.front p.back g0 n0 c0, .int .i64 0, .int .i64 0]) ∧ ∀ W, Below w1.heap.size w1 W → Calls Tryz.prog 41 #[.agg #[.bool p.front, .bool p.back, .slice g0 n0 c0], .int .i64 (n : Int)] W fun e W2 => Below W.heap.size W W2 ∧ ((searchM p n = none ∧ e = .returned (.tuple #[zT, .bool false])) ∨ ∃ t va vn, searchM p n = some t ∧ e = .returned (.tuple #[tv (tbOf t) va vn, .bool true]) ∧ TabIn W2 (tbOf t) va vn)) ∧ Below w.heap.size w w1 := by
            refine hr.mono ?_
            rintro e w1 ⟨q | ⟨-, r2, q1, q2⟩ | ⟨-, p2, q1, q2, q3⟩ | ⟨-, p2, q1, q2, g0, n0, c0, q3, q4⟩, hb⟩
            · exact absurd q.1 h200
            · rw [hR] at q1; cases q1
            · rw [hR] at q1; injection q1 with q1; subst q1; omega
            · rw [hR] at q1; injection q1 with q1; subst q1
              obtain rfl := repCs_len q3
              have hz := hb.size
              have ht := hT.lt
              refine ⟨⟨g0, _, c0, q4, fun W hW => ?_⟩, hb⟩
              have hzW := hW.size
              exact searchT_any W p g0 c0 n hl (hT.keep ((hW.block 1 (by omega)).trans (hb.block 1 ht))) (by omega) (readP_tr hR) (q3.of_heap (fun g hg hlt => ⟨by omega, hW.block g hlt⟩))
          cases hM : searchM p n with
          | none =>
            have hc : compT p n = none := by unfold compT; rw [hM]; rfl
            rw [hc]
            simp only
            refine comp_none w s n h1 h2 p.front p.back (hread.mono ?_)
            rintro e w1 ⟨⟨g0, n0, c0, q1, q2⟩, hb⟩
            refine ⟨⟨g0, n0, c0, q1, fun W hW => (q2 W hW).mono ?_⟩, hb⟩
            rintro e W2 ⟨hb2, ⟨-, q⟩ | ⟨t, va, vn, q, -⟩⟩
            · exact ⟨q, hb2⟩
            · rw [hM] at q; cases q
          | some t =>
            have hc : compT p n = some (tbOf (leastM t)) := by unfold compT; rw [hM]; rfl
            rw [hc]
            simp only
            obtain ⟨m, k, hm, hk, hok⟩ := searchM_k hl.1 hM
            obtain ⟨i1, i2⟩ := least_small hok (by omega) hk
            refine (comp_some w s n h1 h2 p.front p.back (tbOf t) (tbOf (leastM t)) i1 i2 (hread.mono ?_) (fun W va vn ht => leastT_any W t m k hok (by omega) hk va vn ht.acc ht.next)).mono ?_
            · rintro e w1 ⟨⟨g0, n0, c0, q1, q2⟩, hb⟩
              refine ⟨⟨g0, n0, c0, q1, fun W hW => (q2 W hW).mono ?_⟩, hb⟩
              rintro e W2 ⟨hb2, ⟨q, -⟩ | ⟨t2, va, vn, q, q3, q4⟩⟩
              · rw [hM] at q; cases q
              · rw [hM] at q; injection q with q; subst q; exact ⟨⟨va, vn, q3, q4⟩, hb2⟩
            · rintro e w' ⟨g, c, q1, q2, q3, q4⟩
              exact ⟨⟨g, c, q1, q2, q3⟩, q4⟩
end Go.Proofs.YtbjabpodkaokjaaGreatDoor

namespace Go.Proofs.YtbjabpodkaokjaaGreatDoor
open Go.RowKit

/-- Which of n things the number c speaks of. -/
def pkN (c : Int) (n : Nat) : Nat := ((if c < 0 then -(c + 1) else c) % n).toNat
theorem pkN_lt (c : Int) (n : Nat) (h : 0 < n) : pkN c n < n := by
  unfold pkN
  have := Int.emod_lt_of_pos (if c < 0 then -(c + 1) else c) (b := n) (by omega)
  have := Int.emod_nonneg (if c < 0 then -(c + 1) else c) (b := n) (by omega)
  omega
set_option maxHeartbeats 1000000 in
theorem kpick_any (w : World) (c : Int) (n : Nat) (h1 : -9223372036854775808 ≤ c) (h2 : c ≤ 9223372036854775807) (hn : 0 < n) (hn2 : n ≤ 9223372036854775807) :
    Calls Tryz.prog 21 #[.int .i64 c, .int .i64 n] w fun e w' => e = .returned (.int .i64 (pkN c n)) ∧ w' = w := by
  have hz : ((n : Int) == 0) = false := by simp; omega
  by_cases h0 : c < 0
  · go_enter Tryz.func21, Tryz.ntmps21
    go_wp2
    go_ret
    have e : -((c + 1).tmod (n : Int)) = (pkN c n : Int) := by
      unfold pkN
      rw [if_pos h0, ← Int.neg_tmod, Int.tmod_eq_emod_of_nonneg (by omega), Int.toNat_of_nonneg (Int.emod_nonneg _ (by omega))]
    rw [← e]
    exact ⟨rfl, rfl⟩
  · go_enter Tryz.func21, Tryz.ntmps21
    go_wp2
    go_ret
    have e : c % (n : Int) = (pkN c n : Int) := by
      unfold pkN
      rw [if_neg (by omega), Int.toNat_of_nonneg (Int.emod_nonneg _ (by omega))]
    rw [← e]
    exact ⟨rfl, rfl⟩
/-- What 'compiled' answers. -/
def CpdRes (w w' : World) (r : (Int × Int) ⊕ Tb) (e : Ending) : Prop := match r with
  | .inl x => e = .returned (.tuple #[.pointer none, .bool (x.1 == 4 && x.2 == 0)])
  | .inr t => ∃ m c, e = .returned (.tuple #[.pointer (some ⟨m, 0, none⟩), .bool true]) ∧ (∀ w2, Hi w.heap.size w' w2 → Mch w2 m t c) ∧ w.heap.size ≤ m
set_option maxHeartbeats 1000000 in
theorem cpd_any (w : World) (s : ByteArray) (hS : Sx.Tabs w) (hT : TabZ w) (hs : s.size ≤ maxLen) :
    Calls Tryz.prog 29 #[.string s] w fun e w' => CpdRes w w' (compM s.data.toList 200) e ∧ Below w.heap.size w w' := by
  have hc := comp_any w s 200 hS hT hs
  cases hM : compM s.data.toList 200 with
  | inl x =>
    rw [hM] at hc
    obtain ⟨a, b⟩ := x
    have HC : Hid (Calls Tryz.prog 14 #[.string s, .int .i64 200] w fun e w' => CompRes w w' (.inl (a, b)) e ∧ Below w.heap.size w w') := hc
    clear hc hS hT hM hs
    by_cases ha : a = 4
    · subst ha
      go_enter Tryz.func29, Tryz.ntmps29
      go_wp2_with (go_at_call 14; refine HC.out.mono ?_; rintro e w1 ⟨rfl, hb1⟩)
      go_ret2
      exact ⟨rfl, hb1⟩
    · have ha' : (a == 4) = false := by simpa using ha
      go_enter Tryz.func29, Tryz.ntmps29
      go_wp2_with (go_at_call 14; refine HC.out.mono ?_; rintro e w1 ⟨rfl, hb1⟩)
      go_ret2
      refine ⟨?_, hb1⟩
      show _ = _
      simp [ha']
  | inr t =>
    rw [hM] at hc
    have HC : Hid (Calls Tryz.prog 14 #[.string s, .int .i64 200] w fun e w' => CompRes w w' (.inr t) e ∧ Below w.heap.size w w') := hc
    clear hc hS hT hM hs
    go_enter Tryz.func29, Tryz.ntmps29
    go_wp2_with (go_at_call 14; refine HC.out.mono ?_; rintro e w1 ⟨⟨m, c, rfl, hm, hl⟩, hb1⟩; have HM : Hid (∀ w2, Hi w.heap.size w1 w2 → Mch w2 m t c) := hm; clear hm)
    go_ret2
    exact ⟨⟨m, c, rfl, HM.out, hl⟩, hb1⟩
abbrev tx1 : List UInt8 := [120, 120, 97, 98, 120, 97, 98]
abbrev tx2 : List UInt8 := [98, 97]
def abOk : Bool := match compM [97, 98] 200 with
  | .inr t => (lastI (endsL t tx1) == 7) && (firstI (endsL t tx1) == 4) && (lastI (endsL t tx2) == -1) && !(endsL t tx1).isEmpty
  | .inl _ => false
theorem ab_ok : abOk = true := by kernel_rfl
theorem ab_is : ∃ t, compM [97, 98] 200 = .inr t ∧ lastI (endsL t tx1) = 7 ∧ firstI (endsL t tx1) = 4 ∧ lastI (endsL t tx2) = -1 ∧ (endsL t tx1).isEmpty = false := by
  have h := ab_ok
  unfold abOk at h
  split at h
  · rename_i t ht
    simp only [Bool.and_eq_true, beq_iff_eq, Bool.not_eq_true'] at h
    exact ⟨t, ht, h.1.1.1, h.1.1.2, h.1.2, h.2⟩
  · cases h
set_option maxHeartbeats 1000000 in
theorem plain_yes (w : World) (hS : Sx.Tabs w) (hT : TabZ w) :
    Calls Tryz.prog 20 #[] w fun e w' => e = .returned (.bool true) ∧ Below w.heap.size w w' := by
  obtain ⟨t, ht, h1, h2, h3, h4⟩ := ab_is
  have hc := cpd_any w ⟨#[97, 98]⟩ hS hT (by decide)
  rw [show (⟨#[97, 98]⟩ : ByteArray).data.toList = [97, 98] from rfl, ht] at hc
  have HC : Hid (Calls Tryz.prog 29 #[.string ⟨#[97, 98]⟩] w fun e w' => CpdRes w w' (.inr t) e ∧ Below w.heap.size w w') := hc
  have HIM : Hid (∀ W m c, Mch W m t c → Calls Tryz.prog 39 #[.pointer (some ⟨m, 0, none⟩), .string ⟨#[120, 120, 97, 98, 120, 97, 98]⟩] W fun e w' => e = .returned (.tuple #[.bool true, .int .i64 0]) ∧ Below W.heap.size W w') := fun W m c h => by
    have := ismatch_any W m t c h tx1 (by decide)
    rw [h4] at this
    exact this
  have HSE : Hid (∀ W m c, Mch W m t c → Calls Tryz.prog 55 #[.pointer (some ⟨m, 0, none⟩), .string ⟨#[120, 120, 97, 98, 120, 97, 98]⟩] W fun e w' => e = .returned (.tuple #[.int .i64 4, .int .i64 0]) ∧ Below W.heap.size W w') := fun W m c h => by
    have := shortest_any W m t c h tx1 (by decide)
    rw [h2] at this
    exact this
  have HL1 : Hid (∀ W m c, Mch W m t c → Calls Tryz.prog 56 #[.pointer (some ⟨m, 0, none⟩), .string ⟨#[120, 120, 97, 98, 120, 97, 98]⟩] W fun e w' => e = .returned (.tuple #[.int .i64 7, .int .i64 0]) ∧ Below W.heap.size W w') := fun W m c h => by
    have := longest_any W m t c h tx1 (by decide)
    rw [h1] at this
    exact this
  have HL2 : Hid (∀ W m c, Mch W m t c → Calls Tryz.prog 56 #[.pointer (some ⟨m, 0, none⟩), .string ⟨#[98, 97]⟩] W fun e w' => e = .returned (.tuple #[.int .i64 (-1), .int .i64 0]) ∧ Below W.heap.size W w') := fun W m c h => by
    have := longest_any W m t c h tx2 (by decide)
    rw [h3] at this
    exact this
  clear hc hS hT h1 h2 h3 h4 ht
  go_enter Tryz.func20, Tryz.ntmps20
  go_wp2_with (first | (go_at_call 56; refine (HL2.out _ _ _ (HM4.out)).mono ?_; rintro e w5 ⟨rfl, hb5⟩; have HB5 : Hid (Below w.heap.size w w5) := HB4.out.trans (hb5.mono HB4.out.size); clear hb5) | (go_at_call 56; refine (HL1.out _ _ _ (HM3.out)).mono ?_; rintro e w4 ⟨rfl, hb4⟩; have HB4 : Hid (Below w.heap.size w w4) := HB3.out.trans (hb4.mono HB3.out.size); have HM4 : Hid (Mch w4 m t c) := HM3.out.below hb4; clear hb4) | (go_at_call 55; refine (HSE.out _ _ _ (HM2.out)).mono ?_; rintro e w3 ⟨rfl, hb3⟩; have HB3 : Hid (Below w.heap.size w w3) := HB2.out.trans (hb3.mono HB2.out.size); have HM3 : Hid (Mch w3 m t c) := HM2.out.below hb3; clear hb3) | (go_at_call 39; refine (HIM.out _ _ _ (HM1.out)).mono ?_; rintro e w2 ⟨rfl, hb2⟩; have HB2 : Hid (Below w.heap.size w w2) := HB1.out.trans (hb2.mono HB1.out.size); have HM2 : Hid (Mch w2 m t c) := HM1.out.below hb2; clear hb2) | (go_at_call 29; refine HC.out.mono ?_; rintro e w1 ⟨⟨m, c, rfl, hm, hl⟩, hb1⟩; have HB1 : Hid (Below w.heap.size w w1) := hb1; have HM1 : Hid (Mch w1 m t c) := hm _ (Hi.refl _ _); clear hm hb1))
  go_ret
  exact ⟨rfl, HB5.out⟩
end Go.Proofs.YtbjabpodkaokjaaGreatDoor
