import Derived.Test.YtbjabpodkaokjaaDoorJ41
import Derived.Deep.RegionHeld3
set_option linter.unusedVariables false
set_option linter.unusedSimpArgs false
namespace Go.Proofs.YtbjabpodkaokjaaDoor
open Go.RowKit

mutual
def OkT : RT → Prop
  | .bytes _ => True
  | .node k ks => (k = 1 ∨ k = 2) ∧ OkTs ks ∧ ks.length ≤ 1000
  | .rep t c lo hi => OkT t ∧ (c = 123 → (0 ≤ lo ∧ lo < 100) ∧ (hi = -1 ∨ (0 ≤ hi ∧ hi < 100)))
def OkTs : List RT → Prop
  | [] => True
  | t :: ts => OkT t ∧ OkTs ts
end
abbrev TxtC (T : RT) : Prop := ∀ w g, RepT w (fun k => k < w.heap.size) T g → Calls Tryd.prog 10 #[.pointer (some ⟨g, 0, none⟩)] w fun e w' => e = .returned (.string (bs (tRT T))) ∧ Below w.heap.size w w'
theorem RepT.all {x y : World} {T : RT} {g : Nat} (h : RepT x (fun k => k < x.heap.size) T g) (hl : Below x.heap.size x y) : RepT y (fun k => k < y.heap.size) T g :=
  RepT.of_heap (S' := fun k => k < y.heap.size) (fun j hj _ => ⟨Nat.lt_of_lt_of_le hj hl.size, hl.block j hj⟩) T g h
theorem row_cells {w : World} {S : Nat → Prop} {e : TypeId} {v : Value} {n : Nat} {xs : List Value} (h : RowIn w S e 1 v n xs) (hn : 0 < n) : ∃ M cap, v = .slice (some ⟨M, 0, none⟩) n cap ∧ n ≤ cap ∧ ∀ (j : Nat) (u : Value), j < n → xs[j]? = some u → w.cell? ⟨M, j, none⟩ = some u := by
  obtain ⟨h1, h2⟩ := h
  rcases h2 with ⟨_, h3⟩ | ⟨g, cap, cur, hv, hg, hh, hnc, hc, hs, ht⟩
  · omega
  · refine ⟨g, cap, hv, hnc, fun j u hj hx => ?_⟩
    have : cur.toList[j]? = some u := by
      have h4 : (cur.toList.take (n * 1))[j]? = some u := by rw [ht]; exact hx
      rwa [List.getElem?_take_of_lt (by omega)] at h4
    simp [World.cell?, hh]
    simpa using this
theorem RepTs.get {w : World} {S : Nat → Prop} : ∀ {ts : List RT} {vs : List Value}, RepTs w S ts vs → ∀ (j : Nat) (hj : j < ts.length), ∃ g, vs[j]? = some (.pointer (some ⟨g, 0, none⟩)) ∧ RepT w S ts[j] g
  | [], _, _, j, hj => by simp at hj
  | t :: ts, vs, h, j, hj => by
    simp only [RepTs] at h
    obtain ⟨g, vs', rfl, h1, h2⟩ := h
    cases j with
    | zero => exact ⟨g, rfl, h1⟩
    | succ j =>
      obtain ⟨g', e, h3⟩ := RepTs.get h2 j (by simpa using hj)
      exact ⟨g', by simpa using e, by simpa using h3⟩

set_option maxRecDepth 20000 in
set_option maxHeartbeats 2000000 in
theorem text_bytes (S : Nat → Bool) : TxtC (.bytes S) := by
  intro w g h
  simp only [RepT] at h
  obtain ⟨hg, kv, mn, mx, sg, hT⟩ := h
  have htd := told_ok S
  have hTc := hT
  obtain ⟨u0, uB, uk, um, ux, us, uf⟩ := hTc
  go_enter Tryd.func10, Tryd.ntmps10
  go_wp2_with (first | (go_at_call 16; refine (htd _).mono ?_; rintro e w2 ⟨rfl, l2⟩) | (refine wpList_load_mid rfl 52 (.tmp 14) rfl g 1 rfl (bL S) _ hT.range Tryd.underlying52 rfl (by rw [bL_len]; exact sizeA) ?_))
  go_ret
  exact ⟨rfl, l2⟩

theorem ba_size (l : List UInt8) : (bs l).size = l.length := by simp [bs, ByteArray.size]

set_option maxRecDepth 20000 in
set_option maxHeartbeats 2000000 in
theorem text_rep1 (T : RT) (c : UInt8) (lo hi : Int) (hc : c ≠ 123) (hk : TxtC T) (hlen : (tRT T).length ≤ 900000) : TxtC (.rep T c lo hi) := by
  intro w g h
  simp only [RepT] at h
  obtain ⟨hg, B, kv, hT, g', hrow, hR⟩ := h
  obtain ⟨M, cap, rfl, hcap, hcell⟩ := row_cells hrow (by omega)
  have hc0 := hcell 0 _ (by omega) rfl
  have hkc := hk w g' hR
  have HT : Hid (Tr w g 3 B (.slice (some ⟨M, 0, none⟩) 1 cap) lo hi c.toNat) := hT
  obtain ⟨u0, uB, uk, um, ux, us, uf⟩ := hT
  have q : ((c.toNat : Int) != 123) = true := by have := nbeq hc; simp at this ⊢; exact this
  obtain ⟨o, hO⟩ : ∃ o, o = bs (tRT T) := ⟨_, rfl⟩
  have HO : Hid (o = bs (tRT T)) := hO
  have hos : o.size ≤ 900000 := by rw [hO, ba_size]; exact hlen
  rw [← hO] at hkc
  have hcv := fun x g h => conv1 x g c.toNat c rfl h
  have hc8 := c.toNat_lt
  clear hO hcell hrow hR hk hlen
  go_enter Tryd.func10, Tryd.ntmps10
  go_wp2_with (go_at_call 10; refine hkc.mono ?_; rintro e w2 ⟨rfl, l2⟩; have t2 := HT.out.of_heap (l2.block _ HT.out.lt); obtain ⟨v0, vB, vk, vm, vx, vs, vf⟩ := t2)
  go_ret
  have hz2 := l2.size
  refine ⟨?_, (by (repeat first | (with_reducible refine Below.setCell ?_ (by first | exact Nat.le_refl _ | (simp; done) | (simp; omega)) _) | (with_reducible refine Below.alloc ?_ (by first | omega | (simp; done) | (simp; omega)) _) | (with_reducible refine Below.drew ?_) | (with_reducible refine belowN ?_ _)); exact l2)⟩
  simp only [tRT, tRep, if_neg hc]
  show Ending.returned (.string (o ++ bs [c])) = _
  rw [HO.out, ba_app]

set_option maxRecDepth 20000 in
set_option maxHeartbeats 2000000 in
theorem text_rep2 (T : RT) (lo : Nat) (hl : lo < 100) (hk : TxtC T) (hlen : (tRT T).length ≤ 900000) : TxtC (.rep T 123 lo (-1)) := by
  intro w g h
  simp only [RepT] at h
  obtain ⟨hg, B, kv, hT, g', hrow, hR⟩ := h
  obtain ⟨M, cap, rfl, hcap, hcell⟩ := row_cells hrow (by omega)
  have hc0 := hcell 0 _ (by omega) rfl
  have hkc := hk w g' hR
  have HT : Hid (Tr w g 3 B (.slice (some ⟨M, 0, none⟩) 1 cap) lo (-1) 123) := hT
  have hT : Tr w g 3 B (.slice (some ⟨M, 0, none⟩) 1 cap) lo (-1) 123 := hT
  obtain ⟨u0, uB, uk, um, ux, us, uf⟩ := hT
  obtain ⟨o, hO⟩ : ∃ o, o = bs (tRT T) := ⟨_, rfl⟩
  have HO : Hid (o = bs (tRT T)) := hO
  have hos : o.size ≤ 900000 := by rw [hO, ba_size]; exact hlen
  obtain ⟨d, hD⟩ : ∃ d, d = bs (tDec lo) := ⟨_, rfl⟩
  have HD : Hid (d = bs (tDec lo)) := hD
  have hds : d.size ≤ 2 := by rw [hD, ba_size]; unfold tDec; split <;> simp
  have hdc := decimal_ok lo hl
  rw [show (⟨(tDec lo).toArray⟩ : ByteArray) = d from hD.symm] at hdc
  rw [← hO] at hkc
  clear hO hD hcell hrow hR hk hlen
  go_enter Tryd.func10, Tryd.ntmps10
  go_wp2_with (first | (go_at_call 17; refine (hdc _).mono ?_; rintro e w3 ⟨rfl, l3⟩) | (go_at_call 10; refine hkc.mono ?_; rintro e w2 ⟨rfl, l2⟩; have t2 := HT.out.of_heap (l2.block _ HT.out.lt); obtain ⟨v0, vB, vk, vm, vx, vs, vf⟩ := t2))
  go_ret
  refine ⟨?_, l2.trans (l3.mono l2.size)⟩
  simp only [tRT, tRep]
  show Ending.returned (.string (o ++ bs [123] ++ d ++ bs [44, 125])) = _
  rw [HO.out, HD.out, ba_app, ba_app, ba_app]
  simp

set_option maxRecDepth 20000 in
set_option maxHeartbeats 2000000 in
theorem text_node0 (k : Nat) (hk : k = 1 ∨ k = 2) : TxtC (.node k []) := by
  intro w g h
  simp only [RepT] at h
  obtain ⟨hg, B, kv, mn, mx, sg, hT, vs, hrow, -⟩ := h
  obtain ⟨g0, cap, rfl⟩ : ∃ g0 cap, kv = .slice g0 0 cap := by
    rcases hrow.2 with ⟨h2, _⟩ | ⟨g, cap, cur, hv, _⟩
    · exact ⟨_, _, h2⟩
    · exact ⟨_, _, hv⟩
  have k1 : ((k : Int) == 0) = false := by rcases hk with rfl | rfl <;> rfl
  have k2 : ((k : Int) == 3) = false := by rcases hk with rfl | rfl <;> rfl
  obtain ⟨u0, uB, uk, um, ux, us, uf⟩ := hT
  clear hrow
  go_enter Tryd.func10, Tryd.ntmps10
  go_wp2
  go_ret
  exact ⟨by simp only [tRT]; rfl, Below.refl _ _⟩
end Go.Proofs.YtbjabpodkaokjaaDoor

namespace Go.Proofs.YtbjabpodkaokjaaDoor
open Go.RowKit

set_option maxRecDepth 20000 in
set_option maxHeartbeats 800000 in
theorem text_rep3 (T : RT) (lo hi : Nat) (hl : lo < 100) (hh : hi < 100) (hk : TxtC T) (hlen : (tRT T).length ≤ 900000) : TxtC (.rep T 123 lo hi) := by
  intro w g h
  simp only [RepT] at h
  obtain ⟨hg, B, kv, hT, g', hrow, hR⟩ := h
  obtain ⟨M, cap, rfl, hcap, hcell⟩ := row_cells hrow (by omega)
  have hc0 := hcell 0 _ (by omega) rfl
  have hkc := hk w g' hR
  have HT : Hid (Tr w g 3 B (.slice (some ⟨M, 0, none⟩) 1 cap) lo hi 123) := hT
  have hT : Tr w g 3 B (.slice (some ⟨M, 0, none⟩) 1 cap) lo hi 123 := hT
  obtain ⟨u0, uB, uk, um, ux, us, uf⟩ := hT
  obtain ⟨o, hO⟩ : ∃ o, o = bs (tRT T) := ⟨_, rfl⟩
  have HO : Hid (o = bs (tRT T)) := hO
  have hos : o.size ≤ 900000 := by rw [hO, ba_size]; exact hlen
  obtain ⟨d, hD⟩ : ∃ d, d = bs (tDec lo) := ⟨_, rfl⟩
  have HD : Hid (d = bs (tDec lo)) := hD
  have hds : d.size ≤ 2 := by rw [hD, ba_size]; unfold tDec; split <;> simp
  have hdc := decimal_ok lo hl
  rw [show (⟨(tDec lo).toArray⟩ : ByteArray) = d from hD.symm] at hdc
  obtain ⟨f, hF⟩ : ∃ d, d = bs (tDec hi) := ⟨_, rfl⟩
  have HF : Hid (f = bs (tDec hi)) := hF
  have hfs : f.size ≤ 2 := by rw [hF, ba_size]; unfold tDec; split <;> simp
  have hfc := decimal_ok hi hh
  rw [show (⟨(tDec hi).toArray⟩ : ByteArray) = f from hF.symm] at hfc
  rw [← hO] at hkc
  clear hO hD hF hcell hrow hR hk hlen
  go_enter Tryd.func10, Tryd.ntmps10
  go_wp2_with (go_at_call 10; refine hkc.mono ?_; rintro e w2 ⟨rfl, l2⟩; have t2 := HT.out.of_heap (l2.block _ HT.out.lt); have HT2 : Hid _ := t2; obtain ⟨v0, vB, vk, vm, vx, vs, vf⟩ := t2)
  clear v0 vB vk vs vf
  have hgz : g < w2.heap.size := HT2.out.lt
  have a1 : ¬ 9223372036854775807 < o.size + 1 := by omega
  have a2 : ¬ 9223372036854775807 < o.size + 1 + d.size := by omega
  have a3 : ¬ 9223372036854775807 < o.size + 1 + d.size + 1 := by omega
  have a4 : ¬ 9223372036854775807 < o.size + 1 + d.size + 1 + f.size := by omega
  have a5 : ¬ 9223372036854775807 < o.size + 1 + d.size + 1 + f.size + 1 := by omega
  go_region_held3 (fun w' => w'.cell? ⟨g, 258, none⟩ = some (.int .i64 lo) ∧ w'.cell? ⟨g, 259, none⟩ = some (.int .i64 hi)) (go_keep)
    (first | (go_at_call 17; have := hmark; refine (hfc _).mono ?_; rintro e w4 ⟨rfl, l4⟩; have y1' : w4.cell? ⟨g, 258, none⟩ = some (.int .i64 lo) := (l4.cell hg3).trans y1; have y2' : w4.cell? ⟨g, 259, none⟩ = some (.int .i64 hi) := (l4.cell hg3).trans y2) | (go_at_call 17; refine (hdc _).mono ?_; rintro e w3 ⟨rfl, l3⟩; have hmark : True := trivial; have hg3 : g < w3.heap.size := Nat.lt_of_lt_of_le hgz l3.size; have y1 : w3.cell? ⟨g, 258, none⟩ = some (.int .i64 lo) := (l3.cell (p := ⟨g, 258, none⟩) hgz).trans vm; have y2 : w3.cell? ⟨g, 259, none⟩ = some (.int .i64 hi) := (l3.cell (p := ⟨g, 259, none⟩) hgz).trans vx))
  go_wp2
  go_ret
  refine ⟨?_, (l2.drew.trans (l3.mono l2.size)).trans (l4.mono (Nat.le_trans l2.size l3.size))⟩
  have ht : tRT (RT.rep T 123 (lo : Int) (hi : Int)) = tRT T ++ [123] ++ tDec lo ++ [44] ++ tDec hi ++ [125] := by
    have : ¬ ((hi : Int) < 0) := by omega
    simp [tRT, tRep, this]
  rw [ht]
  show Ending.returned (.string (o ++ bs [123] ++ d ++ bs [44] ++ f ++ bs [125])) = _
  rw [HO.out, HD.out, HF.out, ba_app, ba_app, ba_app, ba_app, ba_app]
theorem tRTs_snoc (k : Nat) : ∀ (l : List RT) (i : Nat) (t : RT), tRTs k i (l ++ [t]) = tRTs k i l ++ (if 0 < i + l.length ∧ k = 2 then [124] else []) ++ tRT t
  | [], i, t => by simp [tRTs]
  | a :: l, i, t => by
    simp only [List.cons_append, tRTs, tRTs_snoc k l (i + 1) t, List.length_cons]
    rw [show i + 1 + l.length = i + (l.length + 1) by omega]
    simp
theorem tRTs_take (k : Nat) (ts : List RT) (j : Nat) (hj : j < ts.length) : tRTs k 0 (ts.take (j + 1)) = tRTs k 0 (ts.take j) ++ (if 0 < j ∧ k = 2 then [124] else []) ++ tRT ts[j] := by
  rw [List.take_succ_eq_append_getElem hj, tRTs_snoc]
  simp [Nat.min_eq_left (Nat.le_of_lt hj)]
theorem tRTs_le (k : Nat) (l1 l2 : List RT) (i : Nat) : (tRTs k i l1).length ≤ (tRTs k i (l1 ++ l2)).length := by
  induction l1 generalizing i with
  | nil => simp [tRTs]
  | cons a l ih => have := ih (i + 1); simp only [List.cons_append, tRTs, List.length_append]; omega
theorem tRTs_mem (k : Nat) (ts : List RT) (j : Nat) (hj : j < ts.length) : (tRTs k 0 (ts.take j)).length + 1 + (tRT ts[j]).length ≤ (tRTs k 0 ts).length + 1 := by
  have h1 := tRTs_take k ts j hj
  have h2 := tRTs_le k (ts.take (j + 1)) (ts.drop (j + 1)) 0
  rw [List.take_append_drop, h1] at h2
  simp only [List.length_append] at h2
  omega

set_option maxRecDepth 20000 in
set_option maxHeartbeats 4000000 in
theorem text_node1 (ts : List RT) (h0 : 0 < ts.length) (hk1 : ts.length ≤ 1000) (hts : ∀ (j : Nat) (hj : j < ts.length), TxtC ts[j]) (hlen : (tRTs 1 0 ts).length ≤ 900000) : TxtC (.node 1 ts) := by
  intro w g h
  simp only [RepT] at h
  obtain ⟨hg, B, kv, mn, mx, sg, hT, vs, hrow, hR⟩ := h
  obtain ⟨M, cap, rfl, hcap, hcell⟩ := row_cells hrow h0
  have HT : Hid (Tr w g 1 B (.slice (some ⟨M, 0, none⟩) ts.length cap) mn mx sg) := hT
  have hM : M < w.heap.size := by
    rcases hrow.2 with ⟨h2, _⟩ | ⟨g2, cap2, cur, hv, hS, _⟩
    · simp at h2
    · injection hv with e _ _; injection e with e; injection e with e; rw [e]; exact hS
  have HC : Hid (∀ (j : Nat) (hj : j < ts.length), ∃ g', w.cell? ⟨M, j, none⟩ = some (.pointer (some ⟨g', 0, none⟩)) ∧ RepT w (fun k => k < w.heap.size) ts[j] g') := fun j hj => by
    obtain ⟨g', e, h3⟩ := hR.get j hj
    exact ⟨g', hcell j _ hj e, h3⟩
  have hn0 : ((ts.length : Int) == 0) = false := by rw [beq_eq_false_iff_ne]; omega
  obtain ⟨u0, uB, uk, um, ux, us, uf⟩ := hT
  have HTS : Hid (∀ (j : Nat) (hj : j < ts.length), TxtC ts[j]) := hts
  clear hrow hR hcell hts
  obtain ⟨n, hn⟩ : ∃ n, n = ts.length := ⟨_, rfl⟩
  have HN : Hid (n = ts.length) := hn
  rw [← hn] at hn0 uk hk1 hcap h0
  have HT : Hid (Tr w g 1 B (.slice (some ⟨M, 0, none⟩) n cap) mn mx sg) := by have := HT.out; rwa [← hn] at this
  clear hn
  go_enter Tryd.func10, Tryd.ntmps10
  go_wp2
  go_loopw [4, 5] (fun out i wq => ∃ (j : Nat) (o : ByteArray), out = .string o ∧ o = bs (tRTs 1 0 (ts.take j)) ∧ i = .int .i64 j ∧ j ≤ n ∧ Below w.heap.size w wq) (fun _ i _ => n - (intOf i).toNat)
  case atStart => exact ⟨0, bs [], rfl, by simp [tRTs], rfl, by omega, Below.refl _ _⟩
  case round =>
    obtain ⟨j, o, rfl, ho, rfl, hj, hl⟩ := hrel
    have HO : Hid (o = bs (tRTs 1 0 (ts.take j))) := ho
    clear ho u0 uB uk um ux us uf
    have tq := HT.out.of_heap (hl.block _ HT.out.lt)
    obtain ⟨v0, vB, vk, vm, vx, vs', vf⟩ := tq
    by_cases hlt : j < n
    · have hjt : j < ts.length := by have := HN.out; omega
      obtain ⟨g', hc', hR'⟩ := HC.out j hjt
      have hcq : wr.cell? ⟨M, j, none⟩ = some (.pointer (some ⟨g', 0, none⟩)) := (hl.cell (p := ⟨M, j, none⟩) hM).trans hc'
      have hkc := HTS.out j hjt wr g' (hR'.all hl)
      obtain ⟨d, hD⟩ : ∃ d, d = bs (tRT ts[j]) := ⟨_, rfl⟩
      have HD : Hid (d = bs (tRT ts[j])) := hD
      rw [← hD] at hkc
      have hsz : o.size + 1 + d.size ≤ 900001 := by
        rw [HO.out, hD, ba_size, ba_size]; have := tRTs_mem 1 ts j hjt; omega
      clear hD hc' hR'
      have hltI : (j : Int) < n := by omega
      have hbar : ¬ (0 < j ∧ 1 = 2) := by omega
      · have HS : Hid (bs (tRTs 1 0 (ts.take (j + 1))) = o ++ d) := by
          show _ = _
          rw [tRTs_take 1 ts j hjt, if_neg hbar, HO.out, HD.out, ba_app, List.append_nil]
        by_cases hj0' : 0 < j
        · have hj0 : (0 : Int) < j := by omega
          go_wp2_with (go_at_call 10; refine hkc.mono ?_; rintro e w2 ⟨rfl, l2⟩)
          go_roundw
          case rel => exact ⟨j + 1, _, rfl, HS.out.symm, by go_num, by omega, hl.trans (l2.mono hl.size)⟩
          case measure => simp [intOf] <;> omega
        · have hj0 : ¬ (0 : Int) < j := by omega
          go_wp2_with (go_at_call 10; refine hkc.mono ?_; rintro e w2 ⟨rfl, l2⟩)
          go_roundw
          case rel => exact ⟨j + 1, _, rfl, HS.out.symm, by go_num, by omega, hl.trans (l2.mono hl.size)⟩
          case measure => simp [intOf] <;> omega
    · have e : j = n := by omega
      have hsz : o.size ≤ 900000 := by
        rw [HO.out, ba_size, e, HN.out, List.take_length]; exact hlen
      go_wp2
      go_ret
      refine ⟨?_, hl⟩
      have hne : ¬ ts.length = 0 := by have := HN.out; omega
      simp only [tRT, if_neg hne]
      show Ending.returned (.string (bs [40] ++ o ++ bs [41])) = _
      rw [HO.out, ba_app, ba_app, e, HN.out, List.take_length]
set_option maxRecDepth 20000 in
set_option maxHeartbeats 4000000 in
theorem text_node2 (ts : List RT) (h0 : 0 < ts.length) (hk1 : ts.length ≤ 1000) (hts : ∀ (j : Nat) (hj : j < ts.length), TxtC ts[j]) (hlen : (tRTs 2 0 ts).length ≤ 900000) : TxtC (.node 2 ts) := by
  intro w g h
  simp only [RepT] at h
  obtain ⟨hg, B, kv, mn, mx, sg, hT, vs, hrow, hR⟩ := h
  obtain ⟨M, cap, rfl, hcap, hcell⟩ := row_cells hrow h0
  have HT : Hid (Tr w g 2 B (.slice (some ⟨M, 0, none⟩) ts.length cap) mn mx sg) := hT
  have hM : M < w.heap.size := by
    rcases hrow.2 with ⟨h2, _⟩ | ⟨g2, cap2, cur, hv, hS, _⟩
    · simp at h2
    · injection hv with e _ _; injection e with e; injection e with e; rw [e]; exact hS
  have HC : Hid (∀ (j : Nat) (hj : j < ts.length), ∃ g', w.cell? ⟨M, j, none⟩ = some (.pointer (some ⟨g', 0, none⟩)) ∧ RepT w (fun k => k < w.heap.size) ts[j] g') := fun j hj => by
    obtain ⟨g', e, h3⟩ := hR.get j hj
    exact ⟨g', hcell j _ hj e, h3⟩
  have hn0 : ((ts.length : Int) == 0) = false := by rw [beq_eq_false_iff_ne]; omega
  obtain ⟨u0, uB, uk, um, ux, us, uf⟩ := hT
  have HTS : Hid (∀ (j : Nat) (hj : j < ts.length), TxtC ts[j]) := hts
  clear hrow hR hcell hts
  obtain ⟨n, hn⟩ : ∃ n, n = ts.length := ⟨_, rfl⟩
  have HN : Hid (n = ts.length) := hn
  rw [← hn] at hn0 uk hk1 hcap h0
  have HT : Hid (Tr w g 2 B (.slice (some ⟨M, 0, none⟩) n cap) mn mx sg) := by have := HT.out; rwa [← hn] at this
  clear hn
  go_enter Tryd.func10, Tryd.ntmps10
  go_wp2
  go_loopw [4, 5] (fun out i wq => ∃ (j : Nat) (o : ByteArray), out = .string o ∧ o = bs (tRTs 2 0 (ts.take j)) ∧ i = .int .i64 j ∧ j ≤ n ∧ Below w.heap.size w wq) (fun _ i _ => n - (intOf i).toNat)
  case atStart => exact ⟨0, bs [], rfl, by simp [tRTs], rfl, by omega, Below.refl _ _⟩
  case round =>
    obtain ⟨j, o, rfl, ho, rfl, hj, hl⟩ := hrel
    have HO : Hid (o = bs (tRTs 2 0 (ts.take j))) := ho
    clear ho u0 uB uk um ux us uf
    have tq := HT.out.of_heap (hl.block _ HT.out.lt)
    obtain ⟨v0, vB, vk, vm, vx, vs', vf⟩ := tq
    by_cases hlt : j < n
    · have hjt : j < ts.length := by have := HN.out; omega
      obtain ⟨g', hc', hR'⟩ := HC.out j hjt
      have hcq : wr.cell? ⟨M, j, none⟩ = some (.pointer (some ⟨g', 0, none⟩)) := (hl.cell (p := ⟨M, j, none⟩) hM).trans hc'
      have hkc := HTS.out j hjt wr g' (hR'.all hl)
      obtain ⟨d, hD⟩ : ∃ d, d = bs (tRT ts[j]) := ⟨_, rfl⟩
      have HD : Hid (d = bs (tRT ts[j])) := hD
      rw [← hD] at hkc
      have hsz : o.size + 1 + d.size ≤ 900001 := by
        rw [HO.out, hD, ba_size, ba_size]; have := tRTs_mem 2 ts j hjt; omega
      clear hD hc' hR'
      have hltI : (j : Int) < n := by omega
      by_cases hbar : 0 < j ∧ 2 = 2
      · have hj0 : (0 : Int) < j := by omega
        have HS : Hid (bs (tRTs 2 0 (ts.take (j + 1))) = o ++ bs [124] ++ d) := by
          show _ = _
          rw [tRTs_take 2 ts j hjt, if_pos hbar, HO.out, HD.out, ba_app, ba_app]
        go_wp2_with (go_at_call 10; refine hkc.mono ?_; rintro e w2 ⟨rfl, l2⟩)
        go_roundw
        case rel => exact ⟨j + 1, _, rfl, HS.out.symm, by go_num, by omega, hl.trans (l2.mono hl.size)⟩
        case measure => simp [intOf] <;> omega
      · have HS : Hid (bs (tRTs 2 0 (ts.take (j + 1))) = o ++ d) := by
          show _ = _
          rw [tRTs_take 2 ts j hjt, if_neg hbar, HO.out, HD.out, ba_app, List.append_nil]
        by_cases hj0' : 0 < j
        · exact absurd ⟨hj0', rfl⟩ hbar
        · have hj0 : ¬ (0 : Int) < j := by omega
          go_wp2_with (go_at_call 10; refine hkc.mono ?_; rintro e w2 ⟨rfl, l2⟩)
          go_roundw
          case rel => exact ⟨j + 1, _, rfl, HS.out.symm, by go_num, by omega, hl.trans (l2.mono hl.size)⟩
          case measure => simp [intOf] <;> omega
    · have e : j = n := by omega
      have hsz : o.size ≤ 900000 := by
        rw [HO.out, ba_size, e, HN.out, List.take_length]; exact hlen
      go_wp2
      go_ret
      refine ⟨?_, hl⟩
      have hne : ¬ ts.length = 0 := by have := HN.out; omega
      simp only [tRT, if_neg hne]
      show Ending.returned (.string (bs [40] ++ o ++ bs [41])) = _
      rw [HO.out, ba_app, ba_app, e, HN.out, List.take_length]
end Go.Proofs.YtbjabpodkaokjaaDoor
