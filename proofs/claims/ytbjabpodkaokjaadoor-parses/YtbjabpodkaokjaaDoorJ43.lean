import Derived.Test.YtbjabpodkaokjaaDoorJ42
import Derived.Test.YtbjabpodkaokjaaDoorJ29
set_option linter.unusedVariables false
set_option linter.unusedSimpArgs false
namespace Go.Proofs.YtbjabpodkaokjaaDoor
open Go.RowKit

theorem getElem_len_le {k : Nat} {ts : List RT} (h : (tRTs k 0 ts).length ≤ 900000) (j : Nat) (hj : j < ts.length) : (tRT ts[j]).length ≤ 900000 := by
  have := tRTs_mem k ts j hj; omega
mutual
theorem text_all : ∀ (T : RT), OkT T → (tRT T).length ≤ 900000 → TxtC T
  | .bytes S, _, _ => text_bytes S
  | .rep t c lo hi, h, hl => by
    simp only [OkT] at h
    obtain ⟨h1, h2⟩ := h
    have hl' : (tRT t).length ≤ 900000 := by simp only [tRT, List.length_append] at hl; omega
    have ih := text_all t h1 hl'
    by_cases hc : c = 123
    · subst hc
      obtain ⟨⟨a, b⟩, h3⟩ := h2 rfl
      obtain ⟨n, rfl⟩ : ∃ n : Nat, lo = n := ⟨lo.toNat, by omega⟩
      rcases h3 with rfl | ⟨c, d⟩
      · exact text_rep2 t n (by omega) ih hl'
      · obtain ⟨m, rfl⟩ : ∃ m : Nat, hi = m := ⟨hi.toNat, by omega⟩
        exact text_rep3 t n m (by omega) (by omega) ih hl'
    · exact text_rep1 t c lo hi hc ih hl'
  | .node k ks, h, hl => by
    simp only [OkT] at h
    obtain ⟨hk, h1, h2⟩ := h
    match ks, h1, h2, hl with
    | [], _, _, _ => exact text_node0 k hk
    | t :: ts, h1, h2, hl =>
      have hl' : (tRTs k 0 (t :: ts)).length ≤ 900000 := by simp only [tRT] at hl; rw [if_neg (by simp)] at hl; simp only [List.length_append] at hl; omega
      have ih := texts_all (t :: ts) h1 (getElem_len_le hl')
      rcases hk with rfl | rfl
      · exact text_node1 (t :: ts) (by simp) h2 ih hl'
      · exact text_node2 (t :: ts) (by simp) h2 ih hl'
theorem texts_all : ∀ (ts : List RT), OkTs ts → (∀ (j : Nat) (hj : j < ts.length), (tRT ts[j]).length ≤ 900000) → ∀ (j : Nat) (hj : j < ts.length), TxtC ts[j]
  | [], _, _, j, hj => by simp at hj
  | t :: ts, h, hl, j, hj => by
    simp only [OkTs] at h
    cases j with
    | zero => exact text_all t h.1 (hl 0 (by simp))
    | succ j => exact texts_all ts h.2 (fun i hi => hl (i + 1) (by simpa using hi)) j (by simpa using hj)
end

theorem okT_rep (t : RT) (cs : List Cnt) (h : OkT t) (hc : ∀ c ∈ cs, okCnt c) : OkT (repC t cs) := by
  induction cs generalizing t with
  | nil => exact h
  | cons c cs ih =>
    rw [repC]
    refine ih _ ?_ (fun c' hc' => hc c' (List.mem_cons_of_mem _ hc'))
    simp only [OkT]
    refine ⟨h, fun e => ?_⟩
    rcases hc c List.mem_cons_self with q | ⟨a, b, d, f⟩
    · exact absurd e q
    · simp only [mnC, mxC, e, if_true]; omega
theorem qkC {c : Cnt} (h : okCnt c) : QkC c := by
  intro e
  rcases h with q | ⟨a, b, d, f⟩
  · exact absurd e q
  · omega
mutual
theorem okT_P : ∀ (p : Prt), OkP p → OkT (rP p) ∧ QkP p
  | .mk g S cs, h => by
    simp only [OkP] at h
    obtain ⟨h1, h2, h3, h4⟩ := h
    have hq : ∀ c ∈ cs, QkC c := fun c hc => qkC (h2 c hc)
    match g, h1, h4 with
    | [], _, _ =>
      refine ⟨?_, by simp only [QkP, QkVs]; exact ⟨trivial, hq⟩⟩
      simp only [rP]; exact okT_rep _ cs (by simp [OkT]) h2
    | c :: cs', h1, h4 =>
      have := okT_Vs (c :: cs') h1
      refine ⟨?_, by simp only [QkP]; exact ⟨this.2, hq⟩⟩
      simp only [rP]; exact okT_rep _ cs (okT_Cs (c :: cs') h1 (by omega)) h2
theorem okT_Ps : ∀ (ps : List Prt), OkPs ps → OkTs (rPs ps) ∧ QkPs ps
  | [], _ => ⟨by simp [rPs, OkTs], by simp [QkPs]⟩
  | p :: ps, h => by
    simp only [OkPs] at h
    have h1 := okT_P p h.1
    have h2 := okT_Ps ps h.2
    exact ⟨by simp only [rPs, OkTs]; exact ⟨h1.1, h2.1⟩, by simp only [QkPs]; exact ⟨h1.2, h2.2⟩⟩
theorem okT_C : ∀ (ps : List Prt), OkPs ps → ps.length ≤ 1000 → OkT (rC ps)
  | [], _, _ => by simp [rC, OkT, OkTs]
  | [p], h, _ => by simp only [OkPs] at h; simp only [rC]; exact (okT_P p h.1).1
  | p :: q :: ps, h, hl => by
    simp only [OkPs] at h
    simp only [rC, OkT, OkTs]
    refine ⟨by simp, ⟨(okT_P p h.1).1, (okT_P q h.2.1).1, (okT_Ps ps h.2.2).1⟩, ?_⟩
    simp only [List.length_cons, rPs_len] at hl ⊢; omega
theorem okT_Vs : ∀ (cs : List (List Prt)), OkVs cs → OkTs (rVs cs) ∧ QkVs cs
  | [], _ => ⟨by simp [rVs, OkTs], by simp [QkVs]⟩
  | c :: cs, h => by
    simp only [OkVs] at h
    have h1 := okT_Ps c h.1.1
    have h2 := okT_Vs cs h.2
    exact ⟨by simp only [rVs, OkTs]; exact ⟨okT_C c h.1.1 (by omega), h2.1⟩, by simp only [QkVs]; exact ⟨h1.2, h2.2⟩⟩
theorem okT_Cs : ∀ (cs : List (List Prt)), OkVs cs → cs.length ≤ 1000 → OkT (rCs cs)
  | [], _, _ => by simp [rCs, OkT, OkTs]
  | [c], h, _ => by simp only [OkVs] at h; simp only [rCs]; exact okT_C c h.1.1 (by omega)
  | c :: d :: cs, h, hl => by
    simp only [OkVs] at h
    simp only [rCs, OkT, OkTs]
    refine ⟨by simp, ⟨okT_C c h.1.1 (by omega), okT_C d h.2.1.1 (by omega), (okT_Vs cs h.2.2).1⟩, ?_⟩
    simp only [List.length_cons, rVs_len] at hl ⊢; omega
end

/-- The tree's text that the reference tells is the program's. -/
theorem choices_text (cs : List (List Prt)) (hne : cs ≠ []) (h : OkVs cs) (hl : cs.length ≤ 300) (hlen : (tCs cs).length ≤ 849000) : TxtC (rCs cs) ∧ tRT (rCs cs) = tCs cs := by
  have e := tCs_eq cs hne (okT_Vs cs h).2
  exact ⟨text_all _ (okT_Cs cs h (by omega)) (by rw [e]; omega), e⟩
end Go.Proofs.YtbjabpodkaokjaaDoor

namespace Go.Proofs.YtbjabpodkaokjaaDoor
open Go.RowKit

set_option maxHeartbeats 1000000 in
theorem ref_bad (w : World) (s : ByteArray) (x p : Int) (hx : (x != 0) = true) (hs : Calls Tryd.prog 8 #[.string s] w fun e w' => e = .returned (.tuple #[.int .i64 x, .int .i64 p]) ∧ Below w.heap.size w w') :
    Calls Tryd.prog 5 #[.string s] w fun e w' => e = .returned (.tuple #[.string ⟨#[]⟩, .int .i64 x, .int .i64 p]) ∧ Below w.heap.size w w' := by
  go_enter Tryd.func5, Tryd.ntmps5
  go_wp2_with (go_at_call 8; refine hs.mono ?_; rintro e w1 ⟨rfl, l1⟩)
  go_ret3
  exact ⟨rfl, l1⟩

set_option maxHeartbeats 2000000 in
theorem ref_ok (w : World) (s : ByteArray) (p : Ptn) (hs : Calls Tryd.prog 8 #[.string s] w fun e w' => e = .returned (.tuple #[.int .i64 0, .int .i64 0]) ∧ Below w.heap.size w w')
    (hm : ∀ w, Calls Tryd.prog 9 #[.string s] w fun e w' => MadeRes w w' e p) (ht : TxtC (rCs p.choices)) (he : tRT (rCs p.choices) = tCs p.choices) (hlen : (tCs p.choices).length ≤ 849000) :
    Calls Tryd.prog 5 #[.string s] w fun e w' => e = .returned (.tuple #[.string (bs (tPtn p)), .int .i64 0, .int .i64 0]) ∧ Below w.heap.size w w' := by
  obtain ⟨f, b, cs⟩ := p
  obtain ⟨o, hO⟩ : ∃ o, o = bs (tRT (rCs cs)) := ⟨_, rfl⟩
  have hos : o.size ≤ 849000 := by rw [hO, ba_size]; simp only at he hlen; rw [he]; exact hlen
  have HO : Hid (o = bs (tCs cs)) := by show _ = _; rw [hO]; simp only at he; rw [he]
  have HT : Hid (∀ w g, RepT w (fun k => k < w.heap.size) (rCs cs) g → Calls Tryd.prog 10 #[.pointer (some ⟨g, 0, none⟩)] w fun e w' => e = .returned (.string o) ∧ Below w.heap.size w w') := by
    rw [hO]; exact ht
  simp only [MadeRes] at hm
  clear hO he hlen ht
  cases f <;> cases b
  all_goals
    go_enter Tryd.func5, Tryd.ntmps5
    go_wp2_with (first | (go_at_call 10; refine (HT.out _ _ t2.out).mono ?_; rintro e w3 ⟨rfl, l3⟩) | (go_at_call 9; refine (hm _).mono ?_; rintro e w2 ⟨g, rfl, l2, t2'⟩; have t2 : Hid _ := t2'; clear t2') | (go_at_call 8; refine hs.mono ?_; rintro e w1 ⟨rfl, l1⟩))
    go_ret3
    refine ⟨?_, (l1.trans (l2.mono l1.size)).trans (l3.mono (Nat.le_trans l1.size l2.size))⟩
  · show Ending.returned (.tuple #[.string o, _, _]) = _
    rw [HO.out]; simp [tPtn]
  · show Ending.returned (.tuple #[.string (o ++ bs [36]), _, _]) = _
    rw [HO.out, ba_app]; simp [tPtn]
  · show Ending.returned (.tuple #[.string (bs [94] ++ o), _, _]) = _
    rw [HO.out, ba_app]; simp [tPtn]
  · show Ending.returned (.tuple #[.string (bs [94] ++ o ++ bs [36]), _, _]) = _
    rw [HO.out, ba_app, ba_app]; simp [tPtn]

/-- The reference's answer is the program's. -/
theorem ref_any (w : World) (s : ByteArray) (hs : s.size ≤ maxLen) :
    Calls Tryd.prog 5 #[.string s] w fun e w' => ParseRes s e ∧ Below w.heap.size w w' := by
  by_cases h2 : 200 < s.size
  · refine (ref_bad w s 4 0 rfl ((syntax_long s w hs h2).mono ?_)).mono ?_
    · rintro e w' ⟨rfl, rfl⟩; exact ⟨rfl, Below.refl _ _⟩
    · rintro e w' ⟨rfl, hb⟩; exact ⟨.inl ⟨h2, rfl⟩, hb⟩
  · have h2' : s.size ≤ 200 := by omega
    have hl : s.data.toList.length = s.size := Array.length_toList
    have hsy := syntax_any s w h2'
    cases hR : readP s.data.toList with
    | bad r' =>
      refine (ref_bad w s 3 ((s.size - r'.length : Nat) : Int) rfl (hsy.mono ?_)).mono ?_
      · rintro e w' ⟨x, p, rfl, hsyn, hb⟩
        rcases syn_read _ _ _ hsyn with q | ⟨_, r2, q, rfl, rfl⟩ | ⟨_, q, hq, _⟩ | ⟨_, q, hq, _⟩
        · omega
        · rw [hR] at q; injection q with q; subst q; rw [hl]; exact ⟨rfl, hb⟩
        · rw [hR] at hq; simp at hq
        · rw [hR] at hq; simp at hq
      · rintro e w' ⟨rfl, hb⟩; exact ⟨.inr (.inl ⟨h2', r', hR, rfl⟩), hb⟩
    | ok p r' =>
      obtain rfl := readP_rest hR
      obtain ⟨t1, t2, t3, t4⟩ := readP_txt (by omega) hR
      by_cases hx : 20 < nestCs p.choices
      · refine (ref_bad w s 4 0 rfl (hsy.mono ?_)).mono ?_
        · rintro e w' ⟨x, q, rfl, hsyn, hb⟩
          rcases syn_read _ _ _ hsyn with q | ⟨_, r2, q, _⟩ | ⟨_, q, hq, _, rfl, rfl⟩ | ⟨_, q, hq, hn, _⟩
          · omega
          · rw [hR] at q; simp at q
          · exact ⟨rfl, hb⟩
          · rw [hR] at hq; injection hq with e _; subst e; omega
        · rintro e w' ⟨rfl, hb⟩; exact ⟨.inr (.inr (.inl ⟨h2', p, hR, hx, rfl⟩)), hb⟩
      · obtain ⟨ht, he⟩ := choices_text p.choices t1 t2 t3 t4
        refine (ref_ok w s p (hsy.mono ?_) (fun w => made_ok w s h2' p hR) ht he t4).mono ?_
        · rintro e w' ⟨x, q, rfl, hsyn, hb⟩
          rcases syn_read _ _ _ hsyn with q | ⟨_, r2, q, _⟩ | ⟨_, q, hq, hn, _⟩ | ⟨_, q, hq, hn, rfl, rfl⟩
          · omega
          · rw [hR] at q; simp at q
          · rw [hR] at hq; injection hq with e _; subst e; omega
          · exact ⟨rfl, hb⟩
        · rintro e w' ⟨rfl, hb⟩; exact ⟨.inr (.inr (.inr ⟨h2', p, hR, by omega, rfl⟩)), hb⟩

theorem ParseRes.unique {s : ByteArray} {e1 e2 : Ending} (h1 : ParseRes s e1) (h2 : ParseRes s e2) : e1 = e2 := by
  rcases h1 with ⟨a, h1⟩ | ⟨a, r, hr, h1⟩ | ⟨a, p, hp, hn, h1⟩ | ⟨a, p, hp, hn, h1⟩ <;> rcases h2 with ⟨b, h2⟩ | ⟨b, r2, hr2, h2⟩ | ⟨b, p2, hp2, hn2, h2⟩ | ⟨b, p2, hp2, hn2, h2⟩
  all_goals first
    | omega
    | (rw [h1, h2]; done)
    | (rw [hr] at hr2; injection hr2 with q; subst q; rw [h1, h2]; done)
    | (rw [hr] at hp2; simp at hp2; done)
    | (rw [hp] at hr2; simp at hr2; done)
    | (rw [hp] at hp2; injection hp2 with q _; subst q; first | omega | (rw [h1, h2]; done))
theorem ParseRes.form {s : ByteArray} {e : Ending} (h : ParseRes s e) : ∃ (t : ByteArray) (x p : Int), e = .returned (.tuple #[.string t, .int .i64 x, .int .i64 p]) := by
  rcases h with ⟨a, h1⟩ | ⟨a, r, hr, h1⟩ | ⟨a, p, hp, hn, h1⟩ | ⟨a, p, hp, hn, h1⟩ <;> exact ⟨_, _, _, h1⟩
end Go.Proofs.YtbjabpodkaokjaaDoor

namespace Go.Proofs.YtbjabpodkaokjaaDoor
open Go.RowKit

theorem parse_empty {e : Ending} (h : ParseRes ⟨#[]⟩ e) : e = .returned (.tuple #[.string ⟨#[101]⟩, .int .i64 0, .int .i64 0]) := by
  refine h.unique (.inr (.inr (.inr ⟨by decide, ⟨false, false, [[]]⟩, ?_, ?_, ?_⟩)))
  · rfl
  · simp [nestCs, nestC]
  · rfl

set_option maxRecDepth 4000 in
set_option maxHeartbeats 2000000 in
theorem law_any (w : World) (s : ByteArray) (hT : Tabs w) (hs : s.size ≤ maxLen) :
    Calls Tryd.prog 3 #[.string s] w fun e w' => e = .returned (.bool true) ∧ Below w.heap.size w w' := by
  have hp := fun w s hT hs => parse_any w s hT hs
  have hr := fun w => ref_any w s hs
  have HT : Hid (Tabs w) := hT
  have hz : (⟨#[]⟩ : ByteArray).size ≤ maxLen := by unfold maxLen; decide
  have hlt := hT.lt
  clear hT
  go_enter Tryd.func3, Tryd.ntmps3
  go_wp2_with (first | (go_at_call 5; refine (hr _).mono ?_; rintro e w3 ⟨h3, l3⟩; have h3' := h3.unique P2.out; subst h3') | (go_at_call 4; have := hmark; refine (hp _ s HT1.out hs).mono ?_; rintro e w2 ⟨h2, l2⟩; obtain ⟨t, x, p, rfl⟩ := h2.form; have P2 : Hid _ := h2; clear h2) | (go_at_call 4; refine (hp _ _ HT.out hz).mono ?_; rintro e w1 ⟨h1, l1⟩; obtain rfl := parse_empty h1; have hmark : True := trivial; have HT1 : Hid (Tabs w1) := HT.out.of_block (fun k hk => l1.block k (by omega))))
  go_ret
  exact ⟨rfl, (l1.trans (l2.mono l1.size)).trans (l3.mono (Nat.le_trans l1.size l2.size))⟩
end Go.Proofs.YtbjabpodkaokjaaDoor
