import Derived.Test.YtbjabpodkaokjaaDoorJ38
import Derived.Test.YtbjabpodkaokjaaDoorJ29
import Derived.Test.YtbjabpodkaokjaaDoorJ21
set_option linter.unusedVariables false
set_option linter.unusedSimpArgs false
namespace Go.Proofs.YtbjabpodkaokjaaDoor
open Go.RowKit

theorem Tryd.infoPT : (Tryd.prog.info? 35).map (fun i => (i.zero, i.size, i.bytes)) = some (some (.pointer none), 1, 8) := by kernel_rfl
theorem tA_kind1' (a : Act) : Tryd.prog.built 55 ((#[(0, .const (.int .i64 1))] : Array (Nat × Operand)).map fun (i, x) => (i, a.eval x)).toList = some (tA 1 (fun _ => false) (.slice none 0 0) 0 0 0) := by
  have : ((#[(0, .const (.int .i64 1))] : Array (Nat × Operand)).map fun (i, x) => (i, a.eval x)).toList = [(0, .int .i64 1)] := by simp [Act.eval]
  rw [this]; exact tA_kind1
theorem tA_kind2' (a : Act) : Tryd.prog.built 55 ((#[(0, .const (.int .i64 2))] : Array (Nat × Operand)).map fun (i, x) => (i, a.eval x)).toList = some (tA 2 (fun _ => false) (.slice none 0 0) 0 0 0) := by
  have : ((#[(0, .const (.int .i64 2))] : Array (Nat × Operand)).map fun (i, x) => (i, a.eval x)).toList = [(0, .int .i64 2)] := by simp [Act.eval]
  rw [this]; exact tA_kind2

theorem kids_rep {B : Nat} {x y z : World} {v v' : Value} {ts : List RT} {vs : List Value} {t : RT} {g : Nat}
    (hrep : RepTs x (fun g => From B x g ∧ v.ownBlock ≠ some g) ts vs) (hp : RepT y (From x.heap.size y) t g) (hBx : B ≤ x.heap.size)
    (h1 : ∀ k, B ≤ k → k < x.heap.size → y.heap[k]? = x.heap[k]?) (h2 : ∀ k, B ≤ k → k < y.heap.size → v.ownBlock ≠ some k → z.heap[k]? = y.heap[k]?) (s1 : x.heap.size ≤ y.heap.size) (s2 : y.heap.size ≤ z.heap.size)
    (hown : ∀ k, v.ownBlock = some k → k < x.heap.size) (hob : v'.ownBlock = v.ownBlock ∨ ∃ k, v'.ownBlock = some k ∧ y.heap.size ≤ k) :
    RepTs z (fun g => From B z g ∧ v'.ownBlock ≠ some g) (ts ++ [t]) (vs ++ [.pointer (some ⟨g, 0, none⟩)]) := by
  refine RepTs.snoc (RepT.of_heap (fun k hk hlt => ?_) t g hp) (RepTs.of_heap (fun k hk hlt => ?_) ts vs hrep)
  · have hk1 := hk.1
    have ne : v.ownBlock ≠ some k := fun e => by have := hown k e; omega
    refine ⟨⟨⟨by omega, by omega⟩, ?_⟩, h2 k (by omega) hlt ne⟩
    rcases hob with e | ⟨j, e, hj⟩ <;> rw [e]
    · exact ne
    · intro q; injection q with q; omega
  · obtain ⟨hk1, hk2⟩ := hk
    refine ⟨⟨⟨hk1.1, by omega⟩, ?_⟩, (h2 k hk1.1 (by omega) hk2).trans (h1 k hk1.1 hlt)⟩
    rcases hob with e | ⟨j, e, hj⟩ <;> rw [e]
    · exact hk2
    · intro q; injection q with q; have := hk1.2; omega

/-- The chain, so far. -/
structure KidsAt (w x : World) (b : Nat) (s : ByteArray) (kind : Int) (ts : List RT) (vs : List Value) (v : Value) (r : List UInt8) : Prop where
  pl : Mk x b s r
  rd : Rd b w x
  tr : Tr x w.heap.size kind (fun _ => false) v 0 0 0
  own : x.ownsRow (w.heap.size + 1) 35 1 v ts.length vs
  rep : RepTs x (fun g => From (w.heap.size + 1) x g ∧ v.ownBlock ≠ some g) ts vs
  len : ts.length + r.length ≤ 201
theorem KidsAt.next {w x y z z' : World} {b : Nat} {s : ByteArray} {kind : Int} {ts : List RT} {vs : List Value} {v v' : Value} {r r1 : List UInt8} {t : RT} {g : Nat} (h : KidsAt w x b s kind ts vs v r) (hlt : b < w.heap.size) (o : Obj)
    (g3 : Mk y b s r1) (l3 : Rd b x y) (t3 : RepT y (From x.heap.size y) t g) (hown : z.ownsRow (w.heap.size + 1) 35 1 v' (ts.length + 1) (vs ++ [.pointer (some ⟨g, 0, none⟩)])) (hgr : (y.alloc o).grownBy z v.ownBlock) (hob : v'.ownBlock = v.ownBlock ∨ v'.ownBlock = some (y.alloc o).heap.size) (hl : ts.length + 1 + r1.length ≤ 201)
    (hz : z.setCell ⟨w.heap.size, 257, none⟩ v' = z') : KidsAt w z' b s kind (ts ++ [t]) (vs ++ [.pointer (some ⟨g, 0, none⟩)]) v' r1 := by
  obtain ⟨pl, rd, tr, own, rep, len⟩ := h
  have hlx := tr.lt
  have hvb : ∀ k, v.ownBlock = some k → w.heap.size + 1 ≤ k ∧ k < x.heap.size := fun k hk => own.lt k hk
  have sx := l3.size
  have sz := hgr.size
  simp at sz
  subst hz
  have hzb : ∀ k, k < y.heap.size → v.ownBlock ≠ some k → k ≠ w.heap.size → (z.setCell ⟨w.heap.size, 257, none⟩ v').heap[k]? = y.heap[k]? := fun k hk hne hkN =>
    (Below.heap_setCell _ _ _ _ (by simpa using hkN)).trans ((hgr.block k (by simp; omega) (fun e => hne e.symm)).trans (Below.heap_alloc _ _ _ hk))
  have hsz : (z.setCell ⟨w.heap.size, 257, none⟩ v').heap.size = z.heap.size := by simp [World.setCell]
  refine ⟨?_, ?_, ?_, ?_, ?_, by simp; omega⟩
  · exact g3.keep (hzb b (by omega) (fun e => by have := (hvb b e).1; omega) (by omega)) (by omega)
  · have hr := rd.trans l3
    exact ⟨hgr.os.trans hr.os, hgr.tape.trans hr.tape, hgr.output.trans hr.output, by have := hr.size; omega, fun k hk hkb => (hzb k (by have := hr.size; omega) (fun e => by have := (hvb k e).1; omega) (by omega)).trans (hr.block k hk hkb)⟩
  · have t4 : Tr z w.heap.size kind (fun _ => false) v 0 0 0 := (tr.of_heap (l3.block _ hlx (by omega))).of_heap ((hgr.block _ (by simp; omega) (fun e => by have := (hvb _ e.symm).1; omega)).trans (Below.heap_alloc _ _ _ (by omega)))
    exact t4.kids v'
  · have := ownsRow_rd (b := w.heap.size) hown ((Rd.refl w.heap.size z).setCell 257 v') (by omega)
    simpa using this
  · refine kids_rep (y := y) rep t3 (by omega) (fun k hk hkx => l3.block k hkx (by omega)) (fun k hk hky hne => hzb k hky hne (by omega)) sx (by omega) (fun k hk => (hvb k hk).2) ?_
    rcases hob with e | e
    · exact .inl e
    · exact .inr ⟨_, e, by simp⟩
end Go.Proofs.YtbjabpodkaokjaaDoor

namespace Go.Proofs.YtbjabpodkaokjaaDoor
open Go.RowKit

theorem over_of_begins {r : List UInt8} (h : begins r = true) : overB r = false := by
  match r, h with
  | c :: t, h =>
    simp only [overB]
    have ne : ∀ k : UInt8, begins [k] = false → c ≠ k := by
      intro k hk e
      subst e
      simp only [begins] at h hk
      rw [hk] at h; simp at h
    have a := ne 124 (by decide)
    have b := ne 41 (by decide)
    have d := ne 36 (by decide)
    simp [a, b, d]
abbrev MkPartC (b : Nat) (s : ByteArray) (r r' : List UInt8) (T : RT) : Prop := ∀ w, Mk w b s r → Calls Tryd.prog 38 #[.pointer (some ⟨b, 0, none⟩)] w fun e w' => TreeTo w w' b s r' T e
abbrev MkOverC (b : Nat) (s : ByteArray) (r : List UInt8) (o : Bool) : Prop := ∀ w, Mk w b s r → Calls Tryd.prog 37 #[.pointer (some ⟨b, 0, none⟩)] w fun e w' => e = .returned (.bool o) ∧ MkAs w w' b s r

theorem pChain_forms {m : Nat} {r r' : List UInt8} {ps : List Prt} (h : pChain m r = .ok ps r') :
    (begins r = false ∧ ps = [] ∧ r' = r) ∨ (∃ m' p r1 ps2, m = m' + 1 ∧ begins r = true ∧ pPart m' r = .ok p r1 ∧ pChain m' r1 = .ok ps2 r' ∧ ps = p :: ps2 ∧ r1.length < r.length) := by
  cases m with
  | zero => simp [pChain] at h
  | succ m =>
    simp only [pChain] at h
    split at h
    · rename_i hb
      split at h
      · simp at h
      · rename_i p r1 h1
        split at h
        · rename_i ps2 r2 h2
          injection h with e1 e2; subst e1; subst e2
          exact .inr ⟨m, p, r1, ps2, rfl, hb, h1, h2, rfl, by have := (pLen m).2.2.1 _ _ _ h1; omega⟩
        · simp at h
    · rename_i hb
      injection h with e1 e2; subst e1; subst e2
      exact .inl ⟨by simpa using hb, rfl, rfl⟩

/-- The one tree of a row. -/
theorem one_of_rep {x : World} {S : Nat → Prop} {t : RT} {vs : List Value} (h : RepTs x S [t] vs) : ∃ g, vs = [.pointer (some ⟨g, 0, none⟩)] ∧ RepT x S t g := by
  simp only [RepTs] at h
  obtain ⟨g, vs', rfl, h1, rfl⟩ := h
  exact ⟨g, rfl, h1⟩
theorem own_one {x : World} {B : Nat} {e : TypeId} {v u : Value} (h : x.ownsRow B e 1 v 1 [u]) : ∃ g cap, v = .slice (some ⟨g, 0, none⟩) 1 cap ∧ x.cell? ⟨g, 0, none⟩ = some u := by
  obtain ⟨h1, h2⟩ := h
  rcases h2 with ⟨h2, h3⟩ | ⟨g, cap, cur, hv, hg, hh, hn, hc, hs, ht⟩
  · omega
  · refine ⟨g, cap, hv, ?_⟩
    simp [World.cell?, hh]
    have : cur.toList[0]? = some u := by
      have : (cur.toList.take (1 * 1))[0]? = some u := by rw [ht]; rfl
      simpa using this
    simpa using this
theorem own_len {x : World} {B : Nat} {e : TypeId} {v : Value} {n : Nat} {vs : List Value} (h : x.ownsRow B e 1 v n vs) : ∃ g0 cap, v = .slice g0 n cap := by
  obtain ⟨h1, h2⟩ := h
  rcases h2 with ⟨h2, h3⟩ | ⟨g, cap, cur, hv, _⟩
  · exact ⟨none, 0, by rw [h2, h3]⟩
  · exact ⟨_, cap, hv⟩

/-- The tree of a list of trees: the one, or a node. -/
theorem KidsAt.done {w x y : World} {b : Nat} {s : ByteArray} {kind : Nat} {ts : List RT} {vs : List Value} {v : Value} {r : List UInt8} (h : KidsAt w x b s kind ts vs v r) (hlt : b < w.heap.size) (hl : Below x.heap.size x y) (hn : ts.length ≠ 1) : RepT y (From w.heap.size y) (oneOr kind ts) w.heap.size := by
  obtain ⟨pl, rd, tr, own, rep, len⟩ := h
  have e : oneOr kind ts = .node kind ts := by
    match ts, hn with
    | [], _ => rfl
    | [t], hn => simp at hn
    | _ :: _ :: _, _ => rfl
  rw [e]
  have tr' := tr.of_heap (hl.block _ tr.lt)
  simp only [RepT]
  refine ⟨⟨Nat.le_refl _, tr'.lt⟩, _, v, 0, 0, 0, tr', vs, ?_, ?_⟩
  · exact (RowIn.of_owns own).of_heap (fun g hg hlt' => ⟨⟨by omega, Nat.lt_of_lt_of_le hlt' hl.size⟩, hl.block g hlt'⟩)
  · exact RepTs.of_heap (fun g hg hlt' => ⟨⟨by have := hg.1.1; omega, Nat.lt_of_lt_of_le hlt' hl.size⟩, hl.block g hlt'⟩) ts vs rep

theorem KidsAt.below {w x y : World} {b : Nat} {s : ByteArray} {kind : Int} {ts : List RT} {vs : List Value} {v : Value} {r : List UInt8} (h : KidsAt w x b s kind ts vs v r) (hlt : b < w.heap.size) (l : Below x.heap.size x y) : KidsAt w y b s kind ts vs v r := by
  obtain ⟨pl, rd, tr, own, rep, len⟩ := h
  exact ⟨pl.below l, rd.trans (Rd.of_below l), tr.of_heap (l.block _ tr.lt), ownsRow_rd own (Rd.of_below l (b := b)) (by omega), RepTs.of_heap (fun g hg hlt' => ⟨⟨⟨hg.1.1, Nat.lt_of_lt_of_le hlt' l.size⟩, hg.2⟩, l.block g hlt'⟩) ts vs rep, len⟩
theorem cell_below {x y : World} {g : Nat} {u : Value} (l : Below x.heap.size x y) (h : x.cell? ⟨g, 0, none⟩ = some u) : y.cell? ⟨g, 0, none⟩ = some u := by
  have hg : g < x.heap.size := by
    rcases Nat.lt_or_ge g x.heap.size with q | q
    · exact q
    · simp [World.cell?, Array.getElem?_eq_none q] at h
  have e := l.block g hg
  simp [World.cell?, e] at h ⊢
  exact h

set_option maxRecDepth 20000 in
set_option maxHeartbeats 4000000 in
theorem chain_ok (n0 : Nat) (w : World) (b : Nat) (s : ByteArray) (r r' : List UInt8) (ps : List Prt) (h : Mk w b s r) (hP : pChain n0 r = .ok ps r') (ho : overB r' = true) (hK : ∀ m r r' p, m < n0 → begins r = true → pPart m r = .ok p r' → MkPartC b s r r' (rP p)) :
    Calls Tryd.prog 29 #[.pointer (some ⟨b, 0, none⟩)] w fun e w' => TreeTo w w' b s r' (rC ps) e := by
  have hlt := h.lt
  obtain ⟨i0, hi, hz0, hz1, hz2⟩ := info_parts Tryd.infoPT
  have hov : ∀ r o, overB r = o → MkOverC b s r o := fun r o e w h => by rw [← e]; exact over_any w b s r h
  have HK : Hid (∀ m r r' p, m < n0 → begins r = true → pPart m r = .ok p r' → MkPartC b s r r' (rP p)) := hK
  clear hK
  go_enter Tryd.func29, Tryd.ntmps29
  go_wp2_with (first | (refine wpList_buildTo rfl 55 #[(0, .const (.int .i64 1))] rfl _ rfl (tA 1 (fun _ => false) (.slice none 0 0) 0 0 0) (tA_kind1' _) ?_) | (refine Great.wpList_boxTo rfl 55 (.tmp 6) rfl _ rfl w.heap.size rfl (tA 1 (fun _ => false) (.slice none 0 0) 0 0 0) rfl ?_; generalize hw1 : World.alloc w _ = w1; have t1 : Tr w1 w.heap.size 1 (fun _ => false) (.slice none 0 0) 0 0 0 := box_tr hw1 rfl; have r1 : Rd b w w1 := (by rw [← hw1]; exact (Rd.refl _ _).alloc _); have g1 : Mk w1 b s r := (by rw [← hw1]; exact h.alloc _); clear hw1))
  go_loopw [] (fun wq => ∃ (m : Nat) (acc ps2 : List Prt) (vs : List Value) (v : Value) (rr : List UInt8), m ≤ n0 ∧ KidsAt w wq b s 1 (rPs acc) vs v rr ∧ pChain m rr = .ok ps2 r' ∧ acc ++ ps2 = ps) (fun wq => leftOf b s wq)
  case atStart => exact ⟨n0, [], ps, [], .slice none 0 0, r, Nat.le_refl _, ⟨g1, r1, t1, World.ownsRow_nil _ _ _ _, by simp [RepTs, rPs], by have := h.len; simp [rPs]; omega⟩, hP, rfl⟩
  case round =>
    obtain ⟨m, acc, ps2, vs, v, rr, hmn, hka, hP2, hps⟩ := hrel
    clear hP
    rcases pChain_forms hP2 with ⟨hb, rfl, rfl⟩ | ⟨m', p, r2, ps3, rfl, hb, hp, hP3, rfl, hl⟩
    · have hoc := hov r' true ho
      have HA : Hid (KidsAt w wr b s 1 (rPs acc) vs v r') := hka
      have HP : Hid (acc = ps) := by show _ = _; simpa using hps
      clear hka hP2 hps
      obtain ⟨g0, cap, hv⟩ := own_len HA.out.own
      subst hv
      rw [rPs_len] at *
      by_cases h1 : acc.length = 1
      · have hl1 : ((acc.length : Int) == 1) = true := by simp; omega
        obtain ⟨p0, rfl⟩ : ∃ p0, acc = [p0] := by
          match acc, h1 with
          | [p0], _ => exact ⟨p0, rfl⟩
        obtain ⟨g, rfl, hT⟩ := one_of_rep (by have := HA.out.rep; simpa only [rPs] using this)
        have HT : Hid _ := hT
        clear hT
        obtain ⟨g9, cap9, hv9, hc9⟩ := own_one (by have := HA.out.own; simpa only [rPs, List.length_singleton] using this)
        injection hv9 with e1 _ _
        subst e1
        go_wp2_with (go_at_call 37; refine (hoc _ HA.out.pl).mono ?_; rintro e w2 ⟨rfl, g2, l2⟩; have t2 := HA.out.tr.of_heap (l2.block _ HA.out.tr.lt); have t2c := t2; obtain ⟨u0, uB, uk, um, ux, us, uf⟩ := t2c; have hc10 : w2.cell? ⟨g9, 0, none⟩ = some (.pointer (some ⟨g, 0, none⟩)) := cell_below l2 hc9)
        go_ret
        refine ⟨g, rfl, ⟨g2, HA.out.rd.trans (Rd.of_below l2)⟩, ?_⟩
        rw [← HP.out]
        simp only [rC]
        exact RepT.of_heap (fun j hj hlt' => ⟨⟨by have := hj.1.1; omega, Nat.lt_of_lt_of_le hlt' l2.size⟩, l2.block j hlt'⟩) _ g HT.out
      · have hl1 : ((acc.length : Int) == 1) = false := by simp; omega
        go_wp2_with (go_at_call 37; refine (hoc _ HA.out.pl).mono ?_; rintro e w2 ⟨rfl, g2, l2⟩; have t2 := HA.out.tr.of_heap (l2.block _ HA.out.tr.lt); have t2c := t2; obtain ⟨u0, uB, uk, um, ux, us, uf⟩ := t2c)
        go_ret
        exact ⟨w.heap.size, rfl, ⟨g2, HA.out.rd.trans (Rd.of_below l2)⟩, by rw [← HP.out, rC_eq]; exact HA.out.done hlt l2 (by rw [rPs_len]; exact h1)⟩
    · have hoc := hov rr false (over_of_begins hb)
      have hpc := HK.out m' rr r2 p (by omega) hb hp
      have HA : Hid (KidsAt w wr b s 1 (rPs acc) vs v rr) := hka
      have HP : Hid (pChain m' r2 = .ok ps3 r' ∧ acc ++ p :: ps3 = ps ∧ m' ≤ n0) := ⟨hP3, hps, by omega⟩
      clear hka hP2 hps hP3 hb hp hmn
      have hlen := HA.out.len
      rw [rPs_len] at hlen
      go_wp2_with (first | (at_builtin; refine wpList_append_own_at _ rfl (.tmp 17) (.tmp 19) 53 rfl (w.heap.size + 1) 35 i0 (.pointer none) 1 8 Tryd.underlying53 hi hz0 hz1 hz2 rfl (by decide) v (rPs acc).length vs rfl ((ownsRow_rd (ownsRow_rd HA.out.own (Rd.of_below l2) (by omega : b < w.heap.size + 1)) l3 (by omega)).alloc _) ⟨w3.heap.size, 0, none⟩ 1 1 [.pointer (some ⟨g, 0, none⟩)] rfl rfl ?c1 ?c2 ?c3 ?c4 ?c5 ?_) | (go_at_call 38; refine (hpc _ g2).mono ?_; rintro e w3 ⟨g, rfl, ⟨g3, l3⟩, t3⟩; have HT3 : Hid _ := t3; clear t3; have hT2 := t2.of_heap (l3.block _ t2.lt (by omega)); obtain ⟨u0, uB, uk, um, ux, us, uf⟩ := hT2) | (go_at_call 37; refine (hoc _ HA.out.pl).mono ?_; rintro e w2 ⟨rfl, g2, l2⟩; have t2 := HA.out.tr.of_heap (l2.block _ HA.out.tr.lt)))
      case c1 =>
        intro j u hj
        match j, hj with
        | 0, hj => simp at hj; subst hj; simp [Addr.add, go_sem]
      case c2 => intro u hu; simp at hu; subst hu; rfl
      case c3 => rw [rPs_len]; unfold maxLen; omega
      case c4 => rw [rPs_len]; omega
      case c5 => have := t2.lt; have := l3.size; simp; omega
      intro v' w4 hown4 hgr _ hob
      obtain ⟨q0, q1, q2, hvq⟩ := slice_form_of_owns hown4
      subst hvq
      have HKN : Hid (∀ z', w4.setCell ⟨w.heap.size, 257, none⟩ (.slice q0 q1 q2) = z' → KidsAt w z' b s 1 (rPs acc ++ [rP p]) (vs ++ [.pointer (some ⟨g, 0, none⟩)]) (.slice q0 q1 q2) r2) := fun z' hz => KidsAt.next (HA.out.below hlt l2) hlt _ g3 l3 HT3.out hown4 hgr (by simpa using hob) (by have := HA.out.len; omega) hz
      have hN4 : w4.heap[w.heap.size]? = w3.heap[w.heap.size]? := (hgr.block _ (by have := t2.lt; have := l3.size; simp; omega) (fun e => by have := (HA.out.own.lt _ e.symm).1; omega)).trans (Below.heap_alloc _ _ _ (by have := t2.lt; have := l3.size; omega))
      have u4 : w4.cell? ⟨w.heap.size, 257, none⟩ = some v := by rw [← uk]; simp [World.cell?, hN4]
      have uf4 : ∀ o, w4.frozen? ⟨w.heap.size, o, none⟩ = false := fun o => by rw [← uf o]; simp [World.frozen?, hN4]
      clear hown4 hgr hob u0 uB uk um ux us uf
      go_wp2
      go_roundw
      case rel => exact ⟨m', acc ++ [p], ps3, _, _, r2, HP.out.2.2, by rw [rPs_append]; simp only [rPs]; exact HKN.out _ rfl, HP.out.1, by rw [List.append_assoc]; exact HP.out.2.1⟩
      case measure => rw [(HKN.out _ rfl).pl.left, HA.out.pl.left]; exact hl
end Go.Proofs.YtbjabpodkaokjaaDoor

namespace Go.Proofs.YtbjabpodkaokjaaDoor
open Go.RowKit

abbrev MkChainC (b : Nat) (s : ByteArray) (r r' : List UInt8) (T : RT) : Prop := ∀ w, Mk w b s r → Calls Tryd.prog 29 #[.pointer (some ⟨b, 0, none⟩)] w fun e w' => TreeTo w w' b s r' T e
theorem pChoices_forms {m : Nat} {r r' : List UInt8} {cs : List (List Prt)} (h : pChoices m r = .ok cs r') :
    ∃ m' c r1, m = m' + 1 ∧ pChain m' r = .ok c r1 ∧ r1.length ≤ r.length ∧ ((∃ t cs2, r1 = 124 :: t ∧ pChoices m' t = .ok cs2 r' ∧ cs = c :: cs2) ∨ ((∀ t, r1 ≠ 124 :: t) ∧ cs = [c] ∧ r' = r1)) := by
  cases m with
  | zero => simp [pChoices] at h
  | succ m =>
    simp only [pChoices] at h
    split at h
    · simp at h
    · rename_i c r1 h1
      have hl := (pLen m).2.1 _ _ _ h1
      split at h
      · rename_i t
        split at h
        · rename_i cs2 r2 h2
          injection h with e1 e2; subst e1; subst e2
          exact ⟨m, c, _, rfl, h1, by omega, .inl ⟨t, cs2, rfl, h2, rfl⟩⟩
        · simp at h
      · rename_i hn
        injection h with e1 e2; subst e1; subst e2
        exact ⟨m, c, r1, rfl, h1, by omega, .inr ⟨fun t e => hn t e, rfl, rfl⟩⟩
theorem KidsAt.more {w x : World} {b : Nat} {s : ByteArray} {kind : Int} {ts : List RT} {vs : List Value} {v : Value} {c : UInt8} {t : List UInt8} (h : KidsAt w x b s kind ts vs v (c :: t)) (hlt : b < w.heap.size) {k : Nat} (hk : k + (c :: t).length = s.size) : KidsAt w (x.setCell ⟨b, 1, none⟩ (.int .i64 ((k : Int) + 1))) b s kind ts vs v t := by
  obtain ⟨pl, rd, tr, own, rep, len⟩ := h
  have hr : Rd b x (x.setCell ⟨b, 1, none⟩ (.int .i64 ((k : Int) + 1))) := (Rd.refl _ _).setCell _ _
  exact ⟨pl.next hk, rd.trans hr, tr.far (by omega) _, ownsRow_rd own hr (by omega), RepTs.of_heap (fun g hg hlt' => ⟨⟨⟨hg.1.1, Nat.lt_of_lt_of_le hlt' hr.size⟩, hg.2⟩, hr.block g hlt' (by have := hg.1.1; omega)⟩) ts vs rep, by simp at len; omega⟩

set_option maxRecDepth 20000 in
set_option maxHeartbeats 4000000 in
theorem choices_ok (n0 : Nat) (w : World) (b : Nat) (s : ByteArray) (r r' : List UInt8) (cs : List (List Prt)) (h : Mk w b s r) (hP : pChoices n0 r = .ok cs r') (ho : overB r' = true) (hK : ∀ m r r' ps, m < n0 → pChain m r = .ok ps r' → overB r' = true → MkChainC b s r r' (rC ps)) :
    Calls Tryd.prog 15 #[.pointer (some ⟨b, 0, none⟩)] w fun e w' => TreeTo w w' b s r' (rCs cs) e := by
  have hlt := h.lt
  obtain ⟨i0, hi, hz0, hz1, hz2⟩ := info_parts Tryd.infoPT
  have HK : Hid (∀ m r r' ps, m < n0 → pChain m r = .ok ps r' → overB r' = true → MkChainC b s r r' (rC ps)) := hK
  clear hK
  go_enter Tryd.func15, Tryd.ntmps15
  go_wp2_with ((first | (refine wpList_buildTo rfl 55 #[(0, .const (.int .i64 2))] rfl _ rfl (tA 2 (fun _ => false) (.slice none 0 0) 0 0 0) (tA_kind2' _) ?_) | (refine Great.wpList_boxTo rfl 55 (.tmp 6) rfl _ rfl w.heap.size rfl (tA 2 (fun _ => false) (.slice none 0 0) 0 0 0) rfl ?_; generalize hw1 : World.alloc w _ = w1; have t1 : Tr w1 w.heap.size 2 (fun _ => false) (.slice none 0 0) 0 0 0 := box_tr hw1 rfl; have r1 : Rd b w w1 := (by rw [← hw1]; exact (Rd.refl _ _).alloc _); have g1 : Mk w1 b s r := (by rw [← hw1]; exact h.alloc _); clear hw1)))
  go_loopw [] (fun wq => ∃ (m : Nat) (acc cs2 : List (List Prt)) (vs : List Value) (v : Value) (rr : List UInt8), m ≤ n0 ∧ KidsAt w wq b s 2 (rVs acc) vs v rr ∧ pChoices m rr = .ok cs2 r' ∧ acc ++ cs2 = cs ∧ acc.length + rr.length ≤ 200) (fun wq => leftOf b s wq)
  case atStart => exact ⟨n0, [], cs, [], .slice none 0 0, r, Nat.le_refl _, ⟨g1, r1, t1, World.ownsRow_nil _ _ _ _, by simp [RepTs, rVs], by have := h.len; simp [rVs]; omega⟩, hP, rfl, by have := h.len; simpa using this⟩
  case round =>
    obtain ⟨m, acc, cs2, vs, v, rr, hmn, hka, hP2, hps, hlen⟩ := hrel
    clear hP
    obtain ⟨m', c, r1', rfl, hp, hl1, hcase⟩ := pChoices_forms hP2
    have hor : overB r1' = true := by
      rcases hcase with ⟨t, _, rfl, _⟩ | ⟨_, _, rfl⟩
      · simp [overB]
      · exact ho
    have hpc := HK.out m' rr r1' c (by omega) hp hor
    have HA : Hid (KidsAt w wr b s 2 (rVs acc) vs v rr) := hka
    have HC : Hid ((∃ t cs3, r1' = 124 :: t ∧ pChoices m' t = .ok cs3 r' ∧ cs2 = c :: cs3) ∨ ((∀ t, r1' ≠ 124 :: t) ∧ cs2 = [c] ∧ r' = r1')) := hcase
    have HP : Hid (acc ++ cs2 = cs ∧ m' ≤ n0) := ⟨hps, by omega⟩
    have hh := here_any
    clear hka hP2 hps hp hmn hcase hor
    go_wp2_with ((first | (at_builtin; refine wpList_append_own_at _ rfl (.tmp 14) (.tmp 16) 53 rfl (w.heap.size + 1) 35 i0 (.pointer none) 1 8 Tryd.underlying53 hi hz0 hz1 hz2 rfl (by decide) v (rVs acc).length vs rfl ((ownsRow_rd HA.out.own l3 (by omega)).alloc _) ⟨w3.heap.size, 0, none⟩ 1 1 [.pointer (some ⟨g, 0, none⟩)] rfl rfl ?c1 ?c2 ?c3 ?c4 ?c5 ?_) | (go_at_call 29; refine (hpc _ HA.out.pl).mono ?_; rintro e w3 ⟨g, rfl, ⟨g3, l3⟩, t3⟩; have HT3 : Hid _ := t3; clear t3; have hT2 := HA.out.tr.of_heap (l3.block _ HA.out.tr.lt (by omega)); obtain ⟨u0, uB, uk, um, ux, us, uf⟩ := hT2)))
    case c1 =>
      intro j u hj
      match j, hj with
      | 0, hj => simp at hj; subst hj; simp [Addr.add, go_sem]
    case c2 => intro u hu; simp at hu; subst hu; rfl
    case c3 => rw [rVs_len]; unfold maxLen; omega
    case c4 => rw [rVs_len]; omega
    case c5 => have := HA.out.tr.lt; have := l3.size; simp; omega
    intro v' w4 hown4 hgr _ hob
    obtain ⟨q0, q1, q2, hvq⟩ := slice_form_of_owns hown4
    subst hvq
    have HKN : Hid (∀ z', w4.setCell ⟨w.heap.size, 257, none⟩ (.slice q0 q1 q2) = z' → KidsAt w z' b s 2 (rVs acc ++ [rC c]) (vs ++ [.pointer (some ⟨g, 0, none⟩)]) (.slice q0 q1 q2) r1') := fun z' hz => KidsAt.next HA.out hlt _ g3 l3 HT3.out hown4 hgr (by simpa using hob) (by rw [rVs_len]; omega) hz
    have hN4 : w4.heap[w.heap.size]? = w3.heap[w.heap.size]? := (hgr.block _ (by have := HA.out.tr.lt; have := l3.size; simp; omega) (fun e => by have := (HA.out.own.lt _ e.symm).1; omega)).trans (Below.heap_alloc _ _ _ (by have := HA.out.tr.lt; have := l3.size; omega))
    have u4 : w4.cell? ⟨w.heap.size, 257, none⟩ = some v := by rw [← uk]; simp [World.cell?, hN4]
    have uf4 : ∀ o, w4.frozen? ⟨w.heap.size, o, none⟩ = false := fun o => by rw [← uf o]; simp [World.frozen?, hN4]
    clear hown4 hgr hob u0 uB uk um ux us uf
    rcases HC.out with ⟨t, cs3, rfl, hP3, rfl⟩ | ⟨hn, rfl, rfl⟩
    · have HP3 : Hid (pChoices m' t = .ok cs3 r') := hP3
      have hh : MkHereAt b s (124 :: t) 124 := fun w h => here_any w b s _ h
      clear hP3 HC
      go_wp2_with (go_at_call 14; refine (hh _ (HKN.out _ rfl).pl).mono ?_; rintro e w5 ⟨rfl, g5, l5⟩; obtain ⟨j, hj', f1, d0, d1, hj, sz2, lt2, fz2⟩ := g5.byte)
      go_roundw
      case rel => exact ⟨m', acc ++ [c], cs3, _, _, t, HP.out.2, by rw [rVs_append]; simp only [rVs]; exact ((HKN.out _ rfl).below hlt l5).more hlt hj, HP3.out, by rw [List.append_assoc]; exact HP.out.1, by simp at hl1 ⊢; omega⟩
      case measure => rw [(g5.next hj).left, HA.out.pl.left]; simp at hl1; omega
    · have hh : MkHereC b s r' := fun w h => here_any w b s _ h
      have p124 : (((hd0 r').toNat : Int) != 124) = true := by
        have : hd0 r' ≠ 124 := by
          match r', hn with
          | [], _ => simp [hd0]
          | c' :: t', hn => intro e; simp only [hd0] at e; exact hn t' (by rw [e])
        have := nbeq this; simp at this ⊢; exact this
      have HKN2 : Hid (KidsAt w (w4.setCell ⟨w.heap.size, 257, none⟩ (.slice q0 q1 q2)) b s 2 (rVs (acc ++ [c])) (vs ++ [.pointer (some ⟨g, 0, none⟩)]) (.slice q0 q1 q2) r') := by
        show KidsAt _ _ _ _ _ _ _ _ _
        rw [rVs_append]; simp only [rVs]; exact HKN.out _ rfl
      have HCS : Hid (acc ++ [c] = cs) := HP.out.1
      clear HC HP HKN hn
      obtain ⟨g0', cap', hv'⟩ := own_len HKN2.out.own
      obtain ⟨n1, hn1⟩ : ∃ n, n = (acc ++ [c]).length := ⟨_, rfl⟩
      have HN1 : Hid (n1 = acc.length + 1) := by show _ = _; simpa using hn1
      rw [rVs_len, ← hn1] at hv'
      clear hn1
      injection hv' with e0 e1 e2
      subst e0; subst e1; subst e2
      by_cases h1 : q1 = 1
      · have hl2 : ((q1 : Int) == 1) = true := by simp; omega
        obtain rfl : acc = [] := by
          have := HN1.out
          cases acc with
          | nil => rfl
          | cons a l => simp at this; omega
        subst h1
        obtain ⟨g7, hg7, hT⟩ := one_of_rep (by have := HKN2.out.rep; simpa only [rVs, List.nil_append] using this)
        have HT : Hid _ := hT
        clear hT
        have hown := HKN2.out.own
        rw [hg7] at hown
        obtain ⟨g9, cap9, hv9, hc9⟩ := own_one (by simpa only [rVs, List.nil_append, List.length_singleton] using hown)
        injection hv9 with e1 _ e3
        subst e1; subst e3
        have HG : Hid _ := hg7
        clear hown hg7
        go_wp2_with (go_at_call 14; refine (hh _ HKN2.out.pl).mono ?_; rintro e w5 ⟨rfl, g5, l5⟩; have t5 := HKN2.out.tr.of_heap (l5.block _ HKN2.out.tr.lt); have t5c := t5; obtain ⟨u0, uB, uk, um, ux, us, uf⟩ := t5c; have hc10 : w5.cell? ⟨g9, 0, none⟩ = some (.pointer (some ⟨g7, 0, none⟩)) := cell_below l5 hc9)
        go_ret
        refine ⟨g7, rfl, ⟨g5, HKN2.out.rd.trans (Rd.of_below l5)⟩, ?_⟩
        rw [← HCS.out]
        simp only [List.nil_append, rCs]
        exact RepT.of_heap (fun j hj hlt' => ⟨⟨by have := hj.1.1; omega, Nat.lt_of_lt_of_le hlt' l5.size⟩, l5.block j hlt'⟩) _ g7 HT.out
      · have hl2 : ((q1 : Int) == 1) = false := by simp; omega
        go_wp2_with (go_at_call 14; refine (hh _ HKN2.out.pl).mono ?_; rintro e w5 ⟨rfl, g5, l5⟩; have t5 := HKN2.out.tr.of_heap (l5.block _ HKN2.out.tr.lt); have t5c := t5; obtain ⟨u0, uB, uk, um, ux, us, uf⟩ := t5c)
        go_ret
        exact ⟨w.heap.size, rfl, ⟨g5, HKN2.out.rd.trans (Rd.of_below l5)⟩, by rw [← HCS.out, rCs_eq]; exact HKN2.out.done hlt l5 (by rw [rVs_len]; have := HN1.out; simp only [List.length_append, List.length_cons, List.length_nil]; omega)⟩
/-- All of the maker, by the reading. -/
theorem maker_all (b : Nat) (s : ByteArray) (n : Nat) :
    (∀ r cs r', pChoices n r = .ok cs r' → overB r' = true → MkChsC b s r r' (rCs cs)) ∧
    (∀ r ps r', pChain n r = .ok ps r' → overB r' = true → MkChainC b s r r' (rC ps)) ∧
    (∀ r p r', begins r = true → pPart n r = .ok p r' → MkPartC b s r r' (rP p)) ∧
    (∀ r g S r', begins r = true → pAtom n r = .ok (g, S) r' → MkAtomC b s r r' (match g with | [] => .bytes S | c :: cs' => rCs (c :: cs'))) := by
  induction n using Nat.strongRecOn with
  | _ n ih =>
    refine ⟨fun r cs r' h ho w hw => ?_, fun r ps r' h ho w hw => ?_, fun r p r' hb h w hw => ?_, fun r g S r' hb h w hw => ?_⟩
    · exact choices_ok n w b s r r' cs hw h ho (fun m r r' ps hm hp ho' => (ih m hm).2.1 r ps r' hp ho')
    · exact chain_ok n w b s r r' ps hw h ho (fun m r r' p hm hb hp => (ih m hm).2.2.1 r p r' hb hp)
    · cases n with
      | zero => simp [pPart] at h
      | succ n =>
        simp only [pPart] at h
        split at h
        · simp at h
        · rename_i g S r1 h1
          split at h
          · rename_i cs r2 h2
            injection h with e1 e2; subst e1; subst e2
            exact part_ok w b s r r1 _ _ _ _ cs hw ((ih n (Nat.lt_succ_self _)).2.2.2 r g S r1 hb h1) h2 (by cases g <;> simp only [rP])
          · simp at h
    · cases n with
      | zero => simp [pAtom] at h
      | succ n =>
        match r, h, hw, hb with
        | c :: t, h, hw, hb =>
          simp only [pAtom] at h
          split at h
          · rename_i e; subst e
            split at h
            · simp at h
            · rename_i cs r1 h1
              split at h
              · injection h with e1 e2; injection e1 with e1 e3; subst e1; subst e2; subst e3
                obtain ⟨m', c0, r0, _, _, _, hcase⟩ := pChoices_forms h1
                have hne : ∃ a l, cs = a :: l := by
                  rcases hcase with ⟨_, cs2, _, _, rfl⟩ | ⟨_, rfl, _⟩
                  · exact ⟨_, _, rfl⟩
                  · exact ⟨_, _, rfl⟩
                obtain ⟨a, l, rfl⟩ := hne
                exact matom_group w b s t _ _ hw ((ih n (Nat.lt_succ_self _)).1 t (a :: l) _ h1 (by simp [overB]))
              · simp at h
          · rename_i n40
            split at h
            · rename_i e; subst e
              split at h
              · rename_i S' r1 h1
                injection h with e1 e2; injection e1 with e1 e3; subst e1; subst e2; subst e3
                exact matom_class w b s t r1 S' hw h1
              · simp at h
            · rename_i n91
              split at h
              · rename_i e; subst e
                split at h
                · rename_i S' r1 h1
                  injection h with e1 e2; injection e1 with e1 e3; subst e1; subst e2; subst e3
                  match t, h1, hw with
                  | c' :: t', h1, hw =>
                    simp only [pEscape] at h1
                    split at h1
                    · rename_i S2 hS
                      injection h1 with e1 e2; subst e1; subst e2
                      exact matom_esc1 w b s _ _ _ hw (escaped_set b s c' _ _ hS)
                    · split at h1
                      · rename_i v r2 hv
                        injection h1 with e1 e2; subst e1; subst e2
                        exact matom_esc2 w b s _ _ none256 rfl v (pByteEscape_lt hv) hw (escaped_byte b s 0 v _ _ hv)
                      · simp at h1
                · simp at h
              · rename_i n92
                split at h
                · rename_i e; subst e
                  injection h with e1 e2; injection e1 with e1 e3; subst e1; subst e2; subst e3
                  exact matom_dot w b s t hw
                · rename_i n46
                  injection h with e1 e2; injection e1 with e1 e3; subst e1; subst e2; subst e3
                  exact matom_plain w b s c t hw n40 n91 n46 n92
end Go.Proofs.YtbjabpodkaokjaaDoor
