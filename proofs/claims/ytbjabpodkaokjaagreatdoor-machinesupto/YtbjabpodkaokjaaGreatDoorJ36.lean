import Derived.Test.YtbjabpodkaokjaaGreatDoorJ35
import Derived.Test.YtbjabpodkaokjaaGreatDoorJ22
set_option linter.unusedVariables false
set_option linter.unusedSimpArgs false
namespace Go.Proofs.YtbjabpodkaokjaaGreatDoor
open Go.RowKit

theorem mchN {lo : Nat} {w1 w2 : World} {g : Nat} {t : Tb} {c : Nat} (h : ∀ w2, Hi lo w1 w2 → AuIn w2 g t) (hok : TbOk t c) (hl : lo ≤ w1.heap.size) (k : Hi lo (w1.alloc (.cells #[.pointer (some ⟨g, 0, none⟩)] 97)) w2) : Mch w2 w1.heap.size t c := by
  refine ⟨g, ?_, h w2 (((Hi.refl lo w1).alloc _).trans k), hok⟩
  have e := k.block w1.heap.size hl (by simp)
  rw [cell_of_block e]
  simp [go_sem]
set_option maxHeartbeats 1000000 in
theorem build_yesN (w : World) (t : Tb) (va vn : Value) (h : TabIn w t va vn) (hs : Small t) (hf : isTb t = true) :
    Calls Tryz.prog 62 #[tv t va vn] w fun e w' => ∃ m c, e = .returned (.tuple #[.pointer (some ⟨m, 0, none⟩), .int .i64 0]) ∧ (∀ w2, Hi w.heap.size w' w2 → Mch w2 m t c) ∧ w.heap.size ≤ m ∧ Below w.heap.size w w' := by
  obtain ⟨c, hok⟩ := tbOk_of hf
  have hB : Below w.heap.size w (w.alloc (.cells #[.bool t.front, .bool t.back, .int .i64 t.start, .string (ba t.cls), va, vn] 33)) := (Below.refl _ _).alloc (Nat.le_refl _) _
  have hn := new_yesN _ t va vn (h.below hB) hs hf
  have HB : Hid (Below w.heap.size w (w.alloc (.cells #[.bool t.front, .bool t.back, .int .i64 t.start, .string (ba t.cls), va, vn] 33))) := hB
  have HOK : Hid (TbOk t c) := hok
  clear hB h hs hf hok
  go_enter Tryz.func62, Tryz.ntmps62
  go_wp2_with (go_at_call 42; refine hn.mono ?_; rintro e w1 ⟨g, rfl, hg, hau, hb⟩; have HA : Hid (∀ w2, Hi w.heap.size w1 w2 → AuIn w2 g t) := fun w2 k => hau w2 (k.mono (by simp)); have HB1 : Hid (Below w.heap.size w w1) := HB.out.trans (hb.mono (by simp)); clear hau hb)
  go_ret2
  exact ⟨_, c, rfl, fun w2 k => mchN HA.out HOK.out HB1.out.size k, HB1.out.size, HB1.out.alloc HB1.out.size _⟩
set_option maxRecDepth 4000 in
set_option maxHeartbeats 1000000 in
theorem load_yesN (w : World) (b : List UInt8) (hb : b.length ≤ maxLen) (t : Tb) (k : Nat) (g : Bool) (h : rdT b = some (t, k, g)) (he : enc t k g = b) (hf : isTb t = true) :
    Calls Tryz.prog 35 #[.string (ba b)] w fun e w' => ∃ m c, e = .returned (.tuple #[.pointer (some ⟨m, 0, none⟩), .int .i64 0]) ∧ (∀ w2, Hi w.heap.size w' w2 → Mch w2 m t c) ∧ w.heap.size ≤ m ∧ Below w.heap.size w w' := by
  obtain ⟨c0, hok⟩ := tbOk_of hf
  have HOK : Hid (TbOk t c0) := hok
  have hr := read_good w b hb t k g h he
  have hs := rdT_small h
  have HNW : Hid (∀ w va vn, TabIn w t va vn → Calls Tryz.prog 42 #[tv t va vn] w fun e w' => ∃ g, e = .returned (.tuple #[.pointer (some ⟨g, 0, none⟩), .bool true]) ∧ w.heap.size ≤ g ∧ (∀ w2, Hi w.heap.size w' w2 → AuIn w2 g t) ∧ Below w.heap.size w w') := fun w va vn h => new_yesN w t va vn h hs hf
  clear h he hb hf hs hok
  go_enter Tryz.func35, Tryz.ntmps35
  go_wp2_with (first | (go_at_call 42; refine (HNW.out _ _ _ HT.out).mono ?_; rintro e w2 ⟨g2, rfl, hg2, hau, hb2⟩; have HA : Hid (∀ w3, Hi w.heap.size w2 w3 → AuIn w3 g2 t) := fun w3 k => hau w3 (k.mono (by have := hb1.size; simp; omega)); have HB2 : Hid (Below w.heap.size w w2) := (hb1.alloc hb1.size _).trans (hb2.mono (by have := hb1.size; simp; omega)); clear hau hb2 hg2) | (go_at_call 60; refine hr.mono ?_; rintro e w1 ⟨⟨va, vn, rfl, ht⟩, hb1⟩; obtain ⟨a, c, a2, n2, c2, e1, e2⟩ := ht.shapes; subst e1; subst e2; have HT : Hid (TabIn (w1.alloc (.cells #[.bool t.front, .bool t.back, .int .i64 t.start, .string (ba t.cls), .slice a t.acc.length c, .slice a2 n2 c2] 33)) t (.slice a t.acc.length c) (.slice a2 n2 c2)) := ht.below ((Below.refl _ _).alloc (Nat.le_refl _) _); clear ht))
  go_ret2
  exact ⟨_, c0, rfl, fun w3 k => mchN HA.out HOK.out HB2.out.size k, HB2.out.size, HB2.out.alloc HB2.out.size _⟩
theorem load_someN (w : World) (b : List UInt8) (hb : b.length ≤ maxLen) (t : Tb) (h : loadM isTb b = some t) :
    Calls Tryz.prog 35 #[.string (ba b)] w fun e w' => ∃ m c, e = .returned (.tuple #[.pointer (some ⟨m, 0, none⟩), .int .i64 0]) ∧ (∀ w2, Hi w.heap.size w' w2 → Mch w2 m t c) ∧ w.heap.size ≤ m ∧ Below w.heap.size w w' := by
  unfold loadM at h
  split at h
  · simp at h
  · rename_i t' k g hr
    split at h
    · rename_i he
      split at h
      · rename_i hp
        simp only [Option.some.injEq] at h
        subst h
        exact load_yesN w b hb _ k g hr he hp
      · simp at h
    · simp at h
end Go.Proofs.YtbjabpodkaokjaaGreatDoor

namespace Go.Proofs.YtbjabpodkaokjaaGreatDoor
open Go.RowKit

section
variable {B : Nat} {w w4 : World} {g : Nat} {ρ : Nat → Nat} {N : Int} {vs : Nat → Value} {d : Bd} {tw : List Tw}
theorem Bk.B_le (h : Bk B w g ρ N vs d tw) : B ≤ w.heap.size := by
  have := h.lo g (by have := h.rg; omega)
  have := h.lt
  omega
theorem Bk.grow (h : Bk B w g ρ N vs d tw) {q n cap g4 cap4 : Nat} {e : TypeId} {xs ys : List Value} (hq : ρ q = 9) (hql : q < w.heap.size) (ho : Lst w e q n cap xs)
    (ho4 : w4.ownsRow 0 e 1 (.slice (some ⟨g4, 0, none⟩) (n + 1) cap4) (n + 1) (xs ++ ys)) (hlt : g4 < w4.heap.size) (hch : (some q = some g4 ∧ w.grownBy w4 (some g4)) ∨ (g4 = w.heap.size ∧ w.grownBy w4 none)) :
    Bk B w4 g (upd (upd ρ q 0) g4 9) N vs d tw ∧ (∀ w'', Off (upd (upd ρ q 0) g4 9) g4 (n + 1) w4 w'' → Off ρ q n w w'') ∧ Below B w w4 ∧ upd (upd ρ q 0) g4 9 g4 = 9 ∧ (∀ b, b < w.heap.size → b ≠ q → w4.heap[b]? = w.heap[b]? ∨ (ρ b ≠ 0 ∧ ρ b < 9)) ∧ (∀ b, b < w.heap.size → b ≠ q → upd (upd ρ q 0) g4 9 b = ρ b) := by
  have hBl := h.B_le
  rcases hch with ⟨e1, hg⟩ | ⟨rfl, hg⟩
  · injection e1 with e1
    subst e1
    have e2 : upd (upd ρ q 0) q 9 = ρ := by
      funext b
      by_cases e : b = q
      · subst e; rw [upd_same, hq]
      · rw [upd_ne _ _ e, upd_ne _ _ e]
    rw [e2]
    refine ⟨h.away hg (fun b e => by injection e with e; subst e; omega), fun w'' o => ?_, Below.grown (Below.refl _ _) hg hBl (fun b e => by injection e with e; subst e; exact h.lo q (by omega)), hq, fun b hb hne => .inl (hg.block b hb (by simpa using hne)), fun _ _ _ => rfl⟩
    refine Off.comp hg.size (fun b hb hr => ⟨hg.block b hb (by intro e; injection e with e; subst e; omega), hr⟩) (fun i hi => ⟨?_, .inl ⟨rfl, by omega⟩⟩) o
    have hxl : xs.length = n := ho.1
    have hx : xs[i]? = some xs[i] := List.getElem?_eq_getElem (by omega)
    rw [ho.2.1 i _ hx, (Lst.of_owns ho4).2.1 i _ (by rw [List.getElem?_append_left (by omega)]; exact hx)]
  · have hne : q ≠ w.heap.size := by omega
    refine ⟨(h.away hg (fun b e => by simp at e)).role (fun b h1 h2 => ?_) (fun b hb => ?_) (fun b hb => ?_), fun w'' o => ?_, Below.grown (Below.refl _ _) hg hBl (fun b e => by simp at e), upd_same _ _ _, fun b hb hne => .inl (hg.block b hb (by simp)), fun b hb hne => ?_⟩
    · have e1 : b ≠ q := by rintro rfl; omega
      have e2 : b ≠ w.heap.size := by rintro rfl; have := h.new _ (Nat.le_refl _); omega
      rw [upd_ne _ _ e2, upd_ne _ _ e1]
    · rw [upd_ne _ _ (by omega), upd_ne _ _ (by omega)]
      exact h.new b (Nat.le_trans hg.size hb)
    · by_cases e : b = w.heap.size
      · omega
      · rw [upd_ne _ _ e] at hb
        by_cases e : b = q
        · subst e; exact h.lo b (by omega)
        · rw [upd_ne _ _ e] at hb; exact h.lo b hb
    · refine Off.comp hg.size (fun b hb hr => ⟨hg.block b hb (by simp), ?_⟩) (fun i hi => ⟨cell_of_block (hg.block q hql (by simp)) _, .inr ⟨?_, Nat.lt_of_lt_of_le hql hg.size⟩⟩) o
      · rw [upd_ne _ _ (by omega)]
        by_cases e : b = q
        · subst e; exact upd_same _ _ _
        · rw [upd_ne _ _ e]; exact hr
      · rw [upd_ne _ _ hne, upd_same]
    · rw [upd_ne _ _ (by omega), upd_ne _ _ hne]
/-- The list is the books' alone now. -/
theorem Bk.rest (h : Bk B w g ρ N vs d tw) {q n : Nat} (hq : ρ q = 9) (hql : q < w.heap.size) : Bk B w g (upd ρ q 0) N vs d tw ∧ (∀ w'', Off (upd ρ q 0) 0 0 w w'' → Off ρ q n w w'') := by
  refine ⟨h.role (fun b h1 h2 => upd_ne _ _ (by rintro rfl; omega)) (fun b hb => ?_) (fun b hb => ?_), fun w'' o => ?_⟩
  · rw [upd_ne _ _ (by omega)]; exact h.new b hb
  · by_cases e : b = q
    · subst e; rw [upd_same] at hb; omega
    · rw [upd_ne _ _ e] at hb; exact h.lo b hb
  · refine Off.comp (Nat.le_refl _) (fun b hb hr => ⟨rfl, ?_⟩) (fun i hi => ⟨rfl, .inr ⟨upd_same _ _ _, hql⟩⟩) o
    rw [upd_ne _ _ (by rintro rfl; omega)]; exact hr
end
theorem kp_row {α : Type} {enc : α → Value} {ρ : Nat → Nat} {q n cap : Nat} {w : World} {e : TypeId} {l : List α} (hl : l.length = n) (ho : Lst w e q n cap (l.map enc)) : Kp ρ q n w fun w' => RowE enc w' (.slice (some ⟨q, 0, none⟩) n cap) l := by
  intro w' o
  subst hl
  refine .inr ⟨q, 0, cap, rfl, fun j hj => ?_⟩
  rw [Nat.zero_add, o.part j hj]
  exact ho.2.1 j _ (by simp [hj])
end Go.Proofs.YtbjabpodkaokjaaGreatDoor

namespace Go.Proofs.YtbjabpodkaokjaaGreatDoor
open Go.RowKit

theorem heap_set_other {w : World} {b g o : Nat} {v : Value} (h : b ≠ g) : (w.setCell ⟨g, o, none⟩ v).heap[b]? = w.heap[b]? := Below.heap_setCell _ _ _ _ h
theorem Lst.of_block {w w' : World} {e : TypeId} {q n cap : Nat} {xs : List Value} (h : Lst w e q n cap xs) (hb : w'.heap[q]? = w.heap[q]?) : Lst w' e q n cap xs := by
  obtain ⟨h1, h2, h3⟩ := h
  refine ⟨h1, fun j u hu => (cell_of_block hb j).trans (h2 j u hu), ?_⟩
  rcases h3 with h3 | h3
  · exact .inl h3
  · right
    refine ⟨h3.1, ?_⟩
    rcases h3.2 with q | ⟨g, cap', cur, e1, e2, e3, r⟩
    · exact .inl q
    · have e1' := e1
      injection e1' with e1'
      injection e1' with e1'
      injection e1' with e1'
      subst e1'
      exact .inr ⟨q, cap', cur, e1, e2, hb.trans e3, r⟩
/-- The books while a list of n is in hand: what they hold, and what is known of them. -/
structure IJ (X : World → Prop) (B : Nat) (w wr : World) (g : Nat) (ρ0 : Nat → Nat) (N : Int) (dB dF : Bd) (tw : List Tw) (q0 n : Nat) (e : TypeId) (xs : List Value) (ρ : Nat → Nat) (vs : Nat → Value) (q cap : Nat) : Prop where
  bk : Bk B wr g ρ N vs dB tw
  fc : Fct X ρ q n wr dF tw
  rq : ρ q = 9
  ql : q < wr.heap.size
  row : Lst wr e q n cap xs
  bl : Below B w wr
  sz : w.heap.size ≤ wr.heap.size
  oth : ∀ b, b < w.heap.size → 9 ≤ ρ0 b → b ≠ q0 → wr.heap[b]? = w.heap[b]? ∧ ρ b = ρ0 b ∧ b ≠ q
section
variable {X : World → Prop} {B : Nat} {w wr wa w4 : World} {g : Nat} {ρ0 : Nat → Nat} {N : Int} {dB dF : Bd} {tw : List Tw} {q0 n : Nat} {e : TypeId} {xs : List Value} {ρ : Nat → Nat} {vs : Nat → Value} {q cap : Nat}
theorem IJ.below (h : IJ X B w wr g ρ0 N dB dF tw q0 n e xs ρ vs q cap) (ha : Below wr.heap.size wr wa) : IJ X B w wa g ρ0 N dB dF tw q0 n e xs ρ vs q cap := by
  have hs := ha.size
  have hB := h.bk.B_le
  refine ⟨h.bk.below ha, h.fc.to fun w'' o => ?_, h.rq, Nat.lt_of_lt_of_le h.ql hs, h.row.of_block (ha.block q h.ql), h.bl.trans (ha.mono hB), Nat.le_trans h.sz hs, fun b hb h9 hne => ?_⟩
  · exact Off.comp hs (fun b hb hr => ⟨ha.block b hb, hr⟩) (fun i hi => ⟨cell_of_block (ha.block q h.ql) _, .inl ⟨rfl, hi⟩⟩) o
  · obtain ⟨e1, e2, e3⟩ := h.oth b hb h9 hne
    exact ⟨(ha.block b (Nat.lt_of_lt_of_le hb h.sz)).trans e1, e2, e3⟩
theorem IJ.put (h : IJ X B w wr g ρ0 N dB dF tw q0 n e xs ρ vs q cap) (k : Nat) (hk : k < 7) {dB' : Bd} {g4 c4 n' : Nat} {xs' : List Value} (hX : ∀ j, j ≠ k → spX dB' tw j = spX dB tw j ∧ spN dB' tw j = spN dB tw j) (hn' : spN dB' tw k = n') (hx' : spX dB' tw k = xs')
    (hown : w4.ownsRow 0 (spT k) (spZ k) (.slice (some ⟨g4, 0, none⟩) n' c4) n' xs') (hlt : g4 < w4.heap.size)
    (hch : ((vs k).ownBlock = some g4 ∧ wr.grownBy w4 (some g4)) ∨ (g4 = wr.heap.size ∧ wr.grownBy w4 none)) :
    IJ X B w (w4.setCell ⟨g, spO k, none⟩ (.slice (some ⟨g4, 0, none⟩) n' c4)) g ρ0 N dB' dF tw q0 n e xs (upd ρ g4 (k + 2)) (upd vs k (.slice (some ⟨g4, 0, none⟩) n' c4)) q cap ∧
      w4.cell? ⟨g, spO k, none⟩ = some (vs k) ∧ w4.frozen? ⟨g, spO k, none⟩ = false ∧ (∀ j, j < 7 → j ≠ k → w4.cell? ⟨g, spO j, none⟩ = some (vs j)) ∧ w4.cell? ⟨g, 1, none⟩ = some (.int .i64 N) := by
  subst hn' hx'
  obtain ⟨b1, b2, b3, b4, b5, b6, b7⟩ := h.bk.put hk hX hown hlt hch
  have hqs := b3 q h.ql (.inr (by rw [h.rq]; omega))
  refine ⟨⟨b1, h.fc.to fun w'' o => b2 q n w'' (.inr ⟨h.ql, by rw [h.rq]; omega⟩) o, by rw [hqs.2]; exact h.rq, Nat.lt_of_lt_of_le h.ql b6, h.row.of_block hqs.1, h.bl.trans b7, Nat.le_trans h.sz b6, fun b hb h9 hne => ?_⟩, b4, b5, fun j hj hne => ?_, ?_⟩
  · obtain ⟨e1, e2, e3⟩ := h.oth b hb h9 hne
    obtain ⟨e4, e5⟩ := b3 b (Nat.lt_of_lt_of_le hb h.sz) (.inr (by rw [e2]; exact h9))
    exact ⟨e4.trans e1, e5.trans e2, e3⟩
  · have := b1.cl j hj
    rw [upd_ne _ _ hne, World.cell?_setCell_other _ _ _ _ (by simp; exact fun q => hne (spO_inj q.symm))] at this
    exact this
  · have := b1.cn
    rw [World.cell?_setCell_other _ _ _ _ (by simp; exact fun q => (spO_ne1 k) q)] at this
    exact this
theorem IJ.grow (h : IJ X B w wr g ρ0 N dB dF tw q0 n e xs ρ vs q cap) {g4 cap4 : Nat} {ys zs : List Value} (hz : xs ++ ys = zs) (ho4 : w4.ownsRow 0 e 1 (.slice (some ⟨g4, 0, none⟩) (n + 1) cap4) (n + 1) (xs ++ ys)) (hlt : g4 < w4.heap.size)
    (hch : (some q = some g4 ∧ wr.grownBy w4 (some g4)) ∨ (g4 = wr.heap.size ∧ wr.grownBy w4 none)) : IJ X B w w4 g ρ0 N dB dF tw q0 (n + 1) e zs (upd (upd ρ q 0) g4 9) vs g4 cap4 := by
  subst hz
  obtain ⟨b1, b2, b3, b4, b5, b6⟩ := h.bk.grow h.rq h.ql h.row ho4 hlt hch
  have hs : wr.heap.size ≤ w4.heap.size := by rcases hch with ⟨_, q⟩ | ⟨_, q⟩ <;> exact q.size
  refine ⟨b1, h.fc.to b2, b4, hlt, Lst.of_owns ho4, h.bl.trans b3, Nat.le_trans h.sz hs, fun b hb h9 hne => ?_⟩
  obtain ⟨e1, e2, e3⟩ := h.oth b hb h9 hne
  have hbr := Nat.lt_of_lt_of_le hb h.sz
  refine ⟨?_, (b6 b hbr e3).trans e2, ?_⟩
  · rcases b5 b hbr e3 with q | ⟨_, q⟩
    · exact q.trans e1
    · omega
  · rintro rfl
    rcases hch with ⟨e4, _⟩ | ⟨e4, _⟩
    · injection e4 with e4; exact e3 e4.symm
    · omega
theorem IJ.fact (h : IJ X B w wr g ρ0 N dB dF tw q0 n e xs ρ vs q cap) {dF' : Bd} (hf : Fct X ρ q n wr dF' tw) : IJ X B w wr g ρ0 N dB dF' tw q0 n e xs ρ vs q cap := ⟨h.bk, hf, h.rq, h.ql, h.row, h.bl, h.sz, h.oth⟩
theorem IJ.rest (h : IJ X B w wr g ρ0 N dB dF tw q0 n e xs ρ vs q cap) : Bk B wr g (upd ρ q 0) N vs dB tw ∧ Fct X (upd ρ q 0) 0 0 wr dF tw ∧ ∀ b, b < w.heap.size → 9 ≤ ρ0 b → b ≠ q0 → wr.heap[b]? = w.heap[b]? ∧ upd ρ q 0 b = ρ0 b := by
  obtain ⟨b1, b2⟩ := h.bk.rest (n := n) h.rq h.ql
  refine ⟨b1, h.fc.to b2, fun b hb h9 hne => ?_⟩
  obtain ⟨e1, e2, e3⟩ := h.oth b hb h9 hne
  exact ⟨e1, (upd_ne _ _ e3).trans e2⟩
end
/-- The list is in hand: its cells are written. -/
theorem IJ.start {X : World → Prop} {B : Nat} {w : World} {g : Nat} {ρ : Nat → Nat} {N : Int} {d : Bd} {tw : List Tw} {vs : Nat → Value} {q0 n : Nat} {f : Nat → Value} (hb : Bk B w g ρ N vs d tw) (hf : Fct X ρ 0 0 w d tw) (hq : ρ q0 = 9) (hql : q0 < w.heap.size) (hn : Nw w q0 n f) (M : Int) :
    Bk B (w.setCell ⟨g, 1, none⟩ (.int .i64 M)) g ρ M vs d tw ∧ Fct X ρ 0 0 (w.setCell ⟨g, 1, none⟩ (.int .i64 M)) d tw ∧ Nw (w.setCell ⟨g, 1, none⟩ (.int .i64 M)) q0 n f ∧ Below B w (w.setCell ⟨g, 1, none⟩ (.int .i64 M)) ∧ (∀ b, b ≠ g → (w.setCell ⟨g, 1, none⟩ (.int .i64 M)).heap[b]? = w.heap[b]?) ∧ (w.setCell ⟨g, 1, none⟩ (.int .i64 M)).heap.size = w.heap.size := by
  have hBg : B ≤ g := hb.lo g (by have := hb.rg; omega)
  have hs : (w.setCell ⟨g, 1, none⟩ (.int .i64 M)).heap.size = w.heap.size := by simp [World.setCell]
  refine ⟨hb.num M, hf.to fun w'' o => ?_, hn.of_block (heap_set_other (by rintro rfl; have := hb.rg; omega)), Below.setCell (Below.refl _ _) (by simpa using hBg) _, fun b hne => heap_set_other hne, hs⟩
  exact Off.comp (by rw [hs]; exact Nat.le_refl _) (fun b hb' hr => ⟨heap_set_other (by rintro rfl; have := hb.rg; omega), hr⟩) (fun i hi => by omega) o
/-- One cell of the list in hand. -/
structure LJ (X : World → Prop) (B : Nat) (w wr : World) (g : Nat) (ρ : Nat → Nat) (N : Int) (vs : Nat → Value) (d : Bd) (tw : List Tw) (q0 n : Nat) (f : Nat → Value) : Prop where
  bk : Bk B wr g ρ N vs d tw
  fc : Fct X ρ 0 0 wr d tw
  nw : Nw wr q0 n f
  bl : Below B w wr
  sz : w.heap.size ≤ wr.heap.size
  rq : ρ q0 = 9
  ql : q0 < wr.heap.size
  oth : ∀ b, b < w.heap.size → 9 ≤ ρ b → b ≠ q0 → wr.heap[b]? = w.heap[b]?
theorem LJ.set {X : World → Prop} {B : Nat} {w wr : World} {g : Nat} {ρ : Nat → Nat} {N : Int} {vs : Nat → Value} {d : Bd} {tw : List Tw} {q0 n : Nat} {f : Nat → Value} (h : LJ X B w wr g ρ N vs d tw q0 n f) (k : Nat) (hk : k < n) (v : Value) :
    LJ X B w (wr.setCell ⟨q0, k, none⟩ v) g ρ N vs d tw q0 n (fun j => if j = k then v else f j) := by
  have hs : (wr.setCell ⟨q0, k, none⟩ v).heap.size = wr.heap.size := by simp [World.setCell]
  have hBq : B ≤ q0 := h.bk.lo q0 (by have := h.rq; omega)
  refine ⟨h.bk.away (r := some q0) (grown_set _ _ _ _) (fun b e => by injection e with e; subst e; have := h.rq; omega), h.fc.to fun w'' o => ?_, h.nw.set k hk v, h.bl.setCell (by simpa using hBq) _, by rw [hs]; exact h.sz, h.rq, by rw [hs]; exact h.ql, fun b hb h9 hne => (heap_set_other hne).trans (h.oth b hb h9 hne)⟩
  exact Off.comp (by rw [hs]; exact Nat.le_refl _) (fun b hb' hr => ⟨heap_set_other (by rintro rfl; have := h.rq; omega), hr⟩) (fun i hi => by omega) o
theorem LJ.congr {X : World → Prop} {B : Nat} {w wr : World} {g : Nat} {ρ : Nat → Nat} {N : Int} {vs : Nat → Value} {d : Bd} {tw : List Tw} {q0 n : Nat} {f f' : Nat → Value} (h : LJ X B w wr g ρ N vs d tw q0 n f) (e : ∀ j, j < n → f j = f' j) : LJ X B w wr g ρ N vs d tw q0 n f' := ⟨h.bk, h.fc, h.nw.congr e, h.bl, h.sz, h.rq, h.ql, h.oth⟩
theorem LJ.done {X : World → Prop} {B : Nat} {w wr : World} {g : Nat} {ρ : Nat → Nat} {N : Int} {vs : Nat → Value} {d : Bd} {tw : List Tw} {q0 n : Nat} {f : Nat → Value} (h : LJ X B w wr g ρ N vs d tw q0 n f) {e : TypeId} {xs : List Value} (hl : xs.length = n) (hx : ∀ j u, xs[j]? = some u → f j = u) :
    IJ X B w wr g ρ N d d tw q0 n e xs ρ vs q0 n := by
  refine ⟨h.bk, h.fc.to fun w'' o => ⟨o.size, o.block, fun i hi => by omega⟩, h.rq, h.ql, ⟨hl, fun j u hu => ?_, .inl rfl⟩, h.bl, h.sz, fun b hb h9 hne => ⟨h.oth b hb h9 hne, rfl, hne⟩⟩
  have hj : j < n := by rw [← hl]; exact (List.getElem?_eq_some_iff.1 hu).1
  rw [h.nw.c j hj, hx j u hu]
end Go.Proofs.YtbjabpodkaokjaaGreatDoor
