import Derived.Test.YtbjabpodkaokjaaGreatDoorJ38
import Derived.Deep.RegionLaw
set_option linter.unusedVariables false
set_option linter.unusedSimpArgs false
namespace Go.Proofs.YtbjabpodkaokjaaGreatDoor
open Go.RowKit

theorem Tryz.infoLLI : (Tryz.prog.info? 31).map (fun i => (i.zero, i.size, i.bytes)) = some (some (.slice none 0 0), 1, 24) := by kernel_rfl
theorem spX6 (d d' : Bd) (tw : List Tw) (h1 : d'.ls = d.ls) (h2 : d'.ms = d.ms) (h3 : d'.bs = d.bs) (h4 : d'.ws = d.ws) (h5 : d'.rs = d.rs) : ∀ j, j ≠ 6 → spX d' tw j = spX d tw j ∧ spN d' tw j = spN d tw j := by
  intro j hj
  match j with
  | 0 => exact ⟨rfl, rfl⟩
  | 1 => simp [spX, spN, h1]
  | 2 => simp [spX, spN, h2]
  | 3 => simp [spX, spN, h3]
  | 4 => simp [spX, spN, h4]
  | 5 => simp [spX, spN, h5]
  | 6 => exact absurd rfl hj
  | _ + 7 => exact ⟨rfl, rfl⟩
theorem wrap64 (z : Int) (h1 : -9223372036854775808 ≤ z) (h2 : z ≤ 9223372036854775807) : IntKind.i64.wrap z = z := by
  rw [IntKind.wrap_i64]; omega
/-- Behind k rows. -/
structure TK (X : World → Prop) (B : Nat) (w wr : World) (g : Nat) (ρ : Nat → Nat) (N : Int) (d : Bd) (tw : List Tw) (gs : List Nat) (k : Nat) (ρ1 : Nat → Nat) (vs1 : Nat → Value) (d1 : Bd) : Prop where
  bk : Bk B wr g ρ1 (N + k) vs1 d1 tw
  fc : Fct X ρ1 0 0 wr d1 tw
  ll : d1.ls.length = d.ls.length + 4 * k
  lb : d1.bs.length = d.bs.length
  lr : d1.rs.length = d.rs.length
  bl : Below B w wr
  sz : w.heap.size ≤ wr.heap.size
  oth : ∀ b, b < w.heap.size → 9 ≤ ρ b → (∀ j (h : j < gs.length), j < k → b ≠ gs[j]) → wr.heap[b]? = w.heap[b]? ∧ ρ1 b = ρ b
section
variable {X : World → Prop} {B : Nat} {w wr wa w4 : World} {g : Nat} {ρ0 : Nat → Nat} {N : Int} {dB dF : Bd} {tw : List Tw} {q0 n : Nat} {e : TypeId} {xs : List Value} {ρ : Nat → Nat} {vs : Nat → Value} {q cap : Nat}
theorem IJ.putO (h : IJ X B w wr g ρ0 N dB dF tw q0 n e xs ρ vs q cap) (k : Nat) (hk : k < 7) {dB' : Bd} {g4 c4 n' : Nat} {xs' : List Value} (hX : ∀ j, j ≠ k → spX dB' tw j = spX dB tw j ∧ spN dB' tw j = spN dB tw j) (hn' : spN dB' tw k = n') (hx' : spX dB' tw k = xs')
    (hown : w4.ownsRow 0 (spT k) (spZ k) (.slice (some ⟨g4, 0, none⟩) n' c4) n' xs') (hlt : g4 < w4.heap.size)
    (hch : ((vs k).ownBlock = some g4 ∧ wr.grownBy w4 (some g4)) ∨ (g4 = wr.heap.size ∧ wr.grownBy w4 none)) {o : Nat} {C : Obj} (ho : Ow ρ o C wr) :
    Ow (upd ρ g4 (k + 2)) o C (w4.setCell ⟨g, spO k, none⟩ (.slice (some ⟨g4, 0, none⟩) n' c4)) := by
  have far := h.put_far k hk hX hn' hx' hown hlt hch
  obtain ⟨e1, e2⟩ := far o ho.2.1 (.inl ho.1)
  refine ⟨e2.trans ho.1, ?_, e1.trans ho.2.2⟩
  rw [size_set]
  have := ho.2.1
  rcases hch with ⟨_, q⟩ | ⟨_, q⟩ <;> exact Nat.lt_of_lt_of_le this q.size
theorem IJ.growO (h : IJ X B w wr g ρ0 N dB dF tw q0 n e xs ρ vs q cap) {g4 cap4 : Nat} {ys : List Value} (ho4 : w4.ownsRow 0 e 1 (.slice (some ⟨g4, 0, none⟩) (n + 1) cap4) (n + 1) (xs ++ ys)) (hlt : g4 < w4.heap.size)
    (hch : (some q = some g4 ∧ wr.grownBy w4 (some g4)) ∨ (g4 = wr.heap.size ∧ wr.grownBy w4 none)) {o : Nat} {C : Obj} (ho : Ow ρ o C wr) : Ow (upd (upd ρ q 0) g4 9) o C w4 := by
  obtain ⟨e1, e2⟩ := h.grow_far ho4 hlt hch o ho.2.1 (by rintro rfl; have := h.rq; have := ho.1; omega) (.inl ho.1)
  refine ⟨e2.trans ho.1, ?_, e1.trans ho.2.2⟩
  have := ho.2.1
  rcases hch with ⟨_, q⟩ | ⟨_, q⟩ <;> exact Nat.lt_of_lt_of_le this q.size
theorem IJ.drew (h : IJ X B w wr g ρ0 N dB dF tw q0 n e xs ρ vs q cap) : IJ X B w wr.drew g ρ0 N dB dF tw q0 n e xs ρ vs q cap := h.below ((Below.refl _ _).drew)
end
theorem Bk.startN {X : World → Prop} {B : Nat} {w : World} {g : Nat} {ρ : Nat → Nat} {N : Int} {d : Bd} {tw : List Tw} {vs : Nat → Value} (hb : Bk B w g ρ N vs d tw) (hf : Fct X ρ 0 0 w d tw) (M : Int) :
    Bk B (w.setCell ⟨g, 1, none⟩ (.int .i64 M)) g ρ M vs d tw ∧ Fct X ρ 0 0 (w.setCell ⟨g, 1, none⟩ (.int .i64 M)) d tw ∧ Below B w (w.setCell ⟨g, 1, none⟩ (.int .i64 M)) := by
  have hBg : B ≤ g := hb.lo g (by have := hb.rg; omega)
  have hs : (w.setCell ⟨g, 1, none⟩ (.int .i64 M)).heap.size = w.heap.size := by simp [World.setCell]
  refine ⟨hb.num M, hf.to fun w'' o => ?_, Below.setCell (Below.refl _ _) (by simpa using hBg) _⟩
  exact Off.comp (by rw [hs]; exact Nat.le_refl _) (fun b hb' hr => ⟨heap_set_other (by rintro rfl; have := hb.rg; omega), hr⟩) (fun i hi => by omega) o
theorem Fct.below {X : World → Prop} {ρ : Nat → Nat} {w w' : World} {d : Bd} {tw : List Tw} (h : Fct X ρ 0 0 w d tw) (hb : Below w.heap.size w w') : Fct X ρ 0 0 w' d tw :=
  h.to fun w'' o => Off.comp hb.size (fun b hb' hr => ⟨hb.block b hb', hr⟩) (fun i hi => by omega) o
/-- One fact more, of a block that changes no more; and one less. -/
theorem Fct.more {X : World → Prop} {ρ : Nat → Nat} {w : World} {d : Bd} {tw : List Tw} {T : Nat} {C : Obj} (h : Fct X ρ 0 0 w d tw) (hT : T < w.heap.size) (hr : ρ T = 0) (hc : w.heap[T]? = some C) : Fct (fun w' => X w' ∧ w'.heap[T]? = some C) ρ 0 0 w d tw :=
  ⟨h.lI, h.lB, h.lR, h.fI, h.fB, h.fR, h.fT, fun w' o => ⟨h.fX w' o, (o.block T hT hr).trans hc⟩⟩
theorem Fct.less {X Y : World → Prop} {ρ : Nat → Nat} {q lim : Nat} {w : World} {d : Bd} {tw : List Tw} (h : Fct Y ρ q lim w d tw) (k : ∀ w', Y w' → X w') : Fct X ρ q lim w d tw :=
  ⟨h.lI, h.lB, h.lR, h.fI, h.fB, h.fR, h.fT, fun w' o => k _ (h.fX w' o)⟩
theorem rep_snocV (n : Nat) (v : Value) : (List.replicate n v).map id ++ [v] = (List.replicate (n + 1) v).map id := by
  rw [List.replicate_succ', List.map_append]; rfl
set_option maxRecDepth 4000 in
set_option maxHeartbeats 4000000 in
theorem table_any1 (X : World → Prop) (B : Nat) (w : World) (g : Nat) (ρ : Nat → Nat) (N : Int) (vs : Nat → Value) (d : Bd) (tw : List Tw) (t : Tb) (c tA tB : Nat) (gs : List Nat) (lo n : Nat) (hb : Bk B w g ρ N vs d tw) (hf : Fct X ρ 0 0 w d tw) (ht : TabN lo w t tA tB gs) (hok : TbOk t c) (hnt : t.next.length = n)
    (hrA : ρ tA = 9) (hrB : ρ tB = 9) (hrg : ∀ q ∈ gs, ρ q = 9) (hN1 : 0 ≤ N) (hN2 : N < 100000000000) (s1 : d.ls.length ≤ 100000000000) (s2 : d.bs.length ≤ 100000000000) (s3 : d.rs.length ≤ 100000000000) :
    Calls Tryz.prog 18 #[.pointer (some ⟨g, 1, none⟩), tv t (.slice (some ⟨tA, 0, none⟩) n n) (.slice (some ⟨tB, 0, none⟩) n n)] w fun e w' => e = .returned (.tuple #[]) ∧ ∃ ρ' vs' d', Bk B w' g ρ' (N + n + 1) vs' d' tw ∧ Fct X ρ' 0 0 w' d' tw ∧ d'.ls.length = d.ls.length + 4 * n ∧ d'.bs.length = d.bs.length + 4 ∧ d'.rs.length = d.rs.length + 4 ∧ Below B w w' := by
  have hna : t.acc.length = n := by rw [← hok.n]; exact hnt
  have hn200 : n ≤ 200 := by rw [← hna]; exact hok.a2
  obtain ⟨o1, o2, o3, o4, o5, o6⟩ := ht.o
  obtain ⟨C, hC⟩ : ∃ C : Array Value, C = #[.bool t.front, .bool t.back, .int .i64 t.start, .string (ba t.cls), .slice (some ⟨tA, 0, none⟩) n n, .slice (some ⟨tB, 0, none⟩) n n] := ⟨_, rfl⟩
  obtain ⟨w1, hw1⟩ : ∃ w1, w1 = w.alloc (.cells C 33) := ⟨_, rfl⟩
  have hbw : Below w.heap.size w w1 := by rw [hw1]; exact (Below.refl _ _).alloc (Nat.le_refl _) _
  have hs1 : w1.heap.size = w.heap.size + 1 := by rw [hw1]; simp
  have hT : w1.heap[w.heap.size]? = some (.cells C 33) := by rw [hw1]; exact heap_alloc_new _ _
  have HTN : Hid (TabN lo w1 t tA tB gs) := ht.below hbw
  have HK : Hid (TK (fun w' => X w' ∧ w'.heap[w.heap.size]? = some (.cells C 33)) B w1 w1 g ρ N d tw gs 0 ρ vs d) :=
    ⟨by have := hb.below hbw; simpa using this, (hf.below hbw).more (by omega) (hb.new _ (Nat.le_refl _)) hT, by omega, rfl, rfl, Below.refl _ _, Nat.le_refl _, fun b _ _ _ => ⟨rfl, rfl⟩⟩
  have HBW : Hid (Below B w w1) := hbw.mono hb.B_le
  have HCC : Hid (∀ w' : World, w'.heap[w.heap.size]? = some (.cells C 33) → w'.cell? ⟨w.heap.size, 4, none⟩ = some (.slice (some ⟨tA, 0, none⟩) n n) ∧ w'.cell? ⟨w.heap.size, 5, none⟩ = some (.slice (some ⟨tB, 0, none⟩) n n)) := fun w' h => by
    rw [hC] at h
    exact ⟨by simp [World.cell?, h], by simp [World.cell?, h]⟩
  have HW1 : Hid (w1 = w.alloc (.cells #[.bool t.front, .bool t.back, .int .i64 t.start, .string (ba t.cls), .slice (some ⟨tA, 0, none⟩) n n, .slice (some ⟨tB, 0, none⟩) n n] 33)) := by
    show _ = _
    rw [hw1, hC]
  have HR : Hid (ρ tA = 9 ∧ ρ tB = 9 ∧ (∀ q ∈ gs, ρ q = 9)) := ⟨hrA, hrB, hrg⟩
  have HNA : Hid (t.acc.length = n ∧ t.next.length = n ∧ gs.length = n) := ⟨hna, hnt, by rw [ht.gl]; exact hnt⟩
  have HOK : Hid (TbOk t c) := hok
  have hc256 := hok.c256.1
  clear hb hf ht hok hnt hrA hrB hrg hna o1 o2 o3 o4 o5 o6 hbw hs1 hT hw1 hC
  go_enter Tryz.func18, Tryz.ntmps18
  go_wp2
  rw [← HW1.out]
  obtain ⟨q4, q5⟩ := HCC.out w1 HK.out.fc.fX.now.2
  go_loopw [4] (fun i wr => ∃ (k : Nat) (ρ1 : Nat → Nat) (vs1 : Nat → Value) (d1 : Bd), i = .int .i64 k ∧ k ≤ n ∧ TK (fun w' => X w' ∧ w'.heap[w.heap.size]? = some (.cells C 33)) B w1 wr g ρ N d tw gs k ρ1 vs1 d1) (fun i _ => n - (intOf i).toNat)
  case atStart => exact ⟨0, _, _, _, rfl, Nat.zero_le _, HK.out⟩
  case round =>
    clear q4 q5 HK
    obtain ⟨k, ρ1, vs1, d1, rfl, hk, hkk⟩ := hrel
    have HK : Hid (TK (fun w' => X w' ∧ w'.heap[w.heap.size]? = some (.cells C 33)) B w1 wr g ρ N d tw gs k ρ1 vs1 d1) := hkk
    obtain ⟨q4, q5⟩ := HCC.out wr hkk.fc.fX.now.2
    clear hkk
    by_cases hlt : k < n
    · have hltI : (k : Int) < n := by omega
      have hkg : k < gs.length := by rw [HNA.out.2.2]; exact hlt
      have hkn : k < t.next.length := by rw [HNA.out.2.1]; exact hlt
      obtain ⟨o1, o2, o3, o4, o5, o6⟩ := HTN.out.o
      obtain ⟨r1, r2, r3⟩ := HTN.out.rows k hkg
      have hne : ∀ j (h : j < gs.length), j < k → gs[k] ≠ gs[j] := fun j h hj => by
        have := List.pairwise_iff_getElem.1 HTN.out.mono j k h hkg hj
        omega
      have eB := HK.out.oth tB o5 (by rw [HR.out.2.1]; exact Nat.le_refl _) (fun j h _ e => by have := (o6 gs[j] (List.getElem_mem h)).2; omega)
      have eK := HK.out.oth gs[k] r3 (by rw [HR.out.2.2 _ (List.getElem_mem hkg)]; exact Nat.le_refl _) hne
      have c5 := (cell_of_block eB.1 k).trans (HTN.out.nb.c k hkn)
      simp only [rowAt, List.getElem?_eq_getElem hkg, List.getElem?_eq_getElem hkn, Option.getD_some] at c5
      obtain ⟨qk, hqk⟩ : ∃ q, q = gs[k] := ⟨_, rfl⟩
      obtain ⟨rl, hrl⟩ : ∃ m, m = t.next[k].length := ⟨_, rfl⟩
      rw [← hqk, ← hrl] at c5
      have hrl2 : rl ≤ 256 := by rw [hrl, (HOK.out.r _ (List.getElem_mem hkn)).1]; exact hc256
      have HINT : Hid (Calls Tryz.prog 53 #[.pointer (some ⟨g, 1, none⟩), .slice (some ⟨qk, 0, none⟩) rl rl] wr fun e w' => e = .returned (.tuple #[]) ∧ ∃ ρ' vs' d', TK (fun w' => X w' ∧ w'.heap[w.heap.size]? = some (.cells C 33)) B w1 w' g ρ N d tw gs (k + 1) ρ' vs' d') := by
        have hi := ints_any _ B wr g ρ1 (N + k) vs1 d1 tw qk rl _ HK.out.bk HK.out.fc (by rw [hqk, eK.2]; exact HR.out.2.2 _ (List.getElem_mem hkg)) (by rw [hqk]; have := HK.out.sz; omega) (by rw [hqk, hrl]; have := r1.of_block eK.1; simpa [hkn] using this) (by omega) (by omega) (by omega) (by rw [HK.out.ll]; omega)
        refine hi.mono ?_
        rintro e w' ⟨rfl, ρ', vs', es, mm, b1, b2, b3, b4, b5, b6, b7⟩
        refine ⟨rfl, ρ', vs', _, ⟨by rw [show N + ((k + 1 : Nat) : Int) = N + k + 1 by omega]; exact b1, b2, ?_, HK.out.lb, HK.out.lr, HK.out.bl.trans b5, Nat.le_trans HK.out.sz b6, fun b hb h9 hne' => ?_⟩⟩
        · simp only [List.length_append]; rw [HK.out.ll, b3]; omega
        · have e1 := HK.out.oth b hb h9 (fun j h hj => hne' j h (by omega))
          have e2 := b7 b (by have := HK.out.sz; omega) (by rw [e1.2]; exact h9) (by rw [hqk]; exact hne' k hkg (by omega))
          exact ⟨e2.1.trans e1.1, e2.2.trans e1.2⟩
      clear o1 o2 o3 o4 o5 o6 r1 r2 r3 hne eB eK hqk hrl HK
      go_wp2_with (go_at_call 53; refine HINT.out.mono ?_; rintro e w3 ⟨rfl, ρ3, vs3, d3, hk3⟩; have HK3 : Hid (TK (fun w' => X w' ∧ w'.heap[w.heap.size]? = some (.cells C 33)) B w1 w3 g ρ N d tw gs (k + 1) ρ3 vs3 d3) := hk3; clear hk3)
      go_roundw
      case rel => exact ⟨k + 1, ρ3, vs3, d3, by go_num, by omega, HK3.out⟩
      case measure => simp [intOf] <;> omega
    · have hkI : ¬ (k : Int) < n := by omega
      have hkn : k = n := by omega
      subst hkn
      obtain ⟨o1, o2, o3, o4, o5, o6⟩ := HTN.out.o
      have eA := HK.out.oth tA o4 (by rw [HR.out.1]; exact Nat.le_refl _) (fun j h _ e => by have := (o6 gs[j] (List.getElem_mem h)).1; omega)
      have eT := HK.out.oth tB o5 (by rw [HR.out.2.1]; exact Nat.le_refl _) (fun j h _ e => by have := (o6 gs[j] (List.getElem_mem h)).2; omega)
      have HBO : Hid (Calls Tryz.prog 54 #[.pointer (some ⟨g, 1, none⟩), .slice (some ⟨tA, 0, none⟩) k k] wr fun e w' => e = .returned (.tuple #[]) ∧ ∃ ρ2 vs2 d2, Bk B w' g ρ2 (N + k) vs2 d2 tw ∧ Fct (fun w' => X w' ∧ w'.heap[w.heap.size]? = some (.cells C 33)) ρ2 0 0 w' d2 tw ∧ d2.ls.length = d.ls.length + 4 * k ∧ d2.bs.length = d.bs.length + 4 ∧ d2.rs.length = d.rs.length ∧ Below B w1 w' ∧ w1.heap.size ≤ w'.heap.size ∧ w'.heap[tB]? = w1.heap[tB]? ∧ ρ2 tB = 9) := by
        have hi := bools_any _ B wr g ρ1 (N + k) vs1 d1 tw tA k t.acc HK.out.bk HK.out.fc (by rw [eA.2]; exact HR.out.1) (by have := HK.out.sz; omega) HNA.out.1 (by have := HTN.out.na.of_block eA.1; rw [HNA.out.1] at this; exact this) (by omega) (by omega) (by omega) (by rw [HK.out.lb]; omega)
        refine hi.mono ?_
        rintro e w' ⟨rfl, ρ', vs', es, us, b1, b2, b3, b4, b5, b6, b7⟩
        have e2 := b7 tB (by have := HK.out.sz; omega) (by rw [eT.2, HR.out.2.1]; exact Nat.le_refl _) (fun e => o3 e.symm)
        refine ⟨rfl, ρ', vs', _, b1, b2, HK.out.ll, ?_, HK.out.lr, HK.out.bl.trans b5, Nat.le_trans HK.out.sz b6, e2.1.trans eT.1, e2.2.trans (eT.2.trans HR.out.2.1)⟩
        simp only [List.length_append]; rw [HK.out.lb, b3]
      have hTB : tB < w1.heap.size := o5
      clear o1 o2 o3 o4 o5 o6 eA eT HK
      go_wp2_with (go_at_call 54; refine HBO.out.mono ?_; rintro e w2 ⟨rfl, ρ2, vs2, d2, hb2, hf2, l1, l2, l3, hbl2, hsz2, hB2, hr2⟩; have c1 := hb2.cn; have f1 := hb2.fz 1; have HB2 : Hid (Bk B w2 g ρ2 (N + k) vs2 d2 tw) := hb2; have HF2 : Hid (Fct (fun w' => X w' ∧ w'.heap[w.heap.size]? = some (.cells C 33)) ρ2 0 0 w2 d2 tw) := hf2; have HLL : Hid (d2.ls.length = d.ls.length + 4 * k ∧ d2.bs.length = d.bs.length + 4 ∧ d2.rs.length = d.rs.length) := ⟨l1, l2, l3⟩; have HBL2 : Hid (Below B w1 w2) := hbl2; have HTB2 : Hid (w2.heap[tB]? = w1.heap[tB]? ∧ ρ2 tB = 9 ∧ w1.heap.size ≤ w2.heap.size) := ⟨hB2, hr2, hsz2⟩; clear hb2 hf2 l1 l2 l3 hbl2 hsz2 hB2 hr2)
      obtain ⟨M, hM⟩ : ∃ M, M = N + k + 1 := ⟨_, rfl⟩
      rw [← hM]
      have HM : Hid (M = N + k + 1) := hM
      have hM1 : 0 ≤ M := by omega
      have hM2 : M ≤ 1000000000000 := by omega
      obtain ⟨m, hm⟩ : ∃ m, m = -1000 - M := ⟨_, rfl⟩
      rw [← hm]
      have HMM : Hid (m = -1000 - M) := hm
      obtain ⟨w4, hw4⟩ : ∃ w4, w4 = (w2.setCell ⟨g, 1, none⟩ (.int .i64 M)).alloc (.cells #[.int .i64 m] 3) := ⟨_, rfl⟩
      rw [← hw4]
      obtain ⟨s4, s5, s6⟩ := Bk.startN HB2.out HF2.out M
      have hba : Below (w2.setCell ⟨g, 1, none⟩ (.int .i64 M)).heap.size (w2.setCell ⟨g, 1, none⟩ (.int .i64 M)) w4 := by rw [hw4]; exact (Below.refl _ _).alloc (Nat.le_refl _) _
      have hs4 : w4.heap.size = w2.heap.size + 1 := by rw [hw4]; simp [World.setCell]
      have HBL4 : Hid (Below B w w4) := HBW.out.trans (HBL2.out.trans (s6.trans (hba.mono s4.B_le)))
      have hTBlt : tB < w2.heap.size := by have := HTB2.out.2.2; omega
      have HJ : Hid (IJ (fun w' => X w' ∧ w'.heap[w.heap.size]? = some (.cells C 33)) B w4 w4 g ρ2 M d2 d2 tw tB 0 40 [] ρ2 vs2 tB 0) := IJ.begin (s4.below hba) (s5.below hba) HTB2.out.2.1 (by omega)
      have hgT : tB ≠ g := by rintro rfl; have := HB2.out.rg; have := HTB2.out.2.1; omega
      have HNW : Hid (Nw w4 tB k (fun j => if j < 0 then .slice (some ⟨w2.heap.size, 0, none⟩) 1 1 else rowAt gs t.next j)) := by
        have h0 := HTN.out.nb.of_block HTB2.out.1
        have h1 : (w2.setCell ⟨g, 1, none⟩ (.int .i64 M)).heap[tB]? = w2.heap[tB]? := heap_set_other hgT
        have h2 := (h0.of_block h1).of_block (hba.block tB (by rw [size_set]; exact hTBlt))
        rw [HNA.out.2.1] at h2
        exact h2.congr (fun j _ => by simp)
      have HOW : Hid (Ow ρ2 w2.heap.size (.cells #[.int .i64 m] 3 (0, 0)) w4) := ⟨HB2.out.new _ (Nat.le_refl _), by omega, by rw [hw4]; have := heap_alloc_new (w2.setCell ⟨g, 1, none⟩ (.int .i64 M)) (.cells #[.int .i64 m] 3); rw [size_set] at this; exact this⟩
      obtain ⟨ob, hob⟩ : ∃ ob, ob = w2.heap.size := ⟨_, rfl⟩
      rw [← hob] at HOW HNW ⊢
      obtain ⟨r4, r5⟩ := HCC.out w4 HJ.out.fc.fX.now.2
      clear hM hm hw4 s4 s5 s6 hba hs4 hTBlt hgT hob c1 f1 HB2 HF2 HBL2 HTB2 q4 q5 HBO hkI
      go_loopw [6] (fun i wr => ∃ kk : Nat, i = .int .i64 kk ∧ kk ≤ k ∧ IJ (fun w' => X w' ∧ w'.heap[w.heap.size]? = some (.cells C 33)) B w4 wr g ρ2 M d2 d2 tw tB 0 40 [] ρ2 vs2 tB 0 ∧ Nw wr tB k (fun j => if j < kk then .slice (some ⟨ob, 0, none⟩) 1 1 else rowAt gs t.next j) ∧ Ow ρ2 ob (.cells #[.int .i64 m] 3 (0, 0)) wr) (fun i _ => k - (intOf i).toNat)
      case atStart => exact ⟨0, rfl, Nat.zero_le _, HJ.out, HNW.out, HOW.out⟩
      case round =>
        clear r4 r5 HJ HNW HOW
        obtain ⟨kk, rfl, hkk, hj, hnw, how⟩ := hrel
        have HJ : Hid (IJ (fun w' => X w' ∧ w'.heap[w.heap.size]? = some (.cells C 33)) B w4 wr g ρ2 M d2 d2 tw tB 0 40 [] ρ2 vs2 tB 0) := hj
        have HNW : Hid (Nw wr tB k (fun j => if j < kk then .slice (some ⟨ob, 0, none⟩) 1 1 else rowAt gs t.next j)) := hnw
        have HOW : Hid (Ow ρ2 ob (.cells #[.int .i64 m] 3 (0, 0)) wr) := how
        obtain ⟨r4, r5⟩ := HCC.out wr hj.fc.fX.now.2
        clear hj hnw how
        by_cases hlt : kk < k
        · have hltI : (kk : Int) < k := by omega
          have c1 := HNW.out.c kk hlt
          have f1 := HNW.out.fz kk
          obtain ⟨u, hu⟩ : ∃ u, u = (if kk < kk then Value.slice (some ⟨ob, 0, none⟩) 1 1 else rowAt gs t.next kk) := ⟨_, rfl⟩
          rw [← hu] at c1
          clear hu
          go_wp2
          go_roundw
          case rel =>
            refine ⟨kk + 1, by go_num, by omega, HJ.out.setq kk _, (HNW.out.set kk hlt _).congr (fun j _ => ?_), HOW.out.1, by rw [size_set]; exact HOW.out.2.1, (heap_set_other (by rintro rfl; have := HJ.out.rq; have := HOW.out.1; omega)).trans HOW.out.2.2⟩
            by_cases e1 : j = kk
            · subst e1; rw [if_pos rfl, if_pos (by omega)]
            · rw [if_neg e1]
              by_cases e2 : j < kk
              · rw [if_pos e2, if_pos (by omega)]
              · rw [if_neg e2, if_neg (by omega)]
          case measure => simp [intOf] <;> omega
        · have hkI : ¬ (kk : Int) < k := by omega
          have hkk2 : kk = k := by omega
          subst hkk2
          have HJ2 : Hid (IJ (fun w' => X w' ∧ w'.heap[w.heap.size]? = some (.cells C 33)) B w4 wr g ρ2 M d2 d2 tw tB kk 40 ((List.replicate kk (Value.slice (some ⟨ob, 0, none⟩) 1 1)).map id) ρ2 vs2 tB kk) := HJ.out.take ⟨by simp, fun j u hu => by
            obtain ⟨hj, e⟩ := List.getElem?_eq_some_iff.1 hu
            simp at hj e
            rw [HNW.out.c j hj, if_pos hj, e], .inl rfl⟩
          clear HNW HJ
          have hLR : d2.os.length = d2.rs.length := HJ2.out.fc.lR
          have HLR : Hid (d2.os.length = d2.rs.length) := hLR
          have hlr2 : d2.rs.length ≤ 100000000000 := by have := HLL.out.2.2; omega
          clear hLR
          obtain ⟨i1, hi1, h10, h11, h12⟩ := info_parts Tryz.infoLI
          obtain ⟨i2, hi2, h20, h21, h22⟩ := info_parts Tryz.infoI
          obtain ⟨i3, hi3, h30, h31, h32⟩ := info_parts Tryz.infoLLI
          go_wp2
          go_loopw [7, 8] (fun l i wr => ∃ (k2 : Nat) (ρ' : Nat → Nat) (vs' : Nat → Value) (q cap : Nat) (es : List Value) (mm : List Int), l = .slice (some ⟨q, 0, none⟩) (kk + k2) cap ∧ i = .int .i64 k2 ∧ k2 ≤ 4 ∧ es.length = k2 ∧ mm.length = k2 ∧ IJ (fun w' => X w' ∧ w'.heap[w.heap.size]? = some (.cells C 33)) B w4 wr g ρ2 M { d2 with rs := d2.rs ++ es, os := d2.os ++ mm } { d2 with rs := d2.rs ++ es, os := d2.os ++ mm } tw tB (kk + k2) 40 ((List.replicate (kk + k2) (Value.slice (some ⟨ob, 0, none⟩) 1 1)).map id) ρ' vs' q cap ∧ Ow ρ' ob (.cells #[.int .i64 m] 3 (0, 0)) wr) (fun _ i _ => 4 - (intOf i).toNat)
          case atStart => exact ⟨0, ρ2, vs2, tB, kk, [], [], rfl, rfl, by omega, rfl, rfl, by simpa using HJ2.out, HOW.out⟩
          case round =>
            clear HJ2 HOW hkI r4 r5
            obtain ⟨k2, ρ', vs', q, cap, es, mm, rfl, rfl, hk4, hel, hml, hj, how⟩ := hrel
            obtain ⟨nn, hnn⟩ : ∃ nn, nn = kk + k2 := ⟨_, rfl⟩
            rw [← hnn] at hj ⊢
            have HNN : Hid (nn = kk + k2) := hnn
            have hnn2 : nn ≤ 1048580 := by omega
            have HJ : Hid (IJ (fun w' => X w' ∧ w'.heap[w.heap.size]? = some (.cells C 33)) B w4 wr g ρ2 M { d2 with rs := d2.rs ++ es, os := d2.os ++ mm } { d2 with rs := d2.rs ++ es, os := d2.os ++ mm } tw tB nn 40 ((List.replicate nn (Value.slice (some ⟨ob, 0, none⟩) 1 1)).map id) ρ' vs' q cap) := hj
            have HOW : Hid (Ow ρ' ob (.cells #[.int .i64 m] 3 (0, 0)) wr) := how
            have HEL : Hid (es.length = k2 ∧ mm.length = k2) := ⟨hel, hml⟩
            obtain ⟨v5, hv5⟩ : ∃ v, v = vs' 5 := ⟨_, rfl⟩
            obtain ⟨v6, hv6⟩ : ∃ v, v = vs' 6 := ⟨_, rfl⟩
            obtain ⟨nR, hnR⟩ : ∃ k, k = (d2.rs ++ es).length := ⟨_, rfl⟩
            obtain ⟨nL, hnL⟩ : ∃ k, k = (d2.os ++ mm).length := ⟨_, rfl⟩
            have hnR2 : nR ≤ 1000000000004 := by rw [hnR, List.length_append]; omega
            have hnL2 : nL ≤ 1000000000004 := by rw [hnL, List.length_append, HLR.out]; omega
            have HNR : Hid (nR = (d2.rs ++ es).length) := hnR
            have HNL : Hid (nL = (d2.os ++ mm).length) := hnL
            have HV5 : Hid (v5 = vs' 5) := hv5
            have HV6 : Hid (v6 = vs' 6) := hv6
            have HO5 : Hid (wr.ownsRow 0 31 1 v5 nR (d2.rs ++ es)) := by
              show World.ownsRow _ _ _ _ _ _ _
              rw [hv5, hnR]; exact hj.bk.own 5 (by omega)
            have c6 := hj.bk.cl 5 (by omega)
            rw [← hv5] at c6
            simp only [spO] at c6
            clear hnn hj how hv5 hv6 hnR hnL hel hml
            by_cases hlt : k2 < 4
            · have hltI : (k2 : Int) < 4 := by omega
              go_wp2_with (at_builtin; refine wpList_append_str _ rfl (.tmp 62) (.tmp 64) 42 rfl 0 31 i3 (.slice none 0 0) 1 24 Tryz.underlying42 hi3 h30 h31 h32 rfl (by decide) v5 nR (d2.rs ++ es) rfl (World.ownsRow.alloc HO5.out _) ⟨wr.heap.size, 0, none⟩ 1 1 [.slice (some ⟨q, 0, none⟩) nn cap] rfl rfl (one_cell_new _ _ _) (by simp [Value.oneCell']) (by omega) (by unfold maxLen; omega) (by omega) (Nat.zero_le _) _ rfl ?_; intro g1 k1 w6 ho1 hc1 hl1; have hX := (fun j hj => by match j with | 0 => exact ⟨rfl, rfl⟩ | 1 => exact ⟨rfl, rfl⟩ | 2 => exact ⟨rfl, rfl⟩ | 3 => exact ⟨rfl, rfl⟩ | 4 => exact ⟨rfl, rfl⟩ | 5 => exact absurd rfl hj | 6 => exact ⟨rfl, rfl⟩ | _ + 7 => exact ⟨rfl, rfl⟩ : ∀ j, j ≠ 5 → spX { d2 with rs := d2.rs ++ es ++ [.slice (some ⟨q, 0, none⟩) nn cap], os := d2.os ++ mm } tw j = spX { d2 with rs := d2.rs ++ es, os := d2.os ++ mm } tw j ∧ spN { d2 with rs := d2.rs ++ es ++ [.slice (some ⟨q, 0, none⟩) nn cap], os := d2.os ++ mm } tw j = spN { d2 with rs := d2.rs ++ es, os := d2.os ++ mm } tw j); rw [HV5.out] at hc1; obtain ⟨hA1, c6', f6, cc, cM⟩ := (HJ.out.below ((Below.refl _ _).alloc (Nat.le_refl _) _)).put 5 (by omega) hX (n' := nR + 1) (xs' := d2.rs ++ es ++ [.slice (some ⟨q, 0, none⟩) nn cap]) (by rw [HNR.out]; simp [spN]; omega) rfl ho1 hl1 hc1; have hA3 := (HJ.out.below ((Below.refl _ _).alloc (Nat.le_refl _) _)).putO 5 (by omega) hX (n' := nR + 1) (xs' := d2.rs ++ es ++ [.slice (some ⟨q, 0, none⟩) nn cap]) (by rw [HNR.out]; simp [spN]; omega) rfl ho1 hl1 hc1 (HOW.out.below ((Below.refl _ _).alloc (Nat.le_refl _) _)); rw [← HV5.out] at c6'; have c7' := cc 6 (by omega) (by omega); rw [← HV6.out] at c7'; have HA : Hid (IJ (fun w' => X w' ∧ w'.heap[w.heap.size]? = some (.cells C 33)) B w4 (w6.setCell ⟨g, 6, none⟩ (.slice (some ⟨g1, 0, none⟩) (nR + 1) k1)) g ρ2 M { d2 with rs := d2.rs ++ es ++ [.slice (some ⟨q, 0, none⟩) nn cap], os := d2.os ++ mm } { d2 with rs := d2.rs ++ es, os := d2.os ++ mm } tw tB nn 40 ((List.replicate nn (Value.slice (some ⟨ob, 0, none⟩) 1 1)).map id) (upd ρ' g1 7) (upd vs' 5 (.slice (some ⟨g1, 0, none⟩) (nR + 1) k1)) q cap) := hA1; have HAO : Hid (Ow (upd ρ' g1 7) ob (.cells #[.int .i64 m] 3 (0, 0)) (w6.setCell ⟨g, 6, none⟩ (.slice (some ⟨g1, 0, none⟩) (nR + 1) k1))) := hA3; have HO6 : Hid ((w6.setCell ⟨g, 6, none⟩ (.slice (some ⟨g1, 0, none⟩) (nR + 1) k1)).ownsRow 0 3 1 v6 nL ((d2.os ++ mm).map eI)) := (by show World.ownsRow _ _ _ _ _ _ _; rw [HV6.out, HNL.out]; exact HA.out.bk.own 6 (by omega)); simp only [spO] at c6' f6 c7'; clear ho1 hc1 hA1 hA3 cc hX)
              generalize (w6.setCell ⟨g, 6, none⟩ (.slice (some ⟨g1, 0, none⟩) (nR + 1) k1)) = w7 at HA HAO HO6 ⊢
              have d7 := HA.out.bk.cl 6 (by omega)
              rw [upd_ne _ _ (by omega), ← HV6.out] at d7
              simp only [spO] at d7
              have d1 := HA.out.bk.cn
              have d7n : (w7.alloc (.cells #[.int .i64 m] 3)).cell? ⟨g, 7, none⟩ = some v6 := cell_below ((Below.refl _ _).alloc (Nat.le_refl _) _) d7
              have d7e := World.new_ne w7 ⟨g, 7, none⟩ d7
              have hwr : IntKind.i64.wrap (-1000 - M) = m := by
                rw [HMM.out]
                exact wrap64 _ (by omega) (by omega)
              clear c6' f6 c7' cM c6 hl1
              go_region_law (refine step_append_str _ (by rfl) (.tmp 72) (.tmp 78) 40 (by rfl) 0 3 i2 (.int .i64 0) 1 8 Tryz.underlying40 hi2 h20 h21 h22 (by rfl) (by decide) v6 nL ((d2.os ++ mm).map eI) (by rfl) (show World.ownsRow _ _ _ _ _ _ _ from World.ownsRow.alloc HO6.out _) ⟨w7.heap.size, 0, none⟩ 1 1 [.int .i64 m] (by rfl) (by rfl) (one_cell_new w7 _ _) (by simp [Value.oneCell']) (by omega) (by unfold maxLen; omega) (by omega) (Nat.zero_le _) _ (by rfl) ?_; intro g2 k3 w8 ho2 hc2 hl2; rw [HV6.out] at hc2; obtain ⟨hB1, e7, f7, _, _⟩ := (HA.out.below ((Below.refl _ _).alloc (Nat.le_refl _) _)).drew.put 6 (by omega) (dB' := { d2 with rs := d2.rs ++ es ++ [.slice (some ⟨q, 0, none⟩) nn cap], os := d2.os ++ mm ++ [m] }) (spX6 _ _ _ rfl rfl rfl rfl rfl) (n' := nL + 1) (xs' := (d2.os ++ mm).map eI ++ [.int .i64 m]) (by rw [HNL.out]; simp [spN]; omega) (by simp [spX]) ho2 hl2 (by rw [upd_ne _ _ (by omega)]; exact hc2); have hB3 := (HA.out.below ((Below.refl _ _).alloc (Nat.le_refl _) _)).drew.putO 6 (by omega) (dB' := { d2 with rs := d2.rs ++ es ++ [.slice (some ⟨q, 0, none⟩) nn cap], os := d2.os ++ mm ++ [m] }) (spX6 _ _ _ rfl rfl rfl rfl rfl) (n' := nL + 1) (xs' := (d2.os ++ mm).map eI ++ [.int .i64 m]) (by rw [HNL.out]; simp [spN]; omega) (by simp [spX]) ho2 hl2 (by rw [upd_ne _ _ (by omega)]; exact hc2) ((HAO.out.below ((Below.refl _ _).alloc (Nat.le_refl _) _)).below ((Below.refl _ _).drew)); rw [upd_ne _ _ (by omega), ← HV6.out] at e7; have HB : Hid (IJ (fun w' => X w' ∧ w'.heap[w.heap.size]? = some (.cells C 33)) B w4 (w8.setCell ⟨g, 7, none⟩ (.slice (some ⟨g2, 0, none⟩) (nL + 1) k3)) g ρ2 M { d2 with rs := d2.rs ++ es ++ [.slice (some ⟨q, 0, none⟩) nn cap], os := d2.os ++ mm ++ [m] } { d2 with rs := d2.rs ++ es ++ [.slice (some ⟨q, 0, none⟩) nn cap], os := d2.os ++ mm ++ [m] } tw tB nn 40 ((List.replicate nn (Value.slice (some ⟨ob, 0, none⟩) 1 1)).map id) (upd (upd ρ' g1 7) g2 8) (upd (upd vs' 5 (.slice (some ⟨g1, 0, none⟩) (nR + 1) k1)) 6 (.slice (some ⟨g2, 0, none⟩) (nL + 1) k3)) q cap) := hB1.fact (hB1.fc.addR (n := nn) (by omega) (fun w' o => ⟨kp_row (by simp) hB1.row w' o, hB3.kp (l := [m]) (enc := eI) (q := q) (n := nn) (c := 1) w' o⟩)); have HBO : Hid (Ow (upd (upd ρ' g1 7) g2 8) ob (.cells #[.int .i64 m] 3 (0, 0)) (w8.setCell ⟨g, 7, none⟩ (.slice (some ⟨g2, 0, none⟩) (nL + 1) k3))) := hB3; simp only [spO] at e7 f7; clear ho2 hc2 hB1 hB3)
              all_goals
                go_wp2_with (at_builtin; refine wpList_append_lst _ rfl (.tmp 82) (.tmp 84) 31 rfl 40 i1 (.slice none 0 0) 24 Tryz.underlying31 hi1 h10 h11 h12 rfl q nn cap ((List.replicate nn (Value.slice (some ⟨ob, 0, none⟩) 1 1)).map id) rfl (HB.out.row.of_block (Below.heap_alloc _ _ _ HB.out.ql)) ⟨w8.heap.size, 0, none⟩ 1 (Value.slice (some ⟨ob, 0, none⟩) 1 1) rfl (cells_at _ _ _ (size_set _ _ _)) rfl (by unfold maxLen; omega) (by omega) ?_; intro g3 k4 w10 ho3 hc3 hl3; have HC : Hid (IJ (fun w' => X w' ∧ w'.heap[w.heap.size]? = some (.cells C 33)) B w4 w10 g ρ2 M { d2 with rs := d2.rs ++ es ++ [.slice (some ⟨q, 0, none⟩) nn cap], os := d2.os ++ mm ++ [m] } { d2 with rs := d2.rs ++ es ++ [.slice (some ⟨q, 0, none⟩) nn cap], os := d2.os ++ mm ++ [m] } tw tB (nn + 1) 40 ((List.replicate (nn + 1) (Value.slice (some ⟨ob, 0, none⟩) 1 1)).map id) (upd (upd (upd (upd ρ' g1 7) g2 8) q 0) g3 9) (upd (upd vs' 5 (.slice (some ⟨g1, 0, none⟩) (nR + 1) k1)) 6 (.slice (some ⟨g2, 0, none⟩) (nL + 1) k3)) g3 k4) := (HB.out.below ((Below.refl _ _).alloc (Nat.le_refl _) _)).grow (rep_snocV nn _) ho3 hl3 hc3; have HCO : Hid (Ow (upd (upd (upd (upd ρ' g1 7) g2 8) q 0) g3 9) ob (.cells #[.int .i64 m] 3 (0, 0)) w10) := (HB.out.below ((Below.refl _ _).alloc (Nat.le_refl _) _)).growO ho3 hl3 hc3 (HBO.out.below ((Below.refl _ _).alloc (Nat.le_refl _) _)); clear ho3 hc3)
                go_roundw
                case rel =>
                  have hD := HC.out
                  have hnk : nn + 1 = kk + (k2 + 1) := by have := HNN.out; omega
                  have hE := HEL.out
                  rw [List.append_assoc, List.append_assoc, hnk] at hD
                  exact ⟨k2 + 1, _, _, g3, k4, _, _, by rw [hnk], by go_num, by omega, by simp [hE.1], by simp [hE.2], hD, HCO.out⟩
                case measure => simp [intOf] <;> omega
            · have hkI : ¬ (k2 : Int) < 4 := by omega
              go_wp2
              refine bodyPost_end (results_none rfl _ _ _) rfl ?_
              obtain ⟨r1, r2, r3⟩ := HJ.out.rest
              have hE := HEL.out
              have hL := HLL.out
              refine ⟨rfl, _, _, _, by rw [HM.out] at r1; exact r1, r2.less (fun _ h => h.1), hL.1, hL.2.1, ?_, HBL4.out.trans HJ.out.bl⟩
              simp only [List.length_append]; omega
end Go.Proofs.YtbjabpodkaokjaaGreatDoor
