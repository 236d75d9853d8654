import Derived.Test.YtbjabpodkaokjaaJ18
import Derived.Deep.RegionHeld3
import Derived.Deep.CutRange
set_option linter.unusedVariables false
set_option linter.unusedSimpArgs false
namespace Go.Proofs.Ytbjabpodkaokjaa
open Go.RowKit

/-- A table whose lists lie each in a block of its own, from lo on. -/
structure TabN (lo : Nat) (w : World) (t : Tb) (tA tB : Nat) (gs : List Nat) : Prop where
  na : Nw w tA t.acc.length (fun j => eB (t.acc[j]?.getD false))
  nb : Nw w tB t.next.length (rowAt gs t.next)
  gl : gs.length = t.next.length
  rows : ∀ j (h : j < gs.length), Nw w gs[j] (t.next[j]?.getD []).length (fun i => eI ((t.next[j]?.getD [])[i]?.getD 0)) ∧ lo ≤ gs[j] ∧ gs[j] < w.heap.size
  mono : gs.Pairwise (· < ·)
  o : lo ≤ tA ∧ lo ≤ tB ∧ tA ≠ tB ∧ tA < w.heap.size ∧ tB < w.heap.size ∧ ∀ q ∈ gs, tA < q ∧ tB < q
theorem TabN.set {lo : Nat} {w : World} {t : Tb} {tA tB : Nat} {gs : List Nat} (h : TabN lo w t tA tB gs) {b : Nat} (hb : b < lo) (o : Nat) (v : Value) : TabN lo (w.setCell ⟨b, o, none⟩ v) t tA tB gs := by
  have e : ∀ q, lo ≤ q → (w.setCell ⟨b, o, none⟩ v).heap[q]? = w.heap[q]? := fun q hq => Below.heap_setCell _ _ _ _ (by simp only; omega)
  have hz : (w.setCell ⟨b, o, none⟩ v).heap.size = w.heap.size := by simp [World.setCell]
  obtain ⟨o1, o2, o3, o4, o5, o6⟩ := h.o
  exact ⟨h.na.of_block (e _ o1), h.nb.of_block (e _ o2), h.gl, fun j hj => ⟨(h.rows j hj).1.of_block (e _ (h.rows j hj).2.1), (h.rows j hj).2.1, by rw [hz]; exact (h.rows j hj).2.2⟩, h.mono, ⟨o1, o2, o3, by omega, by omega, o6⟩⟩
theorem TabN.below {lo : Nat} {w w' : World} {t : Tb} {tA tB : Nat} {gs : List Nat} (h : TabN lo w t tA tB gs) (hb : Below w.heap.size w w') : TabN lo w' t tA tB gs := by
  have hz := hb.size
  obtain ⟨o1, o2, o3, o4, o5, o6⟩ := h.o
  exact ⟨h.na.of_block (hb.block _ o4), h.nb.of_block (hb.block _ o5), h.gl, fun j hj => ⟨(h.rows j hj).1.of_block (hb.block _ (h.rows j hj).2.2), (h.rows j hj).2.1, by have := (h.rows j hj).2.2; omega⟩, h.mono, ⟨o1, o2, o3, by omega, by omega, o6⟩⟩
theorem TabN.weak {lo lo' : Nat} {w : World} {t : Tb} {tA tB : Nat} {gs : List Nat} (h : TabN lo w t tA tB gs) (hl : lo' ≤ lo) : TabN lo' w t tA tB gs := by
  obtain ⟨o1, o2, o3, o4, o5, o6⟩ := h.o
  exact ⟨h.na, h.nb, h.gl, fun j hj => ⟨(h.rows j hj).1, by have := (h.rows j hj).2.1; omega, (h.rows j hj).2.2⟩, h.mono, ⟨by omega, by omega, o3, o4, o5, o6⟩⟩
/-- Such a table as one in memory. -/
theorem TabN.tab {lo : Nat} {w : World} {t : Tb} {tA tB : Nat} {gs : List Nat} (h : TabN lo w t tA tB gs) : TabIn w t (.slice (some ⟨tA, 0, none⟩) t.acc.length t.acc.length) (.slice (some ⟨tB, 0, none⟩) t.next.length t.next.length) := by
  refine ⟨h.na.row (fun j hj => by simp [hj]), gs.zipIdx.map (fun p => rowAt gs t.next p.2), by simp [h.gl], ?_, fun j h1 h2 => ?_⟩
  · have e : (gs.zipIdx.map (fun p => rowAt gs t.next p.2)).length = t.next.length := by simp [h.gl]
    have := Nw.row (α := Value) (l := gs.zipIdx.map (fun p => rowAt gs t.next p.2)) (enc := id) (c := t.next.length) (w := w) (g := tB) (f := rowAt gs t.next) (by rw [e]; exact h.nb) (fun j hj => by simp)
    rw [e] at this
    exact this
  · have hj : j < gs.length := by simpa using h1
    have e : (gs.zipIdx.map (fun p => rowAt gs t.next p.2))[j] = .slice (some ⟨gs[j], 0, none⟩) t.next[j].length t.next[j].length := by simp [rowAt, hj, h2]
    rw [e]
    have hr := (h.rows j hj).1
    rw [List.getElem?_eq_getElem h2] at hr
    exact hr.row (fun i hi => by have hi' : i < t.next[j].length := hi; simp [hi'])
theorem TI.done {w wr : World} {f b : Bool} {st : Int} {cls : List UInt8} {n tT tA tB lo : Nat} {acc : List Bool} {next : List (List Int)} {gs : List Nat} (h : TI w wr f b st cls n tT tA tB lo acc next gs n n) (h1 : n = acc.length) (h2 : n = next.length) : TabN (w.heap.size + 1) wr ⟨f, b, st, cls, acc, next⟩ tA tB gs := by
  obtain ⟨o1, o2, o3, o4, o5, o6, o7, o8, o9, o10⟩ := h.o
  refine ⟨?_, ?_, ?_, fun j hj => ⟨(h.rows j hj).1, by have := (h.rows j hj).2.1; omega, (h.rows j hj).2.2⟩, h.mono, ⟨by omega, by omega, o9, by omega, by omega, fun q hq => ?_⟩⟩
  · show Nw _ _ acc.length _
    rw [← h1]
    exact h.na.congr (fun j hj => by simp [hj])
  · show Nw _ _ next.length _
    rw [← h2]
    exact h.nb
  · show gs.length = next.length
    rw [← h2]; exact h.gl
  · obtain ⟨i, hi, rfl⟩ := List.mem_iff_getElem.1 hq
    have := (h.rows i hi).2.1
    omega
theorem nw_new (w : World) (n : Nat) (z : Value) (hz : z.cells = #[z]) (e : TypeId) {w' : World} (hb : Below (w.heap.size + 1) (w.alloc (.cells (mkA n z) e)) w') : Nw w' w.heap.size n (fun _ => z) := (Nw.new w n z hz e).of_block (hb.block _ (by omega))
theorem TI.start {w1 w' w : World} {f b : Bool} {st : Int} {cls : List UInt8} {n tT tA tB : Nat} {acc : List Bool} {next : List (List Int)} (hw1 : w1 = w.alloc (.cells tc0 30)) (hb : Below w1.heap.size w1 w')
    (hT : w'.heap[tT]? = some (.cells #[.bool f, .bool b, .int .i64 st, .string (ba cls), .slice (some ⟨tA, 0, none⟩) n n, .slice (some ⟨tB, 0, none⟩) n n] 30)) (hA : w'.heap[tA]? = some (.cells (mkA n (.bool false)) 4)) (hB : w'.heap[tB]? = some (.cells (mkA n (.slice none 0 0)) 39))
    (o : w1.heap.size ≤ tT ∧ w1.heap.size ≤ tA ∧ w1.heap.size ≤ tB ∧ tT ≠ tA ∧ tT ≠ tB ∧ tA ≠ tB) : TI w w' f b st cls n tT tA tB w'.heap.size acc next [] 0 0 := by
  obtain ⟨p0, p1, p2, p3, p4, p5⟩ := box6 hT
  have hs : w1.heap.size = w.heap.size + 1 := by rw [hw1]; simp
  have key : ∀ {q : Nat} {z : Value} {e : TypeId}, w'.heap[q]? = some (.cells (mkA n z) e) → z.cells = #[z] → Nw w' q n (fun _ => z) := fun h hz => ⟨fun j hj => by simp only [World.cell?, h]; exact made_one hz n j hj, fun o => by simp [World.frozen?, h]⟩
  have l1 := (Array.getElem?_eq_some_iff.1 hT).1
  have l2 := (Array.getElem?_eq_some_iff.1 hA).1
  have l3 := (Array.getElem?_eq_some_iff.1 hB).1
  have hB1 : Below w.heap.size w w1 := by rw [hw1]; exact (Below.refl _ _).alloc (Nat.le_refl _) _
  refine ⟨hB1.trans (hb.mono (by omega)), ?_, p0, p1, p2, p3, p4, p5, (key hA rfl).congr (fun j _ => by simp), (key hB rfl).congr (fun j _ => by simp [rowAt]), rfl, fun j h => by simp at h, List.Pairwise.nil, ⟨by omega, by omega, by omega, l1, l2, l3, o.2.2.2.1, o.2.2.2.2.1, o.2.2.2.2.2, Nat.le_refl _⟩⟩
  rw [hb.block _ (by omega), hw1]
  exact heap_alloc_new _ _
theorem al0 (w : World) (X Y Z : Obj) : (((w.alloc X).alloc Y).alloc Z).drew.heap[w.heap.size]? = some X :=
  (Below.heap_alloc ((w.alloc X).alloc Y) Z _ (by simp; omega)).trans ((Below.heap_alloc (w.alloc X) Y _ (by simp)).trans (heap_alloc_new w X))
theorem al1 (w : World) (X Y Z : Obj) : (((w.alloc X).alloc Y).alloc Z).drew.heap[w.heap.size + 1]? = some Y := by
  have := (Below.heap_alloc ((w.alloc X).alloc Y) Z (w.alloc X).heap.size (by simp)).trans (heap_alloc_new (w.alloc X) Y)
  rw [World.size_alloc] at this
  exact this
theorem al2 (w : World) (X Y Z : Obj) : (((w.alloc X).alloc Y).alloc Z).drew.heap[w.heap.size + 1 + 1]? = some Z := by
  have := heap_alloc_new ((w.alloc X).alloc Y) Z
  rw [World.size_alloc, World.size_alloc] at this
  exact this
theorem al3 (w : World) (X Y Z : Obj) : Below w.heap.size w (((w.alloc X).alloc Y).alloc Z).drew := ((((Below.refl _ _).alloc (Nat.le_refl _) _).alloc (by simp) _).alloc (by simp; omega) _).drew
set_option maxRecDepth 8000 in
set_option maxHeartbeats 4000000 in
theorem table_any (w : World) (g : Nat) (t : Tb) (c : Nat) (h : AuIn w g t) (hok : TbOk t c) :
    Calls Try.prog 23 #[.pointer (some ⟨g, 0, none⟩)] w fun e w' => ∃ tA tB gs, e = .returned (tv t (.slice (some ⟨tA, 0, none⟩) t.acc.length t.acc.length) (.slice (some ⟨tB, 0, none⟩) t.next.length t.next.length)) ∧ TabN w.heap.size w' t tA tB gs ∧ Below w.heap.size w w' := by
  obtain ⟨S, v, hau, hS, hrows⟩ := h.au
  obtain ⟨us, hul, hu, hr⟩ := hrows
  have h256 := hok.c256.2
  have hc256 := hok.c256.1
  have a1 := hok.a1
  have a2 := hok.a2
  have hn := hok.n
  have hrr := hok.r
  obtain ⟨bn, on, cn, hv, hcell⟩ := hu.nonnil (by omega)
  subst hv
  rw [hul, hn] at hau
  obtain ⟨n, hnn⟩ : ∃ n, n = t.acc.length := ⟨_, rfl⟩
  have HN : Hid (n = t.acc.length ∧ n = t.next.length ∧ n = us.length) := ⟨hnn, by rw [hn, hnn], by rw [hul, hn, hnn]⟩
  rw [← hnn] at hau a1 a2
  obtain ⟨w1, hw1⟩ : ∃ w1, w1 = w.alloc (.cells tc0 30) := ⟨_, rfl⟩
  have hB1 : Below w.heap.size w w1 := by rw [hw1]; exact (Below.refl _ _).alloc (Nat.le_refl _) _
  have hau1 : Au w1 g t.front t.back t.start (fun j => ((t.cls[j]?.getD 0).toNat : Int)) S (.slice (some ⟨bn, on, none⟩) n cn) := hau.of_block (hB1.block g hau.lt)
  have hglt := hau.lt
  have hglt1 := hau1.lt
  have HCV : Hid (∀ w', w'.heap[g]? = w1.heap[g]? → (convert 46 9 (.slice (some ⟨g, 3, none⟩) 256 256)).run Try.prog w' = .ok (.string (ba t.cls)) w') := fun w' e => au_conv (hau1.of_block e) h256
  have hcv : (convert 46 9 (.slice (some ⟨g, 3, none⟩) 256 256)).run Try.prog w1.drew = .ok (.string (ba t.cls)) w1.drew := HCV.out _ rfl
  have k0 := hau1.c0
  have k1 := hau1.c1
  have k2 := hau1.c2
  have k5 := hau1.cn
  have n0 := World.new_ne w1 ⟨g, 0, none⟩ k0
  have hs1 := hok.s1
  have hs2 := hok.s2
  have hst : IntKind.i64.wrap t.start = t.start := by rw [IntKind.wrap_i64]; omega
  obtain ⟨ib, hib, hzb0, hzb1, hzb2⟩ := info_parts Try.infoB
  obtain ⟨il, hil, hzl0, hzl1, hzl2⟩ := info_parts Try.infoLI
  have hmkb := fun w => make_eq Try.underlying27 hib hzb0 hzb1 hzb2 n (by omega) (by unfold maxLen; omega) w
  have hmkl := fun w => make_eq Try.underlying28 hil hzl0 hzl1 hzl2 n (by omega) (by unfold maxLen; omega) w
  have HW1 : Hid (w1 = w.alloc (.cells tc0 30)) := hw1
  have HAU : Hid (Au w g t.front t.back t.start (fun j => ((t.cls[j]?.getD 0).toNat : Int)) S (.slice (some ⟨bn, on, none⟩) n cn)) := hau
  have HS : Hid (∀ j, j < 256 → S j = (t.acc[j]?.getD false)) := hS
  have HUC : Hid (∀ j (hj : j < us.length), w.cell? ⟨bn, on + j, none⟩ = some us[j]) := hcell
  have HRW : Hid (∀ j (h1 : j < us.length) (h2 : j < t.next.length), RowE e8 w us[j] t.next[j]) := hr
  have HRR : Hid (∀ r ∈ t.next, r.length = c ∧ ∀ z ∈ r, 0 ≤ z ∧ z < t.acc.length) := hrr
  clear hw1 hB1 hau hnn hau1 hS hcell hr hrr hn hul hu
  obtain ⟨f, b, st, cls, acc, next⟩ := t
  simp only at *
  have hkd1 : ∀ (o : Obj), (w1.alloc o).drew.heap[g]? = w1.heap[g]? := fun o => Below.heap_alloc w1 o g hglt1
  have hkd2 : ∀ (o p : Obj), ((w1.alloc o).alloc p).drew.heap[g]? = w1.heap[g]? := fun o p => (Below.heap_alloc (w1.alloc o) p g (by simp; omega)).trans (Below.heap_alloc w1 o g hglt1)
  have hkd3 : ∀ (o p q : Obj), (((w1.alloc o).alloc p).alloc q).drew.heap[g]? = w1.heap[g]? := fun o p q => (Below.heap_alloc ((w1.alloc o).alloc p) q g (by simp; omega)).trans ((Below.heap_alloc (w1.alloc o) p g (by simp; omega)).trans (Below.heap_alloc w1 o g hglt1))
  have HK1 : Hid (∀ (o : Obj), (w1.alloc o).drew.heap[g]? = w1.heap[g]?) := hkd1
  have HK2 : Hid (∀ (o p : Obj), ((w1.alloc o).alloc p).drew.heap[g]? = w1.heap[g]?) := hkd2
  have HK3 : Hid (∀ (o p q : Obj), (((w1.alloc o).alloc p).alloc q).drew.heap[g]? = w1.heap[g]?) := hkd3
  clear hkd1 hkd2 hkd3
  have HALL : Hid (∀ w', w'.heap[g]? = w1.heap[g]? → (w'.cell? ⟨g, 0, none⟩ = some (.bool f) ∧ w'.cell? ⟨g, 1, none⟩ = some (.bool b) ∧ w'.cell? ⟨g, 2, none⟩ = some (.int .u8 st) ∧ w'.cell? ⟨g, 263, none⟩ = some (.slice (some ⟨bn, on, none⟩) n cn) ∧ (convert 46 9 (.slice (some ⟨g, 3, none⟩) 256 256)).run Try.prog w' = .ok (.string (ba cls)) w')) := fun w' e => ⟨(cell_of_block e 0).trans k0, (cell_of_block e 1).trans k1, (cell_of_block e 2).trans k2, (cell_of_block e 263).trans k5, HCV.out _ e⟩
  go_enter Try.func23, Try.ntmps23
  go_wp2
  rw [← HW1.out]
  go_cut [3] from 6 to 36 (fun s wc => ∃ tT tA tB, s = .pointer (some ⟨tT, 0, none⟩) ∧ TI w wc f b st cls n tT tA tB wc.heap.size acc next [] 0 0)
  case first =>
    go_region_held3 (fun w' => w'.cell? ⟨g, 0, none⟩ = some (.bool f) ∧ w'.cell? ⟨g, 1, none⟩ = some (.bool b) ∧ w'.cell? ⟨g, 2, none⟩ = some (.int .u8 st) ∧ w'.cell? ⟨g, 263, none⟩ = some (.slice (some ⟨bn, on, none⟩) n cn) ∧ (convert 46 9 (.slice (some ⟨g, 3, none⟩) 256 256)).run Try.prog w' = .ok (.string (ba cls)) w') (first | exact HALL.out _ rfl | exact HALL.out _ (HK1.out _) | exact HALL.out _ (HK2.out _ _) | exact HALL.out _ (HK3.out _ _ _)) (fail)
    all_goals
      go_wp2
      go_meet
      refine ⟨_, _, _, rfl, TI.start HW1.out (al3 _ _ _ _) (by first | exact al0 _ _ _ _ | exact al1 _ _ _ _ | exact al2 _ _ _ _) (by first | exact al0 _ _ _ _ | exact al1 _ _ _ _ | exact al2 _ _ _ _) (by first | exact al0 _ _ _ _ | exact al1 _ _ _ _ | exact al2 _ _ _ _) (by refine ⟨?_, ?_, ?_, ?_, ?_, ?_⟩ <;> omega)⟩
  case rest =>
    obtain ⟨tT, tA, tB, rfl, hti⟩ := hcut
    obtain ⟨lo, hlo⟩ : ∃ lo, lo = wc.heap.size := ⟨_, rfl⟩
    rw [← hlo] at hti
    clear hlo hcv k0 k1 k2 k5 n0 hmkb hmkl HALL HK1 HK2 HK3 HCV HW1 hst hzb0 hzb1 hzb2 hzl0 hzl1 hzl2 hib hil hglt1
    have c5 : wc.cell? ⟨g, 263, none⟩ = some (.slice (some ⟨bn, on, none⟩) n cn) := cell_below hti.bl HAU.out.cn
    have HTI : Hid (TI w wc f b st cls n tT tA tB lo acc next [] 0 0) := hti
    clear hti
    go_wp2
    go_loopw [42] (fun i wr => ∃ k : Nat, ∃ gs, i = .int .i64 k ∧ k ≤ n ∧ TI w wr f b st cls n tT tA tB lo acc next gs k k) (fun i _ => n - (intOf i).toNat)
    case atStart => exact ⟨0, [], rfl, Nat.zero_le _, HTI.out⟩
    case round =>
      obtain ⟨k, gs, rfl, hk, hti⟩ := hrel
      clear HTI c5
      have HTI : Hid (TI w wr f b st cls n tT tA tB lo acc next gs k k) := hti
      by_cases hlt : k < n
      · have hltI : (k : Int) < n := by omega
        have h0I : (0 : Int) ≤ (k : Int) := by omega
        have hk1 : k < us.length := by have := HN.out.2.2; omega
        have hk2 : k < next.length := by have := HN.out.2.1; omega
        have hck := cell_below hti.bl (HUC.out k hk1)
        have hrk := HRW.out k hk1 hk2
        have hrr := HRR.out next[k] (List.getElem_mem hk2)
        obtain ⟨u, hu⟩ : ∃ u, u = us[k] := ⟨_, rfl⟩
        obtain ⟨r, hre⟩ : ∃ r, r = next[k] := ⟨_, rfl⟩
        rw [← hu] at hck hrk
        rw [← hre] at hrk hrr
        have HRE : Hid (next[k]? = some r) := by show _ = _; rw [hre]; exact List.getElem?_eq_getElem hk2
        have HRK : Hid (RowE e8 w u r) := hrk
        have HRB : Hid (r.length ≤ 65536 ∧ ∀ z ∈ r, 0 ≤ z ∧ z < 256) := ⟨by have := hrr.1; omega, fun z hz => by have := hrr.2 z hz; have := HN.out.1; omega⟩
        obtain ⟨x0, x1, x2, x3, hset⟩ := (HAU.out.of_block (hti.bl.block g hglt)).st
        have q0 := hset.c0
        have q1 := hset.c1
        have q2 := hset.c2
        have q3 := hset.c3
        have b4 := hti.b4
        have hSk : S k = (acc[k]?.getD false) := HS.out k (by omega)
        have HSK : Hid (S k = (acc[k]?.getD false)) := hSk
        have hw8k := wrap8 (k : Int) (by omega)
        have hhas := has_any wr.drew x0 x1 x2 x3 k S (by omega) hset.wd
        obtain ⟨sk, hsk⟩ : ∃ s, s = S k := ⟨_, rfl⟩
        rw [← hsk] at hhas HSK
        obtain ⟨o1, o2, o3, o4, o5, o6, o7, o8, o9, o10⟩ := hti.o
        have m1 : tA ≠ tT := fun e => o7 e.symm
        have m2 : tB ≠ tT := fun e => o8 e.symm
        have m3 : tA ≠ g := by omega
        have m4 : g ≠ tA := by omega
        clear hu hre hrk hrr hset hSk hsk hti
        go_wp2
        go_region_held3 (fun w' => w'.cell? ⟨tT, 4, none⟩ = some (.slice (some ⟨tA, 0, none⟩) n n) ∧ w'.cell? ⟨g, 259, none⟩ = some (.int .u64 x0) ∧ w'.cell? ⟨g, 260, none⟩ = some (.int .u64 x1) ∧ w'.cell? ⟨g, 261, none⟩ = some (.int .u64 x2) ∧ w'.cell? ⟨g, 262, none⟩ = some (.int .u64 x3)) (go_keep) ((go_at_call 40; refine hhas.mono ?_; rintro e w2 ⟨rfl, hb2⟩; have HT2 : Hid (TI w w2 f b st cls n tT tA tB lo acc next gs k k) := (HTI.out.below ((Below.refl _ _).drew)).below hb2; have d4 := HT2.out.b4; have e0 := cell_below hb2 q0; have e1 := cell_below hb2 q1; have e2 := cell_below hb2 q2; have e3 := cell_below hb2 q3; have da := HT2.out.na.c k hlt; have df := HT2.out.na.fz k; clear hb2))
        rename_i hheld
        clear hheld
        have HT3 : Hid (TI w (w2.setCell ⟨tA, k, none⟩ (.bool sk)) f b st cls n tT tA tB lo acc next gs (k + 1) k) := HT2.out.accs hlt HSK.out
        generalize (w2.setCell ⟨tA, k, none⟩ (.bool sk)) = w3 at HT3 ⊢
        clear HT2 d4 e0 e1 e2 e3 da df q0 q1 q2 q3 b4
        have b5 := HT3.out.b5
        have hcv := convI_any w3.drew u r (HRK.out.below (HT3.out.bl.drew)) HRB.out.1 HRB.out.2
        go_wp2
        go_region_held3 (fun w' => w'.cell? ⟨tT, 5, none⟩ = some (.slice (some ⟨tB, 0, none⟩) n n)) (go_keep) ((go_at_call 41; refine hcv.mono ?_; rintro e w4 ⟨g4, rfl, hg4, hl4, hn4, hb4⟩; have HT4 : Hid (TI w w4 f b st cls n tT tA tB lo acc next gs (k + 1) k) := (HT3.out.below ((Below.refl _ _).drew)).below hb4; have HT5 : Hid (TI w (w4.setCell ⟨tB, k, none⟩ (.slice (some ⟨g4, 0, none⟩) r.length r.length)) f b st cls n tT tA tB lo acc next (gs ++ [g4]) (k + 1) (k + 1)) := (HT3.out.below ((Below.refl _ _).drew)).row hlt HRE.out hb4 hg4 hl4 hn4; have d5 := HT4.out.b5; have da := HT4.out.nb.c k hlt; have df := HT4.out.nb.fz k; clear hb4 hn4 hl4 hg4))
        rename_i hheld
        clear hheld
        go_wp2
        go_roundw
        case rel => exact ⟨k + 1, gs ++ [g4], by go_num, by omega, HT5.out⟩
        case measure => simp [intOf] <;> omega
      · have hkI : ¬ (k : Int) < n := by omega
        have hkn : k = n := by omega
        obtain ⟨o1, o2, o3, o4, o5, o6, o7, o8, o9, o10⟩ := hti.o
        have b0 := hti.b0
        have b1 := hti.b1
        have b2 := hti.b2
        have b3 := hti.b3
        have b4 := hti.b4
        have b5 := hti.b5
        obtain ⟨r0, r1, r2, r3, r4, r5⟩ := box6 hti.rb
        have rf := boxfz hti.rb
        have m1 : tT ≠ w.heap.size := by omega
        have m2 : w.heap.size ≠ tT := by omega
        have HTN : Hid (TabN (w.heap.size + 1) wr ⟨f, b, st, cls, acc, next⟩ tA tB gs) := by
          rw [hkn] at hti
          exact hti.done HN.out.1 HN.out.2.1
        have HBL : Hid (Below w.heap.size w wr) := hti.bl
        clear hti
        go_wp2
        refine bodyPost_ret (v := tv ⟨f, b, st, cls, acc, next⟩ (.slice (some ⟨tA, 0, none⟩) n n) (.slice (some ⟨tB, 0, none⟩) n n)) (by simp [results, Try.results23, go_sem, r0, r1, r2, r3, r4, r5]) rfl ?_
        refine ⟨tA, tB, ?_, ⟨gs, ?_⟩, ?_⟩
        · rw [← HN.out.1, ← HN.out.2.1]
        · exact ((((((HTN.out.set (by omega) _ _).set (by omega) _ _).set (by omega) _ _).set (by omega) _ _).set (by omega) _ _).set (by omega) _ _).weak (by omega)
        · exact (by (repeat first | (with_reducible refine Below.setCell ?_ (by first | exact Nat.le_refl _ | (simp; done) | (simp; omega)) _) | (with_reducible refine Below.alloc ?_ (by first | omega | (simp; done) | (simp; omega)) _) | (with_reducible refine Below.drew ?_)); exact HBL.out)
end Go.Proofs.Ytbjabpodkaokjaa
