import Derived.WalkKit
import Derived.Maps.AppendAt
import Derived.Deep.RegionLaw
import Derived.Deep.Draws
import Derived.Below
import Derived.Test.YtbjabpodkaokjaaDoorJ09
import Derived.Test.YtbjabpodkaokjaaDoorJ22
import Derived.Lib.AppendStr
set_option linter.unusedVariables false
set_option linter.unusedSimpArgs false
namespace Go.Proofs.YtbjabpodkaokjaaDoor
open Go

theorem step_append_own {P : Program} {ops : Array Oper} {o : Oper} {a : Act} {w : World} {K : Act → World → Prop} {Q : Exit → Act → World → Prop} {E : Prop}
    (hg : o.guard = none) (s x : Operand) (t : TypeId) (hop : o.op = Op.call { callee := Callee.builtin Builtin.append, args := #[s, x], argTypes := #[t, t] })
    (base : Nat) (e : TypeId) (i : TypeInfo) (z : Value) (size bytes : Nat) (h1 : P.underlying t = some (.slice e)) (h2 : P.info? e = some i) (h3 : i.zero = some z) (h4 : i.size = size) (h5 : i.bytes = bytes) (h6 : z.cells.size = size) (h7 : 0 < size)
    (v : Value) (n : Nat) (xs : List Value) (hs : a.eval s = v) (hown : w.ownsRow base e size v n xs)
    (ad : Addr) (m c : Nat) (news : List Value) (hx : a.eval x = .slice (some ad) m c) (hn : news.length = m * size) (hc : ∀ j u, news[j]? = some u → w.cell? (ad.add j) = some u) (h1c : ∀ u ∈ news, u.oneCell' = true)
    (b1 : n + m ≤ maxLen) (b2 : (n + m) * bytes ≤ 140737488355328) (hb : base ≤ w.heap.size)
    (hK : ∀ v' w', w'.ownsRow base e size v' (n + m) (xs ++ news) → w.grownBy w' v.ownBlock → (v'.ownBlock = v.ownBlock ∨ v'.ownBlock = some w.heap.size) → K (a.put o.dst v') w') :
    if Region.wanted o (yielded ops a.tmps) = true then Oper.wp P o a w K Q else E := by
  have hw : Region.wanted o (yielded ops a.tmps) = true := by simp [Region.wanted, hg]
  rw [if_pos hw]
  obtain ⟨v', w', hrun, r1, r2, _, r4⟩ := run_append_own_at (P := P) w base t o.type e i z size bytes h1 h2 h3 h4 h5 h6 h7 v n xs hown ad m c news hn hc h1c b1 b2 hb
  unfold Oper.wp
  simp [execOp, hop, resolve, invoke, builtin, hs, hx, hrun, Result.andThen]
  exact hK v' w' r1 r2 r4

/-- The slice v has become v': of the old blocks its own row alone may have turned; its row is the elder one or a new one. -/
structure Grew (w w' : World) (v v' : Value) : Prop where
  g : w.grownBy w' v.ownBlock
  o : v'.ownBlock = v.ownBlock ∨ ∃ k, v'.ownBlock = some k ∧ w.heap.size ≤ k
theorem grownBy_refl (w : World) (r : Option Nat) : w.grownBy w r := ⟨rfl, rfl, rfl, Nat.le_refl _, fun _ _ _ => rfl⟩
theorem Grew.refl (w : World) (v : Value) : Grew w w v v := ⟨grownBy_refl _ _, .inl rfl⟩
theorem Grew.trans {w w1 w2 : World} {v v1 v2 : Value} (h : Grew w w1 v v1) (k : Grew w1 w2 v1 v2) : Grew w w2 v v2 := by
  obtain ⟨hg, ho⟩ := h
  obtain ⟨kg, ko⟩ := k
  have hs := hg.size
  refine ⟨⟨kg.os.trans hg.os, kg.tape.trans hg.tape, kg.output.trans hg.output, Nat.le_trans hg.size kg.size, fun j hj hne => ?_⟩, ?_⟩
  · refine (kg.block j (by omega) ?_).trans (hg.block j hj hne)
    rcases ho with e | ⟨k, e, hk⟩
    · rw [e]; exact hne
    · rw [e]; intro q; injection q with q; omega
  · rcases ko with e | ⟨k, e, hk⟩
    · rw [e]; exact ho.imp id id
    · exact .inr ⟨k, e, by omega⟩
theorem Grew.alloc {w w1 : World} {v v1 : Value} (h : Grew w w1 v v1) (o : Obj) : Grew w (w1.alloc o) v v1 :=
  h.trans ⟨⟨rfl, rfl, rfl, by simp, fun k hk _ => Go.RowKit.Below.heap_alloc _ _ _ hk⟩, .inl rfl⟩
theorem Grew.drew {w w1 : World} {v v1 : Value} (h : Grew w w1 v v1) : Grew w w1.drew v v1 := ⟨⟨h.g.os, h.g.tape, h.g.output, h.g.size, h.g.block⟩, h.o⟩
theorem Grew.drewN {w w1 : World} {v v1 : Value} (h : Grew w w1 v v1) (n : Nat) : Grew w (w1.drewN n) v v1 := ⟨⟨h.g.os, h.g.tape, h.g.output, h.g.size, h.g.block⟩, h.o⟩
theorem Grew.step {w w1 w2 : World} {v v1 v2 : Value} (h : Grew w w1 v v1) (g : w1.grownBy w2 v1.ownBlock) (o : v2.ownBlock = v1.ownBlock ∨ v2.ownBlock = some w1.heap.size) : Grew w w2 v v2 :=
  h.trans ⟨g, o.imp id fun e => ⟨_, e, Nat.le_refl _⟩⟩
theorem Grew.below {w w1 w2 : World} {v v1 : Value} (h : Grew w w1 v v1) (b : Go.RowKit.Below w1.heap.size w1 w2) : Grew w w2 v v1 :=
  h.trans ⟨⟨b.os, b.tape, b.output, b.size, fun k hk _ => b.block k hk⟩, .inl rfl⟩
end Go.Proofs.YtbjabpodkaokjaaDoor

namespace Go.Proofs.YtbjabpodkaokjaaDoor

def hexD (n : Nat) : UInt8 := [48, 49, 50, 51, 52, 53, 54, 55, 56, 57, 97, 98, 99, 100, 101, 102].getD n 0
def tSpan (lo hi : Nat) : List UInt8 := [hexD (lo / 16), hexD (lo % 16)] ++ if lo < hi then [45, hexD (hi / 16), hexD (hi % 16)] else []
/-- The last of the bytes that follow h without a gap. -/
def spanE (S : Nat → Bool) : Nat → Nat → Nat
  | 0, h => h
  | n + 1, h => if h < 255 ∧ S (h + 1) = true then spanE S n (h + 1) else h
theorem spanE_ge (S : Nat → Bool) (n h : Nat) : h ≤ spanE S n h := by
  induction n generalizing h with
  | zero => exact Nat.le_refl _
  | succ n ih =>
    unfold spanE; split
    · have := ih (h + 1); omega
    · exact Nat.le_refl _
theorem spanE_le (S : Nat → Bool) (n h : Nat) (hh : h ≤ 255) : spanE S n h ≤ 255 := by
  induction n generalizing h with
  | zero => exact hh
  | succ n ih =>
    unfold spanE; split
    · exact ih (h + 1) (by omega)
    · exact hh
def tLoop (S : Nat → Bool) : Nat → Nat → Bool → List UInt8
  | 0, _, _ => []
  | n + 1, low, blank => if 256 ≤ low then [] else if S low = true then
      (if blank then [32] else []) ++ tSpan low (spanE S 256 low) ++ tLoop S n (spanE S 256 low + 1) true
    else tLoop S n (low + 1) blank
def tBytes (S : Nat → Bool) : List UInt8 := [60] ++ tLoop S 257 0 false ++ [62]
/-- A number below 100 in decimal. -/
def tDec (n : Nat) : List UInt8 := if n < 10 then [UInt8.ofNat (48 + n)] else [UInt8.ofNat (48 + n / 10), UInt8.ofNat (48 + n % 10)]
def tCount (c : Cnt) : List UInt8 := if c.sign = 123 then [123] ++ tDec c.least.toNat ++ [44] ++ (if c.most = -1 then [] else tDec c.most.toNat) ++ [125] else [c.sign]
mutual
def tP : Prt → List UInt8
  | .mk g B cs => (match g with | [] => tBytes B | c :: cs' => tCs (c :: cs')) ++ cs.flatMap tCount
def tPs : List Prt → List UInt8
  | [] => []
  | p :: ps => tP p ++ tPs ps
def tC : List Prt → List UInt8
  | [] => [101]
  | [p] => tP p
  | p :: q :: ps => [40] ++ tP p ++ tP q ++ tPs ps ++ [41]
def tCs : List (List Prt) → List UInt8
  | [] => []
  | [c] => tC c
  | c :: d :: cs => [40] ++ tC c ++ [124] ++ tC d ++ tBar cs ++ [41]
def tBar : List (List Prt) → List UInt8
  | [] => []
  | c :: cs => [124] ++ tC c ++ tBar cs
end
def tPtn (p : Ptn) : List UInt8 := (if p.front then [94] else []) ++ tCs p.choices ++ (if p.back then [36] else [])
end Go.Proofs.YtbjabpodkaokjaaDoor

namespace Go.Proofs.YtbjabpodkaokjaaDoor
open Go.RowKit

abbrev bv (c : UInt8) : Value := .int .u8 c.toNat
/-- The slice v is a row of the call's own (from block base on) that holds the bytes bs. -/
abbrev Buf (w : World) (base : Nat) (v : Value) (bs : List UInt8) : Prop := w.ownsRow base 5 1 v bs.length (bs.map bv)
theorem Tryd.infoU8 : (Tryd.prog.info? 5).map (fun i => (i.zero, i.size, i.bytes)) = some (some (.int .u8 0), 1, 1) := by kernel_rfl

set_option maxHeartbeats 1000000 in
theorem spanEnd_any (w : World) (x0 x1 x2 x3 low : Nat) (S : Nat → Bool) (hl : low ≤ 255) (h : Wd x0 x1 x2 x3 S) :
    Calls Tryd.prog 49 #[wv x0 x1 x2 x3, .int .i64 low] w fun e w' => e = .returned (.int .i64 (spanE S 256 low)) ∧ Below w.heap.size w w' := by
  go_enter Tryd.func49, Tryd.ntmps49
  go_wp2
  go_loopw [5] (fun i wr => ∃ n k : Nat, k ≤ 255 ∧ 255 < n + k ∧ i = .int .i64 k ∧ spanE S n k = spanE S 256 low ∧ wr.heap[w.heap.size]? = some (.cells #[.int .u64 x0, .int .u64 x1, .int .u64 x2, .int .u64 x3] 75) ∧ Below w.heap.size w wr ∧ w.heap.size < wr.heap.size) (fun i _ => 256 - (intOf i).toNat)
  case atStart => exact ⟨256, low, hl, by omega, rfl, rfl, heap_alloc_new _ _, (Below.refl _ _).alloc (Nat.le_refl _) _, by simp⟩
  case round =>
    obtain ⟨n, k, hk, hnk, rfl, hsp, hcell, hbl, hsz⟩ := hrel
    have HSP : Hid (spanE S n k = spanE S 256 low) := hsp
    have HC : Hid (wr.heap[w.heap.size]? = some (.cells #[.int .u64 x0, .int .u64 x1, .int .u64 x2, .int .u64 x3] 75)) := hcell
    have c0 : wr.cell? ⟨w.heap.size, 0, none⟩ = some (.int .u64 x0) := by simp [World.cell?, hcell]
    have c1 : wr.cell? ⟨w.heap.size, 1, none⟩ = some (.int .u64 x1) := by simp [World.cell?, hcell]
    have c2 : wr.cell? ⟨w.heap.size, 2, none⟩ = some (.int .u64 x2) := by simp [World.cell?, hcell]
    have c3 : wr.cell? ⟨w.heap.size, 3, none⟩ = some (.int .u64 x3) := by simp [World.cell?, hcell]
    clear hsp hcell
    obtain ⟨n', rfl⟩ : ∃ n', n = n' + 1 := ⟨n - 1, by omega⟩
    by_cases hlt : k < 255
    · have hlt' : (k : Int) < 255 := by omega
      have hh := fun w => has_any w x0 x1 x2 x3 (k + 1) S (by omega) h
      have ec : (((k + 1 : Nat)) : Int) = (k : Int) + 1 := by omega
      rw [ec] at hh
      clear ec
      cases hS : S (k + 1) with
      | true =>
        rw [hS] at hh
        have HE : Hid (spanE S n' (k + 1) = spanE S 256 low) := by
          show _ = _
          have := HSP.out
          rw [spanE, if_pos ⟨hlt, hS⟩] at this; exact this
        clear hS
        go_wp2_with (go_at_call 48; refine (hh _).mono ?_; rintro e w1 ⟨rfl, hb1⟩)
        go_roundw
        case rel => exact ⟨n', k + 1, by omega, by omega, by go_num, HE.out, (hb1.block _ hsz).trans HC.out, hbl.trans (hb1.mono (by omega)), Nat.lt_of_lt_of_le hsz hb1.size⟩
        case measure => simp [intOf]; omega
      | false =>
        rw [hS] at hh
        have HE : Hid (k = spanE S 256 low) := by
          show _ = _
          have := HSP.out
          rw [spanE, if_neg (by simp [hS])] at this; exact this
        clear hS
        go_wp2_with (go_at_call 48; refine (hh _).mono ?_; rintro e w1 ⟨rfl, hb1⟩)
        go_ret
        exact ⟨ret_int (by rw [← HE.out]), hbl.trans (hb1.mono (by omega))⟩
    · have HE : Hid (k = spanE S 256 low) := by
        show _ = _
        have := HSP.out
        rw [spanE, if_neg (by omega)] at this; exact this
      have hlt' : ¬ (k : Int) < 255 := by omega
      clear hnk hlt
      go_wp2
      go_ret
      exact ⟨ret_int (by rw [← HE.out]), hbl⟩
end Go.Proofs.YtbjabpodkaokjaaDoor

namespace Go.Proofs.YtbjabpodkaokjaaDoor
open Go.RowKit

theorem hexS_at (n : Nat) (h : n < 16) (h' : n < hexS.size) : (hexS[n]).toNat = (hexD n).toNat := by
  have H : ∀ i : Fin 16, (hexS[i.val]'(i.isLt)).toNat = (hexD i.val).toNat := by decide
  exact H ⟨n, h⟩
theorem wrap16 (n : Nat) (h : n < 256) : IntKind.i64.wrap ((n : Int) / 16) = ((n / 16 : Nat) : Int) := by
  have e : (n : Int) / 16 = ((n / 16 : Nat) : Int) := by omega
  rw [e]; simp [IntKind.wrap, IntKind.bits, IntKind.signed]; omega
theorem tmod16 (n : Nat) : ((n : Int)).tmod 16 = ((n % 16 : Nat) : Int) := by
  rw [Int.tmod_eq_emod_of_nonneg (by omega)]; omega

theorem two_new (w : World) (x y : Value) (T : TypeId) : ∀ j u, [x, y][j]? = some u → (w.alloc (.cells #[x, y] T)).drew.cell? ((⟨w.heap.size, 0, none⟩ : Addr).add j) = some u := by
  intro j u hj
  match j, hj with
  | 0, hj => simp at hj; subst hj; simp [Addr.add, go_sem]
  | 1, hj => simp at hj; subst hj; simp [Addr.add, go_sem]
theorem three_new (w : World) (x y z : Value) (T : TypeId) : ∀ j u, [x, y, z][j]? = some u → (w.alloc (.cells #[x, y, z] T)).drew.cell? ((⟨w.heap.size, 0, none⟩ : Addr).add j) = some u := by
  intro j u hj
  match j, hj with
  | 0, hj => simp at hj; subst hj; simp [Addr.add, go_sem]
  | 1, hj => simp at hj; subst hj; simp [Addr.add, go_sem]
  | 2, hj => simp at hj; subst hj; simp [Addr.add, go_sem]
theorem bv_one (l : List UInt8) : ∀ u ∈ l.map bv, u.oneCell' = true := by
  intro u hu
  obtain ⟨c, _, rfl⟩ := List.mem_map.1 hu
  rfl

set_option maxHeartbeats 1000000 in
theorem appendSpan_1 (w : World) (base : Nat) (v : Value) (bs : List UInt8) (lo hi : Nat) (hlo : lo < 256) (hhi : hi < 256) (hB : Buf w base v bs) (hb : base ≤ w.heap.size) (hlen : bs.length ≤ 1000000) (hle : ¬ lo < hi) :
    Calls Tryd.prog 50 #[v, .int .i64 lo, .int .i64 hi] w fun e w' => ∃ v', e = .returned v' ∧ Buf w' base v' (bs ++ tSpan lo hi) ∧ Grew w w' v v' := by
  obtain ⟨i0, hi0, hz0, hz1, hz2⟩ := info_parts Tryd.infoU8
  have w1 := wrap16 lo hlo
  have w2 := tmod16 lo
  obtain ⟨p, hp⟩ : ∃ p, p = lo / 16 := ⟨_, rfl⟩
  obtain ⟨q, hq⟩ : ∃ q, q = lo % 16 := ⟨_, rfl⟩
  rw [← hp] at w1
  rw [← hq] at w2
  have p1 : p < 16 := by omega
  have q1 : q < 16 := by omega
  have p1' : (p : Int) < 16 := by omega
  have q1' : (q : Int) < 16 := by omega
  have HT : Hid (tSpan lo hi = [hexD p, hexD q]) := by show _ = _; simp [tSpan, hle, hp, hq]
  clear hp hq
  have a1 := hexS_at p p1 p1
  have a2 := hexS_at q q1 q1
  have hle' : ¬ (lo : Int) < hi := by omega
  have HB : Hid (Buf w base v bs) := hB
  clear hB
  go_enter Tryd.func50, Tryd.ntmps50
  go_wp2
  go_region_law (refine step_append_own rfl (.tmp 7) (.tmp 14) 42 rfl base 5 i0 (.int .u8 0) 1 1 Tryd.underlying42 hi0 hz0 hz1 hz2 rfl (by decide) v bs.length (bs.map bv) rfl (World.ownsRow.drew (HB.out.alloc _)) ⟨w.heap.size, 0, none⟩ 2 2 [bv (hexD p), bv (hexD q)] rfl rfl (two_new _ _ _ _) (bv_one [hexD p, hexD q]) (by unfold maxLen; omega) (by omega) (by simp; omega) ?_; intro v' w4 hown4 hgr4 hob4)
  all_goals
    go_wp2
    go_ret
    have hbl := (((Grew.refl w v).alloc _).drew).step hgr4 (by simpa using hob4)
    refine ⟨_, rfl, ?_, hbl⟩
    rw [HT.out]
    simpa [Buf] using hown4

set_option maxHeartbeats 2000000 in
theorem appendSpan_2 (w : World) (base : Nat) (v : Value) (bs : List UInt8) (lo hi : Nat) (hlo : lo < 256) (hhi : hi < 256) (hB : Buf w base v bs) (hb : base ≤ w.heap.size) (hlen : bs.length ≤ 1000000) (hle : lo < hi) :
    Calls Tryd.prog 50 #[v, .int .i64 lo, .int .i64 hi] w fun e w' => ∃ v', e = .returned v' ∧ Buf w' base v' (bs ++ tSpan lo hi) ∧ Grew w w' v v' := by
  obtain ⟨i0, hi0, hz0, hz1, hz2⟩ := info_parts Tryd.infoU8
  have w1 := wrap16 lo hlo
  have w2 := tmod16 lo
  have w1b := wrap16 hi hhi
  have w2b := tmod16 hi
  obtain ⟨p, hp⟩ : ∃ p, p = lo / 16 := ⟨_, rfl⟩
  obtain ⟨q, hq⟩ : ∃ q, q = lo % 16 := ⟨_, rfl⟩
  obtain ⟨p2, hp2⟩ : ∃ p, p = hi / 16 := ⟨_, rfl⟩
  obtain ⟨q2, hq2⟩ : ∃ q, q = hi % 16 := ⟨_, rfl⟩
  rw [← hp] at w1
  rw [← hq] at w2
  rw [← hp2] at w1b
  rw [← hq2] at w2b
  have p1 : p < 16 := by omega
  have q1 : q < 16 := by omega
  have p3 : p2 < 16 := by omega
  have q3 : q2 < 16 := by omega
  have p1' : (p : Int) < 16 := by omega
  have q1' : (q : Int) < 16 := by omega
  have p3' : (p2 : Int) < 16 := by omega
  have q3' : (q2 : Int) < 16 := by omega
  have HT : Hid (tSpan lo hi = [hexD p, hexD q] ++ [45, hexD p2, hexD q2]) := by show _ = _; simp [tSpan, hle, hp, hq, hp2, hq2]
  clear hp hq hp2 hq2
  have a1 := hexS_at p p1 p1
  have a2 := hexS_at q q1 q1
  have a3 := hexS_at p2 p3 p3
  have a4 := hexS_at q2 q3 q3
  have hle' : (lo : Int) < hi := by omega
  have HB : Hid (Buf w base v bs) := hB
  clear hB
  go_enter Tryd.func50, Tryd.ntmps50
  go_wp2
  go_region_law (refine step_append_own rfl (.tmp 7) (.tmp 14) 42 rfl base 5 i0 (.int .u8 0) 1 1 Tryd.underlying42 hi0 hz0 hz1 hz2 rfl (by decide) v bs.length (bs.map bv) rfl (World.ownsRow.drew (HB.out.alloc _)) ⟨w.heap.size, 0, none⟩ 2 2 [bv (hexD p), bv (hexD q)] rfl rfl (two_new _ _ _ _) (bv_one [hexD p, hexD q]) (by unfold maxLen; omega) (by omega) (by simp; omega) ?_; intro v' w4 hown4 hgr4 hob4)
  all_goals
    have hbl := (((Grew.refl w v).alloc _).drew).step hgr4 (by simpa using hob4)
    have HB4 : Hid (Buf w4 base v' (bs ++ [hexD p, hexD q])) := by
      show Buf w4 base v' (bs ++ [hexD p, hexD q])
      simpa [Buf] using hown4
    have hb4 : base ≤ w4.heap.size := Nat.le_trans hb hbl.g.size
    clear hown4 hgr4 hob4
    go_wp2
    go_region_law (refine step_append_own rfl (.tmp 19) (.tmp 26) 42 rfl base 5 i0 (.int .u8 0) 1 1 Tryd.underlying42 hi0 hz0 hz1 hz2 rfl (by decide) v' (bs ++ [hexD p, hexD q]).length ((bs ++ [hexD p, hexD q]).map bv) rfl (World.ownsRow.drew (HB4.out.alloc _)) ⟨w4.heap.size, 0, none⟩ 3 3 [bv 45, bv (hexD p2), bv (hexD q2)] rfl rfl (three_new _ _ _ _ _) (bv_one [45, hexD p2, hexD q2]) (by unfold maxLen; simp; omega) (by simp; omega) (by simp; omega) ?_; intro v5 w5 hown5 hgr5 hob5)
    all_goals
      have hbl5 := ((hbl.alloc _).drew).step hgr5 (by simpa using hob5)
      go_wp2
      go_ret
      refine ⟨_, rfl, ?_, hbl5⟩
      rw [HT.out, ← List.append_assoc]
      simpa [Buf] using hown5

theorem appendSpan_any (w : World) (base : Nat) (v : Value) (bs : List UInt8) (lo hi : Nat) (hlo : lo < 256) (hhi : hi < 256) (hB : Buf w base v bs) (hb : base ≤ w.heap.size) (hlen : bs.length ≤ 1000000) :
    Calls Tryd.prog 50 #[v, .int .i64 lo, .int .i64 hi] w fun e w' => ∃ v', e = .returned v' ∧ Buf w' base v' (bs ++ tSpan lo hi) ∧ Grew w w' v v' := by
  by_cases h : lo < hi
  · exact appendSpan_2 w base v bs lo hi hlo hhi hB hb hlen h
  · exact appendSpan_1 w base v bs lo hi hlo hhi hB hb hlen h
end Go.Proofs.YtbjabpodkaokjaaDoor
