import Derived.Test.YtbjabpodkaokjaaJ06
import Derived.Test.YtbjabpodkaokjaaJ07
import Derived.RangeFuncNested
import Derived.RangeFuncBound
import Derived.RangeFuncCalls
import Derived.RangeFuncLeaves
import Derived.RangeFuncFrom
import Derived.Shelf.Abstract
import Derived.Shelf.RegionOpen
import Derived.OwnWalkIn
import Derived.TacticsInMore
import Derived.LoopNIn
import Derived.LoopIn
import Derived.BigQuiet
import Derived.Deep.QuietTactic
set_option linter.unusedVariables false
set_option linter.unusedSimpArgs false
namespace Go.Proofs.Ytbjabpodkaokjaa
open Go.RowKit

def stp (t : Tb) (s : Nat) (c : UInt8) : Nat := (((t.next[s]?.getD [])[(t.cls[c.toNat]?.getD 0).toNat]?).getD 0).toNat
def stL (t : Tb) (l : List UInt8) : Nat := l.foldl (stp t) t.start.toNat
def accN (t : Tb) (s : Nat) : Bool := t.acc[s]?.getD false
def eP (t : Tb) (l : List UInt8) (k : Nat) : List Nat := (List.range k).filter fun i => !t.back && accN t (stL t (l.take i))
def endsL (t : Tb) (l : List UInt8) : List Nat := eP t l l.length ++ if accN t (stL t l) then [l.length] else []
theorem eP_succ (t : Tb) (l : List UInt8) (k : Nat) : eP t l (k + 1) = eP t l k ++ if (!t.back && accN t (stL t (l.take k))) then [k] else [] := by
  unfold eP
  rw [List.range_succ, List.filter_append]
  congr 1
  by_cases h : (!t.back && accN t (stL t (l.take k))) = true
  · rw [if_pos h]; simp only [List.filter_cons, List.filter_nil]; rw [if_pos h]
  · rw [if_neg h]; simp only [List.filter_cons, List.filter_nil]; rw [if_neg h]
theorem eP_len (t : Tb) (l : List UInt8) (k : Nat) : (eP t l k).length ≤ k := by
  have := List.length_filter_le (fun i => !t.back && accN t (stL t (l.take i))) (List.range k)
  simpa [eP] using this
theorem eP_prefix (t : Tb) (l : List UInt8) (k : Nat) : ∀ n, eP t l k <+: eP t l (k + n)
  | 0 => List.prefix_refl _
  | n + 1 => (eP_prefix t l k n).trans (by
    show _ <+: eP t l (k + n + 1)
    rw [eP_succ]
    exact List.prefix_append _ _)
theorem eP_ends (t : Tb) (l : List UInt8) (k : Nat) (h : k ≤ l.length) : eP t l k <+: endsL t l := by
  obtain ⟨n, hn⟩ : ∃ n, l.length = k + n := ⟨l.length - k, by omega⟩
  unfold endsL
  refine List.IsPrefix.trans ?_ (List.prefix_append _ _)
  rw [hn]
  exact eP_prefix t l k n
theorem stL_snoc (t : Tb) (l : List UInt8) (c : UInt8) : stL t (l ++ [c]) = stp t (stL t l) c := by simp [stL]
theorem cls_lt : ∀ (l : List UInt8) (n m : Nat), cntC n l = some m → ∀ j (h : j < l.length), l[j].toNat < m
  | [], _, _, _, j, h => by simp at h
  | c :: t, n, m, hc, j, h => by
    simp only [cntC] at hc
    split at hc
    · simp at hc
    · have hm := (cntC_le t _ m hc).1
      cases j with
      | zero => simp; omega
      | succ j => exact cls_lt t _ m hc j (by simpa using h)
theorem TbOk.cls {t : Tb} {c : Nat} (h : TbOk t c) (b : UInt8) : (t.cls[b.toNat]?.getD 0).toNat < c := by
  have h5 := h.cc
  have h2 := h.c256.2
  unfold cntR at h5
  split at h5
  · have hb := b.toNat_lt
    have hlt : b.toNat < t.cls.length := by omega
    have := cls_lt t.cls 0 c h5 b.toNat hlt
    simpa [hlt] using this
  · simp at h5
theorem TbOk.stp {t : Tb} {c : Nat} (h : TbOk t c) (s : Nat) (hs : s < t.acc.length) (b : UInt8) : stp t s b < t.acc.length := by
  unfold Go.Proofs.Ytbjabpodkaokjaa.stp
  have hsn : s < t.next.length := by rw [h.n]; exact hs
  have hr := h.r t.next[s] (List.getElem_mem hsn)
  have hc := h.cls b
  rw [List.getElem?_eq_getElem hsn, Option.getD_some, List.getElem?_eq_getElem (by rw [hr.1]; exact hc), Option.getD_some]
  have := hr.2 _ (List.getElem_mem (by rw [hr.1]; exact hc))
  omega
theorem TbOk.stL {t : Tb} {c : Nat} (h : TbOk t c) : ∀ l : List UInt8, stL t l < t.acc.length := by
  have key : ∀ (l : List UInt8) (s : Nat), s < t.acc.length → l.foldl (Go.Proofs.Ytbjabpodkaokjaa.stp t) s < t.acc.length := by
    intro l
    induction l with
    | nil => intro s hs; exact hs
    | cons b r ih => intro s hs; exact ih _ (h.stp s hs b)
  intro l
  exact key l _ (by have := h.s1; have := h.s2; omega)
/-- One step of the automaton's, by its cells. -/
theorem au_step {w : World} {g : Nat} {t : Tb} {c : Nat} (h : AuIn w g t) (hok : TbOk t c) (s : Nat) (hs : s < t.acc.length) (b : UInt8) :
    ∃ bn on cn ar lr cr, w.cell? ⟨g, 263, none⟩ = some (.slice (some ⟨bn, on, none⟩) t.acc.length cn) ∧ w.cell? ⟨bn, on + s, none⟩ = some (.slice (some ⟨ar, lr, none⟩) c cr) ∧ w.cell? ⟨g, 3 + b.toNat, none⟩ = some (.int .u8 ((t.cls[b.toNat]?.getD 0).toNat : Int)) ∧ w.cell? ⟨ar, lr + (t.cls[b.toNat]?.getD 0).toNat, none⟩ = some (.int .u8 (stp t s b : Int)) := by
  obtain ⟨S, v, hau, hS, us, hul, hu, hr⟩ := h.au
  have hsn : s < t.next.length := by rw [hok.n]; exact hs
  have hsu : s < us.length := by omega
  obtain ⟨bn, on, cn, rfl, hcell⟩ := hu.nonnil (by omega)
  have hrow := hok.r t.next[s] (List.getElem_mem hsn)
  have hc := hok.cls b
  obtain ⟨ar, lr, cr, hform, hrc⟩ := (hr s hsu hsn).nonnil (by rw [hrow.1]; omega)
  refine ⟨bn, on, cn, ar, lr, cr, ?_, ?_, hau.cl b.toNat (by have := b.toNat_lt; omega), ?_⟩
  · rw [hau.cn, hul, hok.n]
  · rw [hcell s hsu, ← hrow.1]; exact congrArg some hform
  · have hcl : (t.cls[b.toNat]?.getD 0).toNat < t.next[s].length := by rw [hrow.1]; exact hc
    rw [hrc _ hcl]
    have e : (stp t s b : Int) = t.next[s][(t.cls[b.toNat]?.getD 0).toNat] := by
      unfold Go.Proofs.Ytbjabpodkaokjaa.stp
      rw [List.getElem?_eq_getElem hsn, Option.getD_some, List.getElem?_eq_getElem hcl, Option.getD_some]
      have := hrow.2 _ (List.getElem_mem hcl)
      omega
    rw [e]
/-- What a round keeps: all below H, and the two blocks behind H. -/
structure Kq (H : Nat) (W W' : World) : Prop where
  bl : Below H W W'
  k1 : W'.heap[H + 1]? = W.heap[H + 1]?
  k2 : W'.heap[H + 2]? = W.heap[H + 2]?
theorem Kq.refl (H : Nat) (W : World) : Kq H W W := ⟨Below.refl _ _, rfl, rfl⟩
theorem Kq.trans {H : Nat} {A B C : World} (h : Kq H A B) (k : Kq H B C) : Kq H A C := ⟨h.bl.trans k.bl, k.k1.trans h.k1, k.k2.trans h.k2⟩
theorem Kq.below {H : Nat} {A B C : World} (h : Kq H A B) (hb : Below B.heap.size B C) (hs : H + 3 ≤ B.heap.size) : Kq H A C := h.trans ⟨hb.mono (by omega), hb.block _ (by omega), hb.block _ (by omega)⟩
end Go.Proofs.Ytbjabpodkaokjaa

namespace Go.Proofs.Ytbjabpodkaokjaa
open Go.RowKit Go.Shelf
attribute [local go_sem] Oper.semAt_some

set_option maxRecDepth 100000 in
set_option maxHeartbeats 2000000 in
theorem ends_in (n : Nat) (g : Nat) (s : ByteArray) (w : World) :
    CallsIn Fence.wide n Try.prog 49 #[.pointer (some ⟨g, 0, none⟩), .string s] w fun e w' => e = .returned (.func (.func 55) #[] #[.pointer (some ⟨w.heap.size, 0, none⟩), .pointer (some ⟨w.heap.size + 1, 0, none⟩)]) ∧ w' = (w.alloc (.cells #[.pointer (some ⟨g, 0, none⟩)] 49)).alloc (.cells #[.string s] 9) := by
  refine callsIn_of_wp Try.func49 rfl trivial ?_ rfl
  simp only [Try.ntmps49, List.size_toArray, List.length_cons, List.length_nil, Nat.reduceAdd, Nat.reduceSub, Array.replicate_succ, Array.replicate_zero, List.push_toArray, List.append_toArray, List.nil_append, List.cons_append]
  gi_wp2
  go_ret
  exact ⟨rfl, rfl⟩

theorem abides {β : Type} {B : Nat} {J : β → World → Prop} {s : β} {W W' : World} (h : AbidesFrom B J) (hj : J s W) (hb : Below W.heap.size W W') : J s W' :=
  h s W W' none hj ⟨hb.os, hb.tape, hb.output, hb.size, fun k hk _ => hb.block k hk⟩ (fun r e => by cases e)
theorem belowDN {B : Nat} {w w' : World} (h : Below B w w') (n : Nat) : Below B w (w'.drewN n) := ⟨h.os, h.tape, h.output, h.size, h.block⟩
set_option maxRecDepth 100000 in
set_option maxHeartbeats 4000000 in
theorem iter_in (n : Nat) (hn : 2 ≤ n) (l H g : Nat) (t : Tb) (c : Nat) (hok : TbOk t c) (tx : List UInt8) (htx : tx.length ≤ maxLen) (J Jx : List Nat → World → Prop) (W : World)
    (hJ : AbidesFrom W.heap.size J) (hJx : AbidesFrom W.heap.size Jx)
    (hY : ∀ pre x W1, J pre W1 → pre.length < tx.length + 1 → YieldAt Fence.wide (n - 1) Try.prog l #[.int .i64 (x : Nat)] W1 fun e W' =>
      (e = .returned (.bool true) ∧ J (pre ++ [x]) W' ∧ Kq H W1 W') ∨ (e = .returned (.bool false) ∧ Jx (pre ++ [x]) W'))
    (hau : ∀ W', Below H W W' → AuIn W' g t) (hsz : H + 3 ≤ W.heap.size)
    (hB1 : W.cell? ⟨H + 1, 0, none⟩ = some (.pointer (some ⟨g, 0, none⟩))) (hB2 : W.cell? ⟨H + 2, 0, none⟩ = some (.string (ba tx))) (h0 : J [] W) :
    CallsIn Fence.wide n Try.prog 55 #[.func (.yield l) #[] #[], .pointer (some ⟨H + 1, 0, none⟩), .pointer (some ⟨H + 2, 0, none⟩)] W fun e W' => (∃ v, e = .returned v) ∧ ((∃ xs, xs = endsL t tx ∧ J xs W') ∨ (∃ pre, pre <+: endsL t tx ∧ Jx pre W')) := by
  obtain ⟨F, hF⟩ : ∃ F, F = Fence.wide := ⟨_, rfl⟩
  rw [← hF] at hY ⊢
  have hro : F.round = none := by rw [hF]; rfl
  have hf1 : F.fn 40 := by rw [hF]; trivial
  have hf2 : F.fn 55 := by rw [hF]; trivial
  have h1 : 1 ≤ n := by omega
  have HF : Hid (F = Fence.wide) := hF
  have HIN : Hid (∀ {m f : Nat} {args : Array Value} {w : World} {R : Ending → World → Prop}, Calls Try.prog f args w R → CallsIn F m Try.prog f args w R) := fun h => by rw [hF]; exact callsIn_wide.2 h
  clear hF
  unfold maxLen at htx
  have hbs := ba_size tx
  obtain ⟨N, hN⟩ : ∃ N, N = tx.length := ⟨_, rfl⟩
  rw [← hN] at hbs htx hY
  have HN : Hid (N = tx.length) := hN
  clear hN
  have hs0 := (hau W (Below.refl _ _)).au
  obtain ⟨S0, v0, hau0, _⟩ := hs0
  have k2 := hau0.c2
  have a1 := hok.s1
  have a2 := hok.s2
  have hst : t.start = ((stL t (tx.take 0) : Nat) : Int) := by simp [stL]; omega
  rw [hst] at k2
  have HAU : Hid (∀ W', Below H W W' → AuIn W' g t) := hau
  have HB1 : Hid (W.cell? ⟨H + 1, 0, none⟩ = some (.pointer (some ⟨g, 0, none⟩))) := hB1
  have HB2 : Hid (W.cell? ⟨H + 2, 0, none⟩ = some (.string (ba tx))) := hB2
  clear hau hst hau0
  refine callsIn_of_wp Try.func55 rfl hf2 ?_ hro
  simp only [Try.ntmps55, List.size_toArray, List.length_cons, List.length_nil, Nat.reduceAdd, Nat.reduceSub, Array.replicate_succ, Array.replicate_zero, List.push_toArray, List.append_toArray, List.nil_append, List.cons_append]
  gi_wp2
  gi_loopw [4, 12] (fun s i wr => ∃ k : Nat, i = .int .i64 k ∧ k ≤ N ∧ s = .int .u8 (stL t (tx.take k)) ∧ J (eP t tx k) wr ∧ Kq H W wr ∧ H + 3 ≤ wr.heap.size) (fun _ i _ => N - (intOf i).toNat)
  case atStart => exact ⟨0, rfl, Nat.zero_le _, rfl, h0, Kq.refl _ _, hsz⟩
  case round =>
    clear k2 hB1 hB2 h0
    obtain ⟨k, rfl, hk, rfl, hJs, hkq, hsw⟩ := hrel
    have HJ : Hid (J (eP t tx k) wr) := hJs
    have HK : Hid (Kq H W wr) := hkq
    have hau := HAU.out wr hkq.bl
    obtain ⟨S, v, hau1, hS, hrw⟩ := hau.au
    have c1 : wr.cell? ⟨H + 1, 0, none⟩ = some (.pointer (some ⟨g, 0, none⟩)) := (cell_of_block hkq.k1 0).trans HB1.out
    have c2 : wr.cell? ⟨H + 2, 0, none⟩ = some (.string (ba tx)) := (cell_of_block hkq.k2 0).trans HB2.out
    have cb := hau1.c1
    obtain ⟨x0, x1, x2, x3, hset⟩ := hau1.st
    have q0 := hset.c0
    have q1 := hset.c1
    have q2 := hset.c2
    have q3 := hset.c3
    have hsn := hok.stL (tx.take k)
    have a200 := hok.a2
    obtain ⟨sn, hse⟩ : ∃ sn, sn = stL t (tx.take k) := ⟨_, rfl⟩
    rw [← hse] at hsn ⊢
    have hhas := has_any wr x0 x1 x2 x3 sn S (by omega) hset.wd
    have hSs : S sn = accN t sn := hS sn (by omega)
    rw [hSs] at hhas
    have HE : Hid (sn = stL t (tx.take k)) := hse
    clear hJs hkq hau hau1 hset hrw hSs hS hse
    by_cases hlt : k < N
    · have hltI : (k : Int) < N := by omega
      have hlt1 : k < tx.length := by have := HN.out; omega
      obtain ⟨bk, hbk⟩ : ∃ bk, bk = tx[k] := ⟨_, rfl⟩
      have hbz : ∀ h : k < (ba tx).size, ((ba tx)[k]'h).toNat = bk.toNat := fun h => by rw [hbk]; rfl
      have HS1 : Hid (stL t (tx.take (k + 1)) = stp t sn bk) := by
        show _ = _
        rw [List.take_succ_eq_append_getElem hlt1, stL_snoc, HE.out, hbk]
      have HP1 : Hid (eP t tx (k + 1) = eP t tx k ++ if (!t.back && accN t sn) then [k] else []) := by
        show _ = _
        rw [eP_succ, HE.out]
      clear hbk
      have hcl := hok.cls bk
      have hb8 := bk.toNat_lt
      cases hbck : t.back with
      | true =>
        rw [hbck] at cb HP1
        gi_wp2
        refine ⟨fun _ h => (by cases h), ?_⟩
        gi_wp2
        have HJ2 : Hid (J (eP t tx (k + 1)) wr) := by
          have h := HJ.out
          show J _ _
          rw [HP1.out]; simpa using h
        have HK2 : Hid (Kq H W wr) := HK.out
        have hs2 := hsw
        obtain ⟨bn, on, cn, ar, lr, cr, d1, d2, d3, d4⟩ := au_step (HAU.out wr HK.out.bl) hok sn hsn bk
        rw [HF.out]
        refine wpIn_wide.2 ?_
        go_quiet (fail)
        gi_wp2
        go_roundw
        case rel => exact ⟨k + 1, by go_num, by omega, by rw [HS1.out], abides hJ HJ2.out (belowDN (Below.refl _ _) nq), HK2.out.below (belowDN (Below.refl _ _) nq) hs2, by exact hs2⟩
        case measure => simp [intOf] <;> omega
      | false =>
        rw [hbck] at cb HP1
        cases hac : accN t sn with
        | false =>
          rw [hac] at hhas HP1
          gi_wp2_with (gi_at_call 40; refine (HIN.out hhas).mono ?_; rintro e w2 ⟨rfl, hb2⟩)
          refine ⟨fun _ h => (by cases h), ?_⟩
          gi_wp2
          have HJ2 : Hid (J (eP t tx (k + 1)) w2) := by
            have h := abides hJ HJ.out hb2
            show J _ _
            rw [HP1.out]; simpa using h
          have HK2 : Hid (Kq H W w2) := HK.out.below hb2 hsw
          have hs2 : H + 3 ≤ w2.heap.size := Nat.le_trans hsw hb2.size
          have e1 := cell_below hb2 c1
          have e2 := cell_below hb2 c2
          obtain ⟨bn, on, cn, ar, lr, cr, d1, d2, d3, d4⟩ := au_step (HAU.out w2 HK2.out.bl) hok sn hsn bk
          clear hb2 hhas
          rw [HF.out]
          refine wpIn_wide.2 ?_
          go_quiet (fail)
          gi_wp2
          go_roundw
          case rel => exact ⟨k + 1, by go_num, by omega, by rw [HS1.out], abides hJ HJ2.out (belowDN (Below.refl _ _) nq), HK2.out.below (belowDN (Below.refl _ _) nq) hs2, by exact hs2⟩
          case measure => simp [intOf] <;> omega
        | true =>
          rw [hac] at hhas HP1
          gi_wp2_with (gi_at_call 40; refine (HIN.out hhas).mono ?_; rintro e w2 ⟨rfl, hb2⟩; obtain ⟨fn, tmps, assign, body, hy, hR⟩ := hY (eP t tx k) k w2 (abides hJ HJ.out hb2) (by have := eP_len t tx k; omega))
          refine hR.mono ?_
          rintro e W3 (⟨rfl, hJ3, hk3⟩ | ⟨rfl, hJx3⟩)
          · have HJ2 : Hid (J (eP t tx (k + 1)) W3) := by
              show J _ _
              rw [HP1.out]; simpa using hJ3
            have HK1 : Hid (Kq H W w2) := HK.out.below hb2 hsw
            have HK2 : Hid (Kq H W W3) := HK1.out.trans hk3
            have hs2 : H + 3 ≤ W3.heap.size := Nat.le_trans hsw (Nat.le_trans hb2.size hk3.bl.size)
            have e1 := (cell_of_block hk3.k1 0).trans (cell_below hb2 c1)
            have e2 := (cell_of_block hk3.k2 0).trans (cell_below hb2 c2)
            obtain ⟨bn, on, cn, ar, lr, cr, d1, d2, d3, d4⟩ := au_step (HAU.out W3 HK2.out.bl) hok sn hsn bk
            clear hb2 hhas hk3 hJ3 hy hR
            gi_wp2
            rw [HF.out]
            refine wpIn_wide.2 ?_
            go_quiet (fail)
            gi_wp2
            go_roundw
            case rel => exact ⟨k + 1, by go_num, by omega, by rw [HS1.out], abides hJ HJ2.out (belowDN (Below.refl _ _) nq), HK2.out.below (belowDN (Below.refl _ _) nq) hs2, by exact hs2⟩
            case measure => simp [intOf] <;> omega
          · gi_wp2
            refine bodyPost_ret (results_none rfl _ _ _) rfl ?_
            refine ⟨⟨_, rfl⟩, .inr ⟨eP t tx k ++ [k], ?_, hJx3⟩⟩
            have h := eP_ends t tx (k + 1) (by omega)
            rw [HP1.out] at h
            simpa using h
    · have hkI : ¬ (k : Int) < N := by omega
      have hkN : k = tx.length := by have := HN.out; omega
      have hst : stL t tx = sn := by rw [HE.out, hkN, List.take_length]
      have hep : eP t tx k = eP t tx tx.length := by rw [hkN]
      cases hac : accN t sn with
      | false =>
        rw [hac] at hhas
        have HL : Hid (endsL t tx = eP t tx k) := by show _ = _; unfold endsL; rw [hst, hac, ← hep]; simp
        clear hst hep hkN
        gi_wp2_with (gi_at_call 40; refine (HIN.out hhas).mono ?_; rintro e w2 ⟨rfl, hb2⟩)
        go_end0
        exact ⟨⟨_, rfl⟩, .inl ⟨_, HL.out.symm, abides hJ HJ.out hb2⟩⟩
      | true =>
        rw [hac] at hhas
        have HL : Hid (endsL t tx = eP t tx k ++ [N]) := by show _ = _; unfold endsL; rw [hst, hac, ← hep, ← HN.out]; simp
        clear hst hep hkN
        gi_wp2_with (gi_at_call 40; refine (HIN.out hhas).mono ?_; rintro e w2 ⟨rfl, hb2⟩; have e2 := cell_below hb2 c2; obtain ⟨fn, tmps, assign, body, hy, hR⟩ := hY (eP t tx k) N w2 (abides hJ HJ.out hb2) (by have := eP_len t tx k; omega))
        refine hR.mono ?_
        rintro e W3 (⟨rfl, hJ3, hk3⟩ | ⟨rfl, hJx3⟩)
        · gi_wp2
          go_end0
          exact ⟨⟨_, rfl⟩, .inl ⟨_, HL.out.symm, hJ3⟩⟩
        · gi_wp2
          go_end0
          exact ⟨⟨_, rfl⟩, .inr ⟨_, by rw [HL.out]; exact List.prefix_refl _, hJx3⟩⟩
end Go.Proofs.Ytbjabpodkaokjaa
