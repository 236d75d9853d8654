import Derived.Test.YtbjabpodkaokjaaDoorJ13
set_option linter.unusedVariables false
set_option linter.unusedSimpArgs false
namespace Go.Proofs.YtbjabpodkaokjaaDoor
open Go.RowKit

abbrev zero4 : Obj := .cells #[.int .u64 0, .int .u64 0, .int .u64 0, .int .u64 0] 75
theorem wd0 : Wd 0 0 0 0 (fun _ => false) := ⟨by omega, by omega, by omega, by omega, fun _ _ => by simp, fun _ _ => by simp, fun _ _ => by simp, fun _ _ => by simp⟩
theorem newSet (w : World) : SetAt (w.alloc zero4) w.heap.size 0 (fun _ => false) 0 0 0 0 := by
  refine ⟨wd0, ?_, ?_, ?_, ?_, fun o => ?_⟩ <;> simp [go_sem]

/-- Four cells of block b hold nothing yet. -/
structure Z4 (w : World) (b : Nat) : Prop where
  c0 : w.cell? ⟨b, 0, none⟩ = some (.int .u64 0)
  c1 : w.cell? ⟨b, 1, none⟩ = some (.int .u64 0)
  c2 : w.cell? ⟨b, 2, none⟩ = some (.int .u64 0)
  c3 : w.cell? ⟨b, 3, none⟩ = some (.int .u64 0)
  fz : ∀ o, w.frozen? ⟨b, o, none⟩ = false
theorem newZ (w : World) : Z4 (w.alloc zero4) w.heap.size := by
  refine ⟨?_, ?_, ?_, ?_, fun o => ?_⟩ <;> simp [go_sem]
theorem Z4.of_heap {w w' : World} {b : Nat} (h : Z4 w b) (hb : w'.heap[b]? = w.heap[b]?) : Z4 w' b := by
  have hc : ∀ o, w'.cell? ⟨b, o, none⟩ = w.cell? ⟨b, o, none⟩ := fun o => by simp [World.cell?, hb]
  have hf : ∀ o, w'.frozen? ⟨b, o, none⟩ = w.frozen? ⟨b, o, none⟩ := fun o => by simp [World.frozen?, hb]
  exact ⟨(hc _).trans h.c0, (hc _).trans h.c1, (hc _).trans h.c2, (hc _).trans h.c3, fun o => (hf o).trans (h.fz o)⟩

/-- What a reading that answers a set and ok leaves. -/
def SetRes (w w' : World) (b : Nat) (s : ByteArray) (d x : Int) (e : Ending) : Res (Nat → Bool) → Prop
  | .ok S r => (∃ x0 x1 x2 x3, Wd x0 x1 x2 x3 S ∧ e = .returned (.tuple #[wv x0 x1 x2 x3, .bool true])) ∧ StTo w w' b s r d x
  | .bad r => (∃ x0 x1 x2 x3 : Nat, e = .returned (.tuple #[wv x0 x1 x2 x3, .bool false])) ∧ StTo w w' b s r d x

theorem Rd.setNew {b : Nat} {x w : World} (h : Rd b x w) {p : Addr} (hp : x.heap.size ≤ p.block) (v : Value) : Rd b x (w.setCell p v) :=
  ⟨h.os, h.tape, h.output, by simpa [World.setCell] using h.size, fun k hk hb => (Below.heap_setCell _ _ _ _ (by omega)).trans (h.block k hk hb)⟩
theorem Rd.under {b : Nat} {x w : World} {o : Obj} (h : Rd b (x.alloc o) w) : Rd b x w := ((Rd.refl b x).alloc o).trans h
theorem Rd.below {b : Nat} {x y w : World} (h : Rd b x y) (hb : Below y.heap.size y w) : Rd b x w := h.trans (Rd.of_below hb)
/-- A write to new memory and draws. -/
theorem Rd.four {b b' off : Nat} {x y w : World} (h : Rd b x y) (hf : Four b' off y w) (hb : x.heap.size ≤ b') : Rd b x w :=
  ⟨hf.os.trans h.os, hf.tape.trans h.tape, hf.output.trans h.output, Nat.le_trans h.size hf.size, fun k hk hkb => (hf.block k (Nat.lt_of_lt_of_le hk h.size) (by omega)).trans (h.block k hk hkb)⟩

def pSetEsc : List UInt8 → Res (Nat → Bool)
  | [] => .bad []
  | c :: t => match escSet c with
    | some S => .ok S t
    | none => .bad (c :: t)

theorem St.ne {w : World} {b : Nat} {s : ByteArray} {r : List UInt8} {d x : Int} (h : St w b s r d x) : w.heap.size ≠ b := by have := h.lt; omega

set_option maxHeartbeats 400000 in
theorem setEscape_n (w : World) (b : Nat) (s : ByteArray) (d x : Int) (h : St w b s [] d x) :
    Calls Tryd.prog 67 #[.pointer (some ⟨b, 0, none⟩)] w fun e w' => SetRes w w' b s d x e (pSetEsc []) := by
  have hne := h.ne
  go_enter Tryd.func67, Tryd.ntmps67
  go_wp2_with (go_at_call 31; refine (peek_n _ b s d x (h.alloc _)).mono ?_; rintro e w1 ⟨rfl, h1, hr1⟩; obtain ⟨d0, d1, d2, d3, dz⟩ := (newZ w).of_heap (hr1.block w.heap.size (by simp) hne))
  refine bodyPost_ret (v := .tuple #[wv 0 0 0 0, .bool false]) (by simp [results, Tryd.results67, go_sem, d0, d1, d2, d3]) rfl ⟨⟨0, 0, 0, 0, rfl⟩, ?_, ?_⟩
  · have hlt := h.lt
    exact (((h1.setCell hlt _).setCell hlt _).setCell hlt _).setCell hlt _
  · have hr := hr1.under
    exact (((hr.setNew (Nat.le_refl _) _).setNew (Nat.le_refl _) _).setNew (Nat.le_refl _) _).setNew (Nat.le_refl _) _

set_option maxHeartbeats 1000000 in
theorem setEscape_c (w : World) (b : Nat) (s : ByteArray) (c : UInt8) (t : List UInt8) (d x : Int) (h : St w b s (c :: t) d x) :
    Calls Tryd.prog 67 #[.pointer (some ⟨b, 0, none⟩)] w fun e w' => SetRes w w' b s d x e (pSetEsc (c :: t)) := by
  have hne := h.ne
  have hlt := h.lt
  have hE := fun w hT => escapedSet_any c w hT
  cases hS : escSet c with
  | none =>
    have HR : Hid (pSetEsc (c :: t) = .bad (c :: t)) := by show _ = _; simp only [pSetEsc, hS]
    rw [hS] at hE
    simp only [Option.isSome_none] at hE
    clear hS
    go_enter Tryd.func67, Tryd.ntmps67
    go_wp2_with (first | (go_at_call 73; refine (hE _ h1.tb).mono ?_; rintro e w2 ⟨⟨x0, x1, x2, x3, hw, rfl⟩, hb2⟩; have h2 := h1.below hb2; have hz2 := hb2.size; have hlt2 : w.heap.size < w2.heap.size := (by omega); obtain ⟨d0, d1, d2, d3, dz⟩ := hN.of_heap (hb2.block w.heap.size hz1)) | (go_at_call 31; refine (peek_c _ b s c t d x (h.alloc _)).mono ?_; rintro e w1 ⟨rfl, h1, hr1⟩; have hz1 : w.heap.size < w1.heap.size := (by have := hr1.size; simp at this; omega); have hN := (newZ w).of_heap (hr1.block w.heap.size (by simp) hne)))
    refine bodyPost_ret (v := .tuple #[wv x0 x1 x2 x3, .bool false]) (by simp [results, Tryd.results67, go_sem, d0, d1, d2, d3, hlt2]) rfl ?_
    rw [HR.out]
    exact ⟨⟨x0, x1, x2, x3, rfl⟩, (by (repeat first | (with_reducible refine St.setCell ?_ (by first | exact hlt | (simp; done) | (simp; omega)) _) | (with_reducible refine St.alloc ?_ _) | (with_reducible refine St.drew ?_) | (with_reducible refine St.drewN ?_ _)); exact h2), (by (repeat first | (with_reducible refine Rd.setNew ?_ (by first | exact Nat.le_refl _ | (simp; done) | (simp; omega)) _) | (with_reducible refine Rd.alloc ?_ _) | (with_reducible refine Rd.drew ?_) | (with_reducible refine Rd.drewN ?_ _)); exact hr1.under.below hb2)⟩
  | some S =>
    have HR : Hid (pSetEsc (c :: t) = .ok S t) := by show _ = _; simp only [pSetEsc, hS]
    have hso : setOf c = S := by simp [setOf, hS]
    rw [hS, hso] at hE
    simp only [Option.isSome_some] at hE
    clear hS hso
    go_enter Tryd.func67, Tryd.ntmps67
    go_wp2_with (first | (go_at_call 73; refine (hE _ h1.tb).mono ?_; rintro e w2 ⟨⟨x0, x1, x2, x3, hw, rfl⟩, hb2⟩; have h2 := (h1.below hb2).alloc (.cells #[.int .u64 x0, .int .u64 x1, .int .u64 x2, .int .u64 x3] 75); obtain ⟨k, hk, k1, k2, kk⟩ := h2.open; have hz2 := hb2.size; have hlt2 : w.heap.size < w2.heap.size := (by omega); obtain ⟨d0, d1, d2, d3, dz⟩ := hN.of_heap (hb2.block w.heap.size hz1)) | (go_at_call 31; refine (peek_c _ b s c t d x (h.alloc _)).mono ?_; rintro e w1 ⟨rfl, h1, hr1⟩; have hz1 : w.heap.size < w1.heap.size := (by have := hr1.size; simp at this; omega); have hN := (newZ w).of_heap (hr1.block w.heap.size (by simp) hne)))
    refine bodyPost_ret (v := .tuple #[wv x0 x1 x2 x3, .bool true]) (by simp [results, Tryd.results67, go_sem, d0, d1, d2, d3, hlt2, hne, hne.symm]) rfl ?_
    rw [HR.out]
    have g := kk w ((hr1.under.below hb2).alloc _)
    exact ⟨⟨x0, x1, x2, x3, hw, rfl⟩, (by (repeat (with_reducible refine St.setCell ?_ (by first | exact hlt | (simp; done) | (simp; omega)) _)); exact g.1), (by (repeat (with_reducible refine Rd.setNew ?_ (by first | exact Nat.le_refl _ | (simp; done) | (simp; omega)) _)); exact g.2)⟩

theorem setEscape_any (w : World) (b : Nat) (s : ByteArray) (r : List UInt8) (d x : Int) (h : St w b s r d x) :
    Calls Tryd.prog 67 #[.pointer (some ⟨b, 0, none⟩)] w fun e w' => SetRes w w' b s d x e (pSetEsc r) := by
  match r with
  | [] => exact setEscape_n w b s d x h
  | c :: t => exact setEscape_c w b s c t d x h
end Go.Proofs.YtbjabpodkaokjaaDoor

namespace Go.Proofs.YtbjabpodkaokjaaDoor
open Go.RowKit

abbrev SetC (b : Nat) (s : ByteArray) (d x : Int) (r r' : List UInt8) (Q : Nat → Nat → Nat → Nat → Prop) (ok : Bool) : Prop :=
  ∀ w, St w b s r d x → Calls Tryd.prog 67 #[.pointer (some ⟨b, 0, none⟩)] w fun e w' => (∃ x0 x1 x2 x3, Q x0 x1 x2 x3 ∧ e = .returned (.tuple #[wv x0 x1 x2 x3, .bool ok])) ∧ StTo w w' b s r' d x
abbrev BytC (b : Nat) (s : ByteArray) (d x : Int) (l : Int) (r r' : List UInt8) (Q : Nat → Prop) (ok : Bool) : Prop :=
  ∀ w, St w b s r d x → Calls Tryd.prog 68 #[.pointer (some ⟨b, 0, none⟩), .int .u8 l] w fun e w' => ∃ v : Nat, Q v ∧ e = .returned (.tuple #[.int .u8 v, .bool ok]) ∧ StTo w w' b s r' d x

set_option maxHeartbeats 400000 in
theorem escape_1 (w : World) (b : Nat) (s : ByteArray) (r r' : List UInt8) (d x : Int) (h : St w b s r d x) (Q : Nat → Nat → Nat → Nat → Prop) (h1 : SetC b s d x r r' Q true) :
    Calls Tryd.prog 57 #[.pointer (some ⟨b, 0, none⟩)] w fun e w' => (∃ x0 x1 x2 x3, Q x0 x1 x2 x3 ∧ e = .returned (.tuple #[wv x0 x1 x2 x3, .bool true])) ∧ StTo w w' b s r' d x := by
  have hne := h.ne
  have hlt := h.lt
  go_enter Tryd.func57, Tryd.ntmps57
  go_wp2_with (go_at_call 67; refine (h1 _ (h.alloc _)).mono ?_; rintro e w1 ⟨⟨x0, x1, x2, x3, hq, rfl⟩, g1, hr1⟩; have hz1 : w.heap.size < w1.heap.size := (by have := hr1.size; simp at this; omega); obtain ⟨d0, d1, d2, d3, dz⟩ := (newZ w).of_heap (hr1.block w.heap.size (by simp) hne))
  refine bodyPost_ret (v := .tuple #[wv x0 x1 x2 x3, .bool true]) (by simp [results, Tryd.results57, go_sem, d0, d1, d2, d3, hz1]) rfl ⟨⟨x0, x1, x2, x3, hq, rfl⟩, (by (repeat first | (with_reducible refine St.setCell ?_ (by first | exact hlt | (simp; done) | (simp; omega)) _) | (with_reducible refine St.alloc ?_ _) | (with_reducible refine St.drew ?_) | (with_reducible refine St.drewN ?_ _)); exact g1), (by (repeat first | (with_reducible refine Rd.setNew ?_ (by first | exact Nat.le_refl _ | (simp; done) | (simp; omega)) _) | (with_reducible refine Rd.alloc ?_ _) | (with_reducible refine Rd.drew ?_) | (with_reducible refine Rd.drewN ?_ _)); exact hr1.under)⟩

set_option maxHeartbeats 1000000 in
theorem escape_2 (w : World) (b : Nat) (s : ByteArray) (r r' r'' : List UInt8) (d x : Int) (h : St w b s r d x) (Q : Nat → Nat → Nat → Nat → Prop) (Q2 : Nat → Prop) (h1 : SetC b s d x r r' Q false) (h2 : BytC b s d x 0 r' r'' Q2 false) :
    Calls Tryd.prog 57 #[.pointer (some ⟨b, 0, none⟩)] w fun e w' => (∃ x0 x1 x2 x3 : Nat, e = .returned (.tuple #[wv x0 x1 x2 x3, .bool false])) ∧ StTo w w' b s r'' d x := by
  have hne := h.ne
  have hlt := h.lt
  go_enter Tryd.func57, Tryd.ntmps57
  go_wp2_with (first | (go_at_call 68; refine (h2 _ ((g1.alloc _).alloc _)).mono ?_; rintro e w2 ⟨v, hv, rfl, g2, hr2⟩; have hz2 : w1.heap.size + 1 < w2.heap.size := (by have := hr2.size; simp at this; omega); have hlt2 : w.heap.size < w2.heap.size := (by omega); have hZ2 := hZ1.of_heap (w' := w2) ((hr2.block w.heap.size (by simp; omega) hne).trans ((Below.heap_alloc _ _ _ (by simp; omega)).trans (Below.heap_alloc _ _ _ hz1))); obtain ⟨d0, d1, d2, d3, dz⟩ := hZ2; have hO2 := (newZ (w1.alloc (.cells #[.int .u64 x0, .int .u64 x1, .int .u64 x2, .int .u64 x3] 75))).of_heap (w' := w2) (hr2.block _ (by simp) (by simp; omega)); simp only [World.size_alloc] at hO2; obtain ⟨o0, o1, o2, o3, oz⟩ := hO2) | (go_at_call 67; refine (h1 _ (h.alloc _)).mono ?_; rintro e w1 ⟨⟨x0, x1, x2, x3, hq, rfl⟩, g1, hr1⟩; have hz1 : w.heap.size < w1.heap.size := (by have := hr1.size; simp at this; omega); have hZ1 := (newZ w).of_heap (hr1.block w.heap.size (by simp) hne)))
  have hr := ((hr1.under.alloc _).alloc _).trans hr2
  exact bodyPost_ret (v := .tuple #[wv 0 0 0 0, .bool false]) (by simp [results, Tryd.results57, go_sem, d0, d1, d2, d3]) rfl ⟨⟨0, 0, 0, 0, rfl⟩, (by (repeat first | (with_reducible refine St.setCell ?_ (by first | exact hlt | (simp; done) | (simp; omega)) _) | (with_reducible refine St.alloc ?_ _) | (with_reducible refine St.drew ?_) | (with_reducible refine St.drewN ?_ _)); exact g2), (by (repeat first | (with_reducible refine Rd.setNew ?_ (by first | exact Nat.le_refl _ | (simp; done) | (simp; omega)) _) | (with_reducible refine Rd.alloc ?_ _) | (with_reducible refine Rd.drew ?_) | (with_reducible refine Rd.drewN ?_ _)); exact hr)⟩

set_option maxHeartbeats 1000000 in
theorem escape_3 (w : World) (b : Nat) (s : ByteArray) (r r' r'' : List UInt8) (d x : Int) (h : St w b s r d x) (Q : Nat → Nat → Nat → Nat → Prop) (Q2 : Nat → Prop) (hQ2 : ∀ v, Q2 v → v < 256) (h1 : SetC b s d x r r' Q false) (h2 : BytC b s d x 0 r' r'' Q2 true) :
    Calls Tryd.prog 57 #[.pointer (some ⟨b, 0, none⟩)] w fun e w' => (∃ v, Q2 v ∧ ∃ x0 x1 x2 x3, Wd x0 x1 x2 x3 (inSpan v v) ∧ e = .returned (.tuple #[wv x0 x1 x2 x3, .bool true])) ∧ StTo w w' b s r'' d x := by
  have hne := h.ne
  have hlt := h.lt
  go_enter Tryd.func57, Tryd.ntmps57
  go_wp2_with (first | (go_at_call 58; refine (add_any w2 (w1.heap.size + 1) 0 v (fun _ => false) 0 0 0 0 (hQ2 v hv) ⟨wd0, o0, o1, o2, o3, oz⟩).mono ?_; rintro e w3 ⟨rfl, ⟨y0, y1, y2, y3, hy⟩, hf3⟩; have hz3 := hf3.size; have hlt3 : w.heap.size < w3.heap.size := (by omega); obtain ⟨hwy, p0, p1, p2, p3, pz⟩ := hy; obtain ⟨f0, f1, f2, f3, ff⟩ := Z4.of_heap (w' := w3) ⟨d0, d1, d2, d3, dz⟩ (hf3.block w.heap.size hlt2 (by omega)); simp only [Nat.zero_add] at p1 p2 p3) | (go_at_call 68; refine (h2 _ ((g1.alloc _).alloc _)).mono ?_; rintro e w2 ⟨v, hv, rfl, g2, hr2⟩; have hz2 : w1.heap.size + 1 < w2.heap.size := (by have := hr2.size; simp at this; omega); have hlt2 : w.heap.size < w2.heap.size := (by omega); have hZ2 := hZ1.of_heap (w' := w2) ((hr2.block w.heap.size (by simp; omega) hne).trans ((Below.heap_alloc _ _ _ (by simp; omega)).trans (Below.heap_alloc _ _ _ hz1))); obtain ⟨d0, d1, d2, d3, dz⟩ := hZ2; have hO2 := (newZ (w1.alloc (.cells #[.int .u64 x0, .int .u64 x1, .int .u64 x2, .int .u64 x3] 75))).of_heap (w' := w2) (hr2.block _ (by simp) (by simp; omega)); simp only [World.size_alloc] at hO2; obtain ⟨o0, o1, o2, o3, oz⟩ := hO2) | (go_at_call 67; refine (h1 _ (h.alloc _)).mono ?_; rintro e w1 ⟨⟨x0, x1, x2, x3, hq, rfl⟩, g1, hr1⟩; have hz1 : w.heap.size < w1.heap.size := (by have := hr1.size; simp at this; omega); have hZ1 := (newZ w).of_heap (hr1.block w.heap.size (by simp) hne)))
  have hr := ((hr1.under.alloc _).alloc _).trans hr2
  have g3 := g2.four hf3 (by omega)
  have hr3 := hr.four hf3 (by omega)
  exact bodyPost_ret (v := .tuple #[wv y0 y1 y2 y3, .bool true]) (by simp [results, Tryd.results57, go_sem, f0, f1, f2, f3]) rfl ⟨⟨v, hv, y0, y1, y2, y3, hwy.congr (fun n => by simp [orS]), rfl⟩, (by (repeat first | (with_reducible refine St.setCell ?_ (by first | exact hlt | (simp; done) | (simp; omega)) _) | (with_reducible refine St.alloc ?_ _) | (with_reducible refine St.drew ?_) | (with_reducible refine St.drewN ?_ _)); exact g3), (by (repeat first | (with_reducible refine Rd.setNew ?_ (by first | exact Nat.le_refl _ | (simp; done) | (simp; omega)) _) | (with_reducible refine Rd.alloc ?_ _) | (with_reducible refine Rd.drew ?_) | (with_reducible refine Rd.drewN ?_ _)); exact hr3)⟩

theorem SetRes.ok_of {w w' : World} {b : Nat} {s : ByteArray} {d x : Int} {e : Ending} {S : Nat → Bool} {r : List UInt8} (g : (∃ x0 x1 x2 x3, Wd x0 x1 x2 x3 S ∧ e = .returned (.tuple #[wv x0 x1 x2 x3, .bool true])) ∧ StTo w w' b s r d x) : SetRes w w' b s d x e (.ok S r) := g

theorem escape_any (w : World) (b : Nat) (s : ByteArray) (r : List UInt8) (d x : Int) (h : St w b s r d x) :
    Calls Tryd.prog 57 #[.pointer (some ⟨b, 0, none⟩)] w fun e w' => SetRes w w' b s d x e (pEscape r) := by
  have hb := fun w hw => byteEscape_any w b s r d x 0 (by omega) hw
  cases hS : pSetEsc r with
  | ok S r' =>
    have hP : pEscape r = .ok S r' := by
      match r, hS with
      | [], hS => simp [pSetEsc] at hS
      | c :: t, hS =>
        simp only [pSetEsc] at hS
        simp only [pEscape]
        cases hE : escSet c with
        | none => rw [hE] at hS; simp at hS
        | some S' => rw [hE] at hS; simpa using hS
    rw [hP]
    refine (escape_1 w b s r r' d x h (fun x0 x1 x2 x3 => Wd x0 x1 x2 x3 S) (fun w hw => (setEscape_any w b s r d x hw).mono fun e w' g => ?_)).mono fun e w' g => g
    rw [hS] at g; exact g
  | bad r' =>
    have hr : r' = r ∧ pEscape r = (match pByteEscape 0 r with | .ok v r'' => .ok (inSpan v v) r'' | .bad r'' => .bad r'') := by
      match r, hS with
      | [], hS => simp only [pSetEsc] at hS; injection hS with e; exact ⟨e.symm, rfl⟩
      | c :: t, hS =>
        simp only [pSetEsc] at hS
        simp only [pEscape]
        cases hE : escSet c with
        | none => rw [hE] at hS; injection hS with e; exact ⟨e.symm, rfl⟩
        | some S' => rw [hE] at hS; simp at hS
    obtain ⟨rfl, hP⟩ := hr
    rw [hP]
    have h1 : SetC b s d x r' r' (fun _ _ _ _ => True) false := fun w hw => (setEscape_any w b s r' d x hw).mono fun e w' g => by
      rw [hS] at g; obtain ⟨⟨x0, x1, x2, x3, g⟩, g'⟩ := g; exact ⟨⟨x0, x1, x2, x3, trivial, g⟩, g'⟩
    cases hB : pByteEscape 0 r' with
    | bad r'' =>
      exact (escape_2 w b s r' r' r'' d x h _ (fun _ => True) h1 (fun w hw => (hb w hw).mono fun e w' g => by rw [hB] at g; obtain ⟨v, g⟩ := g; exact ⟨v, trivial, g⟩)).mono fun e w' g => g
    | ok v r'' =>
      refine (escape_3 w b s r' r' r'' d x h _ (fun u => u = v ∧ v < 256) (fun u hu => by omega) h1 (fun w hw => (hb w hw).mono fun e w' g => by rw [hB] at g; exact ⟨v, ⟨rfl, g.2.1⟩, g.1, g.2.2⟩)).mono fun e w' g => ?_
      obtain ⟨⟨u, ⟨rfl, hu⟩, x0, x1, x2, x3, hw, he⟩, g'⟩ := g
      exact ⟨⟨x0, x1, x2, x3, hw, he⟩, g'⟩
end Go.Proofs.YtbjabpodkaokjaaDoor

namespace Go.Proofs.YtbjabpodkaokjaaDoor
open Go.RowKit

abbrev TakC (b : Nat) (s : ByteArray) (d x : Int) (c : Int) (r r' : List UInt8) (ok : Bool) : Prop :=
  ∀ w, St w b s r d x → Calls Tryd.prog 18 #[.pointer (some ⟨b, 0, none⟩), .int .u8 c] w fun e w' => e = .returned (.bool ok) ∧ StTo w w' b s r' d x
abbrev ItmC (b : Nat) (s : ByteArray) (d x : Int) (tk : Bool) (l : Int) (r r' : List UInt8) (Q : Nat → Prop) (ok : Bool) : Prop :=
  ∀ w, St w b s r d x → Calls Tryd.prog 71 #[.pointer (some ⟨b, 0, none⟩), .bool tk, .int .u8 l] w fun e w' => ∃ v : Nat, Q v ∧ e = .returned (.tuple #[.int .u8 v, .bool ok]) ∧ StTo w w' b s r' d x
theorem new2 (w : World) : Z4 ((w.alloc zero4).alloc zero4) w.heap.size ∧ Z4 ((w.alloc zero4).alloc zero4) (w.heap.size + 1) := by
  refine ⟨⟨?_, ?_, ?_, ?_, fun o => ?_⟩, ⟨?_, ?_, ?_, ?_, fun o => ?_⟩⟩ <;> simp [go_sem]
theorem Z4.set {w : World} {b : Nat} (h : Z4 w b) : ExSet w b 0 (fun _ => false) := ⟨0, 0, 0, 0, wd0, h.c0, h.c1, h.c2, h.c3, h.fz⟩

set_option maxHeartbeats 1000000 in
theorem item_A (w : World) (b : Nat) (s : ByteArray) (r r1 r2 : List UInt8) (d x : Int) (h : St w b s r d x) (Q : Nat → Nat → Nat → Nat → Prop) (ht0 : TakC b s d x 92 r r1 true) (hs1 : SetC b s d x r1 r2 Q true) :
    Calls Tryd.prog 65 #[.pointer (some ⟨b, 0, none⟩)] w fun e w' => (∃ x0 x1 x2 x3, Q x0 x1 x2 x3 ∧ e = .returned (.tuple #[wv x0 x1 x2 x3, .bool true])) ∧ StTo w w' b s r2 d x := by
  have hne := h.ne
  have hlt := h.lt
  go_enter Tryd.func65, Tryd.ntmps65
  go_wp2_with (first | (go_at_call 67; refine (hs1 _ g1).mono ?_; rintro e w2 ⟨⟨x0, x1, x2, x3, hq, rfl⟩, g2', hr2'⟩; have hr2 := (hr1.trans hr2').alloc (.cells #[.int .u64 x0, .int .u64 x1, .int .u64 x2, .int .u64 x3] 75); have g2 := g2'.alloc (.cells #[.int .u64 x0, .int .u64 x1, .int .u64 x2, .int .u64 x3] 75); have hz2 : w.heap.size + 1 < w2.heap.size := (by have := (hr1.trans hr2').size; simp at this; omega); have hltF : w.heap.size < w2.heap.size := (by omega); obtain ⟨d0, d1, d2, d3, dz⟩ := (new2 w).1.of_heap ((hr1.trans hr2').block w.heap.size (by simp; omega) hne)) | (go_at_call 18; refine (ht0 _ ((h.alloc _).alloc _)).mono ?_; rintro e w1 ⟨rfl, g1, hr1⟩))
  exact bodyPost_ret (v := .tuple #[wv x0 x1 x2 x3, .bool true]) (by simp [results, Tryd.results65, go_sem, d0, d1, d2, d3, hltF]) rfl ⟨⟨x0, x1, x2, x3, hq, rfl⟩, (by (repeat first | (with_reducible refine St.setCell ?_ (by first | exact hlt | (simp; done) | (simp; omega)) _) | (with_reducible refine St.alloc ?_ _) | (with_reducible refine St.drew ?_) | (with_reducible refine St.drewN ?_ _)); exact g2'), (by (repeat first | (with_reducible refine Rd.setNew ?_ (by first | exact Nat.le_refl _ | (simp; done) | (simp; omega)) _) | (with_reducible refine Rd.alloc ?_ _) | (with_reducible refine Rd.drew ?_) | (with_reducible refine Rd.drewN ?_ _)); exact (hr1.trans hr2').under.under)⟩

set_option maxHeartbeats 1000000 in
theorem item_e0 (w : World) (b : Nat) (s : ByteArray) (r r1 r2 r3 : List UInt8) (d x : Int) (h : St w b s r d x) (Q : Nat → Prop) (R : Nat → Nat → Nat → Nat → Prop) (ht0 : TakC b s d x 92 r r1 true) (hs1 : SetC b s d x r1 r2 R false) (hi1 : ItmC b s d x true 0 r2 r3 Q false) :
    Calls Tryd.prog 65 #[.pointer (some ⟨b, 0, none⟩)] w fun e w' => (∃ x0 x1 x2 x3 : Nat, e = .returned (.tuple #[wv x0 x1 x2 x3, .bool false])) ∧ StTo w w' b s r3 d x := by
  have hne := h.ne
  have hlt := h.lt
  go_enter Tryd.func65, Tryd.ntmps65
  go_wp2_with (first | (go_at_call 71; refine (hi1 _ g2).mono ?_; rintro e w3 ⟨low, hlow, rfl, g3, hr3'⟩; have hr3 := hr2.trans hr3'; have hzF : w.heap.size + 1 < w3.heap.size := (by have := hr3.size; simp at this; omega); have hltF : w.heap.size < w3.heap.size := (by omega); obtain ⟨d0, d1, d2, d3, dz⟩ := (new2 w).1.of_heap (hr3.block w.heap.size (by simp; omega) hne); have hspan := (new2 w).2.of_heap (hr3.block (w.heap.size + 1) (by simp) (by omega)); obtain ⟨o0, o1, o2, o3, oz⟩ := hspan) | (go_at_call 67; refine (hs1 _ g1).mono ?_; rintro e w2 ⟨⟨x0, x1, x2, x3, hq, rfl⟩, g2', hr2'⟩; have hr2 := (hr1.trans hr2').alloc (.cells #[.int .u64 x0, .int .u64 x1, .int .u64 x2, .int .u64 x3] 75); have g2 := g2'.alloc (.cells #[.int .u64 x0, .int .u64 x1, .int .u64 x2, .int .u64 x3] 75); have hz2 : w.heap.size + 1 < w2.heap.size := (by have := (hr1.trans hr2').size; simp at this; omega)) | (go_at_call 18; refine (ht0 _ ((h.alloc _).alloc _)).mono ?_; rintro e w1 ⟨rfl, g1, hr1⟩))
  exact bodyPost_ret (v := .tuple #[wv 0 0 0 0, .bool false]) (by simp [results, Tryd.results65, go_sem, d0, d1, d2, d3]) rfl ⟨⟨0, 0, 0, 0, rfl⟩, (by (repeat first | (with_reducible refine St.setCell ?_ (by first | exact hlt | (simp; done) | (simp; omega)) _) | (with_reducible refine St.alloc ?_ _) | (with_reducible refine St.drew ?_) | (with_reducible refine St.drewN ?_ _)); exact g3), (by (repeat first | (with_reducible refine Rd.setNew ?_ (by first | exact Nat.le_refl _ | (simp; done) | (simp; omega)) _) | (with_reducible refine Rd.alloc ?_ _) | (with_reducible refine Rd.drew ?_) | (with_reducible refine Rd.drewN ?_ _)); exact hr3.under.under)⟩

set_option maxHeartbeats 1000000 in
theorem item_e1 (w : World) (b : Nat) (s : ByteArray) (r r1 r2 r3 r4 : List UInt8) (d x : Int) (h : St w b s r d x) (Q : Nat → Prop) (hQ : ∀ v, Q v → v < 256) (R : Nat → Nat → Nat → Nat → Prop) (ht0 : TakC b s d x 92 r r1 true) (hs1 : SetC b s d x r1 r2 R false) (hi1 : ItmC b s d x true 0 r2 r3 Q true) (ht1 : TakC b s d x 45 r3 r4 false) :
    Calls Tryd.prog 65 #[.pointer (some ⟨b, 0, none⟩)] w fun e w' => (∃ low, Q low ∧ ∃ x0 x1 x2 x3, Wd x0 x1 x2 x3 (inSpan low low) ∧ e = .returned (.tuple #[wv x0 x1 x2 x3, .bool true])) ∧ StTo w w' b s r4 d x := by
  have hne := h.ne
  have hlt := h.lt
  go_enter Tryd.func65, Tryd.ntmps65
  go_wp2_with (first | (go_at_call 72; refine (addSpan_any w4 (w.heap.size + 1) 0 low low (fun _ => false) (hQ _ hlow) (hQ _ hlow) (Z4.set ⟨o0, o1, o2, o3, oz⟩)).mono ?_; rintro e wz ⟨rfl, ⟨y0, y1, y2, y3, hy⟩, hfz⟩; have hzz := hfz.size; have hltz : w.heap.size < wz.heap.size := (by omega); obtain ⟨hwy, p0, p1, p2, p3, pz⟩ := hy; obtain ⟨f0, f1, f2, f3, ff⟩ := Z4.of_heap (w' := wz) ⟨d0, d1, d2, d3, dz⟩ (hfz.block w.heap.size hltF (by omega)); simp only [Nat.zero_add] at p1 p2 p3) | (go_at_call 18; refine (ht1 _ g3).mono ?_; rintro e w4 ⟨rfl, g4, hr4'⟩; have hr4 := hr3.trans hr4'; have hzF : w.heap.size + 1 < w4.heap.size := (by have := hr4.size; simp at this; omega); have hltF : w.heap.size < w4.heap.size := (by omega); obtain ⟨d0, d1, d2, d3, dz⟩ := (new2 w).1.of_heap (hr4.block w.heap.size (by simp; omega) hne); have hspan := (new2 w).2.of_heap (hr4.block (w.heap.size + 1) (by simp) (by omega)); obtain ⟨o0, o1, o2, o3, oz⟩ := hspan) | (go_at_call 71; refine (hi1 _ g2).mono ?_; rintro e w3 ⟨low, hlow, rfl, g3, hr3'⟩; have hr3 := hr2.trans hr3') | (go_at_call 67; refine (hs1 _ g1).mono ?_; rintro e w2 ⟨⟨x0, x1, x2, x3, hq, rfl⟩, g2', hr2'⟩; have hr2 := (hr1.trans hr2').alloc (.cells #[.int .u64 x0, .int .u64 x1, .int .u64 x2, .int .u64 x3] 75); have g2 := g2'.alloc (.cells #[.int .u64 x0, .int .u64 x1, .int .u64 x2, .int .u64 x3] 75); have hz2 : w.heap.size + 1 < w2.heap.size := (by have := (hr1.trans hr2').size; simp at this; omega)) | (go_at_call 18; refine (ht0 _ ((h.alloc _).alloc _)).mono ?_; rintro e w1 ⟨rfl, g1, hr1⟩))
  have g7 := g4.four hfz (by omega)
  have hr7 := hr4.under.under.four hfz (by omega)
  exact bodyPost_ret (v := .tuple #[wv y0 y1 y2 y3, .bool true]) (by simp [results, Tryd.results65, go_sem, f0, f1, f2, f3]) rfl ⟨⟨low, hlow, y0, y1, y2, y3, hwy.congr (fun n => by simp [orS]), rfl⟩, (by (repeat first | (with_reducible refine St.setCell ?_ (by first | exact hlt | (simp; done) | (simp; omega)) _) | (with_reducible refine St.alloc ?_ _) | (with_reducible refine St.drew ?_) | (with_reducible refine St.drewN ?_ _)); exact g7), (by (repeat first | (with_reducible refine Rd.setNew ?_ (by first | exact Nat.le_refl _ | (simp; done) | (simp; omega)) _) | (with_reducible refine Rd.alloc ?_ _) | (with_reducible refine Rd.drew ?_) | (with_reducible refine Rd.drewN ?_ _)); exact hr7)⟩

set_option maxHeartbeats 1000000 in
theorem item_e2 (w : World) (b : Nat) (s : ByteArray) (r r1 r2 r3 r4 r5 r6 : List UInt8) (d x : Int) (h : St w b s r d x) (Q : Nat → Prop) (Q2 : Nat → Nat → Prop) (tk : Bool) (R : Nat → Nat → Nat → Nat → Prop) (ht0 : TakC b s d x 92 r r1 true) (hs1 : SetC b s d x r1 r2 R false) (hi1 : ItmC b s d x true 0 r2 r3 Q true) (ht1 : TakC b s d x 45 r3 r4 true) (ht2 : TakC b s d x 92 r4 r5 tk) (hi2 : ∀ low : Nat, Q low → ItmC b s d x tk low r5 r6 (Q2 low) false) :
    Calls Tryd.prog 65 #[.pointer (some ⟨b, 0, none⟩)] w fun e w' => (∃ x0 x1 x2 x3 : Nat, e = .returned (.tuple #[wv x0 x1 x2 x3, .bool false])) ∧ StTo w w' b s r6 d x := by
  have hne := h.ne
  have hlt := h.lt
  go_enter Tryd.func65, Tryd.ntmps65
  go_wp2_with (first | (go_at_call 71; refine (hi2 low hlow _ g5).mono ?_; rintro e w6 ⟨high, hhigh, rfl, g6, hr6'⟩; have hr6 := hr5.trans hr6'; have hzF : w.heap.size + 1 < w6.heap.size := (by have := hr6.size; simp at this; omega); have hltF : w.heap.size < w6.heap.size := (by omega); obtain ⟨d0, d1, d2, d3, dz⟩ := (new2 w).1.of_heap (hr6.block w.heap.size (by simp; omega) hne); have hspan := (new2 w).2.of_heap (hr6.block (w.heap.size + 1) (by simp) (by omega)); obtain ⟨o0, o1, o2, o3, oz⟩ := hspan) | (go_at_call 18; refine (ht2 _ g4).mono ?_; rintro e w5 ⟨rfl, g5, hr5'⟩; have hr5 := hr4.trans hr5') | (go_at_call 18; refine (ht1 _ g3).mono ?_; rintro e w4 ⟨rfl, g4, hr4'⟩; have hr4 := hr3.trans hr4') | (go_at_call 71; refine (hi1 _ g2).mono ?_; rintro e w3 ⟨low, hlow, rfl, g3, hr3'⟩; have hr3 := hr2.trans hr3') | (go_at_call 67; refine (hs1 _ g1).mono ?_; rintro e w2 ⟨⟨x0, x1, x2, x3, hq, rfl⟩, g2', hr2'⟩; have hr2 := (hr1.trans hr2').alloc (.cells #[.int .u64 x0, .int .u64 x1, .int .u64 x2, .int .u64 x3] 75); have g2 := g2'.alloc (.cells #[.int .u64 x0, .int .u64 x1, .int .u64 x2, .int .u64 x3] 75); have hz2 : w.heap.size + 1 < w2.heap.size := (by have := (hr1.trans hr2').size; simp at this; omega)) | (go_at_call 18; refine (ht0 _ ((h.alloc _).alloc _)).mono ?_; rintro e w1 ⟨rfl, g1, hr1⟩))
  exact bodyPost_ret (v := .tuple #[wv 0 0 0 0, .bool false]) (by simp [results, Tryd.results65, go_sem, d0, d1, d2, d3]) rfl ⟨⟨0, 0, 0, 0, rfl⟩, (by (repeat first | (with_reducible refine St.setCell ?_ (by first | exact hlt | (simp; done) | (simp; omega)) _) | (with_reducible refine St.alloc ?_ _) | (with_reducible refine St.drew ?_) | (with_reducible refine St.drewN ?_ _)); exact g6), (by (repeat first | (with_reducible refine Rd.setNew ?_ (by first | exact Nat.le_refl _ | (simp; done) | (simp; omega)) _) | (with_reducible refine Rd.alloc ?_ _) | (with_reducible refine Rd.drew ?_) | (with_reducible refine Rd.drewN ?_ _)); exact hr6.under.under)⟩

set_option maxHeartbeats 1000000 in
theorem item_e3 (w : World) (b : Nat) (s : ByteArray) (r r1 r2 r3 r4 r5 r6 : List UInt8) (d x : Int) (h : St w b s r d x) (Q : Nat → Prop) (Q2 : Nat → Nat → Prop) (tk : Bool) (hQ : ∀ v, Q v → v < 256) (hQ2 : ∀ v, ∀ u, Q2 v u → u < 256) (R : Nat → Nat → Nat → Nat → Prop) (ht0 : TakC b s d x 92 r r1 true) (hs1 : SetC b s d x r1 r2 R false) (hi1 : ItmC b s d x true 0 r2 r3 Q true) (ht1 : TakC b s d x 45 r3 r4 true) (ht2 : TakC b s d x 92 r4 r5 tk) (hi2 : ∀ low : Nat, Q low → ItmC b s d x tk low r5 r6 (Q2 low) true) :
    Calls Tryd.prog 65 #[.pointer (some ⟨b, 0, none⟩)] w fun e w' => (∃ low, Q low ∧ ∃ high, Q2 low high ∧ ∃ x0 x1 x2 x3, Wd x0 x1 x2 x3 (inSpan low high) ∧ e = .returned (.tuple #[wv x0 x1 x2 x3, .bool true])) ∧ StTo w w' b s r6 d x := by
  have hne := h.ne
  have hlt := h.lt
  go_enter Tryd.func65, Tryd.ntmps65
  go_wp2_with (first | (go_at_call 72; refine (addSpan_any w6 (w.heap.size + 1) 0 low high (fun _ => false) (hQ2 _ _ hhigh) (hQ _ hlow) (Z4.set ⟨o0, o1, o2, o3, oz⟩)).mono ?_; rintro e wz ⟨rfl, ⟨y0, y1, y2, y3, hy⟩, hfz⟩; have hzz := hfz.size; have hltz : w.heap.size < wz.heap.size := (by omega); obtain ⟨hwy, p0, p1, p2, p3, pz⟩ := hy; obtain ⟨f0, f1, f2, f3, ff⟩ := Z4.of_heap (w' := wz) ⟨d0, d1, d2, d3, dz⟩ (hfz.block w.heap.size hltF (by omega)); simp only [Nat.zero_add] at p1 p2 p3) | (go_at_call 71; refine (hi2 low hlow _ g5).mono ?_; rintro e w6 ⟨high, hhigh, rfl, g6, hr6'⟩; have hr6 := hr5.trans hr6'; have hzF : w.heap.size + 1 < w6.heap.size := (by have := hr6.size; simp at this; omega); have hltF : w.heap.size < w6.heap.size := (by omega); obtain ⟨d0, d1, d2, d3, dz⟩ := (new2 w).1.of_heap (hr6.block w.heap.size (by simp; omega) hne); have hspan := (new2 w).2.of_heap (hr6.block (w.heap.size + 1) (by simp) (by omega)); obtain ⟨o0, o1, o2, o3, oz⟩ := hspan) | (go_at_call 18; refine (ht2 _ g4).mono ?_; rintro e w5 ⟨rfl, g5, hr5'⟩; have hr5 := hr4.trans hr5') | (go_at_call 18; refine (ht1 _ g3).mono ?_; rintro e w4 ⟨rfl, g4, hr4'⟩; have hr4 := hr3.trans hr4') | (go_at_call 71; refine (hi1 _ g2).mono ?_; rintro e w3 ⟨low, hlow, rfl, g3, hr3'⟩; have hr3 := hr2.trans hr3') | (go_at_call 67; refine (hs1 _ g1).mono ?_; rintro e w2 ⟨⟨x0, x1, x2, x3, hq, rfl⟩, g2', hr2'⟩; have hr2 := (hr1.trans hr2').alloc (.cells #[.int .u64 x0, .int .u64 x1, .int .u64 x2, .int .u64 x3] 75); have g2 := g2'.alloc (.cells #[.int .u64 x0, .int .u64 x1, .int .u64 x2, .int .u64 x3] 75); have hz2 : w.heap.size + 1 < w2.heap.size := (by have := (hr1.trans hr2').size; simp at this; omega)) | (go_at_call 18; refine (ht0 _ ((h.alloc _).alloc _)).mono ?_; rintro e w1 ⟨rfl, g1, hr1⟩))
  have g7 := g6.four hfz (by omega)
  have hr7 := hr6.under.under.four hfz (by omega)
  exact bodyPost_ret (v := .tuple #[wv y0 y1 y2 y3, .bool true]) (by simp [results, Tryd.results65, go_sem, f0, f1, f2, f3]) rfl ⟨⟨low, hlow, high, hhigh, y0, y1, y2, y3, hwy.congr (fun n => by simp [orS]), rfl⟩, (by (repeat first | (with_reducible refine St.setCell ?_ (by first | exact hlt | (simp; done) | (simp; omega)) _) | (with_reducible refine St.alloc ?_ _) | (with_reducible refine St.drew ?_) | (with_reducible refine St.drewN ?_ _)); exact g7), (by (repeat first | (with_reducible refine Rd.setNew ?_ (by first | exact Nat.le_refl _ | (simp; done) | (simp; omega)) _) | (with_reducible refine Rd.alloc ?_ _) | (with_reducible refine Rd.drew ?_) | (with_reducible refine Rd.drewN ?_ _)); exact hr7)⟩

set_option maxHeartbeats 1000000 in
theorem item_p0 (w : World) (b : Nat) (s : ByteArray) (r r1 r3 : List UInt8) (d x : Int) (h : St w b s r d x) (Q : Nat → Prop) (ht0 : TakC b s d x 92 r r1 false) (hi1 : ItmC b s d x false 0 r1 r3 Q false) :
    Calls Tryd.prog 65 #[.pointer (some ⟨b, 0, none⟩)] w fun e w' => (∃ x0 x1 x2 x3 : Nat, e = .returned (.tuple #[wv x0 x1 x2 x3, .bool false])) ∧ StTo w w' b s r3 d x := by
  have hne := h.ne
  have hlt := h.lt
  go_enter Tryd.func65, Tryd.ntmps65
  go_wp2_with (first | (go_at_call 71; refine (hi1 _ g1).mono ?_; rintro e w3 ⟨low, hlow, rfl, g3, hr3'⟩; have hr3 := hr1.trans hr3'; have hzF : w.heap.size + 1 < w3.heap.size := (by have := hr3.size; simp at this; omega); have hltF : w.heap.size < w3.heap.size := (by omega); obtain ⟨d0, d1, d2, d3, dz⟩ := (new2 w).1.of_heap (hr3.block w.heap.size (by simp; omega) hne); have hspan := (new2 w).2.of_heap (hr3.block (w.heap.size + 1) (by simp) (by omega)); obtain ⟨o0, o1, o2, o3, oz⟩ := hspan) | (go_at_call 18; refine (ht0 _ ((h.alloc _).alloc _)).mono ?_; rintro e w1 ⟨rfl, g1, hr1⟩))
  exact bodyPost_ret (v := .tuple #[wv 0 0 0 0, .bool false]) (by simp [results, Tryd.results65, go_sem, d0, d1, d2, d3]) rfl ⟨⟨0, 0, 0, 0, rfl⟩, (by (repeat first | (with_reducible refine St.setCell ?_ (by first | exact hlt | (simp; done) | (simp; omega)) _) | (with_reducible refine St.alloc ?_ _) | (with_reducible refine St.drew ?_) | (with_reducible refine St.drewN ?_ _)); exact g3), (by (repeat first | (with_reducible refine Rd.setNew ?_ (by first | exact Nat.le_refl _ | (simp; done) | (simp; omega)) _) | (with_reducible refine Rd.alloc ?_ _) | (with_reducible refine Rd.drew ?_) | (with_reducible refine Rd.drewN ?_ _)); exact hr3.under.under)⟩

set_option maxHeartbeats 1000000 in
theorem item_p1 (w : World) (b : Nat) (s : ByteArray) (r r1 r3 r4 : List UInt8) (d x : Int) (h : St w b s r d x) (Q : Nat → Prop) (hQ : ∀ v, Q v → v < 256) (ht0 : TakC b s d x 92 r r1 false) (hi1 : ItmC b s d x false 0 r1 r3 Q true) (ht1 : TakC b s d x 45 r3 r4 false) :
    Calls Tryd.prog 65 #[.pointer (some ⟨b, 0, none⟩)] w fun e w' => (∃ low, Q low ∧ ∃ x0 x1 x2 x3, Wd x0 x1 x2 x3 (inSpan low low) ∧ e = .returned (.tuple #[wv x0 x1 x2 x3, .bool true])) ∧ StTo w w' b s r4 d x := by
  have hne := h.ne
  have hlt := h.lt
  go_enter Tryd.func65, Tryd.ntmps65
  go_wp2_with (first | (go_at_call 72; refine (addSpan_any w4 (w.heap.size + 1) 0 low low (fun _ => false) (hQ _ hlow) (hQ _ hlow) (Z4.set ⟨o0, o1, o2, o3, oz⟩)).mono ?_; rintro e wz ⟨rfl, ⟨y0, y1, y2, y3, hy⟩, hfz⟩; have hzz := hfz.size; have hltz : w.heap.size < wz.heap.size := (by omega); obtain ⟨hwy, p0, p1, p2, p3, pz⟩ := hy; obtain ⟨f0, f1, f2, f3, ff⟩ := Z4.of_heap (w' := wz) ⟨d0, d1, d2, d3, dz⟩ (hfz.block w.heap.size hltF (by omega)); simp only [Nat.zero_add] at p1 p2 p3) | (go_at_call 18; refine (ht1 _ g3).mono ?_; rintro e w4 ⟨rfl, g4, hr4'⟩; have hr4 := hr3.trans hr4'; have hzF : w.heap.size + 1 < w4.heap.size := (by have := hr4.size; simp at this; omega); have hltF : w.heap.size < w4.heap.size := (by omega); obtain ⟨d0, d1, d2, d3, dz⟩ := (new2 w).1.of_heap (hr4.block w.heap.size (by simp; omega) hne); have hspan := (new2 w).2.of_heap (hr4.block (w.heap.size + 1) (by simp) (by omega)); obtain ⟨o0, o1, o2, o3, oz⟩ := hspan) | (go_at_call 71; refine (hi1 _ g1).mono ?_; rintro e w3 ⟨low, hlow, rfl, g3, hr3'⟩; have hr3 := hr1.trans hr3') | (go_at_call 18; refine (ht0 _ ((h.alloc _).alloc _)).mono ?_; rintro e w1 ⟨rfl, g1, hr1⟩))
  have g7 := g4.four hfz (by omega)
  have hr7 := hr4.under.under.four hfz (by omega)
  exact bodyPost_ret (v := .tuple #[wv y0 y1 y2 y3, .bool true]) (by simp [results, Tryd.results65, go_sem, f0, f1, f2, f3]) rfl ⟨⟨low, hlow, y0, y1, y2, y3, hwy.congr (fun n => by simp [orS]), rfl⟩, (by (repeat first | (with_reducible refine St.setCell ?_ (by first | exact hlt | (simp; done) | (simp; omega)) _) | (with_reducible refine St.alloc ?_ _) | (with_reducible refine St.drew ?_) | (with_reducible refine St.drewN ?_ _)); exact g7), (by (repeat first | (with_reducible refine Rd.setNew ?_ (by first | exact Nat.le_refl _ | (simp; done) | (simp; omega)) _) | (with_reducible refine Rd.alloc ?_ _) | (with_reducible refine Rd.drew ?_) | (with_reducible refine Rd.drewN ?_ _)); exact hr7)⟩

set_option maxHeartbeats 1000000 in
theorem item_p2 (w : World) (b : Nat) (s : ByteArray) (r r1 r3 r4 r5 r6 : List UInt8) (d x : Int) (h : St w b s r d x) (Q : Nat → Prop) (Q2 : Nat → Nat → Prop) (tk : Bool) (ht0 : TakC b s d x 92 r r1 false) (hi1 : ItmC b s d x false 0 r1 r3 Q true) (ht1 : TakC b s d x 45 r3 r4 true) (ht2 : TakC b s d x 92 r4 r5 tk) (hi2 : ∀ low : Nat, Q low → ItmC b s d x tk low r5 r6 (Q2 low) false) :
    Calls Tryd.prog 65 #[.pointer (some ⟨b, 0, none⟩)] w fun e w' => (∃ x0 x1 x2 x3 : Nat, e = .returned (.tuple #[wv x0 x1 x2 x3, .bool false])) ∧ StTo w w' b s r6 d x := by
  have hne := h.ne
  have hlt := h.lt
  go_enter Tryd.func65, Tryd.ntmps65
  go_wp2_with (first | (go_at_call 71; refine (hi2 low hlow _ g5).mono ?_; rintro e w6 ⟨high, hhigh, rfl, g6, hr6'⟩; have hr6 := hr5.trans hr6'; have hzF : w.heap.size + 1 < w6.heap.size := (by have := hr6.size; simp at this; omega); have hltF : w.heap.size < w6.heap.size := (by omega); obtain ⟨d0, d1, d2, d3, dz⟩ := (new2 w).1.of_heap (hr6.block w.heap.size (by simp; omega) hne); have hspan := (new2 w).2.of_heap (hr6.block (w.heap.size + 1) (by simp) (by omega)); obtain ⟨o0, o1, o2, o3, oz⟩ := hspan) | (go_at_call 18; refine (ht2 _ g4).mono ?_; rintro e w5 ⟨rfl, g5, hr5'⟩; have hr5 := hr4.trans hr5') | (go_at_call 18; refine (ht1 _ g3).mono ?_; rintro e w4 ⟨rfl, g4, hr4'⟩; have hr4 := hr3.trans hr4') | (go_at_call 71; refine (hi1 _ g1).mono ?_; rintro e w3 ⟨low, hlow, rfl, g3, hr3'⟩; have hr3 := hr1.trans hr3') | (go_at_call 18; refine (ht0 _ ((h.alloc _).alloc _)).mono ?_; rintro e w1 ⟨rfl, g1, hr1⟩))
  exact bodyPost_ret (v := .tuple #[wv 0 0 0 0, .bool false]) (by simp [results, Tryd.results65, go_sem, d0, d1, d2, d3]) rfl ⟨⟨0, 0, 0, 0, rfl⟩, (by (repeat first | (with_reducible refine St.setCell ?_ (by first | exact hlt | (simp; done) | (simp; omega)) _) | (with_reducible refine St.alloc ?_ _) | (with_reducible refine St.drew ?_) | (with_reducible refine St.drewN ?_ _)); exact g6), (by (repeat first | (with_reducible refine Rd.setNew ?_ (by first | exact Nat.le_refl _ | (simp; done) | (simp; omega)) _) | (with_reducible refine Rd.alloc ?_ _) | (with_reducible refine Rd.drew ?_) | (with_reducible refine Rd.drewN ?_ _)); exact hr6.under.under)⟩

set_option maxHeartbeats 1000000 in
theorem item_p3 (w : World) (b : Nat) (s : ByteArray) (r r1 r3 r4 r5 r6 : List UInt8) (d x : Int) (h : St w b s r d x) (Q : Nat → Prop) (Q2 : Nat → Nat → Prop) (tk : Bool) (hQ : ∀ v, Q v → v < 256) (hQ2 : ∀ v, ∀ u, Q2 v u → u < 256) (ht0 : TakC b s d x 92 r r1 false) (hi1 : ItmC b s d x false 0 r1 r3 Q true) (ht1 : TakC b s d x 45 r3 r4 true) (ht2 : TakC b s d x 92 r4 r5 tk) (hi2 : ∀ low : Nat, Q low → ItmC b s d x tk low r5 r6 (Q2 low) true) :
    Calls Tryd.prog 65 #[.pointer (some ⟨b, 0, none⟩)] w fun e w' => (∃ low, Q low ∧ ∃ high, Q2 low high ∧ ∃ x0 x1 x2 x3, Wd x0 x1 x2 x3 (inSpan low high) ∧ e = .returned (.tuple #[wv x0 x1 x2 x3, .bool true])) ∧ StTo w w' b s r6 d x := by
  have hne := h.ne
  have hlt := h.lt
  go_enter Tryd.func65, Tryd.ntmps65
  go_wp2_with (first | (go_at_call 72; refine (addSpan_any w6 (w.heap.size + 1) 0 low high (fun _ => false) (hQ2 _ _ hhigh) (hQ _ hlow) (Z4.set ⟨o0, o1, o2, o3, oz⟩)).mono ?_; rintro e wz ⟨rfl, ⟨y0, y1, y2, y3, hy⟩, hfz⟩; have hzz := hfz.size; have hltz : w.heap.size < wz.heap.size := (by omega); obtain ⟨hwy, p0, p1, p2, p3, pz⟩ := hy; obtain ⟨f0, f1, f2, f3, ff⟩ := Z4.of_heap (w' := wz) ⟨d0, d1, d2, d3, dz⟩ (hfz.block w.heap.size hltF (by omega)); simp only [Nat.zero_add] at p1 p2 p3) | (go_at_call 71; refine (hi2 low hlow _ g5).mono ?_; rintro e w6 ⟨high, hhigh, rfl, g6, hr6'⟩; have hr6 := hr5.trans hr6'; have hzF : w.heap.size + 1 < w6.heap.size := (by have := hr6.size; simp at this; omega); have hltF : w.heap.size < w6.heap.size := (by omega); obtain ⟨d0, d1, d2, d3, dz⟩ := (new2 w).1.of_heap (hr6.block w.heap.size (by simp; omega) hne); have hspan := (new2 w).2.of_heap (hr6.block (w.heap.size + 1) (by simp) (by omega)); obtain ⟨o0, o1, o2, o3, oz⟩ := hspan) | (go_at_call 18; refine (ht2 _ g4).mono ?_; rintro e w5 ⟨rfl, g5, hr5'⟩; have hr5 := hr4.trans hr5') | (go_at_call 18; refine (ht1 _ g3).mono ?_; rintro e w4 ⟨rfl, g4, hr4'⟩; have hr4 := hr3.trans hr4') | (go_at_call 71; refine (hi1 _ g1).mono ?_; rintro e w3 ⟨low, hlow, rfl, g3, hr3'⟩; have hr3 := hr1.trans hr3') | (go_at_call 18; refine (ht0 _ ((h.alloc _).alloc _)).mono ?_; rintro e w1 ⟨rfl, g1, hr1⟩))
  have g7 := g6.four hfz (by omega)
  have hr7 := hr6.under.under.four hfz (by omega)
  exact bodyPost_ret (v := .tuple #[wv y0 y1 y2 y3, .bool true]) (by simp [results, Tryd.results65, go_sem, f0, f1, f2, f3]) rfl ⟨⟨low, hlow, high, hhigh, y0, y1, y2, y3, hwy.congr (fun n => by simp [orS]), rfl⟩, (by (repeat first | (with_reducible refine St.setCell ?_ (by first | exact hlt | (simp; done) | (simp; omega)) _) | (with_reducible refine St.alloc ?_ _) | (with_reducible refine St.drew ?_) | (with_reducible refine St.drewN ?_ _)); exact g7), (by (repeat first | (with_reducible refine Rd.setNew ?_ (by first | exact Nat.le_refl _ | (simp; done) | (simp; omega)) _) | (with_reducible refine Rd.alloc ?_ _) | (with_reducible refine Rd.drew ?_) | (with_reducible refine Rd.drewN ?_ _)); exact hr7)⟩

end Go.Proofs.YtbjabpodkaokjaaDoor
