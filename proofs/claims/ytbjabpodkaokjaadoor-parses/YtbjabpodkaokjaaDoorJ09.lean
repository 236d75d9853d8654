import Derived.KernelRfl
import Derived.Test.YtbjabpodkaokjaaDoorJ01
import Derived.Deep.Light
import Derived.Deep.QuietTactic
import Derived.BigQuiet
set_option linter.unusedVariables false
set_option linter.unusedSimpArgs false
namespace Go.Proofs.YtbjabpodkaokjaaDoor

inductive Res (α : Type) where
  | ok (a : α) (r : List UInt8)
  | bad (r : List UInt8)

def Res.rest {α : Type} : Res α → List UInt8
  | .ok _ r => r
  | .bad r => r

/-- A count: its sign, and of a `{` its least and its most (-1: endless). -/
structure Cnt where
  sign : UInt8
  least : Int
  most : Int
deriving DecidableEq, Inhabited

/-- A part: the group's choices (none: it is no group), the bytes that it stands for, its counts. -/
inductive Prt where
  | mk (group : List (List Prt)) (S : Nat → Bool) (counts : List Cnt)

abbrev signsU : List UInt8 := [92, 46, 91, 93, 40, 41, 123, 125, 124, 42, 43, 63, 94, 36]
def isSg (c : UInt8) : Bool := signsU.contains c

/-- A hexadecimal sign's number. -/
def hexN (c : UInt8) : Option Nat :=
  if 48 ≤ c.toNat ∧ c.toNat ≤ 57 then some (c.toNat - 48) else if 97 ≤ c.toNat ∧ c.toNat ≤ 102 then some (c.toNat - 87) else none

def pHexSign (least : Nat) : List UInt8 → Res Nat
  | [] => .bad []
  | c :: t => match hexN c with
    | some v => if v < least then .bad (c :: t) else .ok v t
    | none => .bad (c :: t)

def pHexByte (least : Nat) (r : List UInt8) : Res Nat :=
  match pHexSign (least / 16) r with
  | .bad r' => .bad r'
  | .ok high r' => match pHexSign ((if least / 16 < high then 0 else least) % 16) r' with
    | .bad r'' => .bad r''
    | .ok low r'' => .ok (high * 16 + low) r''

/-- The one byte for which a backslash and c stand. -/
def escByte (c : UInt8) : Option Nat :=
  if isSg c || c == 45 then some c.toNat else if c == 110 then some 10 else if c == 116 then some 9 else none

def pByteEscape (least : Nat) : List UInt8 → Res Nat
  | [] => .bad []
  | c :: t => if c = 120 then pHexByte least t else
    match escByte c with
    | some v => if v < least then .bad (c :: t) else .ok v t
    | none => .bad (c :: t)

def inSpan (lo hi : Nat) (n : Nat) : Bool := decide (lo ≤ n) && decide (n ≤ hi)

/-- The many bytes for which a backslash and c stand. -/
def escSet (c : UInt8) : Option (Nat → Bool) :=
  if c = 100 then some (inSpan 48 57)
  else if c = 119 then some (fun n => inSpan 48 57 n || inSpan 65 90 n || inSpan 95 95 n || inSpan 97 122 n)
  else if c = 115 then some (fun n => inSpan 9 10 n || inSpan 13 13 n || inSpan 32 32 n)
  else none

def pEscape : List UInt8 → Res (Nat → Bool)
  | [] => .bad []
  | c :: t => match escSet c with
    | some S => .ok S t
    | none => match pByteEscape 0 (c :: t) with
      | .ok v r => .ok (inSpan v v) r
      | .bad r => .bad r

/-- A byte of a class, unescaped. -/
def pPlainItem (least : Nat) : List UInt8 → Res Nat
  | [] => .bad []
  | c :: t => if c.toNat < least then .bad (c :: t) else if c = 92 ∨ c = 91 ∨ c = 93 ∨ c = 94 ∨ c = 45 then .bad (c :: t) else .ok c.toNat t

def pItemByte (least : Nat) : List UInt8 → Res Nat
  | 92 :: t => pByteEscape least t
  | r => pPlainItem least r

/-- The high end of a range whose low end has been read. -/
def pRange (low : Nat) : List UInt8 → Res (Nat → Bool)
  | 45 :: t => match pItemByte low t with
    | .ok high r => .ok (inSpan low high) r
    | .bad r => .bad r
  | r => .ok (inSpan low low) r

def pItem : List UInt8 → Res (Nat → Bool)
  | 92 :: c :: t => match escSet c with
    | some S => .ok S t
    | none => match pByteEscape 0 (c :: t) with
      | .ok low r => pRange low r
      | .bad r => .bad r
  | r => match pItemByte 0 r with
    | .ok low r' => pRange low r'
    | .bad r' => .bad r'

def orS (A B : Nat → Bool) (n : Nat) : Bool := A n || B n

/-- The items of a class, up to its end. -/
def pItems : Nat → (Nat → Bool) → List UInt8 → Res (Nat → Bool)
  | 0, _, r => .bad r
  | n + 1, A, r => match pItem r with
    | .bad r' => .bad r'
    | .ok S r' => match r' with
      | 93 :: t => .ok (orS A S) t
      | _ => pItems n (orS A S) r'

def pClass (r : List UInt8) : Res (Nat → Bool) :=
  match r with
  | 94 :: t => match pItems (t.length + 1) (fun _ => false) t with
    | .ok S r' => .ok (fun n => !S n) r'
    | .bad r' => .bad r'
  | _ => pItems (r.length + 1) (fun _ => false) r

def beginsNum (value least : Int) : Bool :=
  if 30 < value then false else if least ≤ value then true else if value = 0 then false else
  if 30 < value * 10 then false else if least ≤ value * 10 + 9 then true else false

/-- The digits of a number of a count: its value so far; whether it has begun. -/
def pDigits (least : Int) : Int → Bool → List UInt8 → Res Int
  | value, begun, c :: t =>
    if 48 ≤ c.toNat ∧ c.toNat ≤ 57 ∧ ¬ (begun = true ∧ value = 0) ∧ beginsNum (value * 10 + (c.toNat - 48)) least = true then pDigits least (value * 10 + (c.toNat - 48)) true t
    else if begun = true ∧ least ≤ value then .ok value (c :: t) else .bad (c :: t)
  | value, begun, [] => if begun = true ∧ least ≤ value then .ok value [] else .bad []

def pBounds (r : List UInt8) : Res (Int × Int) :=
  match pDigits 0 0 false r with
  | .bad r' => .bad r'
  | .ok least r' => match r' with
    | 44 :: 125 :: t => .ok (least, -1) t
    | 44 :: t => match pDigits least 0 false t with
      | .bad r'' => .bad r''
      | .ok most r'' => match r'' with
        | 125 :: t' => .ok (least, most) t'
        | _ => .bad r''
    | 125 :: t => .ok (least, least) t
    | _ => .bad r'

def pCounts : Nat → List UInt8 → Res (List Cnt)
  | 0, r => .bad r
  | n + 1, r => match r with
    | c :: t =>
      if c = 42 ∨ c = 43 ∨ c = 63 then
        match pCounts n t with
        | .ok cs r' => .ok (⟨c, 0, 0⟩ :: cs) r'
        | .bad r' => .bad r'
      else if c = 123 then
        match pBounds t with
        | .bad r' => .bad r'
        | .ok (a, b) r' => match pCounts n r' with
          | .ok cs r'' => .ok (⟨c, a, b⟩ :: cs) r''
          | .bad r'' => .bad r''
      else .ok [] r
    | [] => .ok [] []

def begins : List UInt8 → Bool
  | [] => false
  | c :: _ => c == 46 || c == 92 || c == 91 || c == 40 || !isSg c

mutual
def pChoices : Nat → List UInt8 → Res (List (List Prt))
  | 0, r => .bad r
  | n + 1, r => match pChain n r with
    | .bad r' => .bad r'
    | .ok c r' => match r' with
      | 124 :: t => match pChoices n t with
        | .ok cs r'' => .ok (c :: cs) r''
        | .bad r'' => .bad r''
      | _ => .ok [c] r'
def pChain : Nat → List UInt8 → Res (List Prt)
  | 0, r => .bad r
  | n + 1, r => if begins r then
      match pPart n r with
      | .bad r' => .bad r'
      | .ok p r' => match pChain n r' with
        | .ok ps r'' => .ok (p :: ps) r''
        | .bad r'' => .bad r''
    else .ok [] r
def pPart : Nat → List UInt8 → Res Prt
  | 0, r => .bad r
  | n + 1, r => match pAtom n r with
    | .bad r' => .bad r'
    | .ok (g, S) r' => match pCounts (r'.length + 1) r' with
      | .ok cs r'' => .ok (.mk g S cs) r''
      | .bad r'' => .bad r''
def pAtom : Nat → List UInt8 → Res (List (List Prt) × (Nat → Bool))
  | 0, r => .bad r
  | n + 1, r => match r with
    | [] => .bad []
    | c :: t =>
      if c = 40 then
        match pChoices n t with
        | .bad r' => .bad r'
        | .ok cs r' => match r' with
          | 41 :: t' => .ok (cs, fun _ => false) t'
          | _ => .bad r'
      else if c = 91 then
        match pClass t with
        | .ok S r' => .ok ([], S) r'
        | .bad r' => .bad r'
      else if c = 92 then
        match pEscape t with
        | .ok S r' => .ok ([], S) r'
        | .bad r' => .bad r'
      else if c = 46 then .ok ([], fun n => !inSpan 10 10 n) t
      else .ok ([], inSpan c.toNat c.toNat) t
end

/- How many groups lie in one another. -/
mutual
def nestP : Prt → Nat
  | .mk g _ _ => match g with
    | [] => 0
    | c :: cs => 1 + max (nestC c) (nestCs cs)
def nestC : List Prt → Nat
  | [] => 0
  | p :: ps => max (nestP p) (nestC ps)
def nestCs : List (List Prt) → Nat
  | [] => 0
  | c :: cs => max (nestC c) (nestCs cs)
end

structure Ptn where
  front : Bool
  back : Bool
  choices : List (List Prt)

def pPattern (l : List UInt8) : Res Ptn :=
  let front := match l with
    | 94 :: _ => true
    | _ => false
  let r := match l with
    | 94 :: t => t
    | _ => l
  match pChoices (4 * r.length + 4) r with
  | .bad r' => .bad r'
  | .ok cs r' => match r' with
    | 36 :: t => match t with
      | [] => .ok ⟨front, true, cs⟩ []
      | _ => .bad t
    | [] => .ok ⟨front, false, cs⟩ []
    | _ => .bad r'

end Go.Proofs.YtbjabpodkaokjaaDoor

namespace Go.Proofs.YtbjabpodkaokjaaDoor
open Go.RowKit

/-- The reader lies in block b: its text, its place, how many groups are open, the most that were. -/
structure RdAt (w : World) (b : Nat) (s : ByteArray) (k : Nat) (d e : Int) : Prop where
  c0 : w.cell? ⟨b, 0, none⟩ = some (.string s)
  c1 : w.cell? ⟨b, 1, none⟩ = some (.int .i64 k)
  c2 : w.cell? ⟨b, 2, none⟩ = some (.int .i64 d)
  c3 : w.cell? ⟨b, 3, none⟩ = some (.int .i64 e)
  fz : ∀ o, w.frozen? ⟨b, o, none⟩ = false
  lt : b < w.heap.size

/-- w' is w, but for block b, new blocks and draws. -/
structure Rd (b : Nat) (w w' : World) : Prop where
  os : w'.os = w.os
  tape : w'.tape = w.tape
  output : w'.output = w.output
  size : w.heap.size ≤ w'.heap.size
  block : ∀ k, k < w.heap.size → k ≠ b → w'.heap[k]? = w.heap[k]?

theorem Rd.refl (b : Nat) (w : World) : Rd b w w := ⟨rfl, rfl, rfl, Nat.le_refl _, fun _ _ _ => rfl⟩
theorem Rd.trans {b : Nat} {x y z : World} (h : Rd b x y) (g : Rd b y z) : Rd b x z :=
  ⟨g.os.trans h.os, g.tape.trans h.tape, g.output.trans h.output, Nat.le_trans h.size g.size, fun k hk hb => (g.block k (Nat.lt_of_lt_of_le hk h.size) hb).trans (h.block k hk hb)⟩
theorem Rd.of_below {b : Nat} {w w' : World} (h : Below w.heap.size w w') : Rd b w w' := ⟨h.os, h.tape, h.output, h.size, fun k hk _ => h.block k hk⟩
theorem Rd.drewN {b : Nat} {x w : World} (h : Rd b x w) (n : Nat) : Rd b x (w.drewN n) := ⟨h.os, h.tape, h.output, h.size, h.block⟩
theorem Rd.drew {b : Nat} {x w : World} (h : Rd b x w) : Rd b x w.drew := ⟨h.os, h.tape, h.output, h.size, h.block⟩
theorem Rd.setCell {b : Nat} {x w : World} (h : Rd b x w) (o : Nat) (v : Value) : Rd b x (w.setCell ⟨b, o, none⟩ v) :=
  h.trans ⟨rfl, rfl, rfl, by simp [World.setCell], fun k _ hb => Below.heap_setCell _ _ _ _ hb⟩
theorem Rd.alloc {b : Nat} {x w : World} (h : Rd b x w) (o : Obj) : Rd b x (w.alloc o) :=
  h.trans ⟨rfl, rfl, rfl, by simp, fun k hk _ => Below.heap_alloc _ _ _ hk⟩

theorem RdAt.drewN {w : World} {b : Nat} {s : ByteArray} {k : Nat} {d e : Int} (h : RdAt w b s k d e) (n : Nat) : RdAt (w.drewN n) b s k d e := ⟨h.c0, h.c1, h.c2, h.c3, h.fz, h.lt⟩
theorem RdAt.drew {w : World} {b : Nat} {s : ByteArray} {k : Nat} {d e : Int} (h : RdAt w b s k d e) : RdAt w.drew b s k d e := ⟨h.c0, h.c1, h.c2, h.c3, h.fz, h.lt⟩
theorem RdAt.step {w : World} {b : Nat} {s : ByteArray} {k : Nat} {d e : Int} (h : RdAt w b s k d e) (j : Nat) : RdAt (w.setCell ⟨b, 1, none⟩ (.int .i64 j)) b s j d e := by
  obtain ⟨c0, c1, c2, c3, fz, lt⟩ := h
  constructor <;> (try intro o) <;> simp [c0, c1, c2, c3, fz, lt, go_sem]
theorem RdAt.below {w w' : World} {B b : Nat} {s : ByteArray} {k : Nat} {d e : Int} (h : RdAt w b s k d e) (hb : Below B w w') (hB : b < B) : RdAt w' b s k d e :=
  ⟨(hb.cell hB).trans h.c0, (hb.cell hB).trans h.c1, (hb.cell hB).trans h.c2, (hb.cell hB).trans h.c3, fun o => (hb.frozen (p := ⟨b, o, none⟩) hB).trans (h.fz o), Nat.lt_of_lt_of_le h.lt hb.size⟩

/-- What every method of the reader leaves: the reader at its place, all other old blocks as they were. -/
abbrev RdTo (w w' : World) (b : Nat) (s : ByteArray) (k : Nat) (d e : Int) : Prop := RdAt w' b s k d e ∧ Rd b w w'

theorem RdTo.trans {w x y : World} {b : Nat} {s : ByteArray} {k k' : Nat} {d d' e e' : Int} (h : RdTo w x b s k d e) (g : RdTo x y b s k' d' e') : RdTo w y b s k' d' e' := ⟨g.1, h.2.trans g.2⟩

set_option maxHeartbeats 400000 in
theorem peek_some (w : World) (b : Nat) (s : ByteArray) (k : Nat) (d x : Int) (h : RdAt w b s k d x) (hs : s.size ≤ 200) (hk : k < s.size) :
    Calls Tryd.prog 31 #[.pointer (some ⟨b, 0, none⟩)] w fun e w' => e = .returned (.tuple #[.int .u8 s[k].toNat, .bool true]) ∧ RdTo w w' b s k d x := by
  have h' := h
  obtain ⟨c0, c1, c2, c3, fz, lt⟩ := h
  have hne : ((k : Int) == s.size) = false := by simp; omega
  go_enter Tryd.func31, Tryd.ntmps31
  go_wp2
  go_quiet (fail)
  go_wp2
  go_quiet (fail)
  go_wp2
  go_ret2
  exact ⟨rfl, (h'.drewN _).drewN _, ((Rd.refl _ _).drewN _).drewN _⟩

set_option maxHeartbeats 400000 in
theorem peek_none (w : World) (b : Nat) (s : ByteArray) (k : Nat) (d x : Int) (h : RdAt w b s k d x) (hs : s.size ≤ 200) (hk : k = s.size) :
    Calls Tryd.prog 31 #[.pointer (some ⟨b, 0, none⟩)] w fun e w' => e = .returned (.tuple #[.int .u8 0, .bool false]) ∧ RdTo w w' b s k d x := by
  have h' := h
  subst hk
  obtain ⟨c0, c1, c2, c3, fz, lt⟩ := h
  go_enter Tryd.func31, Tryd.ntmps31
  go_wp2
  go_quiet (fail)
  go_wp2
  go_ret2
  exact ⟨rfl, h'.drewN _, (Rd.refl _ _).drewN _⟩

set_option maxHeartbeats 400000 in
theorem take_yes (w : World) (b : Nat) (s : ByteArray) (k : Nat) (d x c : Int) (h : RdAt w b s k d x) (hs : s.size ≤ 200) (hk : k < s.size) (hc : (s[k].toNat : Int) = c) :
    Calls Tryd.prog 18 #[.pointer (some ⟨b, 0, none⟩), .int .u8 c] w fun e w' => e = .returned (.bool true) ∧ RdTo w w' b s (k + 1) d x := by
  have hc' : ((s[k].toNat : Int) != c) = false := by simpa using hc
  have HC : Hid ((s[k].toNat : Int) = c) := hc
  clear hc
  have hp := fun w h => peek_some w b s k d x h hs hk
  go_enter Tryd.func18, Tryd.ntmps18
  go_wp2_with (go_at_call 31; refine (hp _ h).mono ?_; rintro e w1 ⟨rfl, h1, hr1⟩; have h1' := h1; obtain ⟨c0, c1, c2, c3, fz, lt⟩ := h1)
  go_ret
  exact ⟨rfl, h1'.step (k + 1), hr1.setCell _ _⟩

set_option maxHeartbeats 400000 in
theorem take_no (w : World) (b : Nat) (s : ByteArray) (k : Nat) (d x c : Int) (h : RdAt w b s k d x) (hs : s.size ≤ 200) (hk : k < s.size) (hc : (s[k].toNat : Int) ≠ c) :
    Calls Tryd.prog 18 #[.pointer (some ⟨b, 0, none⟩), .int .u8 c] w fun e w' => e = .returned (.bool false) ∧ RdTo w w' b s k d x := by
  have hc' : ((s[k].toNat : Int) != c) = true := by simpa using hc
  have hp := fun w h => peek_some w b s k d x h hs hk
  go_enter Tryd.func18, Tryd.ntmps18
  go_wp2_with (go_at_call 31; refine (hp _ h).mono ?_; rintro e w1 ⟨rfl, h1, hr1⟩)
  go_ret
  exact ⟨rfl, h1, hr1⟩

set_option maxHeartbeats 400000 in
theorem take_end (w : World) (b : Nat) (s : ByteArray) (k : Nat) (d x c : Int) (h : RdAt w b s k d x) (hs : s.size ≤ 200) (hk : k = s.size) :
    Calls Tryd.prog 18 #[.pointer (some ⟨b, 0, none⟩), .int .u8 c] w fun e w' => e = .returned (.bool false) ∧ RdTo w w' b s k d x := by
  have hp := fun w h => peek_none w b s k d x h hs hk
  go_enter Tryd.func18, Tryd.ntmps18
  go_wp2_with (go_at_call 31; refine (hp _ h).mono ?_; rintro e w1 ⟨rfl, h1, hr1⟩)
  go_ret
  exact ⟨rfl, h1, hr1⟩
end Go.Proofs.YtbjabpodkaokjaaDoor

namespace Go.Proofs.YtbjabpodkaokjaaDoor
open Go.RowKit

def SG : Array Value := #[.int .u8 92, .int .u8 46, .int .u8 91, .int .u8 93, .int .u8 40, .int .u8 41, .int .u8 123, .int .u8 125, .int .u8 124, .int .u8 42, .int .u8 43, .int .u8 63, .int .u8 94, .int .u8 36]
def SE : Array Value := #[.int .u8 100, .int .u8 48, .int .u8 57, .int .u8 119, .int .u8 48, .int .u8 57, .int .u8 119, .int .u8 65, .int .u8 90, .int .u8 119, .int .u8 95, .int .u8 95, .int .u8 119, .int .u8 97, .int .u8 122, .int .u8 115, .int .u8 9, .int .u8 10, .int .u8 115, .int .u8 13, .int .u8 13, .int .u8 115, .int .u8 32, .int .u8 32]
def BE : Array Value := #[.int .u8 110, .int .u8 10, .int .u8 116, .int .u8 9]

/-- The program's three tables lie as its text lays them. -/
structure Tabs (w : World) : Prop where
  g0 : ∃ t fr, w.heap[0]? = some (.cells SG t fr)
  g1 : ∃ t fr, w.heap[1]? = some (.cells SE t fr)
  g2 : ∃ t fr, w.heap[2]? = some (.cells BE t fr)

theorem Tabs.lt {w : World} (h : Tabs w) : 2 < w.heap.size := by
  obtain ⟨t, fr, h2⟩ := h.g2
  rcases Nat.lt_or_ge 2 w.heap.size with h | h
  · exact h
  · simp [Array.getElem?_eq_none h] at h2
theorem Tabs.of_block {w w' : World} (h : Tabs w) (hb : ∀ k, k < 3 → w'.heap[k]? = w.heap[k]?) : Tabs w' := by
  obtain ⟨⟨t0, f0, h0⟩, ⟨t1, f1, h1⟩, ⟨t2, f2, h2⟩⟩ := h
  exact ⟨⟨t0, f0, (hb 0 (by omega)).trans h0⟩, ⟨t1, f1, (hb 1 (by omega)).trans h1⟩, ⟨t2, f2, (hb 2 (by omega)).trans h2⟩⟩

theorem sg_index0 (w : World) : (Instr.index 100 (.agg SG) (.int .i64 0)).run Tryd.prog w = .ok (.int .u8 92) w := by kernel_rfl
theorem sg_index1 (w : World) : (Instr.index 100 (.agg SG) (.int .i64 1)).run Tryd.prog w = .ok (.int .u8 46) w := by kernel_rfl
theorem sg_index2 (w : World) : (Instr.index 100 (.agg SG) (.int .i64 2)).run Tryd.prog w = .ok (.int .u8 91) w := by kernel_rfl
theorem sg_index3 (w : World) : (Instr.index 100 (.agg SG) (.int .i64 3)).run Tryd.prog w = .ok (.int .u8 93) w := by kernel_rfl
theorem sg_index4 (w : World) : (Instr.index 100 (.agg SG) (.int .i64 4)).run Tryd.prog w = .ok (.int .u8 40) w := by kernel_rfl
theorem sg_index5 (w : World) : (Instr.index 100 (.agg SG) (.int .i64 5)).run Tryd.prog w = .ok (.int .u8 41) w := by kernel_rfl
theorem sg_index6 (w : World) : (Instr.index 100 (.agg SG) (.int .i64 6)).run Tryd.prog w = .ok (.int .u8 123) w := by kernel_rfl
theorem sg_index7 (w : World) : (Instr.index 100 (.agg SG) (.int .i64 7)).run Tryd.prog w = .ok (.int .u8 125) w := by kernel_rfl
theorem sg_index8 (w : World) : (Instr.index 100 (.agg SG) (.int .i64 8)).run Tryd.prog w = .ok (.int .u8 124) w := by kernel_rfl
theorem sg_index9 (w : World) : (Instr.index 100 (.agg SG) (.int .i64 9)).run Tryd.prog w = .ok (.int .u8 42) w := by kernel_rfl
theorem sg_index10 (w : World) : (Instr.index 100 (.agg SG) (.int .i64 10)).run Tryd.prog w = .ok (.int .u8 43) w := by kernel_rfl
theorem sg_index11 (w : World) : (Instr.index 100 (.agg SG) (.int .i64 11)).run Tryd.prog w = .ok (.int .u8 63) w := by kernel_rfl
theorem sg_index12 (w : World) : (Instr.index 100 (.agg SG) (.int .i64 12)).run Tryd.prog w = .ok (.int .u8 94) w := by kernel_rfl
theorem sg_index13 (w : World) : (Instr.index 100 (.agg SG) (.int .i64 13)).run Tryd.prog w = .ok (.int .u8 36) w := by kernel_rfl
theorem sg_index (k : Nat) (h : k < 14) (w : World) : (Instr.index 100 (.agg SG) (.int .i64 k)).run Tryd.prog w = .ok (.int .u8 (signs14.getD k 0)) w := by
  match k, h with
  | 0, _ => exact sg_index0 w
  | 1, _ => exact sg_index1 w
  | 2, _ => exact sg_index2 w
  | 3, _ => exact sg_index3 w
  | 4, _ => exact sg_index4 w
  | 5, _ => exact sg_index5 w
  | 6, _ => exact sg_index6 w
  | 7, _ => exact sg_index7 w
  | 8, _ => exact sg_index8 w
  | 9, _ => exact sg_index9 w
  | 10, _ => exact sg_index10 w
  | 11, _ => exact sg_index11 w
  | 12, _ => exact sg_index12 w
  | 13, _ => exact sg_index13 w
  | n + 14, h => exact absurd h (by omega)

set_option maxHeartbeats 400000 in
theorem isSign_any (c : Int) (w : World) (hT : Tabs w) (h0 : 0 ≤ c) (h1 : c ≤ 255) :
    Calls Tryd.prog 45 #[.int .u8 c] w fun e w' => e = .returned (.bool (isSignB c)) ∧ w' = w := by
  obtain ⟨⟨tt, fr, hg⟩, -, -⟩ := hT
  go_enter Tryd.func45, Tryd.ntmps45
  go_wp2_with (refine wpList_load_row rfl 100 _ rfl 0 rfl tt _ fr _ hg Tryd.underlying100 rfl (by kernel_rfl) ?_)
  go_loop [6] (fun i => ∃ k : Nat, k ≤ 14 ∧ i = .int .i64 k ∧ ∀ j, j < k → signs14.getD j 0 ≠ c) (fun i => 14 - (intOf i).toNat)
  case atStart => exact ⟨0, Nat.zero_le _, rfl, fun j hj => absurd hj (Nat.not_lt_zero _)⟩
  case round =>
    obtain ⟨k, hk, rfl, hno⟩ := hrel
    have HNO : Hid (∀ j, j < k → signs14.getD j 0 ≠ c) := hno
    clear hno
    by_cases hlt : k < 14
    · have hix := sg_index k hlt
      obtain ⟨z, hz⟩ : ∃ z, z = signs14.getD k 0 := ⟨_, rfl⟩
      rw [← hz] at hix
      have HZ : Hid (z = signs14.getD k 0) := hz
      clear hz
      by_cases hzc : z = c
      · have hzc' : (z == c) = true := by simpa using hzc
        have HZC : Hid (z = c) := hzc
        clear hzc
        go_wp2
        go_ret
        exact ⟨ret_bool (isSign_of_at k hlt c (by rw [← HZ.out]; exact HZC.out)).symm, rfl⟩
      · have hzc' : (z == c) = false := by simpa using hzc
        go_wp2
        go_round
        case rel =>
          refine ⟨k + 1, by omega, by go_num, fun j hj => ?_⟩
          by_cases e : j = k
          · subst e; rw [← HZ.out]; exact hzc
          · exact HNO.out j (by omega)
        case measure => simp [intOf]; omega
    · go_wp2
      go_ret
      exact ⟨ret_bool (isSign_none c (fun j hj => HNO.out j (by omega))).symm, rfl⟩
theorem be_index0 (w : World) : (Instr.index 127 (.agg BE) (.int .i64 0)).run Tryd.prog w = .ok (.agg #[.int .u8 110, .int .u8 10]) w := by kernel_rfl
theorem be_index1 (w : World) : (Instr.index 127 (.agg BE) (.int .i64 1)).run Tryd.prog w = .ok (.agg #[.int .u8 116, .int .u8 9]) w := by kernel_rfl

def escB (c : Int) : Option Int := if isSignB c || c == 45 then some c else if c == 110 then some 10 else if c == 116 then some 9 else none

set_option maxHeartbeats 1000000 in
theorem escapedByte_any (c : Int) (w : World) (hT : Tabs w) (h0 : 0 ≤ c) (h1 : c ≤ 255) :
    Calls Tryd.prog 75 #[.int .u8 c] w fun e w' => e = .returned (.tuple #[.int .u8 ((escB c).getD 0), .bool (escB c).isSome]) ∧ Below w.heap.size w w' := by
  have hsg := fun w h => isSign_any c w h h0 h1
  obtain ⟨v, hv⟩ : ∃ v, v = isSignB c := ⟨_, rfl⟩
  rw [← hv] at hsg
  have hT' := hT
  obtain ⟨-, -, ⟨tt, fr, hg⟩⟩ := hT
  have b0 := be_index0
  have b1 := be_index1
  by_cases hs : v || c == 45
  · have e : escB c = some c := by simp only [escB, ← hv, hs, if_true]
    have HE : Hid (escB c = some c) := e
    clear e hv
    cases v
    · have h45 : (c == 45) = true := by simpa using hs
      go_enter Tryd.func75, Tryd.ntmps75
      go_wp2_with (go_at_call 45; refine (hsg _ hT').mono ?_; rintro e w' ⟨rfl, hw⟩; obtain rfl := hw.symm)
      go_ret2
      rw [HE.out]
      exact ⟨rfl, Below.refl _ _⟩
    · go_enter Tryd.func75, Tryd.ntmps75
      go_wp2_with (go_at_call 45; refine (hsg _ hT').mono ?_; rintro e w' ⟨rfl, hw⟩; obtain rfl := hw.symm)
      go_ret2
      rw [HE.out]
      exact ⟨rfl, Below.refl _ _⟩
  · have hv' : v = false := by cases v <;> simp at hs ⊢
    subst hv'
    have h45 : (c == 45) = false := by simpa using hs
    clear hs
    have HE : Hid (escB c = if c == 110 then some 10 else if c == 116 then some 9 else none) := by
      show escB c = _
      simp only [escB, ← hv, h45]; simp
    clear hv
    go_enter Tryd.func75, Tryd.ntmps75
    go_wp2_with (first | (go_at_call 45; refine (hsg _ hT').mono ?_; rintro e w' ⟨rfl, hw⟩; obtain rfl := hw.symm) | refine wpList_load_row rfl 127 _ rfl 2 rfl tt _ fr _ hg Tryd.underlying127 rfl (by kernel_rfl) ?_)
    go_loopw [14] (fun i wr => ∃ k : Nat, k ≤ 2 ∧ i = .int .i64 k ∧ (0 < k → c ≠ 110) ∧ (1 < k → c ≠ 116) ∧ Below w.heap.size w wr) (fun i _ => 2 - (intOf i).toNat)
    case atStart => exact ⟨0, Nat.zero_le _, rfl, fun h => absurd h (by omega), fun h => absurd h (by omega), Below.refl _ _⟩
    case round =>
      obtain ⟨k, hk, rfl, ha, hb, hbl⟩ := hrel
      have hwr : w.heap.size ≤ wr.heap.size := hbl.size
      match k, hk with
      | 0, _ =>
        by_cases h110 : c = 110
        · subst h110
          go_wp2
          go_ret2
          rw [HE.out]
          exact ⟨rfl, hbl.alloc hwr _⟩
        · have h' : ((110 : Int) == c) = false := by simpa using fun e => h110 e.symm
          go_wp2
          go_roundw
          case rel => exact ⟨1, by omega, by go_num, fun _ => h110, fun h => absurd h (by omega), hbl.alloc hwr _⟩
          case measure => simp [intOf]
      | 1, _ =>
        have h110 := ha (by omega)
        by_cases h116 : c = 116
        · subst h116
          go_wp2
          go_ret2
          rw [HE.out]
          exact ⟨rfl, hbl.alloc hwr _⟩
        · have h' : ((116 : Int) == c) = false := by simpa using fun e => h116 e.symm
          go_wp2
          go_roundw
          case rel => exact ⟨2, by omega, by go_num, fun _ => h110, fun _ => h116, hbl.alloc hwr _⟩
          case measure => simp [intOf]
      | 2, _ =>
        have h110 := ha (by omega)
        have h116 := hb (by omega)
        go_wp2
        go_ret2
        rw [HE.out]
        exact ⟨by simp [h110, h116], hbl⟩
end Go.Proofs.YtbjabpodkaokjaaDoor
