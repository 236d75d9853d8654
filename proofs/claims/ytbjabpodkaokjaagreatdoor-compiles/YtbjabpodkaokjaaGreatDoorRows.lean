/-
  NARROWER THAN 'FOR EVERY INPUT', by the rows' own cells (each row's printed sentence says how): Machines: laid · Tables: laid · Compiles: laid · Least: laid · Limits: laid · Alike: laid · Found: laid · Spoilt: laid · All: laid.
  DERIVED. THE GIVEN ROWS OF THIS SEAT. 9 by the template 'for every input the law returns true; each argument reads behind the call as it read before'; 0 by the template 'total and deterministic' (their statements: YtbjabpodkaokjaaGreatDoorTotals.lean).
  GIVEN WITH THE SEED: the statements are not yours to turn. If you find one false, say at which input.
  Laid BY PROGRAM, IN A SANDBOX (cutbox-rows.mjs): the forced cells as the released guide's own fill.sh prints them over the translation b819f349c8d2ac99… (all of the seat's roots in one cut). By AI agents, Wed Nov 11 2026. No macro, syntax, notation, axiom, sorry.
-/
import Derived.Test.YtbjabpodkaokjaaGreatDoorChecked
import GoSem.Claim
import GoSem.ClaimJoined
import GoSem.ClaimMapViews
import Derived.JoinedTies
import Derived.KernelRfl
namespace Go.Proofs.YtbjabpodkaokjaaGreatDoor
/- THE CELL 'sum', in the pinned program and in every row, IS THE sha256 OF THE DUMP (.gsa) THAT YtbjabpodkaokjaaGreatDoorProg.lean LOADS. Nothing in Lean hashes anything: it is a label: what it is worth is what the hold of that sum in a sandbox is worth. -/
noncomputable def Tryz.pinned : Pinned := { name := "ytbjabpodkaokjaagreatdoor", sum := "b819f349c8d2ac99cfca55b583257bcc9c34087079223fa63e8357e59801c8d2", checked := Tryz.checked }
namespace Rows
def none {H : Type} : Left H := { results := [], args := [] }

/- WHAT THE LISTED PACKAGE-LEVEL VARIABLES READ AS WHEN THE CALL BEGINS. Each datum BY PROGRAM (the guide's laid-datum.mjs) off the statement by which the dump's own 'gosem.cut.vars' lays the variable. In a bare row this is a premise. The card (YtbjabpodkaokjaaGreatDoorCards.lean) ties it to the program's text. -/
def laid_math_bits_deBruijn32tab {H : Type} : DataW H := .agg [.lit (.int .u8 0), .lit (.int .u8 1), .lit (.int .u8 28), .lit (.int .u8 2), .lit (.int .u8 29), .lit (.int .u8 14), .lit (.int .u8 24), .lit (.int .u8 3), .lit (.int .u8 30), .lit (.int .u8 22), .lit (.int .u8 20), .lit (.int .u8 15), .lit (.int .u8 25), .lit (.int .u8 17), .lit (.int .u8 4), .lit (.int .u8 8), .lit (.int .u8 31), .lit (.int .u8 27), .lit (.int .u8 13), .lit (.int .u8 23), .lit (.int .u8 21), .lit (.int .u8 19), .lit (.int .u8 16), .lit (.int .u8 7), .lit (.int .u8 26), .lit (.int .u8 12), .lit (.int .u8 18), .lit (.int .u8 6), .lit (.int .u8 11), .lit (.int .u8 5), .lit (.int .u8 10), .lit (.int .u8 9)]
def laid_math_bits_deBruijn64tab {H : Type} : DataW H := .agg [.lit (.int .u8 0), .lit (.int .u8 1), .lit (.int .u8 56), .lit (.int .u8 2), .lit (.int .u8 57), .lit (.int .u8 49), .lit (.int .u8 28), .lit (.int .u8 3), .lit (.int .u8 61), .lit (.int .u8 58), .lit (.int .u8 42), .lit (.int .u8 50), .lit (.int .u8 38), .lit (.int .u8 29), .lit (.int .u8 17), .lit (.int .u8 4), .lit (.int .u8 62), .lit (.int .u8 47), .lit (.int .u8 59), .lit (.int .u8 36), .lit (.int .u8 45), .lit (.int .u8 43), .lit (.int .u8 51), .lit (.int .u8 22), .lit (.int .u8 53), .lit (.int .u8 39), .lit (.int .u8 33), .lit (.int .u8 30), .lit (.int .u8 24), .lit (.int .u8 18), .lit (.int .u8 12), .lit (.int .u8 5), .lit (.int .u8 63), .lit (.int .u8 55), .lit (.int .u8 48), .lit (.int .u8 27), .lit (.int .u8 60), .lit (.int .u8 41), .lit (.int .u8 37), .lit (.int .u8 16), .lit (.int .u8 46), .lit (.int .u8 35), .lit (.int .u8 44), .lit (.int .u8 21), .lit (.int .u8 52), .lit (.int .u8 32), .lit (.int .u8 23), .lit (.int .u8 11), .lit (.int .u8 54), .lit (.int .u8 26), .lit (.int .u8 40), .lit (.int .u8 15), .lit (.int .u8 34), .lit (.int .u8 20), .lit (.int .u8 31), .lit (.int .u8 10), .lit (.int .u8 25), .lit (.int .u8 14), .lit (.int .u8 19), .lit (.int .u8 9), .lit (.int .u8 13), .lit (.int .u8 8), .lit (.int .u8 7), .lit (.int .u8 6)]
def laid_internal_strconv_uint64pow10 {H : Type} : DataW H := .agg [.lit (.int .u64 1), .lit (.int .u64 10), .lit (.int .u64 100), .lit (.int .u64 1000), .lit (.int .u64 10000), .lit (.int .u64 100000), .lit (.int .u64 1000000), .lit (.int .u64 10000000), .lit (.int .u64 100000000), .lit (.int .u64 1000000000), .lit (.int .u64 10000000000), .lit (.int .u64 100000000000), .lit (.int .u64 1000000000000), .lit (.int .u64 10000000000000), .lit (.int .u64 100000000000000), .lit (.int .u64 1000000000000000), .lit (.int .u64 10000000000000000), .lit (.int .u64 100000000000000000), .lit (.int .u64 1000000000000000000), .lit (.int .u64 10000000000000000000)]
def laid_hasp_syntax_signs {H : Type} : DataW H := .agg [.lit (.int .u8 92), .lit (.int .u8 46), .lit (.int .u8 91), .lit (.int .u8 93), .lit (.int .u8 40), .lit (.int .u8 41), .lit (.int .u8 123), .lit (.int .u8 125), .lit (.int .u8 124), .lit (.int .u8 42), .lit (.int .u8 43), .lit (.int .u8 63), .lit (.int .u8 94), .lit (.int .u8 36)]
def laid_hasp_syntax_byteEscapes {H : Type} : DataW H := .agg [.agg [.lit (.int .u8 110), .lit (.int .u8 10)], .agg [.lit (.int .u8 116), .lit (.int .u8 9)]]
def laid_hasp_syntax_setEscapes {H : Type} : DataW H := .agg [.agg [.lit (.int .u8 100), .lit (.int .u8 48), .lit (.int .u8 57)], .agg [.lit (.int .u8 119), .lit (.int .u8 48), .lit (.int .u8 57)], .agg [.lit (.int .u8 119), .lit (.int .u8 65), .lit (.int .u8 90)], .agg [.lit (.int .u8 119), .lit (.int .u8 95), .lit (.int .u8 95)], .agg [.lit (.int .u8 119), .lit (.int .u8 97), .lit (.int .u8 122)], .agg [.lit (.int .u8 115), .lit (.int .u8 9), .lit (.int .u8 10)], .agg [.lit (.int .u8 115), .lit (.int .u8 13), .lit (.int .u8 13)], .agg [.lit (.int .u8 115), .lit (.int .u8 32), .lit (.int .u8 32)]]

/-- 'hasplaw.Machines': WHATEVER THE INPUT: true; the input reads as it did. -/
def machinesSpec : ChangeSpec := { name := "machines", fn := fun _ => fun
  | [d] => { results := [.lit (.bool true)], args := [d] }
  | _ => none }
def machinesRow : OpenClaim := { program := "ytbjabpodkaokjaagreatdoor", sum := "b819f349c8d2ac99cfca55b583257bcc9c34087079223fa63e8357e59801c8d2", func := "hasp/hasplaw.Machines", spec := "machines", inPlace := ["internal/bytealg.IndexByteString", "internal/bytealg.IndexByte"], unfollowed := true, recurses := true, named := ["hasp/syntax.signs", "hasp/syntax.setEscapes", "hasp/syntax.byteEscapes", "internal/strconv.uint64pow10", "math/bits.deBruijn32tab", "math/bits.deBruijn64tab"], plainKeys := false, apart := false, laid := [("math/bits.deBruijn32tab", laid_math_bits_deBruijn32tab), ("math/bits.deBruijn64tab", laid_math_bits_deBruijn64tab), ("internal/strconv.uint64pow10", laid_internal_strconv_uint64pow10), ("hasp/syntax.signs", laid_hasp_syntax_signs), ("hasp/syntax.byteEscapes", laid_hasp_syntax_byteEscapes), ("hasp/syntax.setEscapes", laid_hasp_syntax_setEscapes)] }
def MachinesSaid : Prop := machinesRow.holds Tryz.pinned (OpenSpec.ofChange machinesSpec)

/-- ITS FALSE NEIGHBOUR: 'it returns false'. Refute it at one input. -/
def machinesWrong : ChangeSpec := { name := "machines", fn := fun _ => fun
  | [d] => { results := [.lit (.bool false)], args := [d] }
  | _ => none }
def MachinesWrongFalsely : Prop := machinesRow.holds Tryz.pinned (OpenSpec.ofChange machinesWrong)

/-- 'hasplaw.Tables': WHATEVER THE INPUT: true; the input reads as it did. -/
def tablesSpec : ChangeSpec := { name := "tables", fn := fun _ => fun
  | [d] => { results := [.lit (.bool true)], args := [d] }
  | _ => none }
def tablesRow : OpenClaim := { program := "ytbjabpodkaokjaagreatdoor", sum := "b819f349c8d2ac99cfca55b583257bcc9c34087079223fa63e8357e59801c8d2", func := "hasp/hasplaw.Tables", spec := "tables", inPlace := ["internal/bytealg.IndexByteString", "internal/bytealg.IndexByte"], unfollowed := true, recurses := true, named := ["hasp/syntax.signs", "hasp/syntax.setEscapes", "hasp/syntax.byteEscapes", "internal/strconv.uint64pow10", "math/bits.deBruijn32tab", "math/bits.deBruijn64tab"], plainKeys := false, apart := false, laid := [("math/bits.deBruijn32tab", laid_math_bits_deBruijn32tab), ("math/bits.deBruijn64tab", laid_math_bits_deBruijn64tab), ("internal/strconv.uint64pow10", laid_internal_strconv_uint64pow10), ("hasp/syntax.signs", laid_hasp_syntax_signs), ("hasp/syntax.byteEscapes", laid_hasp_syntax_byteEscapes), ("hasp/syntax.setEscapes", laid_hasp_syntax_setEscapes)] }
def TablesSaid : Prop := tablesRow.holds Tryz.pinned (OpenSpec.ofChange tablesSpec)

/-- ITS FALSE NEIGHBOUR: 'it returns false'. Refute it at one input. -/
def tablesWrong : ChangeSpec := { name := "tables", fn := fun _ => fun
  | [d] => { results := [.lit (.bool false)], args := [d] }
  | _ => none }
def TablesWrongFalsely : Prop := tablesRow.holds Tryz.pinned (OpenSpec.ofChange tablesWrong)

/-- 'hasplaw.Compiles': WHATEVER THE INPUT: true; the input reads as it did. -/
def compilesSpec : ChangeSpec := { name := "compiles", fn := fun _ => fun
  | [d1, d2] => { results := [.lit (.bool true)], args := [d1, d2] }
  | _ => none }
def compilesRow : OpenClaim := { program := "ytbjabpodkaokjaagreatdoor", sum := "b819f349c8d2ac99cfca55b583257bcc9c34087079223fa63e8357e59801c8d2", func := "hasp/hasplaw.Compiles", spec := "compiles", inPlace := ["internal/bytealg.IndexByteString", "internal/bytealg.IndexByte"], unfollowed := true, recurses := true, named := ["hasp/syntax.signs", "hasp/syntax.setEscapes", "hasp/syntax.byteEscapes", "math/bits.deBruijn64tab"], plainKeys := false, apart := false, laid := [("math/bits.deBruijn64tab", laid_math_bits_deBruijn64tab), ("hasp/syntax.signs", laid_hasp_syntax_signs), ("hasp/syntax.byteEscapes", laid_hasp_syntax_byteEscapes), ("hasp/syntax.setEscapes", laid_hasp_syntax_setEscapes)] }
def CompilesSaid : Prop := compilesRow.holds Tryz.pinned (OpenSpec.ofChange compilesSpec)

/-- ITS FALSE NEIGHBOUR: 'it returns false'. Refute it at one input. -/
def compilesWrong : ChangeSpec := { name := "compiles", fn := fun _ => fun
  | [d1, d2] => { results := [.lit (.bool false)], args := [d1, d2] }
  | _ => none }
def CompilesWrongFalsely : Prop := compilesRow.holds Tryz.pinned (OpenSpec.ofChange compilesWrong)

/-- 'haspkeep.Least': WHATEVER THE INPUT: true; the input reads as it did. -/
def leastSpec : ChangeSpec := { name := "least", fn := fun _ => fun
  | [d1, d2] => { results := [.lit (.bool true)], args := [d1, d2] }
  | _ => none }
def leastRow : OpenClaim := { program := "ytbjabpodkaokjaagreatdoor", sum := "b819f349c8d2ac99cfca55b583257bcc9c34087079223fa63e8357e59801c8d2", func := "hasp/haspkeep.Least", spec := "least", inPlace := ["internal/bytealg.IndexByteString", "internal/bytealg.IndexByte"], unfollowed := true, recurses := true, named := ["hasp/syntax.signs", "hasp/syntax.setEscapes", "hasp/syntax.byteEscapes", "math/bits.deBruijn64tab"], plainKeys := false, apart := false, laid := [("math/bits.deBruijn64tab", laid_math_bits_deBruijn64tab), ("hasp/syntax.signs", laid_hasp_syntax_signs), ("hasp/syntax.byteEscapes", laid_hasp_syntax_byteEscapes), ("hasp/syntax.setEscapes", laid_hasp_syntax_setEscapes)] }
def LeastSaid : Prop := leastRow.holds Tryz.pinned (OpenSpec.ofChange leastSpec)

/-- ITS FALSE NEIGHBOUR: 'it returns false'. Refute it at one input. -/
def leastWrong : ChangeSpec := { name := "least", fn := fun _ => fun
  | [d1, d2] => { results := [.lit (.bool false)], args := [d1, d2] }
  | _ => none }
def LeastWrongFalsely : Prop := leastRow.holds Tryz.pinned (OpenSpec.ofChange leastWrong)

/-- 'haspkeep.Limits': WHATEVER THE INPUT: true; the input reads as it did. -/
def limitsSpec : ChangeSpec := { name := "limits", fn := fun _ => fun
  | [d1, d2, d3] => { results := [.lit (.bool true)], args := [d1, d2, d3] }
  | _ => none }
def limitsRow : OpenClaim := { program := "ytbjabpodkaokjaagreatdoor", sum := "b819f349c8d2ac99cfca55b583257bcc9c34087079223fa63e8357e59801c8d2", func := "hasp/haspkeep.Limits", spec := "limits", inPlace := ["internal/bytealg.IndexByteString", "internal/bytealg.IndexByte"], unfollowed := true, recurses := true, named := ["hasp/syntax.signs", "hasp/syntax.setEscapes", "hasp/syntax.byteEscapes", "math/bits.deBruijn64tab", "internal/strconv.uint64pow10", "math/bits.deBruijn32tab"], plainKeys := false, apart := false, laid := [("math/bits.deBruijn32tab", laid_math_bits_deBruijn32tab), ("math/bits.deBruijn64tab", laid_math_bits_deBruijn64tab), ("internal/strconv.uint64pow10", laid_internal_strconv_uint64pow10), ("hasp/syntax.signs", laid_hasp_syntax_signs), ("hasp/syntax.byteEscapes", laid_hasp_syntax_byteEscapes), ("hasp/syntax.setEscapes", laid_hasp_syntax_setEscapes)] }
def LimitsSaid : Prop := limitsRow.holds Tryz.pinned (OpenSpec.ofChange limitsSpec)

/-- ITS FALSE NEIGHBOUR: 'it returns false'. Refute it at one input. -/
def limitsWrong : ChangeSpec := { name := "limits", fn := fun _ => fun
  | [d1, d2, d3] => { results := [.lit (.bool false)], args := [d1, d2, d3] }
  | _ => none }
def LimitsWrongFalsely : Prop := limitsRow.holds Tryz.pinned (OpenSpec.ofChange limitsWrong)

/-- 'haspkeep.Alike': WHATEVER THE INPUT: true; the input reads as it did. -/
def alikeSpec : ChangeSpec := { name := "alike", fn := fun _ => fun
  | [d1, d2, d3, d4] => { results := [.lit (.bool true)], args := [d1, d2, d3, d4] }
  | _ => none }
def alikeRow : OpenClaim := { program := "ytbjabpodkaokjaagreatdoor", sum := "b819f349c8d2ac99cfca55b583257bcc9c34087079223fa63e8357e59801c8d2", func := "hasp/haspkeep.Alike", spec := "alike", inPlace := ["internal/bytealg.IndexByteString", "internal/bytealg.IndexByte"], unfollowed := true, recurses := true, named := ["hasp/syntax.signs", "hasp/syntax.setEscapes", "hasp/syntax.byteEscapes", "math/bits.deBruijn64tab"], plainKeys := false, apart := false, laid := [("math/bits.deBruijn64tab", laid_math_bits_deBruijn64tab), ("hasp/syntax.signs", laid_hasp_syntax_signs), ("hasp/syntax.byteEscapes", laid_hasp_syntax_byteEscapes), ("hasp/syntax.setEscapes", laid_hasp_syntax_setEscapes)] }
def AlikeSaid : Prop := alikeRow.holds Tryz.pinned (OpenSpec.ofChange alikeSpec)

/-- ITS FALSE NEIGHBOUR: 'it returns false'. Refute it at one input. -/
def alikeWrong : ChangeSpec := { name := "alike", fn := fun _ => fun
  | [d1, d2, d3, d4] => { results := [.lit (.bool false)], args := [d1, d2, d3, d4] }
  | _ => none }
def AlikeWrongFalsely : Prop := alikeRow.holds Tryz.pinned (OpenSpec.ofChange alikeWrong)

/-- 'haspkeep.Found': WHATEVER THE INPUT: true; the input reads as it did. -/
def foundSpec : ChangeSpec := { name := "found", fn := fun _ => fun
  | [d1, d2, d3] => { results := [.lit (.bool true)], args := [d1, d2, d3] }
  | _ => none }
def foundRow : OpenClaim := { program := "ytbjabpodkaokjaagreatdoor", sum := "b819f349c8d2ac99cfca55b583257bcc9c34087079223fa63e8357e59801c8d2", func := "hasp/haspkeep.Found", spec := "found", inPlace := ["internal/bytealg.IndexByteString", "internal/bytealg.IndexByte"], unfollowed := true, recurses := true, named := ["hasp/syntax.signs", "hasp/syntax.setEscapes", "hasp/syntax.byteEscapes", "math/bits.deBruijn64tab"], plainKeys := false, apart := false, laid := [("math/bits.deBruijn64tab", laid_math_bits_deBruijn64tab), ("hasp/syntax.signs", laid_hasp_syntax_signs), ("hasp/syntax.byteEscapes", laid_hasp_syntax_byteEscapes), ("hasp/syntax.setEscapes", laid_hasp_syntax_setEscapes)] }
def FoundSaid : Prop := foundRow.holds Tryz.pinned (OpenSpec.ofChange foundSpec)

/-- ITS FALSE NEIGHBOUR: 'it returns false'. Refute it at one input. -/
def foundWrong : ChangeSpec := { name := "found", fn := fun _ => fun
  | [d1, d2, d3] => { results := [.lit (.bool false)], args := [d1, d2, d3] }
  | _ => none }
def FoundWrongFalsely : Prop := foundRow.holds Tryz.pinned (OpenSpec.ofChange foundWrong)

/-- 'haspkeep.Spoilt': WHATEVER THE INPUT: true; the input reads as it did. -/
def spoiltSpec : ChangeSpec := { name := "spoilt", fn := fun _ => fun
  | [d1, d2, d3, d4, d5] => { results := [.lit (.bool true)], args := [d1, d2, d3, d4, d5] }
  | _ => none }
def spoiltRow : OpenClaim := { program := "ytbjabpodkaokjaagreatdoor", sum := "b819f349c8d2ac99cfca55b583257bcc9c34087079223fa63e8357e59801c8d2", func := "hasp/haspkeep.Spoilt", spec := "spoilt", inPlace := ["internal/bytealg.IndexByteString", "internal/bytealg.IndexByte"], unfollowed := true, recurses := true, named := ["hasp/syntax.signs", "hasp/syntax.setEscapes", "hasp/syntax.byteEscapes", "math/bits.deBruijn64tab"], plainKeys := false, apart := false, laid := [("math/bits.deBruijn64tab", laid_math_bits_deBruijn64tab), ("hasp/syntax.signs", laid_hasp_syntax_signs), ("hasp/syntax.byteEscapes", laid_hasp_syntax_byteEscapes), ("hasp/syntax.setEscapes", laid_hasp_syntax_setEscapes)] }
def SpoiltSaid : Prop := spoiltRow.holds Tryz.pinned (OpenSpec.ofChange spoiltSpec)

/-- ITS FALSE NEIGHBOUR: 'it returns false'. Refute it at one input. -/
def spoiltWrong : ChangeSpec := { name := "spoilt", fn := fun _ => fun
  | [d1, d2, d3, d4, d5] => { results := [.lit (.bool false)], args := [d1, d2, d3, d4, d5] }
  | _ => none }
def SpoiltWrongFalsely : Prop := spoiltRow.holds Tryz.pinned (OpenSpec.ofChange spoiltWrong)

/-- 'hasplaw.All': WHATEVER THE INPUT: true; the input reads as it did. -/
def allSpec : ChangeSpec := { name := "all", fn := fun _ => fun
  | [d] => { results := [.lit (.bool true)], args := [d] }
  | _ => none }
def allRow : OpenClaim := { program := "ytbjabpodkaokjaagreatdoor", sum := "b819f349c8d2ac99cfca55b583257bcc9c34087079223fa63e8357e59801c8d2", func := "hasp/hasplaw.All", spec := "all", inPlace := ["internal/bytealg.IndexByteString", "internal/bytealg.IndexByte"], unfollowed := true, recurses := true, named := ["hasp/syntax.signs", "hasp/syntax.setEscapes", "hasp/syntax.byteEscapes", "math/bits.deBruijn64tab", "internal/strconv.uint64pow10", "math/bits.deBruijn32tab"], plainKeys := false, apart := false, laid := [("math/bits.deBruijn32tab", laid_math_bits_deBruijn32tab), ("math/bits.deBruijn64tab", laid_math_bits_deBruijn64tab), ("internal/strconv.uint64pow10", laid_internal_strconv_uint64pow10), ("hasp/syntax.signs", laid_hasp_syntax_signs), ("hasp/syntax.byteEscapes", laid_hasp_syntax_byteEscapes), ("hasp/syntax.setEscapes", laid_hasp_syntax_setEscapes)] }
def AllSaid : Prop := allRow.holds Tryz.pinned (OpenSpec.ofChange allSpec)

/-- ITS FALSE NEIGHBOUR: 'it returns false'. Refute it at one input. -/
def allWrong : ChangeSpec := { name := "all", fn := fun _ => fun
  | [d] => { results := [.lit (.bool false)], args := [d] }
  | _ => none }
def AllWrongFalsely : Prop := allRow.holds Tryz.pinned (OpenSpec.ofChange allWrong)

/- THE SECOND FORM. 'bulk': how many values and letters a reading holds, each counted each time it is reached (what is shared counts as often as it is met; a slice's spare places count too). A statement '..UptoSaid' is the law's where the arguments, and the package variables that the reading takes, are together of bulk at most 1048576: NARROWER than '..Said'. Prove '..Said' where nothing that the law and all that it calls make is longer than what came in: it says more and counts as full. Else prove '..UptoSaid'. A law counts once. -/
mutual
def uptoBulk {H : Type} : DataW H → Nat
  | .lit (.string bytes) => bytes.length + 1
  | .lit _ => 1
  | .nil => 1
  | .ptr d => uptoBulk d + 1
  | .slice elems spare => uptoBulkAll elems + uptoBulkAll spare + 1
  | .agg parts => uptoBulkAll parts + 1
  | .iface _ d => uptoBulk d + 1
  | .map entries => uptoBulkEntries entries + 1
  | .held _ => 1
def uptoBulkAll {H : Type} : List (DataW H) → Nat
  | [] => 0
  | d :: r => uptoBulk d + uptoBulkAll r
def uptoBulkEntries {H : Type} : List (Lit × DataW H) → Nat
  | [] => 0
  | x :: r => uptoBulkEntry x + uptoBulkEntries r
def uptoBulkEntry {H : Type} : Lit × DataW H → Nat
  | (.string bytes, d) => bytes.length + uptoBulk d + 1
  | (_, d) => uptoBulk d + 1
 end
def uptoSmall : (H : Type) → List (DataW H) → Bool := fun _ ds => decide (uptoBulkAll ds ≤ 1048576)
def OpenSpec.upto (s : _root_.Go.ChangeSpec) : _root_.Go.OpenSpec := { _root_.Go.OpenSpec.ofChange s with cond := some uptoSmall }

/-- 'hasplaw.Machines', WHERE WHAT IT READS IS OF BULK AT MOST 1048576: true; the input reads as it did. -/
def machinesUptoRow : OpenClaim := { program := "ytbjabpodkaokjaagreatdoor", sum := "b819f349c8d2ac99cfca55b583257bcc9c34087079223fa63e8357e59801c8d2", func := "hasp/hasplaw.Machines", spec := "machines", inPlace := ["internal/bytealg.IndexByteString", "internal/bytealg.IndexByte"], unfollowed := true, recurses := true, named := ["hasp/syntax.signs", "hasp/syntax.setEscapes", "hasp/syntax.byteEscapes", "internal/strconv.uint64pow10", "math/bits.deBruijn32tab", "math/bits.deBruijn64tab"], plainKeys := false, apart := false, laid := [("math/bits.deBruijn32tab", laid_math_bits_deBruijn32tab), ("math/bits.deBruijn64tab", laid_math_bits_deBruijn64tab), ("internal/strconv.uint64pow10", laid_internal_strconv_uint64pow10), ("hasp/syntax.signs", laid_hasp_syntax_signs), ("hasp/syntax.byteEscapes", laid_hasp_syntax_byteEscapes), ("hasp/syntax.setEscapes", laid_hasp_syntax_setEscapes)], narrowed := true }
def MachinesUptoSaid : Prop := machinesUptoRow.holds Tryz.pinned (OpenSpec.upto machinesSpec)

/-- 'hasplaw.Tables', WHERE WHAT IT READS IS OF BULK AT MOST 1048576: true; the input reads as it did. -/
def tablesUptoRow : OpenClaim := { program := "ytbjabpodkaokjaagreatdoor", sum := "b819f349c8d2ac99cfca55b583257bcc9c34087079223fa63e8357e59801c8d2", func := "hasp/hasplaw.Tables", spec := "tables", inPlace := ["internal/bytealg.IndexByteString", "internal/bytealg.IndexByte"], unfollowed := true, recurses := true, named := ["hasp/syntax.signs", "hasp/syntax.setEscapes", "hasp/syntax.byteEscapes", "internal/strconv.uint64pow10", "math/bits.deBruijn32tab", "math/bits.deBruijn64tab"], plainKeys := false, apart := false, laid := [("math/bits.deBruijn32tab", laid_math_bits_deBruijn32tab), ("math/bits.deBruijn64tab", laid_math_bits_deBruijn64tab), ("internal/strconv.uint64pow10", laid_internal_strconv_uint64pow10), ("hasp/syntax.signs", laid_hasp_syntax_signs), ("hasp/syntax.byteEscapes", laid_hasp_syntax_byteEscapes), ("hasp/syntax.setEscapes", laid_hasp_syntax_setEscapes)], narrowed := true }
def TablesUptoSaid : Prop := tablesUptoRow.holds Tryz.pinned (OpenSpec.upto tablesSpec)

/-- 'hasplaw.Compiles', WHERE WHAT IT READS IS OF BULK AT MOST 1048576: true; the input reads as it did. -/
def compilesUptoRow : OpenClaim := { program := "ytbjabpodkaokjaagreatdoor", sum := "b819f349c8d2ac99cfca55b583257bcc9c34087079223fa63e8357e59801c8d2", func := "hasp/hasplaw.Compiles", spec := "compiles", inPlace := ["internal/bytealg.IndexByteString", "internal/bytealg.IndexByte"], unfollowed := true, recurses := true, named := ["hasp/syntax.signs", "hasp/syntax.setEscapes", "hasp/syntax.byteEscapes", "math/bits.deBruijn64tab"], plainKeys := false, apart := false, laid := [("math/bits.deBruijn64tab", laid_math_bits_deBruijn64tab), ("hasp/syntax.signs", laid_hasp_syntax_signs), ("hasp/syntax.byteEscapes", laid_hasp_syntax_byteEscapes), ("hasp/syntax.setEscapes", laid_hasp_syntax_setEscapes)], narrowed := true }
def CompilesUptoSaid : Prop := compilesUptoRow.holds Tryz.pinned (OpenSpec.upto compilesSpec)

/-- 'haspkeep.Least', WHERE WHAT IT READS IS OF BULK AT MOST 1048576: true; the input reads as it did. -/
def leastUptoRow : OpenClaim := { program := "ytbjabpodkaokjaagreatdoor", sum := "b819f349c8d2ac99cfca55b583257bcc9c34087079223fa63e8357e59801c8d2", func := "hasp/haspkeep.Least", spec := "least", inPlace := ["internal/bytealg.IndexByteString", "internal/bytealg.IndexByte"], unfollowed := true, recurses := true, named := ["hasp/syntax.signs", "hasp/syntax.setEscapes", "hasp/syntax.byteEscapes", "math/bits.deBruijn64tab"], plainKeys := false, apart := false, laid := [("math/bits.deBruijn64tab", laid_math_bits_deBruijn64tab), ("hasp/syntax.signs", laid_hasp_syntax_signs), ("hasp/syntax.byteEscapes", laid_hasp_syntax_byteEscapes), ("hasp/syntax.setEscapes", laid_hasp_syntax_setEscapes)], narrowed := true }
def LeastUptoSaid : Prop := leastUptoRow.holds Tryz.pinned (OpenSpec.upto leastSpec)

/-- 'haspkeep.Limits', WHERE WHAT IT READS IS OF BULK AT MOST 1048576: true; the input reads as it did. -/
def limitsUptoRow : OpenClaim := { program := "ytbjabpodkaokjaagreatdoor", sum := "b819f349c8d2ac99cfca55b583257bcc9c34087079223fa63e8357e59801c8d2", func := "hasp/haspkeep.Limits", spec := "limits", inPlace := ["internal/bytealg.IndexByteString", "internal/bytealg.IndexByte"], unfollowed := true, recurses := true, named := ["hasp/syntax.signs", "hasp/syntax.setEscapes", "hasp/syntax.byteEscapes", "math/bits.deBruijn64tab", "internal/strconv.uint64pow10", "math/bits.deBruijn32tab"], plainKeys := false, apart := false, laid := [("math/bits.deBruijn32tab", laid_math_bits_deBruijn32tab), ("math/bits.deBruijn64tab", laid_math_bits_deBruijn64tab), ("internal/strconv.uint64pow10", laid_internal_strconv_uint64pow10), ("hasp/syntax.signs", laid_hasp_syntax_signs), ("hasp/syntax.byteEscapes", laid_hasp_syntax_byteEscapes), ("hasp/syntax.setEscapes", laid_hasp_syntax_setEscapes)], narrowed := true }
def LimitsUptoSaid : Prop := limitsUptoRow.holds Tryz.pinned (OpenSpec.upto limitsSpec)

/-- 'haspkeep.Alike', WHERE WHAT IT READS IS OF BULK AT MOST 1048576: true; the input reads as it did. -/
def alikeUptoRow : OpenClaim := { program := "ytbjabpodkaokjaagreatdoor", sum := "b819f349c8d2ac99cfca55b583257bcc9c34087079223fa63e8357e59801c8d2", func := "hasp/haspkeep.Alike", spec := "alike", inPlace := ["internal/bytealg.IndexByteString", "internal/bytealg.IndexByte"], unfollowed := true, recurses := true, named := ["hasp/syntax.signs", "hasp/syntax.setEscapes", "hasp/syntax.byteEscapes", "math/bits.deBruijn64tab"], plainKeys := false, apart := false, laid := [("math/bits.deBruijn64tab", laid_math_bits_deBruijn64tab), ("hasp/syntax.signs", laid_hasp_syntax_signs), ("hasp/syntax.byteEscapes", laid_hasp_syntax_byteEscapes), ("hasp/syntax.setEscapes", laid_hasp_syntax_setEscapes)], narrowed := true }
def AlikeUptoSaid : Prop := alikeUptoRow.holds Tryz.pinned (OpenSpec.upto alikeSpec)

/-- 'haspkeep.Found', WHERE WHAT IT READS IS OF BULK AT MOST 1048576: true; the input reads as it did. -/
def foundUptoRow : OpenClaim := { program := "ytbjabpodkaokjaagreatdoor", sum := "b819f349c8d2ac99cfca55b583257bcc9c34087079223fa63e8357e59801c8d2", func := "hasp/haspkeep.Found", spec := "found", inPlace := ["internal/bytealg.IndexByteString", "internal/bytealg.IndexByte"], unfollowed := true, recurses := true, named := ["hasp/syntax.signs", "hasp/syntax.setEscapes", "hasp/syntax.byteEscapes", "math/bits.deBruijn64tab"], plainKeys := false, apart := false, laid := [("math/bits.deBruijn64tab", laid_math_bits_deBruijn64tab), ("hasp/syntax.signs", laid_hasp_syntax_signs), ("hasp/syntax.byteEscapes", laid_hasp_syntax_byteEscapes), ("hasp/syntax.setEscapes", laid_hasp_syntax_setEscapes)], narrowed := true }
def FoundUptoSaid : Prop := foundUptoRow.holds Tryz.pinned (OpenSpec.upto foundSpec)

/-- 'haspkeep.Spoilt', WHERE WHAT IT READS IS OF BULK AT MOST 1048576: true; the input reads as it did. -/
def spoiltUptoRow : OpenClaim := { program := "ytbjabpodkaokjaagreatdoor", sum := "b819f349c8d2ac99cfca55b583257bcc9c34087079223fa63e8357e59801c8d2", func := "hasp/haspkeep.Spoilt", spec := "spoilt", inPlace := ["internal/bytealg.IndexByteString", "internal/bytealg.IndexByte"], unfollowed := true, recurses := true, named := ["hasp/syntax.signs", "hasp/syntax.setEscapes", "hasp/syntax.byteEscapes", "math/bits.deBruijn64tab"], plainKeys := false, apart := false, laid := [("math/bits.deBruijn64tab", laid_math_bits_deBruijn64tab), ("hasp/syntax.signs", laid_hasp_syntax_signs), ("hasp/syntax.byteEscapes", laid_hasp_syntax_byteEscapes), ("hasp/syntax.setEscapes", laid_hasp_syntax_setEscapes)], narrowed := true }
def SpoiltUptoSaid : Prop := spoiltUptoRow.holds Tryz.pinned (OpenSpec.upto spoiltSpec)

/-- 'hasplaw.All', WHERE WHAT IT READS IS OF BULK AT MOST 1048576: true; the input reads as it did. -/
def allUptoRow : OpenClaim := { program := "ytbjabpodkaokjaagreatdoor", sum := "b819f349c8d2ac99cfca55b583257bcc9c34087079223fa63e8357e59801c8d2", func := "hasp/hasplaw.All", spec := "all", inPlace := ["internal/bytealg.IndexByteString", "internal/bytealg.IndexByte"], unfollowed := true, recurses := true, named := ["hasp/syntax.signs", "hasp/syntax.setEscapes", "hasp/syntax.byteEscapes", "math/bits.deBruijn64tab", "internal/strconv.uint64pow10", "math/bits.deBruijn32tab"], plainKeys := false, apart := false, laid := [("math/bits.deBruijn32tab", laid_math_bits_deBruijn32tab), ("math/bits.deBruijn64tab", laid_math_bits_deBruijn64tab), ("internal/strconv.uint64pow10", laid_internal_strconv_uint64pow10), ("hasp/syntax.signs", laid_hasp_syntax_signs), ("hasp/syntax.byteEscapes", laid_hasp_syntax_byteEscapes), ("hasp/syntax.setEscapes", laid_hasp_syntax_setEscapes)], narrowed := true }
def AllUptoSaid : Prop := allUptoRow.holds Tryz.pinned (OpenSpec.upto allSpec)

end Rows
end Go.Proofs.YtbjabpodkaokjaaGreatDoor
