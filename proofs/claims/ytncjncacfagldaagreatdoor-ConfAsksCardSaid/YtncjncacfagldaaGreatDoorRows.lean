/-
  NARROWER THAN 'FOR EVERY INPUT', by the rows' own cells (each row's printed sentence says how): ConfAsks: loops, laid · ShowExprs: loops, laid · ShowBack: loops, laid · ShowLeast: loops, laid.
  DERIVED. THE GIVEN ROWS OF THIS SEAT. 4 by the template 'for every input the law returns true; each argument reads behind the call as it read before'; 0 by the template 'total and deterministic' (their statements: YtncjncacfagldaaGreatDoorTotals.lean).
  GIVEN WITH THE SEED: the statements are not yours to turn. If you find one false, say at which input.
  Laid BY PROGRAM, IN A SANDBOX (cutbox-rows.mjs): the forced cells as the released guide's own fill.sh prints them over the translation 9136e7f1ab7c7ae7… (all of the seat's roots in one cut). By AI agents, Wed Nov 11 2026. No macro, syntax, notation, axiom, sorry.
-/
import Derived.Test.YtncjncacfagldaaGreatDoorChecked
import GoSem.Claim
import GoSem.ClaimJoined
import GoSem.ClaimMapViews
import Derived.JoinedTies
import Derived.KernelRfl
namespace Go.Proofs.YtncjncacfagldaaGreatDoor
/- THE CELL 'sum', in the pinned program and in every row, IS THE sha256 OF THE DUMP (.gsa) THAT YtncjncacfagldaaGreatDoorProg.lean LOADS. Nothing in Lean hashes anything: it is a label: what it is worth is what the hold of that sum in a sandbox is worth. -/
noncomputable def Tryz.pinned : Pinned := { name := "ytncjncacfagldaagreatdoor", sum := "9136e7f1ab7c7ae734b0010e463d09a70660c1008b8f65c188832e2e6e80383d", checked := Tryz.checked }
namespace Rows
def none {H : Type} : Left H := { results := [], args := [] }

/- WHAT THE LISTED PACKAGE-LEVEL VARIABLES READ AS WHEN THE CALL BEGINS. Each datum BY PROGRAM (the guide's laid-datum.mjs) off the statement by which the dump's own 'gosem.cut.vars' lays the variable. In a bare row this is a premise. The card (YtncjncacfagldaaGreatDoorCards.lean) ties it to the program's text. -/
def laid_surety_lex_classes {H : Type} : DataW H := .agg [.agg [.lit (.int .u64 4294968832), .lit (.int .u64 0), .lit (.int .u64 0), .lit (.int .u64 0)], .agg [.lit (.int .u64 0), .lit (.int .u64 576460745860972544), .lit (.int .u64 0), .lit (.int .u64 0)], .agg [.lit (.int .u64 287948901175001088), .lit (.int .u64 0), .lit (.int .u64 0), .lit (.int .u64 0)], .agg [.lit (.int .u64 287948901175001088), .lit (.int .u64 576460745860972544), .lit (.int .u64 0), .lit (.int .u64 0)], .agg [.lit (.int .u64 17582333466748387328), .lit (.int .u64 2882303762188206080), .lit (.int .u64 0), .lit (.int .u64 0)], .agg [.lit (.int .u64 18446744056529681407), .lit (.int .u64 15564440312192434175), .lit (.int .u64 18446744073709551615), .lit (.int .u64 18446744073709551615)], .agg [.lit (.int .u64 18446744073709550591), .lit (.int .u64 18446744073709551615), .lit (.int .u64 18446744073709551615), .lit (.int .u64 18446744073709551615)]]
def laid_surety_expr_levels {H : Type} : DataW H := .agg [.lit (.int .i64 0), .lit (.int .i64 0), .lit (.int .i64 0), .lit (.int .i64 0), .lit (.int .i64 0), .lit (.int .i64 0), .lit (.int .i64 0), .lit (.int .i64 0), .lit (.int .i64 5), .lit (.int .i64 5), .lit (.int .i64 5), .lit (.int .i64 4), .lit (.int .i64 4), .lit (.int .i64 3), .lit (.int .i64 3), .lit (.int .i64 3), .lit (.int .i64 3), .lit (.int .i64 3), .lit (.int .i64 3), .lit (.int .i64 2), .lit (.int .i64 1), .lit (.int .i64 0), .lit (.int .i64 0), .lit (.int .i64 0), .lit (.int .i64 0), .lit (.int .i64 0), .lit (.int .i64 0)]
def laid_math_bits_deBruijn32tab {H : Type} : DataW H := .agg [.lit (.int .u8 0), .lit (.int .u8 1), .lit (.int .u8 28), .lit (.int .u8 2), .lit (.int .u8 29), .lit (.int .u8 14), .lit (.int .u8 24), .lit (.int .u8 3), .lit (.int .u8 30), .lit (.int .u8 22), .lit (.int .u8 20), .lit (.int .u8 15), .lit (.int .u8 25), .lit (.int .u8 17), .lit (.int .u8 4), .lit (.int .u8 8), .lit (.int .u8 31), .lit (.int .u8 27), .lit (.int .u8 13), .lit (.int .u8 23), .lit (.int .u8 21), .lit (.int .u8 19), .lit (.int .u8 16), .lit (.int .u8 7), .lit (.int .u8 26), .lit (.int .u8 12), .lit (.int .u8 18), .lit (.int .u8 6), .lit (.int .u8 11), .lit (.int .u8 5), .lit (.int .u8 10), .lit (.int .u8 9)]
def laid_math_bits_deBruijn64tab {H : Type} : DataW H := .agg [.lit (.int .u8 0), .lit (.int .u8 1), .lit (.int .u8 56), .lit (.int .u8 2), .lit (.int .u8 57), .lit (.int .u8 49), .lit (.int .u8 28), .lit (.int .u8 3), .lit (.int .u8 61), .lit (.int .u8 58), .lit (.int .u8 42), .lit (.int .u8 50), .lit (.int .u8 38), .lit (.int .u8 29), .lit (.int .u8 17), .lit (.int .u8 4), .lit (.int .u8 62), .lit (.int .u8 47), .lit (.int .u8 59), .lit (.int .u8 36), .lit (.int .u8 45), .lit (.int .u8 43), .lit (.int .u8 51), .lit (.int .u8 22), .lit (.int .u8 53), .lit (.int .u8 39), .lit (.int .u8 33), .lit (.int .u8 30), .lit (.int .u8 24), .lit (.int .u8 18), .lit (.int .u8 12), .lit (.int .u8 5), .lit (.int .u8 63), .lit (.int .u8 55), .lit (.int .u8 48), .lit (.int .u8 27), .lit (.int .u8 60), .lit (.int .u8 41), .lit (.int .u8 37), .lit (.int .u8 16), .lit (.int .u8 46), .lit (.int .u8 35), .lit (.int .u8 44), .lit (.int .u8 21), .lit (.int .u8 52), .lit (.int .u8 32), .lit (.int .u8 23), .lit (.int .u8 11), .lit (.int .u8 54), .lit (.int .u8 26), .lit (.int .u8 40), .lit (.int .u8 15), .lit (.int .u8 34), .lit (.int .u8 20), .lit (.int .u8 31), .lit (.int .u8 10), .lit (.int .u8 25), .lit (.int .u8 14), .lit (.int .u8 19), .lit (.int .u8 9), .lit (.int .u8 13), .lit (.int .u8 8), .lit (.int .u8 7), .lit (.int .u8 6)]
def laid_internal_strconv_uint64pow10 {H : Type} : DataW H := .agg [.lit (.int .u64 1), .lit (.int .u64 10), .lit (.int .u64 100), .lit (.int .u64 1000), .lit (.int .u64 10000), .lit (.int .u64 100000), .lit (.int .u64 1000000), .lit (.int .u64 10000000), .lit (.int .u64 100000000), .lit (.int .u64 1000000000), .lit (.int .u64 10000000000), .lit (.int .u64 100000000000), .lit (.int .u64 1000000000000), .lit (.int .u64 10000000000000), .lit (.int .u64 100000000000000), .lit (.int .u64 1000000000000000), .lit (.int .u64 10000000000000000), .lit (.int .u64 100000000000000000), .lit (.int .u64 1000000000000000000), .lit (.int .u64 10000000000000000000)]
def laid_surety_show_signs {H : Type} : DataW H := .agg [.agg [.lit (.string []), .lit (.int .i64 0), .lit (.int .i64 0), .lit (.int .i64 0)], .agg [.lit (.string []), .lit (.int .i64 0), .lit (.int .i64 0), .lit (.int .i64 0)], .agg [.lit (.string []), .lit (.int .i64 0), .lit (.int .i64 0), .lit (.int .i64 0)], .agg [.lit (.string []), .lit (.int .i64 0), .lit (.int .i64 0), .lit (.int .i64 0)], .agg [.lit (.string []), .lit (.int .i64 0), .lit (.int .i64 0), .lit (.int .i64 0)], .agg [.lit (.string []), .lit (.int .i64 0), .lit (.int .i64 0), .lit (.int .i64 0)], .agg [.lit (.string [33]), .lit (.int .i64 6), .lit (.int .i64 0), .lit (.int .i64 6)], .agg [.lit (.string [45]), .lit (.int .i64 6), .lit (.int .i64 0), .lit (.int .i64 6)], .agg [.lit (.string [32, 42, 32]), .lit (.int .i64 5), .lit (.int .i64 5), .lit (.int .i64 6)], .agg [.lit (.string [32, 47, 32]), .lit (.int .i64 5), .lit (.int .i64 5), .lit (.int .i64 6)], .agg [.lit (.string [32, 37, 32]), .lit (.int .i64 5), .lit (.int .i64 5), .lit (.int .i64 6)], .agg [.lit (.string [32, 43, 32]), .lit (.int .i64 4), .lit (.int .i64 4), .lit (.int .i64 5)], .agg [.lit (.string [32, 45, 32]), .lit (.int .i64 4), .lit (.int .i64 4), .lit (.int .i64 5)], .agg [.lit (.string [32, 60, 32]), .lit (.int .i64 3), .lit (.int .i64 4), .lit (.int .i64 4)], .agg [.lit (.string [32, 60, 61, 32]), .lit (.int .i64 3), .lit (.int .i64 4), .lit (.int .i64 4)], .agg [.lit (.string [32, 62, 32]), .lit (.int .i64 3), .lit (.int .i64 4), .lit (.int .i64 4)], .agg [.lit (.string [32, 62, 61, 32]), .lit (.int .i64 3), .lit (.int .i64 4), .lit (.int .i64 4)], .agg [.lit (.string [32, 61, 61, 32]), .lit (.int .i64 3), .lit (.int .i64 4), .lit (.int .i64 4)], .agg [.lit (.string [32, 33, 61, 32]), .lit (.int .i64 3), .lit (.int .i64 4), .lit (.int .i64 4)], .agg [.lit (.string [32, 38, 38, 32]), .lit (.int .i64 2), .lit (.int .i64 2), .lit (.int .i64 3)], .agg [.lit (.string [32, 124, 124, 32]), .lit (.int .i64 1), .lit (.int .i64 1), .lit (.int .i64 2)], .agg [.lit (.string []), .lit (.int .i64 0), .lit (.int .i64 0), .lit (.int .i64 0)], .agg [.lit (.string []), .lit (.int .i64 0), .lit (.int .i64 0), .lit (.int .i64 0)], .agg [.lit (.string []), .lit (.int .i64 0), .lit (.int .i64 0), .lit (.int .i64 0)], .agg [.lit (.string []), .lit (.int .i64 0), .lit (.int .i64 0), .lit (.int .i64 0)], .agg [.lit (.string []), .lit (.int .i64 0), .lit (.int .i64 0), .lit (.int .i64 0)], .agg [.lit (.string []), .lit (.int .i64 0), .lit (.int .i64 0), .lit (.int .i64 0)]]
def laid_surety_show_counts {H : Type} : DataW H := .agg [.agg [.lit (.int .i64 0), .lit (.int .i64 0)], .agg [.lit (.int .i64 0), .lit (.int .i64 0)], .agg [.lit (.int .i64 0), .lit (.int .i64 0)], .agg [.lit (.int .i64 1), .lit (.int .i64 1)], .agg [.lit (.int .i64 2), .lit (.int .i64 2)], .agg [.lit (.int .i64 0), .lit (.int .i64 128)], .agg [.lit (.int .i64 1), .lit (.int .i64 1)], .agg [.lit (.int .i64 1), .lit (.int .i64 1)], .agg [.lit (.int .i64 2), .lit (.int .i64 2)], .agg [.lit (.int .i64 2), .lit (.int .i64 2)], .agg [.lit (.int .i64 2), .lit (.int .i64 2)], .agg [.lit (.int .i64 2), .lit (.int .i64 2)], .agg [.lit (.int .i64 2), .lit (.int .i64 2)], .agg [.lit (.int .i64 2), .lit (.int .i64 2)], .agg [.lit (.int .i64 2), .lit (.int .i64 2)], .agg [.lit (.int .i64 2), .lit (.int .i64 2)], .agg [.lit (.int .i64 2), .lit (.int .i64 2)], .agg [.lit (.int .i64 2), .lit (.int .i64 2)], .agg [.lit (.int .i64 2), .lit (.int .i64 2)], .agg [.lit (.int .i64 2), .lit (.int .i64 2)], .agg [.lit (.int .i64 2), .lit (.int .i64 2)], .agg [.lit (.int .i64 3), .lit (.int .i64 3)], .agg [.lit (.int .i64 0), .lit (.int .i64 128)], .agg [.lit (.int .i64 0), .lit (.int .i64 256)], .agg [.lit (.int .i64 2), .lit (.int .i64 3)], .agg [.lit (.int .i64 3), .lit (.int .i64 4)], .agg [.lit (.int .i64 1), .lit (.int .i64 9223372036854775807)]]

/-- 'suretylaw09.ConfAsks': WHATEVER THE INPUT: true; the input reads as it did. -/
def confAsksSpec : ChangeSpec := { name := "confAsks", fn := fun _ => fun
  | [d1, d2, d3] => { results := [.lit (.bool true)], args := [d1, d2, d3] }
  | _ => none }
def confAsksRow : OpenClaim := { program := "ytncjncacfagldaagreatdoor", sum := "9136e7f1ab7c7ae734b0010e463d09a70660c1008b8f65c188832e2e6e80383d", func := "surety/suretylaw09.ConfAsks", spec := "confAsks", inPlace := ["internal/bytealg.IndexByteString"], unfollowed := true, recurses := true, named := ["surety/lex.classes", "surety/expr.levels"], loops := true, apart := false, laid := [("surety/lex.classes", laid_surety_lex_classes), ("surety/expr.levels", laid_surety_expr_levels)] }
def ConfAsksSaid : Prop := confAsksRow.holds Tryz.pinned (OpenSpec.ofChange confAsksSpec)

/-- ITS FALSE NEIGHBOUR: 'it returns false'. Refute it at one input. -/
def confAsksWrong : ChangeSpec := { name := "confAsks", fn := fun _ => fun
  | [d1, d2, d3] => { results := [.lit (.bool false)], args := [d1, d2, d3] }
  | _ => none }
def ConfAsksWrongFalsely : Prop := confAsksRow.holds Tryz.pinned (OpenSpec.ofChange confAsksWrong)

/-- 'suretylaw10.ShowExprs': WHATEVER THE INPUT: true; the input reads as it did. -/
def showExprsSpec : ChangeSpec := { name := "showExprs", fn := fun _ => fun
  | [d] => { results := [.lit (.bool true)], args := [d] }
  | _ => none }
def showExprsRow : OpenClaim := { program := "ytncjncacfagldaagreatdoor", sum := "9136e7f1ab7c7ae734b0010e463d09a70660c1008b8f65c188832e2e6e80383d", func := "surety/suretylaw10.ShowExprs", spec := "showExprs", inPlace := ["internal/bytealg.IndexByteString"], unfollowed := true, recurses := true, named := ["surety/lex.classes", "surety/expr.levels", "surety/show.counts", "internal/strconv.uint64pow10", "math/bits.deBruijn32tab", "math/bits.deBruijn64tab", "surety/show.signs"], loops := true, apart := false, laid := [("math/bits.deBruijn32tab", laid_math_bits_deBruijn32tab), ("math/bits.deBruijn64tab", laid_math_bits_deBruijn64tab), ("internal/strconv.uint64pow10", laid_internal_strconv_uint64pow10), ("surety/lex.classes", laid_surety_lex_classes), ("surety/expr.levels", laid_surety_expr_levels), ("surety/show.signs", laid_surety_show_signs), ("surety/show.counts", laid_surety_show_counts)] }
def ShowExprsSaid : Prop := showExprsRow.holds Tryz.pinned (OpenSpec.ofChange showExprsSpec)

/-- ITS FALSE NEIGHBOUR: 'it returns false'. Refute it at one input. -/
def showExprsWrong : ChangeSpec := { name := "showExprs", fn := fun _ => fun
  | [d] => { results := [.lit (.bool false)], args := [d] }
  | _ => none }
def ShowExprsWrongFalsely : Prop := showExprsRow.holds Tryz.pinned (OpenSpec.ofChange showExprsWrong)

/-- 'suretylaw10.ShowBack': WHATEVER THE INPUT: true; the input reads as it did. -/
def showBackSpec : ChangeSpec := { name := "showBack", fn := fun _ => fun
  | [d] => { results := [.lit (.bool true)], args := [d] }
  | _ => none }
def showBackRow : OpenClaim := { program := "ytncjncacfagldaagreatdoor", sum := "9136e7f1ab7c7ae734b0010e463d09a70660c1008b8f65c188832e2e6e80383d", func := "surety/suretylaw10.ShowBack", spec := "showBack", inPlace := ["internal/bytealg.IndexByteString"], unfollowed := true, recurses := true, named := ["surety/lex.classes", "surety/expr.levels", "surety/show.counts", "internal/strconv.uint64pow10", "math/bits.deBruijn32tab", "math/bits.deBruijn64tab", "surety/show.signs"], loops := true, apart := false, laid := [("math/bits.deBruijn32tab", laid_math_bits_deBruijn32tab), ("math/bits.deBruijn64tab", laid_math_bits_deBruijn64tab), ("internal/strconv.uint64pow10", laid_internal_strconv_uint64pow10), ("surety/lex.classes", laid_surety_lex_classes), ("surety/expr.levels", laid_surety_expr_levels), ("surety/show.signs", laid_surety_show_signs), ("surety/show.counts", laid_surety_show_counts)] }
def ShowBackSaid : Prop := showBackRow.holds Tryz.pinned (OpenSpec.ofChange showBackSpec)

/-- ITS FALSE NEIGHBOUR: 'it returns false'. Refute it at one input. -/
def showBackWrong : ChangeSpec := { name := "showBack", fn := fun _ => fun
  | [d] => { results := [.lit (.bool false)], args := [d] }
  | _ => none }
def ShowBackWrongFalsely : Prop := showBackRow.holds Tryz.pinned (OpenSpec.ofChange showBackWrong)

/-- 'suretylaw10.ShowLeast': WHATEVER THE INPUT: true; the input reads as it did. -/
def showLeastSpec : ChangeSpec := { name := "showLeast", fn := fun _ => fun
  | [d1, d2] => { results := [.lit (.bool true)], args := [d1, d2] }
  | _ => none }
def showLeastRow : OpenClaim := { program := "ytncjncacfagldaagreatdoor", sum := "9136e7f1ab7c7ae734b0010e463d09a70660c1008b8f65c188832e2e6e80383d", func := "surety/suretylaw10.ShowLeast", spec := "showLeast", inPlace := ["internal/bytealg.IndexByteString"], unfollowed := true, recurses := true, named := ["surety/lex.classes", "surety/expr.levels", "surety/show.counts", "internal/strconv.uint64pow10", "math/bits.deBruijn32tab", "math/bits.deBruijn64tab", "surety/show.signs"], loops := true, apart := false, laid := [("math/bits.deBruijn32tab", laid_math_bits_deBruijn32tab), ("math/bits.deBruijn64tab", laid_math_bits_deBruijn64tab), ("internal/strconv.uint64pow10", laid_internal_strconv_uint64pow10), ("surety/lex.classes", laid_surety_lex_classes), ("surety/expr.levels", laid_surety_expr_levels), ("surety/show.signs", laid_surety_show_signs), ("surety/show.counts", laid_surety_show_counts)] }
def ShowLeastSaid : Prop := showLeastRow.holds Tryz.pinned (OpenSpec.ofChange showLeastSpec)

/-- ITS FALSE NEIGHBOUR: 'it returns false'. Refute it at one input. -/
def showLeastWrong : ChangeSpec := { name := "showLeast", fn := fun _ => fun
  | [d1, d2] => { results := [.lit (.bool false)], args := [d1, d2] }
  | _ => none }
def ShowLeastWrongFalsely : Prop := showLeastRow.holds Tryz.pinned (OpenSpec.ofChange showLeastWrong)

/- THE SECOND FORM. 'bulk': how many values and letters a reading holds, each counted each time it is reached (what is shared counts as often as it is met; a slice's spare places count too). A statement '..UptoSaid' is the law's where the arguments, and the package variables that the reading takes, are together of bulk at most 1048576: NARROWER than '..Said'. Prove '..Said' where nothing that the law and all that it calls make is longer than what came in: it says more and counts as full. Else prove '..UptoSaid'. A law counts once. -/
mutual
def uptoBulk {H : Type} : DataW H → Nat
  | .lit (.string bytes) => bytes.length + 1
  | .lit _ => 1
  | .nil => 1
  | .ptr d => uptoBulk d + 1
  | .slice elems spare => uptoBulkAll elems + uptoBulkAll spare + 1
  | .agg parts => uptoBulkAll parts + 1
  | .iface _ d => uptoBulk d + 1
  | .map entries => uptoBulkEntries entries + 1
  | .held _ => 1
def uptoBulkAll {H : Type} : List (DataW H) → Nat
  | [] => 0
  | d :: r => uptoBulk d + uptoBulkAll r
def uptoBulkEntries {H : Type} : List (Lit × DataW H) → Nat
  | [] => 0
  | x :: r => uptoBulkEntry x + uptoBulkEntries r
def uptoBulkEntry {H : Type} : Lit × DataW H → Nat
  | (.string bytes, d) => bytes.length + uptoBulk d + 1
  | (_, d) => uptoBulk d + 1
 end
def uptoSmall : (H : Type) → List (DataW H) → Bool := fun _ ds => decide (uptoBulkAll ds ≤ 1048576)
def OpenSpec.upto (s : _root_.Go.ChangeSpec) : _root_.Go.OpenSpec := { _root_.Go.OpenSpec.ofChange s with cond := some uptoSmall }

/-- 'suretylaw09.ConfAsks', WHERE WHAT IT READS IS OF BULK AT MOST 1048576: true; the input reads as it did. -/
def confAsksUptoRow : OpenClaim := { program := "ytncjncacfagldaagreatdoor", sum := "9136e7f1ab7c7ae734b0010e463d09a70660c1008b8f65c188832e2e6e80383d", func := "surety/suretylaw09.ConfAsks", spec := "confAsks", inPlace := ["internal/bytealg.IndexByteString"], unfollowed := true, recurses := true, named := ["surety/lex.classes", "surety/expr.levels"], loops := true, apart := false, laid := [("surety/lex.classes", laid_surety_lex_classes), ("surety/expr.levels", laid_surety_expr_levels)], narrowed := true }
def ConfAsksUptoSaid : Prop := confAsksUptoRow.holds Tryz.pinned (OpenSpec.upto confAsksSpec)

/-- 'suretylaw10.ShowExprs', WHERE WHAT IT READS IS OF BULK AT MOST 1048576: true; the input reads as it did. -/
def showExprsUptoRow : OpenClaim := { program := "ytncjncacfagldaagreatdoor", sum := "9136e7f1ab7c7ae734b0010e463d09a70660c1008b8f65c188832e2e6e80383d", func := "surety/suretylaw10.ShowExprs", spec := "showExprs", inPlace := ["internal/bytealg.IndexByteString"], unfollowed := true, recurses := true, named := ["surety/lex.classes", "surety/expr.levels", "surety/show.counts", "internal/strconv.uint64pow10", "math/bits.deBruijn32tab", "math/bits.deBruijn64tab", "surety/show.signs"], loops := true, apart := false, laid := [("math/bits.deBruijn32tab", laid_math_bits_deBruijn32tab), ("math/bits.deBruijn64tab", laid_math_bits_deBruijn64tab), ("internal/strconv.uint64pow10", laid_internal_strconv_uint64pow10), ("surety/lex.classes", laid_surety_lex_classes), ("surety/expr.levels", laid_surety_expr_levels), ("surety/show.signs", laid_surety_show_signs), ("surety/show.counts", laid_surety_show_counts)], narrowed := true }
def ShowExprsUptoSaid : Prop := showExprsUptoRow.holds Tryz.pinned (OpenSpec.upto showExprsSpec)

/-- 'suretylaw10.ShowBack', WHERE WHAT IT READS IS OF BULK AT MOST 1048576: true; the input reads as it did. -/
def showBackUptoRow : OpenClaim := { program := "ytncjncacfagldaagreatdoor", sum := "9136e7f1ab7c7ae734b0010e463d09a70660c1008b8f65c188832e2e6e80383d", func := "surety/suretylaw10.ShowBack", spec := "showBack", inPlace := ["internal/bytealg.IndexByteString"], unfollowed := true, recurses := true, named := ["surety/lex.classes", "surety/expr.levels", "surety/show.counts", "internal/strconv.uint64pow10", "math/bits.deBruijn32tab", "math/bits.deBruijn64tab", "surety/show.signs"], loops := true, apart := false, laid := [("math/bits.deBruijn32tab", laid_math_bits_deBruijn32tab), ("math/bits.deBruijn64tab", laid_math_bits_deBruijn64tab), ("internal/strconv.uint64pow10", laid_internal_strconv_uint64pow10), ("surety/lex.classes", laid_surety_lex_classes), ("surety/expr.levels", laid_surety_expr_levels), ("surety/show.signs", laid_surety_show_signs), ("surety/show.counts", laid_surety_show_counts)], narrowed := true }
def ShowBackUptoSaid : Prop := showBackUptoRow.holds Tryz.pinned (OpenSpec.upto showBackSpec)

/-- 'suretylaw10.ShowLeast', WHERE WHAT IT READS IS OF BULK AT MOST 1048576: true; the input reads as it did. -/
def showLeastUptoRow : OpenClaim := { program := "ytncjncacfagldaagreatdoor", sum := "9136e7f1ab7c7ae734b0010e463d09a70660c1008b8f65c188832e2e6e80383d", func := "surety/suretylaw10.ShowLeast", spec := "showLeast", inPlace := ["internal/bytealg.IndexByteString"], unfollowed := true, recurses := true, named := ["surety/lex.classes", "surety/expr.levels", "surety/show.counts", "internal/strconv.uint64pow10", "math/bits.deBruijn32tab", "math/bits.deBruijn64tab", "surety/show.signs"], loops := true, apart := false, laid := [("math/bits.deBruijn32tab", laid_math_bits_deBruijn32tab), ("math/bits.deBruijn64tab", laid_math_bits_deBruijn64tab), ("internal/strconv.uint64pow10", laid_internal_strconv_uint64pow10), ("surety/lex.classes", laid_surety_lex_classes), ("surety/expr.levels", laid_surety_expr_levels), ("surety/show.signs", laid_surety_show_signs), ("surety/show.counts", laid_surety_show_counts)], narrowed := true }
def ShowLeastUptoSaid : Prop := showLeastUptoRow.holds Tryz.pinned (OpenSpec.upto showLeastSpec)

end Rows
end Go.Proofs.YtncjncacfagldaaGreatDoor
