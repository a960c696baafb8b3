/-
  NARROWER THAN 'FOR EVERY INPUT', by the rows' own cells (each row's printed sentence says how): ExprGroups: laid · ExprLoose: laid · ExprSame: loops, laid · ConfJoins: laid · ConfWhole: laid.
  DERIVED. THE GIVEN ROWS OF THIS SEAT. 5 by the template 'for every input the law returns true; each argument reads behind the call as it read before'; 0 by the template 'total and deterministic' (their statements: YtncjncacfagldaaDoorTotals.lean).
  GIVEN WITH THE SEED: the statements are not yours to turn. If you find one false, say at which input.
  Laid BY PROGRAM, IN A SANDBOX (cutbox-rows.mjs): the forced cells as the released guide's own fill.sh prints them over the translation 2758c425e1caca89… (all of the seat's roots in one cut). By AI agents, Wed Nov 11 2026. No macro, syntax, notation, axiom, sorry.
-/
import Derived.Test.YtncjncacfagldaaDoorChecked
import GoSem.Claim
import GoSem.ClaimJoined
import GoSem.ClaimMapViews
import Derived.JoinedTies
import Derived.KernelRfl
namespace Go.Proofs.YtncjncacfagldaaDoor
/- THE CELL 'sum', in the pinned program and in every row, IS THE sha256 OF THE DUMP (.gsa) THAT YtncjncacfagldaaDoorProg.lean LOADS. Nothing in Lean hashes anything: it is a label: what it is worth is what the hold of that sum in a sandbox is worth. -/
noncomputable def Tryd.pinned : Pinned := { name := "ytncjncacfagldaadoor", sum := "2758c425e1caca89206bde034dfa413678221cb29d33ce22eef07c40898b34d5", checked := Tryd.checked }
namespace Rows
def none {H : Type} : Left H := { results := [], args := [] }

/- WHAT THE LISTED PACKAGE-LEVEL VARIABLES READ AS WHEN THE CALL BEGINS. Each datum BY PROGRAM (the guide's laid-datum.mjs) off the statement by which the dump's own 'gosem.cut.vars' lays the variable. In a bare row this is a premise. The card (YtncjncacfagldaaDoorCards.lean) ties it to the program's text. -/
def laid_surety_lex_classes {H : Type} : DataW H := .agg [.agg [.lit (.int .u64 4294968832), .lit (.int .u64 0), .lit (.int .u64 0), .lit (.int .u64 0)], .agg [.lit (.int .u64 0), .lit (.int .u64 576460745860972544), .lit (.int .u64 0), .lit (.int .u64 0)], .agg [.lit (.int .u64 287948901175001088), .lit (.int .u64 0), .lit (.int .u64 0), .lit (.int .u64 0)], .agg [.lit (.int .u64 287948901175001088), .lit (.int .u64 576460745860972544), .lit (.int .u64 0), .lit (.int .u64 0)], .agg [.lit (.int .u64 17582333466748387328), .lit (.int .u64 2882303762188206080), .lit (.int .u64 0), .lit (.int .u64 0)], .agg [.lit (.int .u64 18446744056529681407), .lit (.int .u64 15564440312192434175), .lit (.int .u64 18446744073709551615), .lit (.int .u64 18446744073709551615)], .agg [.lit (.int .u64 18446744073709550591), .lit (.int .u64 18446744073709551615), .lit (.int .u64 18446744073709551615), .lit (.int .u64 18446744073709551615)]]
def laid_surety_expr_levels {H : Type} : DataW H := .agg [.lit (.int .i64 0), .lit (.int .i64 0), .lit (.int .i64 0), .lit (.int .i64 0), .lit (.int .i64 0), .lit (.int .i64 0), .lit (.int .i64 0), .lit (.int .i64 0), .lit (.int .i64 5), .lit (.int .i64 5), .lit (.int .i64 5), .lit (.int .i64 4), .lit (.int .i64 4), .lit (.int .i64 3), .lit (.int .i64 3), .lit (.int .i64 3), .lit (.int .i64 3), .lit (.int .i64 3), .lit (.int .i64 3), .lit (.int .i64 2), .lit (.int .i64 1), .lit (.int .i64 0), .lit (.int .i64 0), .lit (.int .i64 0), .lit (.int .i64 0), .lit (.int .i64 0), .lit (.int .i64 0)]

/-- 'suretylaw08.ExprGroups': WHATEVER THE INPUT: true; the input reads as it did. -/
def exprGroupsSpec : ChangeSpec := { name := "exprGroups", fn := fun _ => fun
  | [d1, d2] => { results := [.lit (.bool true)], args := [d1, d2] }
  | _ => none }
def exprGroupsRow : OpenClaim := { program := "ytncjncacfagldaadoor", sum := "2758c425e1caca89206bde034dfa413678221cb29d33ce22eef07c40898b34d5", func := "surety/suretylaw08.ExprGroups", spec := "exprGroups", inPlace := ["internal/bytealg.IndexByteString"], unfollowed := true, recurses := true, named := ["surety/lex.classes", "surety/expr.levels"], apart := false, laid := [("surety/lex.classes", laid_surety_lex_classes), ("surety/expr.levels", laid_surety_expr_levels)] }
def ExprGroupsSaid : Prop := exprGroupsRow.holds Tryd.pinned (OpenSpec.ofChange exprGroupsSpec)

/-- ITS FALSE NEIGHBOUR: 'it returns false'. Refute it at one input. -/
def exprGroupsWrong : ChangeSpec := { name := "exprGroups", fn := fun _ => fun
  | [d1, d2] => { results := [.lit (.bool false)], args := [d1, d2] }
  | _ => none }
def ExprGroupsWrongFalsely : Prop := exprGroupsRow.holds Tryd.pinned (OpenSpec.ofChange exprGroupsWrong)

/-- 'suretylaw08.ExprLoose': WHATEVER THE INPUT: true; the input reads as it did. -/
def exprLooseSpec : ChangeSpec := { name := "exprLoose", fn := fun _ => fun
  | [d1, d2] => { results := [.lit (.bool true)], args := [d1, d2] }
  | _ => none }
def exprLooseRow : OpenClaim := { program := "ytncjncacfagldaadoor", sum := "2758c425e1caca89206bde034dfa413678221cb29d33ce22eef07c40898b34d5", func := "surety/suretylaw08.ExprLoose", spec := "exprLoose", inPlace := ["internal/bytealg.IndexByteString"], unfollowed := true, recurses := true, named := ["surety/lex.classes", "surety/expr.levels"], apart := false, laid := [("surety/lex.classes", laid_surety_lex_classes), ("surety/expr.levels", laid_surety_expr_levels)] }
def ExprLooseSaid : Prop := exprLooseRow.holds Tryd.pinned (OpenSpec.ofChange exprLooseSpec)

/-- ITS FALSE NEIGHBOUR: 'it returns false'. Refute it at one input. -/
def exprLooseWrong : ChangeSpec := { name := "exprLoose", fn := fun _ => fun
  | [d1, d2] => { results := [.lit (.bool false)], args := [d1, d2] }
  | _ => none }
def ExprLooseWrongFalsely : Prop := exprLooseRow.holds Tryd.pinned (OpenSpec.ofChange exprLooseWrong)

/-- 'suretylaw08.ExprSame': WHATEVER THE INPUT: true; the input reads as it did. -/
def exprSameSpec : ChangeSpec := { name := "exprSame", fn := fun _ => fun
  | [d1, d2, d3] => { results := [.lit (.bool true)], args := [d1, d2, d3] }
  | _ => none }
def exprSameRow : OpenClaim := { program := "ytncjncacfagldaadoor", sum := "2758c425e1caca89206bde034dfa413678221cb29d33ce22eef07c40898b34d5", func := "surety/suretylaw08.ExprSame", spec := "exprSame", inPlace := ["internal/bytealg.IndexByteString"], unfollowed := true, recurses := true, named := ["surety/lex.classes", "surety/expr.levels"], loops := true, apart := false, laid := [("surety/lex.classes", laid_surety_lex_classes), ("surety/expr.levels", laid_surety_expr_levels)] }
def ExprSameSaid : Prop := exprSameRow.holds Tryd.pinned (OpenSpec.ofChange exprSameSpec)

/-- ITS FALSE NEIGHBOUR: 'it returns false'. Refute it at one input. -/
def exprSameWrong : ChangeSpec := { name := "exprSame", fn := fun _ => fun
  | [d1, d2, d3] => { results := [.lit (.bool false)], args := [d1, d2, d3] }
  | _ => none }
def ExprSameWrongFalsely : Prop := exprSameRow.holds Tryd.pinned (OpenSpec.ofChange exprSameWrong)

/-- 'suretylaw09.ConfJoins': WHATEVER THE INPUT: true; the input reads as it did. -/
def confJoinsSpec : ChangeSpec := { name := "confJoins", fn := fun _ => fun
  | [d1, d2] => { results := [.lit (.bool true)], args := [d1, d2] }
  | _ => none }
def confJoinsRow : OpenClaim := { program := "ytncjncacfagldaadoor", sum := "2758c425e1caca89206bde034dfa413678221cb29d33ce22eef07c40898b34d5", func := "surety/suretylaw09.ConfJoins", spec := "confJoins", inPlace := ["internal/bytealg.IndexByteString"], unfollowed := true, recurses := true, named := ["surety/lex.classes", "surety/expr.levels"], apart := false, laid := [("surety/lex.classes", laid_surety_lex_classes), ("surety/expr.levels", laid_surety_expr_levels)] }
def ConfJoinsSaid : Prop := confJoinsRow.holds Tryd.pinned (OpenSpec.ofChange confJoinsSpec)

/-- ITS FALSE NEIGHBOUR: 'it returns false'. Refute it at one input. -/
def confJoinsWrong : ChangeSpec := { name := "confJoins", fn := fun _ => fun
  | [d1, d2] => { results := [.lit (.bool false)], args := [d1, d2] }
  | _ => none }
def ConfJoinsWrongFalsely : Prop := confJoinsRow.holds Tryd.pinned (OpenSpec.ofChange confJoinsWrong)

/-- 'suretylaw09.ConfWhole': WHATEVER THE INPUT: true; the input reads as it did. -/
def confWholeSpec : ChangeSpec := { name := "confWhole", fn := fun _ => fun
  | [d1, d2] => { results := [.lit (.bool true)], args := [d1, d2] }
  | _ => none }
def confWholeRow : OpenClaim := { program := "ytncjncacfagldaadoor", sum := "2758c425e1caca89206bde034dfa413678221cb29d33ce22eef07c40898b34d5", func := "surety/suretylaw09.ConfWhole", spec := "confWhole", inPlace := ["internal/bytealg.IndexByteString"], unfollowed := true, recurses := true, named := ["surety/lex.classes", "surety/expr.levels"], apart := false, laid := [("surety/lex.classes", laid_surety_lex_classes), ("surety/expr.levels", laid_surety_expr_levels)] }
def ConfWholeSaid : Prop := confWholeRow.holds Tryd.pinned (OpenSpec.ofChange confWholeSpec)

/-- ITS FALSE NEIGHBOUR: 'it returns false'. Refute it at one input. -/
def confWholeWrong : ChangeSpec := { name := "confWhole", fn := fun _ => fun
  | [d1, d2] => { results := [.lit (.bool false)], args := [d1, d2] }
  | _ => none }
def ConfWholeWrongFalsely : Prop := confWholeRow.holds Tryd.pinned (OpenSpec.ofChange confWholeWrong)

/- THE SECOND FORM. 'bulk': how many values and letters a reading holds, each counted each time it is reached (what is shared counts as often as it is met; a slice's spare places count too). A statement '..UptoSaid' is the law's where the arguments, and the package variables that the reading takes, are together of bulk at most 1048576: NARROWER than '..Said'. Prove '..Said' where nothing that the law and all that it calls make is longer than what came in: it says more and counts as full. Else prove '..UptoSaid'. A law counts once. -/
mutual
def uptoBulk {H : Type} : DataW H → Nat
  | .lit (.string bytes) => bytes.length + 1
  | .lit _ => 1
  | .nil => 1
  | .ptr d => uptoBulk d + 1
  | .slice elems spare => uptoBulkAll elems + uptoBulkAll spare + 1
  | .agg parts => uptoBulkAll parts + 1
  | .iface _ d => uptoBulk d + 1
  | .map entries => uptoBulkEntries entries + 1
  | .held _ => 1
def uptoBulkAll {H : Type} : List (DataW H) → Nat
  | [] => 0
  | d :: r => uptoBulk d + uptoBulkAll r
def uptoBulkEntries {H : Type} : List (Lit × DataW H) → Nat
  | [] => 0
  | x :: r => uptoBulkEntry x + uptoBulkEntries r
def uptoBulkEntry {H : Type} : Lit × DataW H → Nat
  | (.string bytes, d) => bytes.length + uptoBulk d + 1
  | (_, d) => uptoBulk d + 1
 end
def uptoSmall : (H : Type) → List (DataW H) → Bool := fun _ ds => decide (uptoBulkAll ds ≤ 1048576)
def OpenSpec.upto (s : _root_.Go.ChangeSpec) : _root_.Go.OpenSpec := { _root_.Go.OpenSpec.ofChange s with cond := some uptoSmall }

/-- 'suretylaw08.ExprGroups', WHERE WHAT IT READS IS OF BULK AT MOST 1048576: true; the input reads as it did. -/
def exprGroupsUptoRow : OpenClaim := { program := "ytncjncacfagldaadoor", sum := "2758c425e1caca89206bde034dfa413678221cb29d33ce22eef07c40898b34d5", func := "surety/suretylaw08.ExprGroups", spec := "exprGroups", inPlace := ["internal/bytealg.IndexByteString"], unfollowed := true, recurses := true, named := ["surety/lex.classes", "surety/expr.levels"], apart := false, laid := [("surety/lex.classes", laid_surety_lex_classes), ("surety/expr.levels", laid_surety_expr_levels)], narrowed := true }
def ExprGroupsUptoSaid : Prop := exprGroupsUptoRow.holds Tryd.pinned (OpenSpec.upto exprGroupsSpec)

/-- 'suretylaw08.ExprLoose', WHERE WHAT IT READS IS OF BULK AT MOST 1048576: true; the input reads as it did. -/
def exprLooseUptoRow : OpenClaim := { program := "ytncjncacfagldaadoor", sum := "2758c425e1caca89206bde034dfa413678221cb29d33ce22eef07c40898b34d5", func := "surety/suretylaw08.ExprLoose", spec := "exprLoose", inPlace := ["internal/bytealg.IndexByteString"], unfollowed := true, recurses := true, named := ["surety/lex.classes", "surety/expr.levels"], apart := false, laid := [("surety/lex.classes", laid_surety_lex_classes), ("surety/expr.levels", laid_surety_expr_levels)], narrowed := true }
def ExprLooseUptoSaid : Prop := exprLooseUptoRow.holds Tryd.pinned (OpenSpec.upto exprLooseSpec)

/-- 'suretylaw08.ExprSame', WHERE WHAT IT READS IS OF BULK AT MOST 1048576: true; the input reads as it did. -/
def exprSameUptoRow : OpenClaim := { program := "ytncjncacfagldaadoor", sum := "2758c425e1caca89206bde034dfa413678221cb29d33ce22eef07c40898b34d5", func := "surety/suretylaw08.ExprSame", spec := "exprSame", inPlace := ["internal/bytealg.IndexByteString"], unfollowed := true, recurses := true, named := ["surety/lex.classes", "surety/expr.levels"], loops := true, apart := false, laid := [("surety/lex.classes", laid_surety_lex_classes), ("surety/expr.levels", laid_surety_expr_levels)], narrowed := true }
def ExprSameUptoSaid : Prop := exprSameUptoRow.holds Tryd.pinned (OpenSpec.upto exprSameSpec)

/-- 'suretylaw09.ConfJoins', WHERE WHAT IT READS IS OF BULK AT MOST 1048576: true; the input reads as it did. -/
def confJoinsUptoRow : OpenClaim := { program := "ytncjncacfagldaadoor", sum := "2758c425e1caca89206bde034dfa413678221cb29d33ce22eef07c40898b34d5", func := "surety/suretylaw09.ConfJoins", spec := "confJoins", inPlace := ["internal/bytealg.IndexByteString"], unfollowed := true, recurses := true, named := ["surety/lex.classes", "surety/expr.levels"], apart := false, laid := [("surety/lex.classes", laid_surety_lex_classes), ("surety/expr.levels", laid_surety_expr_levels)], narrowed := true }
def ConfJoinsUptoSaid : Prop := confJoinsUptoRow.holds Tryd.pinned (OpenSpec.upto confJoinsSpec)

/-- 'suretylaw09.ConfWhole', WHERE WHAT IT READS IS OF BULK AT MOST 1048576: true; the input reads as it did. -/
def confWholeUptoRow : OpenClaim := { program := "ytncjncacfagldaadoor", sum := "2758c425e1caca89206bde034dfa413678221cb29d33ce22eef07c40898b34d5", func := "surety/suretylaw09.ConfWhole", spec := "confWhole", inPlace := ["internal/bytealg.IndexByteString"], unfollowed := true, recurses := true, named := ["surety/lex.classes", "surety/expr.levels"], apart := false, laid := [("surety/lex.classes", laid_surety_lex_classes), ("surety/expr.levels", laid_surety_expr_levels)], narrowed := true }
def ConfWholeUptoSaid : Prop := confWholeUptoRow.holds Tryd.pinned (OpenSpec.upto confWholeSpec)

end Rows
end Go.Proofs.YtncjncacfagldaaDoor
