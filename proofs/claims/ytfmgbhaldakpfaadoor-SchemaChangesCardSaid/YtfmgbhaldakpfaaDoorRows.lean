/-
  NARROWER THAN 'FOR EVERY INPUT', by the rows' own cells (each row's printed sentence says how): SchemaTells: laid · SchemaObjects: loops, laid · SchemaChanges: loops, laid.
  DERIVED. THE GIVEN ROWS OF THIS SEAT. 3 by the template 'for every input the law returns true; each argument reads behind the call as it read before'; 0 by the template 'total and deterministic' (their statements: YtfmgbhaldakpfaaDoorTotals.lean).
  GIVEN WITH THE SEED: the statements are not yours to turn. If you find one false, say at which input.
  Laid BY PROGRAM, IN A SANDBOX (cutbox-rows.mjs): the forced cells as the released guide's own fill.sh prints them over the translation 4cf2359ee08bc4d6… (all of the seat's roots in one cut). By AI agents, Wed Nov 11 2026. No macro, syntax, notation, axiom, sorry.
-/
import Derived.Test.YtfmgbhaldakpfaaDoorChecked
import GoSem.Claim
import GoSem.ClaimJoined
import GoSem.ClaimMapViews
import Derived.JoinedTies
import Derived.KernelRfl
namespace Go.Proofs.YtfmgbhaldakpfaaDoor
/- THE CELL 'sum', in the pinned program and in every row, IS THE sha256 OF THE DUMP (.gsa) THAT YtfmgbhaldakpfaaDoorProg.lean LOADS. Nothing in Lean hashes anything: it is a label: what it is worth is what the hold of that sum in a sandbox is worth. -/
noncomputable def Tryd.pinned : Pinned := { name := "ytfmgbhaldakpfaadoor", sum := "4cf2359ee08bc4d6bad31142bb1363a87ad346d57ea4bce1416a360128ecad08", checked := Tryd.checked }
namespace Rows
def none {H : Type} : Left H := { results := [], args := [] }

/- WHAT THE LISTED PACKAGE-LEVEL VARIABLES READ AS WHEN THE CALL BEGINS. Each datum BY PROGRAM (the guide's laid-datum.mjs) off the statement by which the dump's own 'gosem.cut.vars' lays the variable. In a bare row this is a premise. The card (YtfmgbhaldakpfaaDoorCards.lean) ties it to the program's text. -/
def laid_surety_schema_rows {H : Type} : DataW H := .agg [.agg [.lit (.string [100, 105, 115, 107]), .agg [.lit (.string [105, 100]), .agg [.lit (.int .i64 3), .lit (.int .i64 0)], .lit (.bool false), .lit (.bool true), .lit (.bool false), .lit (.bool false)]], .agg [.lit (.string [100, 105, 115, 107]), .agg [.lit (.string [107, 105, 110, 100]), .agg [.lit (.int .i64 3), .lit (.int .i64 0)], .lit (.bool false), .lit (.bool false), .lit (.bool true), .lit (.bool false)]], .agg [.lit (.string [100, 105, 115, 107]), .agg [.lit (.string [108, 97, 98, 101, 108]), .agg [.lit (.int .i64 3), .lit (.int .i64 0)], .lit (.bool false), .lit (.bool false), .lit (.bool false), .lit (.bool false)]], .agg [.lit (.string [100, 105, 115, 107]), .agg [.lit (.string [115, 101, 114, 105, 97, 108]), .agg [.lit (.int .i64 2), .lit (.int .i64 0)], .lit (.bool false), .lit (.bool true), .lit (.bool false), .lit (.bool false)]], .agg [.lit (.string [100, 105, 115, 107]), .agg [.lit (.string [115, 105, 122, 101]), .agg [.lit (.int .i64 2), .lit (.int .i64 0)], .lit (.bool true), .lit (.bool false), .lit (.bool false), .lit (.bool false)]], .agg [.lit (.string [110, 111, 100, 101]), .agg [.lit (.string [97, 100, 100, 114]), .agg [.lit (.int .i64 3), .lit (.int .i64 0)], .lit (.bool false), .lit (.bool true), .lit (.bool false), .lit (.bool false)]], .agg [.lit (.string [110, 111, 100, 101]), .agg [.lit (.string [100, 105, 115, 107]), .agg [.lit (.int .i64 3), .lit (.int .i64 0)], .lit (.bool false), .lit (.bool false), .lit (.bool false), .lit (.bool false)]], .agg [.lit (.string [110, 111, 100, 101]), .agg [.lit (.string [105, 100]), .agg [.lit (.int .i64 3), .lit (.int .i64 0)], .lit (.bool false), .lit (.bool true), .lit (.bool false), .lit (.bool false)]], .agg [.lit (.string [110, 111, 100, 101]), .agg [.lit (.string [105, 109, 97, 103, 101]), .agg [.lit (.int .i64 3), .lit (.int .i64 0)], .lit (.bool true), .lit (.bool false), .lit (.bool true), .lit (.bool false)]], .agg [.lit (.string [110, 111, 100, 101]), .agg [.lit (.string [112, 111, 114, 116, 115]), .agg [.lit (.int .i64 4), .lit (.int .i64 2)], .lit (.bool false), .lit (.bool false), .lit (.bool false), .lit (.bool false)]], .agg [.lit (.string [110, 111, 100, 101]), .agg [.lit (.string [115, 101, 99, 114, 101, 116]), .agg [.lit (.int .i64 3), .lit (.int .i64 0)], .lit (.bool false), .lit (.bool false), .lit (.bool false), .lit (.bool true)]], .agg [.lit (.string [110, 111, 100, 101]), .agg [.lit (.string [116, 97, 103, 115]), .agg [.lit (.int .i64 5), .lit (.int .i64 3)], .lit (.bool false), .lit (.bool false), .lit (.bool false), .lit (.bool false)]], .agg [.lit (.string [110, 111, 116, 101]), .agg [.lit (.string [105, 100]), .agg [.lit (.int .i64 3), .lit (.int .i64 0)], .lit (.bool false), .lit (.bool true), .lit (.bool false), .lit (.bool false)]], .agg [.lit (.string [110, 111, 116, 101]), .agg [.lit (.string [109, 101, 116, 97]), .agg [.lit (.int .i64 5), .lit (.int .i64 0)], .lit (.bool false), .lit (.bool false), .lit (.bool false), .lit (.bool false)]], .agg [.lit (.string [110, 111, 116, 101]), .agg [.lit (.string [116, 101, 120, 116]), .agg [.lit (.int .i64 3), .lit (.int .i64 0)], .lit (.bool false), .lit (.bool false), .lit (.bool false), .lit (.bool false)]], .agg [.lit (.string [114, 117, 108, 101]), .agg [.lit (.string [97, 108, 108, 111, 119]), .agg [.lit (.int .i64 4), .lit (.int .i64 3)], .lit (.bool false), .lit (.bool false), .lit (.bool false), .lit (.bool false)]], .agg [.lit (.string [114, 117, 108, 101]), .agg [.lit (.string [102, 114, 111, 109]), .agg [.lit (.int .i64 3), .lit (.int .i64 0)], .lit (.bool true), .lit (.bool false), .lit (.bool false), .lit (.bool false)]], .agg [.lit (.string [114, 117, 108, 101]), .agg [.lit (.string [105, 100]), .agg [.lit (.int .i64 3), .lit (.int .i64 0)], .lit (.bool false), .lit (.bool true), .lit (.bool false), .lit (.bool false)]], .agg [.lit (.string [114, 117, 108, 101]), .agg [.lit (.string [116, 111]), .agg [.lit (.int .i64 3), .lit (.int .i64 0)], .lit (.bool false), .lit (.bool false), .lit (.bool false), .lit (.bool false)]]]

/-- 'suretylaw11.SchemaTells': WHATEVER THE INPUT: true; the input reads as it did. -/
def schemaTellsSpec : ChangeSpec := { name := "schemaTells", fn := fun _ => fun
  | [d1, d2] => { results := [.lit (.bool true)], args := [d1, d2] }
  | _ => none }
def schemaTellsRow : OpenClaim := { program := "ytfmgbhaldakpfaadoor", sum := "4cf2359ee08bc4d6bad31142bb1363a87ad346d57ea4bce1416a360128ecad08", func := "surety/suretylaw11.SchemaTells", spec := "schemaTells", unfollowed := true, recurses := true, named := ["surety/schema.rows"], plainKeys := false, apart := false, laid := [("surety/schema.rows", laid_surety_schema_rows)] }
def SchemaTellsSaid : Prop := schemaTellsRow.holds Tryd.pinned (OpenSpec.ofChange schemaTellsSpec)

/-- ITS FALSE NEIGHBOUR: 'it returns false'. Refute it at one input. -/
def schemaTellsWrong : ChangeSpec := { name := "schemaTells", fn := fun _ => fun
  | [d1, d2] => { results := [.lit (.bool false)], args := [d1, d2] }
  | _ => none }
def SchemaTellsWrongFalsely : Prop := schemaTellsRow.holds Tryd.pinned (OpenSpec.ofChange schemaTellsWrong)

/-- 'suretylaw11.SchemaObjects': WHATEVER THE INPUT: true; the input reads as it did. -/
def schemaObjectsSpec : ChangeSpec := { name := "schemaObjects", fn := fun _ => fun
  | [d1, d2] => { results := [.lit (.bool true)], args := [d1, d2] }
  | _ => none }
def schemaObjectsRow : OpenClaim := { program := "ytfmgbhaldakpfaadoor", sum := "4cf2359ee08bc4d6bad31142bb1363a87ad346d57ea4bce1416a360128ecad08", func := "surety/suretylaw11.SchemaObjects", spec := "schemaObjects", unfollowed := true, recurses := true, named := ["surety/schema.rows"], loops := true, plainKeys := false, apart := false, laid := [("surety/schema.rows", laid_surety_schema_rows)] }
def SchemaObjectsSaid : Prop := schemaObjectsRow.holds Tryd.pinned (OpenSpec.ofChange schemaObjectsSpec)

/-- ITS FALSE NEIGHBOUR: 'it returns false'. Refute it at one input. -/
def schemaObjectsWrong : ChangeSpec := { name := "schemaObjects", fn := fun _ => fun
  | [d1, d2] => { results := [.lit (.bool false)], args := [d1, d2] }
  | _ => none }
def SchemaObjectsWrongFalsely : Prop := schemaObjectsRow.holds Tryd.pinned (OpenSpec.ofChange schemaObjectsWrong)

/-- 'suretylaw11.SchemaChanges': WHATEVER THE INPUT: true; the input reads as it did. -/
def schemaChangesSpec : ChangeSpec := { name := "schemaChanges", fn := fun _ => fun
  | [d1, d2, d3] => { results := [.lit (.bool true)], args := [d1, d2, d3] }
  | _ => none }
def schemaChangesRow : OpenClaim := { program := "ytfmgbhaldakpfaadoor", sum := "4cf2359ee08bc4d6bad31142bb1363a87ad346d57ea4bce1416a360128ecad08", func := "surety/suretylaw11.SchemaChanges", spec := "schemaChanges", unfollowed := true, recurses := true, named := ["surety/schema.rows"], loops := true, plainKeys := false, apart := false, laid := [("surety/schema.rows", laid_surety_schema_rows)] }
def SchemaChangesSaid : Prop := schemaChangesRow.holds Tryd.pinned (OpenSpec.ofChange schemaChangesSpec)

/-- ITS FALSE NEIGHBOUR: 'it returns false'. Refute it at one input. -/
def schemaChangesWrong : ChangeSpec := { name := "schemaChanges", fn := fun _ => fun
  | [d1, d2, d3] => { results := [.lit (.bool false)], args := [d1, d2, d3] }
  | _ => none }
def SchemaChangesWrongFalsely : Prop := schemaChangesRow.holds Tryd.pinned (OpenSpec.ofChange schemaChangesWrong)

/- THE SECOND FORM. 'bulk': how many values and letters a reading holds, each counted each time it is reached (what is shared counts as often as it is met; a slice's spare places count too). A statement '..UptoSaid' is the law's where the arguments, and the package variables that the reading takes, are together of bulk at most 1048576: NARROWER than '..Said'. Prove '..Said' where nothing that the law and all that it calls make is longer than what came in: it says more and counts as full. Else prove '..UptoSaid'. A law counts once. -/
mutual
def uptoBulk {H : Type} : DataW H → Nat
  | .lit (.string bytes) => bytes.length + 1
  | .lit _ => 1
  | .nil => 1
  | .ptr d => uptoBulk d + 1
  | .slice elems spare => uptoBulkAll elems + uptoBulkAll spare + 1
  | .agg parts => uptoBulkAll parts + 1
  | .iface _ d => uptoBulk d + 1
  | .map entries => uptoBulkEntries entries + 1
  | .held _ => 1
def uptoBulkAll {H : Type} : List (DataW H) → Nat
  | [] => 0
  | d :: r => uptoBulk d + uptoBulkAll r
def uptoBulkEntries {H : Type} : List (Lit × DataW H) → Nat
  | [] => 0
  | x :: r => uptoBulkEntry x + uptoBulkEntries r
def uptoBulkEntry {H : Type} : Lit × DataW H → Nat
  | (.string bytes, d) => bytes.length + uptoBulk d + 1
  | (_, d) => uptoBulk d + 1
 end
def uptoSmall : (H : Type) → List (DataW H) → Bool := fun _ ds => decide (uptoBulkAll ds ≤ 1048576)
def OpenSpec.upto (s : _root_.Go.ChangeSpec) : _root_.Go.OpenSpec := { _root_.Go.OpenSpec.ofChange s with cond := some uptoSmall }

/-- 'suretylaw11.SchemaTells', WHERE WHAT IT READS IS OF BULK AT MOST 1048576: true; the input reads as it did. -/
def schemaTellsUptoRow : OpenClaim := { program := "ytfmgbhaldakpfaadoor", sum := "4cf2359ee08bc4d6bad31142bb1363a87ad346d57ea4bce1416a360128ecad08", func := "surety/suretylaw11.SchemaTells", spec := "schemaTells", unfollowed := true, recurses := true, named := ["surety/schema.rows"], plainKeys := false, apart := false, laid := [("surety/schema.rows", laid_surety_schema_rows)], narrowed := true }
def SchemaTellsUptoSaid : Prop := schemaTellsUptoRow.holds Tryd.pinned (OpenSpec.upto schemaTellsSpec)

/-- 'suretylaw11.SchemaObjects', WHERE WHAT IT READS IS OF BULK AT MOST 1048576: true; the input reads as it did. -/
def schemaObjectsUptoRow : OpenClaim := { program := "ytfmgbhaldakpfaadoor", sum := "4cf2359ee08bc4d6bad31142bb1363a87ad346d57ea4bce1416a360128ecad08", func := "surety/suretylaw11.SchemaObjects", spec := "schemaObjects", unfollowed := true, recurses := true, named := ["surety/schema.rows"], loops := true, plainKeys := false, apart := false, laid := [("surety/schema.rows", laid_surety_schema_rows)], narrowed := true }
def SchemaObjectsUptoSaid : Prop := schemaObjectsUptoRow.holds Tryd.pinned (OpenSpec.upto schemaObjectsSpec)

/-- 'suretylaw11.SchemaChanges', WHERE WHAT IT READS IS OF BULK AT MOST 1048576: true; the input reads as it did. -/
def schemaChangesUptoRow : OpenClaim := { program := "ytfmgbhaldakpfaadoor", sum := "4cf2359ee08bc4d6bad31142bb1363a87ad346d57ea4bce1416a360128ecad08", func := "surety/suretylaw11.SchemaChanges", spec := "schemaChanges", unfollowed := true, recurses := true, named := ["surety/schema.rows"], loops := true, plainKeys := false, apart := false, laid := [("surety/schema.rows", laid_surety_schema_rows)], narrowed := true }
def SchemaChangesUptoSaid : Prop := schemaChangesUptoRow.holds Tryd.pinned (OpenSpec.upto schemaChangesSpec)

end Rows
end Go.Proofs.YtfmgbhaldakpfaaDoor
