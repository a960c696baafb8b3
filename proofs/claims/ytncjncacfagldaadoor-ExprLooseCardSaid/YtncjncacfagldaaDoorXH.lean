/- ExprLoose: what the parser's model answers for any two signs. No Go in sight. -/
import Derived.Test.YtncjncacfagldaaDoorZh
import Derived.Test.YtncjncacfagldaaDoorXA
namespace Go.Proofs.YtncjncacfagldaaDoor
open Go.RowKit Go.Lib

def sgs : List (List UInt8) := [[124, 124], [38, 38], [61, 61], [33, 61], [60], [60, 61], [62], [62, 61], [43], [45], [42], [47], [37]]
def lvs : List Nat := [1, 2, 3, 3, 3, 3, 3, 3, 4, 4, 5, 5, 5]
def sg' (i : Nat) : List UInt8 := sgs.getD i []
def lv' (i : Nat) : Nat := lvs.getD i 0
def looseA (i k : Nat) : List UInt8 := [120, 32] ++ sg' i ++ [32, 121, 32] ++ sg' k ++ [32, 122]
def looseB (i k : Nat) : List UInt8 := [40, 120, 32] ++ sg' i ++ [32, 121, 41, 32] ++ sg' k ++ [32, 122]
def looseC (i k : Nat) : List UInt8 := [120, 32] ++ sg' i ++ [32, 40, 121, 32] ++ sg' k ++ [32, 122, 41]
/-- the same, places aside, as a program -/
def sameXC : Nat → Ex → Ex → Bool
  | 0, _, _ => false
  | f + 1, A, B => decide (A.op = B.op) && (A.s.data.toList == B.s.data.toList && (A.s2.data.toList == B.s2.data.toList && (A.v.k == B.v.k && (A.v.i == B.v.i && (A.v.s.data.toList == B.v.s.data.toList && (A.v.tk == B.v.tk && (A.v.to == B.v.to && (A.v.x == B.v.x && (A.v.l.isEmpty && (B.v.l.isEmpty && (A.v.ks.isEmpty && (B.v.ks.isEmpty && (A.l.length == B.l.length && (A.l.zip B.l).all fun p => sameXC f p.1 p.2)))))))))))))
def looseOk (i k : Nat) : Bool :=
  (parseC (looseB i k)).2.1 == 0 && ((parseC (looseC i k)).2.1 == 0 &&
    (if lv' i = 3 ∧ lv' k = 3 then (parseC (looseA i k)).2.1 == 4
     else if lv' k ≤ lv' i then (parseC (looseA i k)).2.1 == 0 && sameXC 5 (parseC (looseA i k)).1 (parseC (looseB i k)).1
     else (parseC (looseA i k)).2.1 == 0 && sameXC 5 (parseC (looseA i k)).1 (parseC (looseC i k)).1))
set_option maxRecDepth 100000 in
theorem loose_all : ((List.range 13).all fun i => (List.range 13).all fun k => looseOk i k) = true := by kernel_rfl
end Go.Proofs.YtncjncacfagldaaDoor
