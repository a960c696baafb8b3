import Derived.Test.YtncjncacfagldaaGreatDoorProg
import Derived.WalkKit
import Derived.Below
import Derived.WalkSmall
import Derived.LoopTactic
import Derived.RegionTactic
import Derived.ChangeAlike
import Derived.BigGuardPart
import Derived.Deep.QuietTactic
import Derived.BigQuiet
import Derived.Outline
import Derived.Lib.Hide
import Derived.Handy
import Derived.WalkLawsBesides
import Derived.WalkSpells
import Derived.Deep.DeepMust
import Derived.Deep.DeepFit
import Derived.Deep.Cut
import Derived.Deep.RegionHeld3
import Derived.Laws.Rows
import Derived.Laws.StructEq
import Derived.Maps.Own
import Derived.Maps.OwnOps
import Derived.Maps.Range
import Derived.WideKeyEntry
import Derived.DeepKeys4
namespace Go.Proofs.YtncjncacfagldaaGreatDoor

inductive Val where
 | mk (k i : Int) (s : ByteArray) (l : List Val) (ks : List ByteArray) (tk to : Int) (x : Bool)
namespace Val
def k : Val → Int | .mk a _ _ _ _ _ _ _ => a
def i : Val → Int | .mk _ a _ _ _ _ _ _ => a
def s : Val → ByteArray | .mk _ _ a _ _ _ _ _ => a
def l : Val → List Val | .mk _ _ _ a _ _ _ _ => a
def ks : Val → List ByteArray | .mk _ _ _ _ a _ _ _ => a
def tk : Val → Int | .mk _ _ _ _ _ a _ _ => a
def to : Val → Int | .mk _ _ _ _ _ _ a _ => a
def x : Val → Bool | .mk _ _ _ _ _ _ _ a => a
end Val
inductive Ex where
 | mk (op : Int) (s s2 : ByteArray) (v : Val) (l : List Ex) (a ln c : Int)
namespace Ex
def op : Ex → Int | .mk a _ _ _ _ _ _ _ => a
def s : Ex → ByteArray | .mk _ a _ _ _ _ _ _ => a
def s2 : Ex → ByteArray | .mk _ _ a _ _ _ _ _ => a
def v : Ex → Val | .mk _ _ _ a _ _ _ _ => a
def l : Ex → List Ex | .mk _ _ _ _ a _ _ _ => a
def a : Ex → Int | .mk _ _ _ _ _ a _ _ => a
def ln : Ex → Int | .mk _ _ _ _ _ _ a _ => a
def c : Ex → Int | .mk _ _ _ _ _ _ _ a => a
end Ex
structure Plc where
 a : Nat
 l : Nat
 c : Nat
deriving DecidableEq
structure Prt where
 ex : Bool
 s : List UInt8
 p : Plc
deriving DecidableEq
structure Tkn where
 k : Nat
 s : List UInt8
 n : Int
 ps : List Prt
 p : Plc
deriving DecidableEq
def tx (l : List UInt8) : ByteArray := ⟨l.toArray⟩
def vNull : Val := .mk 0 0 ⟨#[]⟩ [] [] 0 0 false
def vBool (b : Bool) : Val := .mk 1 (if b then 1 else 0) ⟨#[]⟩ [] [] 0 0 false
def vInt (i : Int) : Val := .mk 2 i ⟨#[]⟩ [] [] 0 0 false
def vStr (s : ByteArray) : Val := .mk 3 0 s [] [] 0 0 false
structure Ps where
 a : Int
 l : Int
 c : Int
deriving DecidableEq
def Plc.ps (p : Plc) : Ps := ⟨p.a, p.l, p.c⟩
def ps0 : Ps := ⟨0, 0, 0⟩
def mv (h p : Ps) : Ps := ⟨p.a + h.a, p.l + h.l, if p.l = 1 then p.c + h.c else p.c⟩
structure St where
 p : Nat
 e : Nat
 q : Ps
structure Cx where
 L : List Tkn
 h : Ps
 inn : List UInt8 → Ps → Ex × Nat × Ps
def tk0 : Tkn := ⟨0, [], 0, [], ⟨0, 0, 0⟩⟩
def Cx.tk (C : Cx) (i : Nat) : Tkn := (C.L[i]?).getD tk0
def Cx.pl (C : Cx) (s : St) : Ps := mv C.h (C.tk s.p).p.ps
def St.pass (s : St) : St := ⟨s.p + 1, s.e, s.q⟩
def Cx.fail (C : Cx) (s : St) (e : Nat) (q : Ps) : St := if s.e = 0 then ⟨C.L.length, e, q⟩ else ⟨C.L.length, s.e, s.q⟩
def Cx.stray (C : Cx) (s : St) : St := C.fail s 4 (C.pl s)
def Cx.is (C : Cx) (s : St) (k : Nat) (x : List UInt8) : Bool := decide ((C.tk s.p).k = k) && decide ((C.tk s.p).s = x)
def Cx.wants (C : Cx) (s : St) (k : Nat) (x : List UInt8) : St := if C.is s k x then s.pass else C.stray s
def Cx.anyName (C : Cx) (s : St) : List UInt8 × St := if (C.tk s.p).k = 1 then ((C.tk s.p).s, s.pass) else ([], C.stray s)
def sTrue : List UInt8 := [116, 114, 117, 101]
def sFalse : List UInt8 := [102, 97, 108, 115, 101]
def sNull : List UInt8 := [110, 117, 108, 108]
def sFor : List UInt8 := [102, 111, 114]
def sIn : List UInt8 := [105, 110]
def sIf : List UInt8 := [105, 102]
def reserved (x : List UInt8) : Bool := decide (x = sTrue) || decide (x = sFalse) || decide (x = sNull) || decide (x = sFor) || decide (x = sIn) || decide (x = sIf)
def Cx.freeName (C : Cx) (s : St) : List UInt8 × St := C.anyName (if reserved (C.tk s.p).s then C.stray s else s)
structure Sg where
 bt : Nat
 hd : Nat
 op : Nat
def sg0 : Sg := ⟨0, 0, 0⟩
def sgT : List (List UInt8 × Sg) := [([124, 124], ⟨20, 0, 0⟩), ([38, 38], ⟨19, 0, 0⟩), ([60], ⟨13, 0, 0⟩), ([60, 61], ⟨14, 0, 0⟩), ([62], ⟨15, 0, 0⟩), ([62, 61], ⟨16, 0, 0⟩), ([61, 61], ⟨17, 0, 0⟩), ([33, 61], ⟨18, 0, 0⟩), ([43], ⟨11, 0, 0⟩), ([45], ⟨12, 7, 0⟩), ([42], ⟨8, 0, 0⟩), ([47], ⟨9, 0, 0⟩), ([37], ⟨10, 0, 0⟩), ([33], ⟨0, 6, 0⟩), ([40], ⟨0, 0, 1⟩), ([91], ⟨0, 0, 2⟩), ([123], ⟨0, 0, 3⟩)]
def sgOf (x : List UInt8) : Sg := ((sgT.find? fun p => p.1 == x).map (·.2)).getD sg0
def Cx.sign (C : Cx) (s : St) : Sg := if (C.tk s.p).k = 4 then sgOf (C.tk s.p).s else sg0
def lvl (op : Nat) : Nat := if op = 20 then 1 else if op = 19 then 2 else if 13 ≤ op ∧ op ≤ 18 then 3 else if op = 11 ∨ op = 12 then 4 else if 8 ≤ op ∧ op ≤ 10 then 5 else 0
def litX (v : Val) (p : Ps) : Ex := .mk 1 ⟨#[]⟩ ⟨#[]⟩ v [] p.a p.l p.c
def treeX (op : Nat) (p : Ps) (l : List Ex) : Ex := .mk op ⟨#[]⟩ ⟨#[]⟩ vNull l p.a p.l p.c
def zeroX : Ex := .mk 0 ⟨#[]⟩ ⟨#[]⟩ vNull [] 0 0 0
structure Fs where
 ex : St → Ex × St
 jo : Nat → St → Ex × St
 un : St → Ex × St
section
variable (C : Cx) (F : Fs)
def putE (l : List Ex) (s : St) : List Ex × St := (l ++ [(F.ex s).1], (F.ex s).2)
def partL (p : Ps) : List Prt → List Ex → St → List Ex × St
 | [], l, s => (l, s)
 | t :: r, l, s =>
   if t.ex then
    partL p r (l ++ [(C.inn t.s (let f := mv C.h t.p.ps; ⟨f.a, f.l - 1, f.c - 1⟩)).1]) (let x := C.inn t.s (let f := mv C.h t.p.ps; ⟨f.a, f.l - 1, f.c - 1⟩); if x.2.1 = 0 then s else C.fail s x.2.1 x.2.2)
   else partL p r (l ++ [litX (vStr (tx t.s)) p]) s
def textM (s : St) : Ex × St :=
 if (C.tk s.p).ps.any (·.ex) then (treeX 26 (C.pl s) (partL C (C.pl s) (C.tk s.p).ps [] s.pass).1, (partL C (C.pl s) (C.tk s.p).ps [] s.pass).2)
 else (litX (vStr (tx ((C.tk s.p).ps.flatMap (·.s)))) (C.pl s), s.pass)
def keyM (s : St) : Ex × St := if (C.tk s.p).k = 3 then textM C s else (litX (vStr (tx (C.anyName s).1)) (C.pl s), (C.anyName s).2)
def putP (l : List Ex) (s : St) : List Ex × St :=
 let k := keyM C s
 putE F (l ++ [k.1]) (if C.is k.2 4 [61] then k.2.pass else C.wants k.2 4 [58])
def putM (b : Bool) (l : List Ex) (s : St) : List Ex × St := if b then putP C F l s else putE F l s
def rowL (b : Bool) (x : List UInt8) : Nat → List Ex → St → List Ex × St
 | 0, l, s => (l, s)
 | k + 1, l, s =>
   if C.is s 4 x then (l, s.pass)
   else
    let r := putM C F b l s
    if C.is r.2 4 [44] then rowL b x k r.1 r.2.pass else (r.1, C.wants r.2 4 x)
def rowM (b : Bool) (x : List UInt8) (s : St) : List Ex × St := rowL C F b x (C.L.length + 1) [] s
def loopM (op : Nat) (pos : Ps) (x : List UInt8) (s : St) : Ex × St :=
 let n := C.freeName s
 let two := C.is n.2 4 [44]
 let m := if two then C.freeName n.2.pass else n
 let s2 := C.wants m.2 1 sIn
 let r1 := putE F [] s2
 let r2 := putE F r1.1 (C.wants r1.2 4 [58])
 let r3 := if op = 25 then putE F r2.1 (C.wants r2.2 4 [61, 62]) else r2
 let r4 := if C.is r3.2 1 sIf then putE F r3.1 r3.2.pass else r3
 (.mk op (tx m.1) (if two then tx n.1 else ⟨#[]⟩) vNull r4.1 pos.a pos.l pos.c, C.wants r4.2 4 x)
def bracketsM (s : St) : Ex × St := ((F.ex s.pass).1, C.wants (F.ex s.pass).2 4 [41])
def listM (s : St) : Ex × St :=
 if C.is s.pass 1 sFor then loopM C F 24 (C.pl s) [93] s.pass.pass
 else (treeX 22 (C.pl s) (rowM C F false [93] s.pass).1, (rowM C F false [93] s.pass).2)
def pairsM (s : St) : Ex × St :=
 let t := C.tk (s.p + 1 + 1)
 let nm := decide (t.k = 4) && (decide (t.s = [61]) || decide (t.s = [58]))
 if !nm && C.is s.pass 1 sFor then loopM C F 25 (C.pl s) [125] s.pass.pass
 else (treeX 23 (C.pl s) (rowM C F true [125] s.pass).1, (rowM C F true [125] s.pass).2)
def namedM (s : St) : Ex × St :=
 let x := (C.tk s.p).s
 if x = sTrue ∨ x = sFalse then (litX (vBool (decide (x = sTrue))) (C.pl s), s.pass)
 else if x = sNull then (litX vNull (C.pl s), s.pass)
 else
  let n := C.freeName s
  if C.is n.2 4 [40] then
   let r := rowM C F false [41] n.2.pass
   (.mk 5 (tx n.1) ⟨#[]⟩ vNull r.1 (C.pl s).a (C.pl s).l (C.pl s).c, r.2)
  else (.mk 2 (tx n.1) ⟨#[]⟩ vNull [] (C.pl s).a (C.pl s).l (C.pl s).c, n.2)
def firstM (s : St) : Ex × St :=
 if (C.tk s.p).k = 1 then namedM C F s
 else if (C.tk s.p).k = 2 then (litX (vInt (C.tk s.p).n) (C.pl s), s.pass)
 else if (C.tk s.p).k = 3 then textM C s
 else if (C.sign s).op = 1 then bracketsM C F s
 else if (C.sign s).op = 2 then listM C F s
 else if (C.sign s).op = 3 then pairsM C F s
 else (zeroX, C.stray s)
def postL : Nat → Ex → St → Ex × St
 | 0, e, s => (e, s)
 | k + 1, e, s =>
   if C.is s 4 [46] then
    let n := C.anyName s.pass
    postL k (.mk 3 (tx n.1) ⟨#[]⟩ vNull [e] (C.pl s).a (C.pl s).l (C.pl s).c) n.2
   else if C.is s 4 [91] then
    let x := F.ex s.pass
    postL k (treeX 4 (C.pl s) [e, x.1]) (C.wants x.2 4 [93])
   else (e, s)
def postM (s : St) : Ex × St := postL C F (C.L.length + 1) (firstM C F s).1 (firstM C F s).2
def unaryM (s : St) : Ex × St :=
 if (C.sign s).hd = 0 then postM C F s
 else (treeX (C.sign s).hd (C.pl s) [(F.un s.pass).1], (F.un s.pass).2)
def joinL (lo : Nat) : Nat → Nat → Ex → St → Ex × St
 | 0, _, e, s => (e, s)
 | k + 1, ti, e, s =>
   let v := lvl (C.sign s).bt
   if v < lo ∨ ti < v then (e, s)
   else
    let x := F.jo (v + 1) s.pass
    joinL lo k (if v = 3 then 2 else v) (treeX (C.sign s).bt (C.pl s) [e, x.1]) x.2
def joinedM (lo : Nat) (s : St) : Ex × St := joinL C F lo (C.L.length + 1) 5 (F.un s).1 (F.un s).2
def exprM (s : St) : Ex × St :=
 let e := F.jo 1 s
 if C.is e.2 4 [63] then
  let y := F.ex e.2.pass
  let z := F.ex (C.wants y.2 4 [58])
  (treeX 21 (C.pl e.2) [e.1, y.1, z.1], z.2)
 else e
end
def fs (C : Cx) : Nat → Fs
 | 0 => ⟨fun s => (zeroX, s), fun _ s => (zeroX, s), fun s => (zeroX, s)⟩
 | n + 1 => ⟨exprM C (fs C n), joinedM C (fs C n), unaryM C (fs C n)⟩
def wholeM (C : Cx) : Ex × St :=
 let e := (fs C (3 * C.L.length + 3)).ex ⟨0, 0, ps0⟩
 (e.1, if (C.tk e.2.p).k = 0 then e.2 else C.stray e.2)
open Go.RowKit
abbrev z22 : Array Value := #[.bool false, .string ⟨#[]⟩, .slice none 0 0, .int .i64 0, .string ⟨#[]⟩, .string ⟨#[]⟩, .int .i64 0, .int .i64 0, .string ⟨#[]⟩, .slice none 0 0, .slice none 0 0, .int .i64 0, .int .i64 0, .bool false, .slice none 0 0, .int .i64 0, .int .i64 0, .int .i64 0, .slice none 0 0, .int .i64 0, .int .i64 0, .int .i64 0]
theorem qh {p : Prop} (h : p) : Go.RowKit.Hid p := h
theorem sqa {α : Type} (l : List α) (i : Nat) (a : α) : l.toArray.setIfInBounds i a = (l.set i a).toArray := List.setIfInBounds_toArray ..
theorem sqb {α : Type} (x : α) (l : List α) (a : α) : (x :: l).set 0 a = a :: l := rfl
theorem sqc {α : Type} (x : α) (l : List α) (n : Nat) (a : α) : (x :: l).set (n + 1) a = x :: l.set n a := rfl

def RowP (P : Nat → Prop) (w : World) (o : Option Addr) (cap len z : Nat) (c : Nat → Nat → Value) : Prop :=
 len ≤ cap ∧ cap ≤ maxLen ∧ (o = none → cap = 0) ∧ (0 < len → ∃ b off, o = some ⟨b, off, none⟩ ∧ P b ∧ ∀ j, j < len → ∀ m, m < z → w.cell? ⟨b, off + j * z + m, none⟩ = some (c j m))
theorem RowP.keptP {P P' : Nat → Prop} {w w' : World} {o : Option Addr} {cap len z : Nat} {c : Nat → Nat → Value} (h : RowP P w o cap len z c) (b : ∀ k, P k → P' k ∧ w'.heap[k]? = w.heap[k]?) : RowP P' w' o cap len z c := by
 obtain ⟨h1, h2, h3, h4⟩ := h
 refine ⟨h1, h2, h3, fun hl => ?_⟩
 obtain ⟨b', off, rfl, hb, hc⟩ := h4 hl
 exact ⟨b', off, rfl, (b _ hb).1, fun j hj m hm => (World.cell?_of_block (w := w) (b _ hb).2).trans (hc j hj m hm)⟩
structure Cz where
 acc : List (Tkn × Option Addr × Nat)
 vl : Value
 sg : Nat
 h : Ps
 n0 : Nat
abbrev psv (x : Tkn × Option Addr × Nat) : Value := .slice x.2.1 x.1.ps.length x.2.2
def Cz.tz (Z : Cz) (i : Nat) : Tkn × Option Addr × Nat := (Z.acc[i]?).getD (tk0, none, 0)
def tc7 (x : Tkn × Option Addr × Nat) (m : Nat) : Value := match m with
 | 0 => .int .i64 x.1.k | 1 => .string (tx x.1.s) | 2 => .int .i64 x.1.n | 3 => psv x | 4 => .int .i64 x.1.p.a | 5 => .int .i64 x.1.p.l | _ => .int .i64 x.1.p.c
def pc5 (x : Prt) (m : Nat) : Value := match m with
 | 0 => .bool x.ex | 1 => .string (tx x.s) | 2 => .int .i64 x.p.a | 3 => .int .i64 x.p.l | _ => .int .i64 x.p.c
def prt0 : Prt := ⟨false, [], ⟨0, 0, 0⟩⟩
def opn : Nat → Value
 | 1 => .func (.func 114) #[] #[]
 | 2 => .func (.func 115) #[] #[]
 | 3 => .func (.func 116) #[] #[]
 | _ => .nilFunc
def sgEs : Array MapEntry := #[⟨.string ⟨#[124, 124]⟩, .agg #[.int .i64 20, .int .i64 0, .nilFunc], 0⟩, ⟨.string ⟨#[38, 38]⟩, .agg #[.int .i64 19, .int .i64 0, .nilFunc], 1⟩, ⟨.string ⟨#[60]⟩, .agg #[.int .i64 13, .int .i64 0, .nilFunc], 2⟩, ⟨.string ⟨#[60, 61]⟩, .agg #[.int .i64 14, .int .i64 0, .nilFunc], 3⟩, ⟨.string ⟨#[62]⟩, .agg #[.int .i64 15, .int .i64 0, .nilFunc], 4⟩, ⟨.string ⟨#[62, 61]⟩, .agg #[.int .i64 16, .int .i64 0, .nilFunc], 5⟩, ⟨.string ⟨#[61, 61]⟩, .agg #[.int .i64 17, .int .i64 0, .nilFunc], 6⟩, ⟨.string ⟨#[33, 61]⟩, .agg #[.int .i64 18, .int .i64 0, .nilFunc], 7⟩, ⟨.string ⟨#[43]⟩, .agg #[.int .i64 11, .int .i64 0, .nilFunc], 8⟩, ⟨.string ⟨#[45]⟩, .agg #[.int .i64 12, .int .i64 7, .nilFunc], 9⟩, ⟨.string ⟨#[42]⟩, .agg #[.int .i64 8, .int .i64 0, .nilFunc], 10⟩, ⟨.string ⟨#[47]⟩, .agg #[.int .i64 9, .int .i64 0, .nilFunc], 11⟩, ⟨.string ⟨#[37]⟩, .agg #[.int .i64 10, .int .i64 0, .nilFunc], 12⟩, ⟨.string ⟨#[33]⟩, .agg #[.int .i64 0, .int .i64 6, .nilFunc], 13⟩, ⟨.string ⟨#[40]⟩, .agg #[.int .i64 0, .int .i64 0, .func (.func 114) #[] #[]], 14⟩, ⟨.string ⟨#[91]⟩, .agg #[.int .i64 0, .int .i64 0, .func (.func 115) #[] #[]], 15⟩, ⟨.string ⟨#[123]⟩, .agg #[.int .i64 0, .int .i64 0, .func (.func 116) #[] #[]], 16⟩]
def Ok (n R b : Nat) : Prop := b < n ∧ b ≠ R
def clsT : List Int := [4294968832, 0, 0, 0, 0, 576460745860972544, 0, 0, 287948901175001088, 0, 0, 0, 287948901175001088, 576460745860972544, 0, 0, 17582333466748387328, 2882303762188206080, 0, 0, 18446744056529681407, 15564440312192434175, 18446744073709551615, 18446744073709551615, 18446744073709550591, 18446744073709551615, 18446744073709551615, 18446744073709551615]
def Tab (w : World) : Prop := 2 < w.heap.size ∧ ∀ i, i < 28 → w.cell? ⟨2, i, none⟩ = some (.int .u64 (clsT.getD i 0))
theorem Tab.at {w w' : World} (h : Tab w) (hb : w'.heap[2]? = w.heap[2]?) : Tab w' := by
 refine ⟨?_, fun i hi => (World.cell?_of_block (w := w) hb).trans (h.2 i hi)⟩
 rw [Array.getElem?_eq_getElem h.1] at hb
 exact (Array.getElem?_eq_some_iff.1 hb).1
def Lev (w : World) : Prop := ∀ i, i < 21 → w.cell? ⟨3, i, none⟩ = some (.int .i64 (lvl i))
theorem Lev.at {w w' : World} (h : Lev w) (hb : w'.heap[3]? = w.heap[3]?) : Lev w' := fun i hi => (World.cell?_of_block (w := w) hb).trans (h i hi)
structure Zt (w : World) (R : Nat) (Z : Cz) : Prop where
 tk : ∃ o cap, Z.vl = .slice o Z.acc.length cap ∧ RowP (Ok Z.n0 R) w o cap Z.acc.length 7 (fun j m => tc7 (Z.tz j) m)
 pt : ∀ x, x ∈ Z.acc → RowP (Ok Z.n0 R) w x.2.1 x.2.2 x.1.ps.length 5 (fun j m => pc5 ((x.1.ps[j]?).getD prt0) m)
 sg : w.heap[Z.sg]? = some (.map sgEs 17)
 sr : Z.sg ≠ R
 sl : Z.sg < Z.n0
 tb : Tab w
 lv : Lev w
 r2 : 4 ≤ R
 n2 : 4 ≤ Z.n0
structure Sz (Z : Cz) : Prop where
 n : Z.acc.length ≤ 40000
 tk : ∀ x, x ∈ Z.acc → x.1.s.length ≤ 40000 ∧ x.1.p.a ≤ 40000 ∧ x.1.p.l ≤ 40001 ∧ x.1.p.c ≤ 40001
 a : -1000000000000 ≤ Z.h.a ∧ Z.h.a ≤ 1000000000000
 l : -1000000000000 ≤ Z.h.l ∧ Z.h.l ≤ 1000000000000
 c : -1000000000000 ≤ Z.h.c ∧ Z.h.c ≤ 1000000000000
 nw : ∀ x, x ∈ Z.acc → (Lit.int .i64 x.1.n).wf = true
 pt : ∀ x, x ∈ Z.acc → x.1.ps.length ≤ 40000 ∧ (x.1.ps.flatMap (·.s)).length ≤ 40000 ∧ ∀ y, y ∈ x.1.ps → y.p.a ≤ 40000 ∧ y.p.l ≤ 40001 ∧ y.p.c ≤ 40001
theorem Zt.kept {w w' : World} {R : Nat} {Z : Cz} (h : Zt w R Z) (hF : ∀ k, k < Z.n0 → k ≠ R → w'.heap[k]? = w.heap[k]?) : Zt w' R Z := by
 have key : ∀ k, Ok Z.n0 R k → Ok Z.n0 R k ∧ w'.heap[k]? = w.heap[k]? := fun k hk => ⟨hk, hF k hk.1 hk.2⟩
 have hr2 := h.r2
 have hn2 := h.n2
 refine ⟨?_, fun x hx => ?_, (hF _ h.sl h.sr).trans h.sg, h.sr, h.sl, h.tb.at (hF 2 (by omega) (by omega)), h.lv.at (hF 3 (by omega) (by omega)), hr2, hn2⟩
 · obtain ⟨o, cap, e, r⟩ := h.tk
   exact ⟨o, cap, e, r.keptP key⟩
 · exact (h.pt x hx).keptP key
abbrev rc (Z : Cz) (s : St) : Array Value := #[Z.vl, .int .i64 s.p, .map (some Z.sg), .int .i64 Z.h.a, .int .i64 Z.h.l, .int .i64 Z.h.c, .int .i64 s.e, .int .i64 s.q.a, .int .i64 s.q.l, .int .i64 s.q.c, .string ⟨#[]⟩]
structure Rd (w : World) (R : Nat) (Z : Cz) (s : St) : Prop where
 blk : w.heap[R]? = some (.cells (rc Z s) 122 (0, 0))
 zt : Zt w R Z
 sz : Sz Z
 le : s.p ≤ Z.acc.length
 nn : Z.n0 ≤ w.heap.size
theorem Rd.lt {w : World} {R : Nat} {Z : Cz} {s : St} (h : Rd w R Z s) : R < w.heap.size := (Array.getElem?_eq_some_iff.1 h.blk).1
theorem Rd.below {w w' : World} {R : Nat} {Z : Cz} {s : St} (h : Rd w R Z s) (hb : Below w.heap.size w w') : Rd w' R Z s :=
 ⟨(hb.block R h.lt).trans h.blk, h.zt.kept fun k hk _ => hb.block k (Nat.lt_of_lt_of_le hk h.nn), h.sz, h.le, Nat.le_trans h.nn hb.size⟩
abbrev Fm (R : Nat) (w w' : World) : Prop := w.grownBy w' (some R)
theorem Fm.of {R : Nat} {w w' : World} (hb : Below w.heap.size w w') : Fm R w w' := ⟨hb.os, hb.tape, hb.output, hb.size, fun i hi _ => hb.block i hi⟩
theorem Fm.tr {R : Nat} {a b c : World} (h : Fm R a b) (k : Fm R b c) : Fm R a c :=
 ⟨k.os.trans h.os, k.tape.trans h.tape, k.output.trans h.output, Nat.le_trans h.size k.size, fun i hi hn => (k.block i (Nat.lt_of_lt_of_le hi h.size) hn).trans (h.block i hi hn)⟩
theorem rc11 {w : World} {R : Nat} {Z : Cz} {s : St} (h : w.heap[R]? = some (.cells (rc Z s) 122 (0, 0))) :
 (w.cell? ⟨R, 0, none⟩ = some Z.vl ∧ w.cell? ⟨R, 1, none⟩ = some (.int .i64 s.p) ∧ w.cell? ⟨R, 2, none⟩ = some (.map (some Z.sg)) ∧ w.cell? ⟨R, 3, none⟩ = some (.int .i64 Z.h.a) ∧ w.cell? ⟨R, 4, none⟩ = some (.int .i64 Z.h.l) ∧ w.cell? ⟨R, 5, none⟩ = some (.int .i64 Z.h.c) ∧ w.cell? ⟨R, 6, none⟩ = some (.int .i64 s.e) ∧ w.cell? ⟨R, 7, none⟩ = some (.int .i64 s.q.a) ∧ w.cell? ⟨R, 8, none⟩ = some (.int .i64 s.q.l) ∧ w.cell? ⟨R, 9, none⟩ = some (.int .i64 s.q.c) ∧ w.cell? ⟨R, 10, none⟩ = some (.string ⟨#[]⟩)) ∧
 (∀ i, w.frozen? ⟨R, i, none⟩ = false) ∧ R < w.heap.size :=
 ⟨⟨cell_of_row w R 0 _ _ _ h, cell_of_row w R 1 _ _ _ h, cell_of_row w R 2 _ _ _ h, cell_of_row w R 3 _ _ _ h, cell_of_row w R 4 _ _ _ h, cell_of_row w R 5 _ _ _ h, cell_of_row w R 6 _ _ _ h, cell_of_row w R 7 _ _ _ h, cell_of_row w R 8 _ _ _ h, cell_of_row w R 9 _ _ _ h, cell_of_row w R 10 _ _ _ h⟩,
  fun i => frozen_of_row w R i _ _ h, (Array.getElem?_eq_some_iff.1 h).1⟩
def Cz.cx (Z : Cz) (inn : List UInt8 → Ps → Ex × Nat × Ps) : Cx := ⟨Z.acc.map (·.1), Z.h, inn⟩
theorem Cz.tk_eq (Z : Cz) (inn : List UInt8 → Ps → Ex × Nat × Ps) (i : Nat) : (Z.cx inn).tk i = (Z.tz i).1 := by
 unfold Cx.tk Cz.cx Cz.tz
 simp only [List.getElem?_map]
 cases Z.acc[i]? <;> rfl
theorem Cz.len_eq (Z : Cz) (inn : List UInt8 → Ps → Ex × Nat × Ps) : (Z.cx inn).L.length = Z.acc.length := by unfold Cz.cx; simp
theorem Zt.at {w : World} {R : Nat} {Z : Cz} (h : Zt w R Z) {i : Nat} (hi : i < Z.acc.length) : ∃ b o cap, Z.vl = .slice (some ⟨b, o, none⟩) Z.acc.length cap ∧ Ok Z.n0 R b ∧ Z.acc.length ≤ cap ∧ cap ≤ maxLen ∧
 (w.cell? ⟨b, o + i * 7, none⟩ = some (.int .i64 (Z.tz i).1.k) ∧ w.cell? ⟨b, o + i * 7 + 1, none⟩ = some (.string (tx (Z.tz i).1.s)) ∧ w.cell? ⟨b, o + i * 7 + 2, none⟩ = some (.int .i64 (Z.tz i).1.n) ∧ w.cell? ⟨b, o + i * 7 + 3, none⟩ = some (psv (Z.tz i)) ∧ w.cell? ⟨b, o + i * 7 + 4, none⟩ = some (.int .i64 (Z.tz i).1.p.a) ∧ w.cell? ⟨b, o + i * 7 + 5, none⟩ = some (.int .i64 (Z.tz i).1.p.l) ∧ w.cell? ⟨b, o + i * 7 + 6, none⟩ = some (.int .i64 (Z.tz i).1.p.c)) := by
 obtain ⟨o, cap, e, h1, h2, h3, h4⟩ := h.tk
 obtain ⟨b, off, rfl, hb, hc⟩ := h4 (by omega)
 have g := hc i hi
 exact ⟨b, off, cap, e, hb, h1, h2, g 0 (by omega), g 1 (by omega), g 2 (by omega), g 3 (by omega), g 4 (by omega), g 5 (by omega), g 6 (by omega)⟩
abbrev tv (x : Tkn × Option Addr × Nat) : Value := .agg #[.int .i64 x.1.k, .string (tx x.1.s), .int .i64 x.1.n, .slice x.2.1 x.1.ps.length x.2.2, .int .i64 x.1.p.a, .int .i64 x.1.p.l, .int .i64 x.1.p.c]
abbrev pv3 (p : Ps) : Value := .agg #[.int .i64 p.a, .int .i64 p.l, .int .i64 p.c]
set_option maxHeartbeats 1000000 in
theorem tok_any {w : World} {R : Nat} {Z : Cz} {s : St} (h : Rd w R Z s) (i : Nat) (hi : i ≤ 100000) : Calls Tryz.prog 76 #[.pointer (some ⟨R, 0, none⟩), .int .i64 i] w fun e w' => e = .returned (.agg #[.int .i64 (Z.tz i).1.k, .string (tx (Z.tz i).1.s), .int .i64 (Z.tz i).1.n, .slice (Z.tz i).2.1 (Z.tz i).1.ps.length (Z.tz i).2.2, .int .i64 (Z.tz i).1.p.a, .int .i64 (Z.tz i).1.p.l, .int .i64 (Z.tz i).1.p.c]) ∧ Below w.heap.size w w' := by
 by_cases hlt : i < Z.acc.length
 · obtain ⟨b, o, cap, e, hb, h1, h2, c0, c1, c2, c3, c4, c5, c6⟩ := h.zt.at hlt
   obtain ⟨⟨r0, r1, r2, r3, r4, r5, r6, r7, r8, r9, r10⟩, -, hR⟩ := rc11 h.blk
   rw [e] at r0
   have HB := qh hb
   unfold maxLen at h2
   have k1 : (i : Int) < (Z.acc.length : Int) := by omega
   have k2 : ¬ (i : Int) < 0 := by omega
   have hb1 : b < w.heap.size := Nat.lt_of_lt_of_le hb.1 h.nn
   generalize Z.tz i = x at *
   clear hb h
   go_enter Tryz.func76, Tryz.ntmps76
   go_wp2
   exact bodyPost_ret (v := tv x) (by simp [results, Tryz.results76, go_sem]) rfl ⟨rfl, (Below.refl _ _).alloc (Nat.le_refl _) _⟩
 · have hz : Z.tz i = (tk0, none, 0) := by unfold Cz.tz; rw [List.getElem?_eq_none (by omega)]; rfl
   obtain ⟨o, cap, e, h1, h2, h3, h4⟩ := h.zt.tk
   obtain ⟨⟨r0, r1, r2, r3, r4, r5, r6, r7, r8, r9, r10⟩, -, hR⟩ := rc11 h.blk
   rw [e] at r0
   unfold maxLen at h2
   have k1 : ¬ (i : Int) < (Z.acc.length : Int) := by omega
   have k2 : ¬ (i : Int) < 0 := by omega
   rw [hz]
   clear h h4 hz
   go_enter Tryz.func76, Tryz.ntmps76
   go_wp2
   exact bodyPost_ret (v := tv (tk0, none, 0)) (by simp [results, Tryz.results76, go_sem]; simp [tk0, tx]) rfl ⟨rfl, (Below.refl _ _).alloc (Nat.le_refl _) _⟩
open Go.RowKit

theorem field66_0 (c0 c1 c2 c3 c4 c5 c6 : Value) (w : World) : (Instr.field 89 (.agg #[c0, c1, c2, c3, c4, c5, c6]) 0).run Tryz.prog w = .ok c0 w := by kernel_rfl
theorem field66_1 (c0 c1 c2 c3 c4 c5 c6 : Value) (w : World) : (Instr.field 89 (.agg #[c0, c1, c2, c3, c4, c5, c6]) 1).run Tryz.prog w = .ok c1 w := by kernel_rfl
theorem field66_3 (c0 c1 c2 c3 c4 c5 c6 : Value) (w : World) : (Instr.field 89 (.agg #[c0, c1, c2, c3, c4, c5, c6]) 3).run Tryz.prog w = .ok c3 w := by kernel_rfl
theorem field66_4 (c0 c1 c2 c3 c4 c5 c6 : Value) (w : World) : (Instr.field 89 (.agg #[c0, c1, c2, c3, c4, c5, c6]) 4).run Tryz.prog w = .ok (.agg #[c4, c5, c6]) w := by kernel_rfl
attribute [local go_sem] field66_0 field66_1 field66_3 field66_4
theorem rc3 {w : World} {b : Nat} {c0 c1 c2 : Value} {t : TypeId} (h : w.heap[b]? = some (.cells #[c0, c1, c2] t (0, 0))) :
 (w.cell? ⟨b, 0, none⟩ = some c0 ∧ w.cell? ⟨b, 1, none⟩ = some c1 ∧ w.cell? ⟨b, 2, none⟩ = some c2) ∧ (w.frozen? ⟨b, 0, none⟩ = false ∧ w.frozen? ⟨b, 1, none⟩ = false ∧ w.frozen? ⟨b, 2, none⟩ = false) ∧ b < w.heap.size :=
 ⟨⟨cell_of_row w b 0 _ _ _ h, cell_of_row w b 1 _ _ _ h, cell_of_row w b 2 _ _ _ h⟩, ⟨frozen_of_row w b 0 _ _ h, frozen_of_row w b 1 _ _ h, frozen_of_row w b 2 _ _ h⟩, (Array.getElem?_eq_some_iff.1 h).1⟩
theorem tz_bd {Z : Cz} (h : Sz Z) (i : Nat) : (Z.tz i).1.s.length ≤ 40000 ∧ (Z.tz i).1.p.a ≤ 40000 ∧ (Z.tz i).1.p.l ≤ 40001 ∧ (Z.tz i).1.p.c ≤ 40001 := by
 unfold Cz.tz
 cases e : Z.acc[i]? with
 | none => simp [tk0]
 | some x => exact h.tk x (List.mem_of_getElem? e)
set_option maxRecDepth 100000 in
set_option maxHeartbeats 1000000 in
theorem moved_any {w : World} {R : Nat} {Z : Cz} {s : St} (h : Rd w R Z s) (p : Ps) (b1 : 0 ≤ p.a ∧ p.a ≤ 100000) (b2 : 0 ≤ p.l ∧ p.l ≤ 100000) (b3 : 0 ≤ p.c ∧ p.c ≤ 100000) :
 Calls Tryz.prog 155 #[.pointer (some ⟨R, 0, none⟩), pv3 p] w fun e w' => e = .returned (.agg #[.int .i64 (mv Z.h p).a, .int .i64 (mv Z.h p).l, .int .i64 (mv Z.h p).c]) ∧ Below w.heap.size w w' := by
 obtain ⟨⟨r0, r1, r2, r3, r4, r5, r6, r7, r8, r9, r10⟩, -, hR⟩ := rc11 h.blk
 have z1 := h.sz.a
 have z2 := h.sz.l
 have z3 := h.sz.c
 have e1 : IntKind.i64.wrap (p.a + Z.h.a) = p.a + Z.h.a := IntWalk.i64_in _ (by omega)
 have e2 : IntKind.i64.wrap (p.l + Z.h.l) = p.l + Z.h.l := IntWalk.i64_in _ (by omega)
 have e3 : IntKind.i64.wrap (p.c + Z.h.c) = p.c + Z.h.c := IntWalk.i64_in _ (by omega)
 have HM : Hid (mv Z.h p = ⟨p.a + Z.h.a, p.l + Z.h.l, if p.l = 1 then p.c + Z.h.c else p.c⟩) := rfl
 generalize mv Z.h p = M at *
 clear h r0 r1 r2 r6 r7 r8 r9 r10
 by_cases hl : p.l = 1
 · go_enter Tryz.func155, Tryz.ntmps155
   go_wp2
   go_region
   all_goals go_wp2
   all_goals go_region
   all_goals go_wp2
   all_goals go_region
   all_goals go_wp2
   exact bodyPost_ret (v := pv3 M) (by have := HM.out; subst this; simp [results, Tryz.results155, go_sem, hl]) rfl ⟨rfl, (((Below.refl _ _).alloc (Nat.le_refl _) _).alloc (by simp) _).drew.drew.drew⟩
 · go_enter Tryz.func155, Tryz.ntmps155
   go_wp2
   go_region
   all_goals go_wp2
   all_goals go_region
   all_goals go_wp2
   exact bodyPost_ret (v := pv3 M) (by have := HM.out; subst this; simp [results, Tryz.results155, go_sem, hl]) rfl ⟨rfl, (((Below.refl _ _).alloc (Nat.le_refl _) _).alloc (by simp) _).drew.drew⟩

def Cz.pl (Z : Cz) (s : St) : Ps := mv Z.h (Z.tz s.p).1.p.ps
theorem pl_eq (Z : Cz) (inn : List UInt8 → Ps → Ex × Nat × Ps) (s : St) : (Z.cx inn).pl s = Z.pl s := by unfold Cx.pl Cz.pl; rw [Cz.tk_eq]; rfl
set_option maxRecDepth 100000 in
set_option maxHeartbeats 1000000 in
theorem place_any {w : World} {R : Nat} {Z : Cz} {s : St} (h : Rd w R Z s) : Calls Tryz.prog 123 #[.pointer (some ⟨R, 0, none⟩)] w fun e w' => e = .returned (.agg #[.int .i64 (Z.pl s).a, .int .i64 (Z.pl s).l, .int .i64 (Z.pl s).c]) ∧ Below w.heap.size w w' := by
 have B0 : Below w.heap.size w (w.alloc (.cells #[.int .i64 0, .int .i64 0, .int .i64 0] 36)) := (Below.refl _ _).alloc (Nat.le_refl _) _
 have H0 := qh (And.intro B0 (h.below B0))
 have hn := h.sz.n
 have hle := h.le
 obtain ⟨b0, b1, b2, b3⟩ := tz_bd h.sz s.p
 obtain ⟨⟨r0, r1, r2, r3, r4, r5, r6, r7, r8, r9, r10⟩, -, hR⟩ := rc11 h.blk
 clear r0 r2 r3 r4 r5 r6 r7 r8 r9 r10 B0 h
 have HX : Hid (Z.pl s = mv Z.h (Z.tz s.p).1.p.ps) := rfl
 have HB : Hid ((0 ≤ (Z.tz s.p).1.p.ps.a ∧ (Z.tz s.p).1.p.ps.a ≤ 100000) ∧ (0 ≤ (Z.tz s.p).1.p.ps.l ∧ (Z.tz s.p).1.p.ps.l ≤ 100000) ∧ (0 ≤ (Z.tz s.p).1.p.ps.c ∧ (Z.tz s.p).1.p.ps.c ≤ 100000)) := by
  unfold Plc.ps Hid; simp only; omega
 generalize Z.pl s = M at *
 clear b0 b1 b2 b3
 go_enter Tryz.func123, Tryz.ntmps123
 go_wp2_with fail
 refine (tok_any H0.out.2 s.p (by omega)).mono ?_
 rintro e w1 ⟨rfl, c1⟩
 have H1 := qh (And.intro (H0.out.1.trans (c1.mono H0.out.1.size)) (And.intro c1 (H0.out.2.below c1)))
 clear c1
 go_wp2_with fail
 refine (moved_any H1.out.2.2 (Z.tz s.p).1.p.ps HB.out.1 HB.out.2.1 HB.out.2.2).mono ?_
 rintro e w2 ⟨rfl, c2⟩
 have C2 := H1.out.2.1.trans (c2.mono H1.out.2.1.size)
 have H2 := qh (H1.out.1.trans (c2.mono H1.out.1.size))
 have c0 := (heap_alloc_new w (.cells #[.int .i64 0, .int .i64 0, .int .i64 0] 36))
 have c3 := (C2.block w.heap.size (by simp)).trans c0
 rw [← HX.out]
 obtain ⟨⟨q0, q1, q2⟩, ⟨f0, f1, f2⟩, hz⟩ := rc3 c3
 clear c0 c3 C2 c2 HX HB
 go_wp2_with fail
 exact bodyPost_ret (v := pv3 M) (by simp [results, Tryz.results123, go_sem, q0, q1, q2]) rfl ⟨rfl, ((H2.out.setCell (p := ⟨w.heap.size, 0, none⟩) (Nat.le_refl _) _).setCell (p := ⟨w.heap.size, 1, none⟩) (Nat.le_refl _) _).setCell (p := ⟨w.heap.size, 2, none⟩) (Nat.le_refl _) _⟩
theorem Fm.rf (R : Nat) (w : World) : Fm R w w := Fm.of (Below.refl _ _)
theorem Fm.bl {R : Nat} {w W W' : World} (h : Fm R w W) (k : Below W.heap.size W W') : Fm R w W' := h.tr (Fm.of k)
theorem Fm.al {R : Nat} {w W : World} (h : Fm R w W) (o : Obj) : Fm R w (W.alloc o) := h.bl ((Below.refl _ _).alloc (Nat.le_refl _) _)
theorem Fm.dr {R : Nat} {w W : World} (h : Fm R w W) : Fm R w W.drew := h.bl (Below.refl _ _).drew
theorem Fm.hi {R : Nat} {w W : World} (h : Fm R w W) {b : Nat} (hb : w.heap.size ≤ b) (i : Nat) (v : Value) : Fm R w (W.setCell ⟨b, i, none⟩ v) := by
 have k : Below b W (W.setCell ⟨b, i, none⟩ v) := (Below.refl _ _).setCell (p := ⟨b, i, none⟩) (Nat.le_refl _) _
 exact ⟨k.os.trans h.os, k.tape.trans h.tape, k.output.trans h.output, Nat.le_trans h.size k.size, fun j hj hn => (k.block j (Nat.lt_of_lt_of_le hj hb)).trans (h.block j hj hn)⟩
theorem Fm.st {R : Nat} {w W : World} (h : Fm R w W) (i : Nat) (v : Value) : Fm R w (W.setCell ⟨R, i, none⟩ v) := by
 have k : Below R W (W.setCell ⟨R, i, none⟩ v) := (Below.refl _ _).setCell (p := ⟨R, i, none⟩) (Nat.le_refl _) _
 exact ⟨k.os.trans h.os, k.tape.trans h.tape, k.output.trans h.output, Nat.le_trans h.size k.size, fun j hj hn => (heap_setCell_other W ⟨R, i, none⟩ j v (fun e => hn (by rw [e]))).trans (h.block j hj hn)⟩
theorem Rd.fr {w W : World} {R : Nat} {Z : Cz} {s s' : St} (h : Rd w R Z s) (f : Fm R w W) (hb : W.heap[R]? = some (.cells (rc Z s') 122 (0, 0))) (hle : s'.p ≤ Z.acc.length) : Rd W R Z s' :=
 ⟨hb, h.zt.kept fun k hk hn => f.block k (Nat.lt_of_lt_of_le hk h.nn) (fun e => hn (Option.some.inj e)), h.sz, hle, Nat.le_trans h.nn f.size⟩
set_option maxRecDepth 100000 in
set_option maxHeartbeats 1000000 in
theorem pass_any {w : World} {R : Nat} {Z : Cz} {s : St} (h : Rd w R Z s) (hlt : s.p < Z.acc.length) : Calls Tryz.prog 119 #[.pointer (some ⟨R, 0, none⟩)] w fun e w' => e = .returned (.agg #[.int .i64 (Z.pl s).a, .int .i64 (Z.pl s).l, .int .i64 (Z.pl s).c]) ∧ Rd w' R Z s.pass ∧ Fm R w w' := by
 have B0 : Below w.heap.size w (w.alloc (.cells #[.int .i64 0, .int .i64 0, .int .i64 0] 36)) := (Below.refl _ _).alloc (Nat.le_refl _) _
 have H0 := qh (And.intro B0 (h.below B0))
 have hn := h.sz.n
 have hR0 := h.lt
 have HH := qh h
 clear B0 h
 go_enter Tryz.func119, Tryz.ntmps119
 go_wp2_with fail
 refine (place_any H0.out.2).mono ?_
 rintro e w1 ⟨rfl, c1⟩
 have H1 := qh (And.intro (H0.out.1.trans (c1.mono H0.out.1.size)) (H0.out.2.below c1))
 have c3 := (c1.block w.heap.size (by simp)).trans (heap_alloc_new w (.cells #[.int .i64 0, .int .i64 0, .int .i64 0] 36))
 obtain ⟨⟨q0, q1, q2⟩, ⟨f0, f1, f2⟩, hz⟩ := rc3 c3
 obtain ⟨⟨r0, r1, r2, r3, r4, r5, r6, r7, r8, r9, r10⟩, fr, hR⟩ := rc11 H1.out.2.blk
 have fr1 := fr 1
 have e1 : IntKind.i64.wrap ((s.p : Int) + 1) = (s.p : Int) + 1 := IntWalk.i64_in _ (by omega)
 clear c3 c1 r0 r2 r3 r4 r5 r6 r7 r8 r9 r10 fr
 go_wp2_with fail
 refine bodyPost_ret (v := .agg #[.int .i64 (Z.pl s).a, .int .i64 (Z.pl s).l, .int .i64 (Z.pl s).c]) (by simp [results, Tryz.results119, go_sem, q0, q1, q2, hz]) rfl ⟨rfl, ?_⟩
 have F1 : Fm R w w1 := Fm.of H1.out.1
 have F2 := ((((F1.st 1 (.int .i64 ((s.p : Int) + 1))).hi (Nat.le_refl _) 0 (.int .i64 (Z.pl s).a)).hi (Nat.le_refl _) 1 (.int .i64 (Z.pl s).l)).hi (Nat.le_refl _) 2 (.int .i64 (Z.pl s).c)).al (.cells #[.int .i64 (Z.pl s).a, .int .i64 (Z.pl s).l, .int .i64 (Z.pl s).c] 36)
 refine ⟨HH.out.fr F2 ?_ (by show s.p + 1 ≤ _; omega), F2⟩
 have hne : R ≠ w.heap.size := by omega
 rw [heap_alloc_old _ _ (by simp; exact hR), heap_setCell_other _ _ _ _ hne, heap_setCell_other _ _ _ _ hne, heap_setCell_other _ _ _ _ hne, heap_setCell_same _ R 1 _ _ _ H1.out.2.blk]
 rfl
open Go.RowKit
attribute [local go_sem] field66_0 field66_1 field66_3 field66_4

def Cz.fail (Z : Cz) (s : St) (e : Nat) (q : Ps) : St := if s.e = 0 then ⟨Z.acc.length, e, q⟩ else ⟨Z.acc.length, s.e, s.q⟩
theorem fail_eq (Z : Cz) (inn : List UInt8 → Ps → Ex × Nat × Ps) (s : St) (e : Nat) (q : Ps) : (Z.cx inn).fail s e q = Z.fail s e q := by unfold Cx.fail Cz.fail; rw [Cz.len_eq]
set_option maxRecDepth 100000 in
set_option maxHeartbeats 1000000 in
theorem fail_any {w : World} {R : Nat} {Z : Cz} {s : St} (h : Rd w R Z s) (e : Nat) (q : Ps) : Calls Tryz.prog 122 #[.pointer (some ⟨R, 0, none⟩), .agg #[.int .i64 e, .int .i64 q.a, .int .i64 q.l, .int .i64 q.c, .string ⟨#[]⟩]] w fun x w' => x = .returned (.tuple #[]) ∧ Rd w' R Z (Z.fail s e q) ∧ Fm R w w' := by
 have HH := qh h
 obtain ⟨o, cap, ev, h1, h2, -, -⟩ := h.zt.tk
 obtain ⟨⟨r0, r1, r2, r3, r4, r5, r6, r7, r8, r9, r10⟩, fr, hR⟩ := rc11 h.blk
 have f1 := fr 1
 have f6 := fr 6
 have f7 := fr 7
 have f8 := fr 8
 have f9 := fr 9
 have f10 := fr 10
 rw [ev] at r0
 unfold maxLen at h2
 clear h r2 r3 r4 r5 fr
 by_cases he : s.e = 0
 · have he' : ((s.e : Int) == 0) = true := by simp [he]
   have HE := qh he
   clear he
   go_enter Tryz.func122, Tryz.ntmps122
   go_wp2
   go_end0
   have ef : Z.fail s e q = ⟨Z.acc.length, e, q⟩ := by unfold Cz.fail; rw [if_pos HE.out]
   rw [ef]
   have F := ((((((((Fm.rf R w).st 6 (.int .i64 e)).st 7 (.int .i64 q.a)).st 8 (.int .i64 q.l)).st 9 (.int .i64 q.c)).st 10 (.string ⟨#[]⟩)).st 1 (.int .i64 Z.acc.length)).al (.cells #[.int .i64 e, .int .i64 q.a, .int .i64 q.l, .int .i64 q.c, .string ⟨#[]⟩] 53))
   exact ⟨rfl, HH.out.fr F ((heap_alloc_old _ _ (by simp; exact hR)).trans (heap_setCell_same _ R 1 _ _ _ (heap_setCell_same _ R 10 _ _ _ (heap_setCell_same _ R 9 _ _ _ (heap_setCell_same _ R 8 _ _ _ (heap_setCell_same _ R 7 _ _ _ (heap_setCell_same _ R 6 _ _ _ HH.out.blk))))))) (Nat.le_refl _), F⟩
 · have he' : ((s.e : Int) == 0) = false := by simp [he]
   have HE := qh he
   clear he
   go_enter Tryz.func122, Tryz.ntmps122
   go_wp2
   go_end0
   have ef : Z.fail s e q = ⟨Z.acc.length, s.e, s.q⟩ := by unfold Cz.fail; rw [if_neg HE.out]
   rw [ef]
   have F := (((Fm.rf R w).st 1 (.int .i64 Z.acc.length)).al (.cells #[.int .i64 e, .int .i64 q.a, .int .i64 q.l, .int .i64 q.c, .string ⟨#[]⟩] 53))
   exact ⟨rfl, HH.out.fr F ((heap_alloc_old _ _ (by simp; exact hR)).trans (heap_setCell_same _ R 1 _ _ _ HH.out.blk)) (Nat.le_refl _), F⟩
end Go.Proofs.YtncjncacfagldaaGreatDoor
