import Derived.Test.YtncjncacfagldaaGreatDoorYWTm
import Derived.Test.YtncjncacfagldaaGreatDoorYWA
import Derived.LoopTactic
import Derived.RegionTactic
import Derived.ChangeAlike
import Derived.BigGuardPart
import Derived.Handy
import Derived.WalkLawsBesides
import Derived.WalkSpells
import Derived.Deep.DeepFit
namespace Go.Proofs.YtncjncacfagldaaGreatDoor
open Go.RowKit

def Plc.step (p : Plc) (c : UInt8) : Plc := if c = 10 then ⟨p.a + 1, p.l + 1, 1⟩ else ⟨p.a + 1, p.l, p.c + 1⟩
def Plc.adv (p : Plc) (l : List UInt8) : Plc := l.foldl Plc.step p
def plc0 : Plc := ⟨0, 1, 1⟩
theorem Plc.adv_app (p : Plc) (x y : List UInt8) : p.adv (x ++ y) = (p.adv x).adv y := by unfold Plc.adv; rw [List.foldl_append]
theorem Plc.adv_a (p : Plc) (l : List UInt8) : (p.adv l).a = p.a + l.length := by
 induction l generalizing p with
 | nil => rfl
 | cons c r ih =>
   show ((p.step c).adv r).a = _
   rw [ih, List.length_cons]
   unfold Plc.step
   split <;> simp only <;> omega
theorem Plc.adv_l (p : Plc) (l : List UInt8) : (p.adv l).l ≤ p.l + l.length := by
 induction l generalizing p with
 | nil => exact Nat.le_refl _
 | cons c r ih =>
   show ((p.step c).adv r).l ≤ _
   refine Nat.le_trans (ih _) ?_
   rw [List.length_cons]
   unfold Plc.step
   split <;> simp only <;> omega
theorem Plc.adv_c (p : Plc) (l : List UInt8) (h : 1 ≤ p.c) : (p.adv l).c ≤ p.c + l.length := by
 induction l generalizing p with
 | nil => exact Nat.le_refl _
 | cons c r ih =>
   show ((p.step c).adv r).c ≤ _
   have h1 : 1 ≤ (p.step c).c := by unfold Plc.step; split <;> simp only <;> omega
   refine Nat.le_trans (ih _ h1) ?_
   rw [List.length_cons]
   unfold Plc.step
   split <;> simp only <;> omega
theorem Plc.adv_c1 (p : Plc) (l : List UInt8) (h : 1 ≤ p.c) : 1 ≤ (p.adv l).c := by
 induction l generalizing p with
 | nil => exact h
 | cons c r ih =>
   show 1 ≤ ((p.step c).adv r).c
   refine ih _ ?_
   unfold Plc.step; split <;> simp only <;> omega
def plc (L : List UInt8) (k : Nat) : Plc := plc0.adv (L.take k)
theorem plc_succ (L : List UInt8) (k : Nat) (h : k < L.length) : plc L (k + 1) = (plc L k).step L[k] := by
 unfold plc
 rw [List.take_succ_eq_append_getElem h, Plc.adv_app]; rfl
theorem plc_a (L : List UInt8) (k : Nat) (h : k ≤ L.length) : (plc L k).a = k := by
 unfold plc
 rw [Plc.adv_a, List.length_take]
 show 0 + _ = k
 omega
theorem plc_l (L : List UInt8) (k : Nat) : (plc L k).l ≤ 1 + L.length := by
 unfold plc
 have := Plc.adv_l plc0 (L.take k)
 have h2 : (L.take k).length ≤ L.length := by rw [List.length_take]; omega
 have : plc0.l = 1 := rfl
 omega
theorem plc_c (L : List UInt8) (k : Nat) : (plc L k).c ≤ 1 + L.length := by
 unfold plc
 have := Plc.adv_c plc0 (L.take k) (by decide)
 have h2 : (L.take k).length ≤ L.length := by rw [List.length_take]; omega
 have : plc0.c = 1 := rfl
 omega
theorem plc_add (L : List UInt8) (a m : Nat) : (plc L a).adv ((L.drop a).take m) = plc L (a + m) := by
 unfold plc
 rw [← Plc.adv_app, List.take_add]
theorem plc_min (L : List UInt8) (k : Nat) : plc L (min k L.length) = plc L k := by
 unfold plc
 rcases Nat.le_total k L.length with h | h
 · rw [Nat.min_eq_left h]
 · rw [Nat.min_eq_right h, List.take_of_length_le h, List.take_of_length_le (Nat.le_refl _)]
def isBlank (c : Nat) : Bool := c == 32 || c == 9 || c == 10
def isLetter (c : Nat) : Bool := (decide (97 ≤ c) && decide (c ≤ 122)) || c == 95
def isDgt (c : Nat) : Bool := decide (48 ≤ c) && decide (c ≤ 57)
def isWord (c : Nat) : Bool := isDgt c || isLetter c
def isMark (c : Nat) : Bool := c == 33 || c == 37 || (decide (40 ≤ c) && decide (c ≤ 47)) || c == 58 || (decide (60 ≤ c) && decide (c ≤ 63)) || c == 91 || c == 93 || c == 123 || c == 125
def isInner (c : Nat) : Bool := !(c == 34 || c == 10 || c == 123 || c == 125)
def isRemark (c : Nat) : Bool := !(c == 10)
def dropP (p : Nat → Bool) (l : List UInt8) : List UInt8 := l.dropWhile fun c => p c.toNat
def takeP (p : Nat → Bool) (l : List UInt8) : List UInt8 := l.takeWhile fun c => p c.toNat
theorem take_dropP (p : Nat → Bool) (l : List UInt8) : takeP p l ++ dropP p l = l := List.takeWhile_append_dropWhile
theorem takeP_len (p : Nat → Bool) (l : List UInt8) : (takeP p l).length + (dropP p l).length = l.length := by
 have := congrArg List.length (take_dropP p l)
 rw [List.length_append] at this; exact this
theorem dropP_le (p : Nat → Bool) (l : List UInt8) : (dropP p l).length ≤ l.length := by have := takeP_len p l; omega
def bhd (p : Nat → Bool) (L : List UInt8) (a : Nat) : Nat := a + (takeP p (L.drop a)).length
theorem bhd_end (p : Nat → Bool) (L : List UInt8) (a : Nat) (h : L.length ≤ a) : bhd p L a = a := by
 unfold bhd takeP; rw [List.drop_eq_nil_of_le h]; rfl
theorem bhd_no (p : Nat → Bool) (L : List UInt8) (a : Nat) (h : a < L.length) (hp : p (L[a]).toNat = false) : bhd p L a = a := by
 unfold bhd takeP; rw [List.drop_eq_getElem_cons h, List.takeWhile_cons, hp]; rfl
theorem bhd_yes (p : Nat → Bool) (L : List UInt8) (a : Nat) (h : a < L.length) (hp : p (L[a]).toNat = true) : bhd p L a = bhd p L (a + 1) := by
 unfold bhd takeP; rw [List.drop_eq_getElem_cons h, List.takeWhile_cons, hp]; simp only [if_true, List.length_cons]; omega
theorem bhd_le (p : Nat → Bool) (L : List UInt8) (a : Nat) (h : a ≤ L.length) : bhd p L a ≤ L.length := by
 have := takeP_len p (L.drop a)
 rw [List.length_drop] at this
 unfold bhd; omega
theorem bhd_ge (p : Nat → Bool) (L : List UInt8) (a : Nat) : a ≤ bhd p L a := by unfold bhd; omega
theorem drop_bhd (p : Nat → Bool) (L : List UInt8) (a : Nat) : L.drop (bhd p L a) = dropP p (L.drop a) := by
 unfold bhd
 rw [← List.drop_drop]
 have h := take_dropP p (L.drop a)
 generalize takeP p (L.drop a) = x at *
 generalize dropP p (L.drop a) = y at *
 rw [← h, List.drop_left]
theorem take_bhd (p : Nat → Bool) (L : List UInt8) (a : Nat) : (L.take (bhd p L a)).drop a = takeP p (L.drop a) := by
 rw [List.drop_take]
 unfold bhd
 rw [Nat.add_sub_cancel_left]
 have h := take_dropP p (L.drop a)
 generalize takeP p (L.drop a) = x at *
 generalize dropP p (L.drop a) = y at *
 rw [← h, List.take_left]
def skc : Nat → List UInt8 → List UInt8
 | 0, l => l
 | f + 1, l => match l with
   | [] => []
   | c :: r => if c = 35 then skc f (dropP isBlank (dropP isRemark (c :: r))) else c :: r
def skip (l : List UInt8) : List UInt8 := skc l.length (dropP isBlank l)
def noP : Plc := ⟨0, 0, 0⟩
def flush (ps : List Prt) (b : List UInt8) : List Prt := if b.isEmpty then ps else ps ++ [⟨false, b, noP⟩]
def esc (c : UInt8) : Option UInt8 := if c = 34 then some 34 else if c = 92 then some 92 else if c = 110 then some 10 else if c = 116 then some 9 else if c = 36 then some 36 else none
def tk : List UInt8 → Option (Nat × (UInt8 ⊕ List UInt8))
 | [] => none
 | c :: r =>
   if c = 92 then match r with
    | [] => none
    | d :: _ => match esc d with
      | none => none
      | some x => some (2, .inl x)
   else if c = 36 ∧ r.head? = some 123 then (if (dropP isInner r.tail).head? = some 125 then some (3 + (takeP isInner r.tail).length, .inr (takeP isInner r.tail)) else none)
   else some (1, .inl c)
def tkP (p : Plc) (ps : List Prt) (b : List UInt8) : UInt8 ⊕ List UInt8 → List Prt
 | .inl _ => ps
 | .inr e => flush ps b ++ [⟨true, e, p⟩]
def tkB (b : List UInt8) : UInt8 ⊕ List UInt8 → List UInt8
 | .inl x => b ++ [x]
 | .inr _ => []
def tkN (n : Nat) : UInt8 ⊕ List UInt8 → Nat
 | .inl _ => n + 1
 | .inr e => n + e.length
def strL : Nat → List UInt8 → Plc → List UInt8 → List Prt → Nat → Option (List Prt × Nat × List UInt8)
 | 0, _, _, _, _, _ => none
 | f + 1, l, p, b, ps, n => match l with
   | [] => none
   | c :: r =>
     if c = 10 then none
     else if c = 34 then some (flush ps b, n, r)
     else match tk (c :: r) with
      | none => none
      | some (m, q) => strL f ((c :: r).drop m) (p.adv ((c :: r).take m)) (tkB b q) (tkP (p.adv ((c :: r).take 2)) ps b q) (tkN n q)
theorem tk_cons (c : UInt8) (r : List UInt8) : tk (c :: r) = (if c = 92 then (match r with
 | [] => none
 | d :: _ => match esc d with
   | none => none
   | some x => some (2, .inl x))
 else if c = 36 ∧ r.head? = some 123 then (if (dropP isInner r.tail).head? = some 125 then some (3 + (takeP isInner r.tail).length, .inr (takeP isInner r.tail)) else none)
 else some (1, .inl c)) := rfl
theorem tk_e1 (d : UInt8) (r : List UInt8) : tk (92 :: d :: r) = (esc d).map fun x => (2, .inl x) := by
 show (match esc d with | none => none | some x => some (2, Sum.inl x)) = _
 cases esc d <;> rfl
theorem tk_x (r : List UInt8) (h : r.head? = some 123) : tk (36 :: r) = if (dropP isInner r.tail).head? = some 125 then some (3 + (takeP isInner r.tail).length, .inr (takeP isInner r.tail)) else none := by
 rw [tk_cons, if_neg (by decide), if_pos ⟨rfl, h⟩]
theorem tk_b (c : UInt8) (r : List UInt8) (h1 : c ≠ 92) (h2 : ¬ (c = 36 ∧ r.head? = some 123)) : tk (c :: r) = some (1, .inl c) := by
 rw [tk_cons, if_neg h1, if_neg h2]
theorem tk_len {l : List UInt8} {m : Nat} {q : UInt8 ⊕ List UInt8} (h : tk l = some (m, q)) : 0 < m ∧ m ≤ l.length := by
 cases l with
 | nil => cases h
 | cons c r =>
   by_cases h1 : c = 92
   · subst h1
     cases r with
     | nil => cases h
     | cons d r' =>
       rw [tk_e1] at h
       cases hd : esc d with
       | none => rw [hd] at h; cases h
       | some x => rw [hd] at h; simp only [Option.map_some, Option.some.injEq, Prod.mk.injEq] at h; obtain ⟨rfl, -⟩ := h; simp
   · by_cases h2 : c = 36 ∧ r.head? = some 123
     · obtain ⟨rfl, h2⟩ := h2
       rw [tk_x r h2] at h
       by_cases h3 : (dropP isInner r.tail).head? = some 125
       · rw [if_pos h3] at h
         simp only [Option.some.injEq, Prod.mk.injEq] at h
         obtain ⟨rfl, -⟩ := h
         have := takeP_len isInner r.tail
         have h4 : r.tail.length + 1 = r.length := by
          cases r with
          | nil => cases h2
          | cons a b => rfl
         have h5 : 0 < (dropP isInner r.tail).length := by
          cases hh : dropP isInner r.tail with
          | nil => rw [hh] at h3; cases h3
          | cons a b => simp
         simp only [List.length_cons]; omega
       · rw [if_neg h3] at h; cases h
     · rw [tk_b c r h1 h2] at h
       simp only [Option.some.injEq, Prod.mk.injEq] at h
       obtain ⟨rfl, -⟩ := h
       simp
def two (c d : UInt8) : Bool := (c == 61 && d == 61) || (c == 33 && d == 61) || (c == 60 && d == 61) || (c == 62 && d == 61) || (c == 38 && d == 38) || (c == 124 && d == 124) || (c == 61 && d == 62)
def sgn : List UInt8 → Nat
 | [] => 0
 | c :: r => if (match r with | [] => false | d :: _ => two c d) then 2 else if isMark c.toNat then 1 else 0
noncomputable def tokL (p : Plc) : List UInt8 → Except Nat (Tkn × List UInt8)
 | [] => .error 0
 | c :: r =>
   if isLetter c.toNat then (if 24 < (takeP isWord (c :: r)).length then .error 3 else .ok (⟨1, takeP isWord (c :: r), 0, [], p⟩, dropP isWord (c :: r)))
   else if isDgt c.toNat then (if pe (takeP isWord (c :: r)) false = 0 then .ok (⟨2, [], pv (takeP isWord (c :: r)) false, [], p⟩, dropP isWord (c :: r)) else .error (pe (takeP isWord (c :: r)) false).toNat)
   else if c = 34 then match strL (r.length + 1) r (p.step c) [] [] 0 with
    | none => .error 4
    | some (ps, n, r') => if 1024 < n then .error 3 else .ok (⟨3, [], 0, ps, p⟩, r')
   else if sgn (c :: r) = 0 then .error 23 else .ok (⟨4, (c :: r).take (sgn (c :: r)), 0, [], p⟩, (c :: r).drop (sgn (c :: r)))
noncomputable def allL : Nat → Plc → List UInt8 → Except (Nat × Plc) (List Tkn)
 | 0, p, _ => .error (99, p)
 | f + 1, p, l => match skip l with
   | [] => .ok [⟨0, [], 0, [], p.adv l⟩]
   | c :: r => match tokL (p.adv (l.take (l.length - (r.length + 1)))) (c :: r) with
     | .error e => .error (e, p.adv (l.take (l.length - (r.length + 1))))
     | .ok (t, l2) => match allL f (p.adv (l.take (l.length - l2.length))) l2 with
       | .error e => .error e
       | .ok ts => .ok (t :: ts)
noncomputable def lexL (L : List UInt8) : Except (Nat × Plc) (List Tkn) := if 32768 < L.length then .error (3, plc0) else allL (L.length + 1) plc0 L
open Go.RowKit

theorem ret_b {a b : Bool} (h : a = b) : Ending.returned (.bool a) = .returned (.bool b) := by rw [h]
theorem ret_nat {a b : Nat} (h : a = b) : Ending.returned (.int .i64 (a : Int)) = .returned (.int .i64 (b : Int)) := by rw [h]
abbrev Is (w : World) (b : Bool) (e : Ending) (w' : World) : Prop := e = .returned (.bool b) ∧ w = w'
abbrev IsN (w : World) (n : Nat) (e : Ending) (w' : World) : Prop := e = .returned (.int .i64 (n : Int)) ∧ w = w'
theorem Tab.below {B : Nat} {w w' : World} (h : Tab w) (hb : Below B w w') (hB : 2 < B) : Tab w' :=
 ⟨Nat.lt_of_lt_of_le h.1 hb.size, fun i hi => (hb.cell (p := ⟨2, i, none⟩) hB).trans (h.2 i hi)⟩
def clsB (k c : Nat) : Bool := bits .and .u64 (clsT.getD (k * 4 + c / 64) 0 / 2 ^ (c % 64)) 1 != 0
theorem all256 {f g : Nat → Bool} (h : (List.range 256).all (fun c => f c == g c) = true) (c : Nat) (hc : c < 256) : f c = g c := by
 rw [List.all_eq_true] at h
 exact eq_of_beq (h c (List.mem_range.2 hc))
structure IsCls (k : Nat) (p : Nat → Bool) : Prop where
 lt : k < 7
 h : ∀ c, c < 256 → clsB k c = p c
theorem cls0 : IsCls 0 isBlank := ⟨by decide, all256 (by kernel_rfl)⟩
theorem cls1 : IsCls 1 isLetter := ⟨by decide, all256 (by kernel_rfl)⟩
theorem cls2 : IsCls 2 isDgt := ⟨by decide, all256 (by kernel_rfl)⟩
theorem cls3 : IsCls 3 isWord := ⟨by decide, all256 (by kernel_rfl)⟩
theorem cls4 : IsCls 4 isMark := ⟨by decide, all256 (by kernel_rfl)⟩
theorem cls5 : IsCls 5 isInner := ⟨by decide, all256 (by kernel_rfl)⟩
theorem cls6 : IsCls 6 isRemark := ⟨by decide, all256 (by kernel_rfl)⟩
theorem in_any {k : Nat} {p : Nat → Bool} (hp : IsCls k p) (c : Nat) (hc : c < 256) (w : World) (hT : Tab w) : Calls Tryz.prog 109 #[.int .i64 k, .int .u8 c] w (Is w (p c)) := by
 have HP := qh (hp.h c hc)
 have hk := hp.lt
 have h1 : (k : Int) < 7 := by omega
 have hx := hT.2 (k * 4 + c / 64) (by omega)
 obtain ⟨X, hX⟩ : ∃ X, clsT.getD (k * 4 + c / 64) 0 = X := ⟨_, rfl⟩
 rw [hX] at hx
 have HX := qh hX
 clear hX hT hp
 go_enter Tryz.func109, Tryz.ntmps109
 go_wp2_with fail
 go_ret
 refine ⟨ret_b ?_, rfl⟩
 rw [← HP.out]
 unfold clsB
 rw [HX.out]
theorem byteAt_in {s : ByteArray} {k : Nat} (h : k < s.size) (w : World) : Calls Tryz.prog 171 #[.string s, .int .i64 k] w fun e w' => e = .returned (.int .u8 (s[k].toNat : Int)) ∧ w = w' := by
 have h1 : (k : Int) < s.size := by omega
 go_enter Tryz.func171, Tryz.ntmps171
 go_wp2
 go_ret
 exact ⟨rfl, rfl⟩
theorem byteAt_out {s : ByteArray} {k : Nat} (h : s.size ≤ k) (w : World) : Calls Tryz.prog 171 #[.string s, .int .i64 k] w fun e w' => e = .returned (.int .u8 0) ∧ w = w' := by
 have h1 : ¬ (k : Int) < s.size := by omega
 go_enter Tryz.func171, Tryz.ntmps171
 go_wp2
 go_ret
 exact ⟨rfl, rfl⟩
abbrev lb (s : ByteArray) : List UInt8 := s.data.toList
theorem lb_get {s : ByteArray} {k : Nat} (h : k < s.size) : (lb s)[k]'(by rw [tp_L_len]; exact h) = s[k] := tp_L_get s k h
theorem u8_lt (c : UInt8) : c.toNat < 256 := UInt8.toNat_lt c
set_option maxHeartbeats 1000000 in
theorem behind_any {k : Nat} {p : Nat → Bool} (hp : IsCls k p) (s : ByteArray) (a : Nat) (w : World) (hT : Tab w) (hs : s.size ≤ 32768) (ha : a ≤ s.size) :
 Calls Tryz.prog 108 #[.string s, .int .i64 a, .int .i64 k] w (IsN w (bhd p (lb s) a)) := by
 have HI := qh (fun c (hc : c < 256) => in_any hp c hc w hT)
 have hk := hp.lt
 clear hT hp
 go_enter Tryz.func108, Tryz.ntmps108
 go_wp2_with fail
 go_loop [1] (fun i => ∃ j : Nat, j ≤ s.size ∧ i = .int .i64 j ∧ Hid (bhd p (lb s) a = bhd p (lb s) j)) (fun i => s.size - (intOf i).toNat)
 case atStart => exact ⟨a, ha, rfl, rfl⟩
 case round =>
  obtain ⟨j, hj, rfl, HJ⟩ := hrel
  by_cases hlt : j < s.size
  · have C := HI.out (s[j].toNat) (u8_lt _)
    cases hc : p (s[j].toNat) with
    | true =>
      have HR := qh (HJ.out.trans (bhd_yes p (lb s) j (by rw [tp_L_len]; exact hlt) (by rw [lb_get hlt]; exact hc)))
      rw [hc] at C
      have C := qh C
      clear hc
      go_wp2_with fail
      refine C.out.mono ?_
      rintro e w1 ⟨rfl, rfl⟩
      go_wp2_with fail
      go_round
      case rel => exact ⟨j + 1, by omega, by go_num, HR⟩
      case measure => simp [intOf]; omega
    | false =>
      have HR := qh (HJ.out.trans (bhd_no p (lb s) j (by rw [tp_L_len]; exact hlt) (by rw [lb_get hlt]; exact hc)))
      rw [hc] at C
      have C := qh C
      clear hc
      go_wp2_with fail
      refine C.out.mono ?_
      rintro e w1 ⟨rfl, rfl⟩
      go_wp2_with fail
      go_ret
      exact ⟨ret_nat HR.out.symm, rfl⟩
  · have HR := qh (HJ.out.trans (bhd_end p (lb s) j (by rw [tp_L_len]; omega)))
    go_wp2_with fail
    go_ret
    exact ⟨ret_nat HR.out.symm, rfl⟩
def btw (L : List UInt8) (a : Nat) : Nat := L.length - (skip (L.drop a)).length
theorem dropP_cons_yes (p : Nat → Bool) (c : UInt8) (r : List UInt8) (h : p c.toNat = true) : dropP p (c :: r) = dropP p r := by unfold dropP; rw [List.dropWhile_cons, if_pos h]
set_option maxHeartbeats 1000000 in
theorem between_any (s : ByteArray) (a : Nat) (w : World) (hT : Tab w) (hs : s.size ≤ 32768) (ha : a ≤ s.size) :
 Calls Tryz.prog 72 #[.string s, .int .i64 a] w (IsN w (btw (lb s) a)) := by
 have HB := qh (fun j (hj : j ≤ s.size) => behind_any cls0 s j w hT hs hj)
 have HR := qh (fun j (hj : j ≤ s.size) => behind_any cls6 s j w hT hs hj)
 have LS : (lb s).length = s.size := tp_L_len s
 have LS' := qh LS
 have hle := bhd_le isBlank (lb s) a (by omega)
 have H0 : Hid (btw (lb s) a = s.size - (skc ((lb s).length - a) ((lb s).drop (bhd isBlank (lb s) a))).length) := by unfold Hid btw skip; rw [drop_bhd, List.length_drop, LS]
 rw [LS] at hle
 obtain ⟨j0, hj0⟩ : ∃ j, bhd isBlank (lb s) a = j := ⟨_, rfl⟩
 rw [hj0] at hle
 have HJ0 := qh hj0
 have B0 := HB.out a ha
 rw [hj0] at H0 B0
 have B0 := qh B0
 have hge := bhd_ge isBlank (lb s) a
 rw [hj0] at hge
 clear hT hj0 LS
 go_enter Tryz.func72, Tryz.ntmps72
 go_wp2_with fail
 refine B0.out.mono ?_
 rintro e w1 ⟨rfl, rfl⟩
 go_wp2_with fail
 go_loop [1] (fun i => ∃ j f : Nat, j ≤ s.size ∧ i = .int .i64 j ∧ s.size - j ≤ f ∧ Hid (btw (lb s) a = s.size - (skc f ((lb s).drop j)).length)) (fun i => s.size - (intOf i).toNat)
 case atStart => exact ⟨j0, _, hle, rfl, by rw [LS'.out]; omega, H0⟩
 case round =>
  obtain ⟨j, f, hj, rfl, hf, HJ⟩ := hrel
  by_cases hlt : j < s.size
  · have hcons := List.drop_eq_getElem_cons (l := lb s) (i := j) (by rw [LS'.out]; exact hlt)
    rw [lb_get hlt] at hcons
    obtain ⟨f', rfl⟩ : ∃ f', f = f' + 1 := ⟨f - 1, by omega⟩
    by_cases hc : (s[j].toNat : Int) = 35
    · have hcc : s[j] = 35 := UInt8.toNat_inj.1 (by have : (35 : UInt8).toNat = 35 := rfl; omega)
      have hb1 : bhd isRemark (lb s) j = bhd isRemark (lb s) (j + 1) := bhd_yes _ _ _ (by rw [LS'.out]; exact hlt) (by rw [lb_get hlt, hcc]; rfl)
      have hg1 := bhd_ge isRemark (lb s) (j + 1)
      have hl1 := bhd_le isRemark (lb s) j (by rw [LS'.out]; omega)
      have hg2 := bhd_ge isBlank (lb s) (bhd isRemark (lb s) j)
      have hl2 := bhd_le isBlank (lb s) (bhd isRemark (lb s) j) hl1
      have HN : Hid (btw (lb s) a = s.size - (skc f' ((lb s).drop (bhd isBlank (lb s) (bhd isRemark (lb s) j)))).length) := by
       unfold Hid
       rw [HJ.out, hcons, skc]
       simp only [hcc, if_true]
       rw [drop_bhd, drop_bhd, hcons, hcc]
      have C1 := HR.out j hj
      rw [LS'.out] at hl1 hl2
      have C2 := HB.out _ hl1
      rw [← hb1] at hg1
      clear hb1 hcons
      generalize bhd isRemark (lb s) j = j1 at *
      generalize bhd isBlank (lb s) j1 = j2 at *
      have t1 : ((s[j].toNat : Int) == 35) = true := by simpa using hc
      clear hc hcc
      have C1 := qh C1
      have C2 := qh C2
      go_wp2_with fail
      refine C1.out.mono ?_
      rintro e w1 ⟨rfl, rfl⟩
      go_wp2_with fail
      refine C2.out.mono ?_
      rintro e w1 ⟨rfl, rfl⟩
      go_wp2_with fail
      go_round
      case rel => exact ⟨j2, f', hl2, rfl, by omega, HN⟩
      case measure => simp [intOf]; omega
    · have HN : Hid (btw (lb s) a = j) := by
       unfold Hid
       rw [HJ.out, hcons, skc]
       have : ¬ s[j] = 35 := fun h => hc (by rw [h]; rfl)
       simp only [this, if_false, List.length_cons, List.length_drop]
       rw [LS'.out]; omega
      have t1 : ((s[j].toNat : Int) == 35) = false := by simpa using hc
      clear hc hcons
      go_wp2_with fail
      go_ret
      exact ⟨ret_nat HN.out.symm, rfl⟩
  · have HN : Hid (btw (lb s) a = j) := by
     unfold Hid
     rw [HJ.out, List.drop_eq_nil_of_le (by rw [LS'.out]; omega)]
     cases f <;> simp only [skc, List.length_nil] <;> omega
    go_wp2_with fail
    go_ret
    exact ⟨ret_nat HN.out.symm, rfl⟩
end Go.Proofs.YtncjncacfagldaaGreatDoor
