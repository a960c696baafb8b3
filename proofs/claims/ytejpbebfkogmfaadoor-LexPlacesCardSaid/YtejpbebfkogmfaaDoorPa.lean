/- Pieces in memory that came in; slices.Equal of them. -/
import Derived.Test.YtejpbebfkogmfaaDoorL
namespace Go.Proofs.YtejpbebfkogmfaaDoor
open Go.RowKit

theorem str_eq {s t : ByteArray} (h : s = t) : (s.toList == t.toList) = true := by rw [h]; simp
theorem str_ne {s t : ByteArray} (h : s ≠ t) : (s.toList == t.toList) = false := by
  rw [beq_eq_false_iff_ne, ByteArray.toList_eq, ByteArray.toList_eq]
  intro h1
  apply h
  have := Array.toList_inj.1 h1
  cases s; cases t; simp_all
/-- a piece -/
structure PA where
  ex : Bool
  s : ByteArray
  a : Int
  l : Int
  c : Int
theorem PA.ext' {x y : PA} (h0 : x.ex = y.ex) (h1 : x.s = y.s) (h2 : x.a = y.a) (h3 : x.l = y.l) (h4 : x.c = y.c) : x = y := by cases x; cases y; simp_all
/-- its cells -/
structure P5 (w : World) (b p : Nat) (x : PA) : Prop where
  c0 : w.cell? ⟨b, p, none⟩ = some (.bool x.ex)
  c1 : w.cell? ⟨b, p + 1, none⟩ = some (.string x.s)
  c2 : w.cell? ⟨b, p + 2, none⟩ = some (.int .i64 x.a)
  c3 : w.cell? ⟨b, p + 3, none⟩ = some (.int .i64 x.l)
  c4 : w.cell? ⟨b, p + 4, none⟩ = some (.int .i64 x.c)
/-- pieces below block n -/
structure PR (n : Nat) (w : World) (o : Option Addr) (cap : Nat) (ps : List PA) : Prop where
  le : ps.length ≤ cap
  cm : cap ≤ maxLen
  el : ∀ i x, ps[i]? = some x → ∃ b off, o = some ⟨b, off, none⟩ ∧ b < n ∧ P5 w b (off + i * 5) x
theorem P5.kept {n : Nat} {w w' : World} {b p : Nat} {x : PA} (h : P5 w b p x) (hb : Below n w w') (hn : b < n) : P5 w' b p x :=
  ⟨(hb.cell (p := ⟨b, _, none⟩) hn).trans h.c0, (hb.cell (p := ⟨b, _, none⟩) hn).trans h.c1, (hb.cell (p := ⟨b, _, none⟩) hn).trans h.c2, (hb.cell (p := ⟨b, _, none⟩) hn).trans h.c3, (hb.cell (p := ⟨b, _, none⟩) hn).trans h.c4⟩
theorem PR.kept {n : Nat} {w w' : World} {o : Option Addr} {cap : Nat} {ps : List PA} (h : PR n w o cap ps) (hb : Below n w w') : PR n w' o cap ps :=
  ⟨h.le, h.cm, fun i x hx => by obtain ⟨b, off, e, hn, h5⟩ := h.el i x hx; exact ⟨b, off, e, hn, h5.kept hb hn⟩⟩
/-- a truth, and what it stands for -/
def Tells (w : World) (P : Prop) (e : Ending) (w' : World) : Prop := ∃ b : Bool, e = .returned (.bool b) ∧ (b = true ↔ P) ∧ ∃ q, w' = w.drewN q
theorem tells_no {w w' : World} {P : Prop} {e : Ending} (he : e = .returned (.bool false)) (h : ¬ P) (hw : ∃ q, w' = w.drewN q) : Tells w P e w' := ⟨false, he, by simp [h], hw⟩
theorem tells_yes {w w' : World} {P : Prop} {e : Ending} (he : e = .returned (.bool true)) (h : P) (hw : ∃ q, w' = w.drewN q) : Tells w P e w' := ⟨true, he, by simp [h], hw⟩
set_option maxRecDepth 100000 in
set_option maxHeartbeats 4000000 in
theorem equal17 {n : Nat} {w : World} {o o' : Option Addr} {cap cap' : Nat} {ps ps' : List PA} (A : PR n w o cap ps) (B : PR n w o' cap' ps') :
    Calls Tryd.prog 17 #[.slice o ps.length cap, .slice o' ps'.length cap'] w (Tells w (ps = ps')) := by
  have l1 := A.le
  have l2 := A.cm
  have l3 := B.le
  have l4 := B.cm
  unfold maxLen at l2 l4
  by_cases hl : ps.length = ps'.length
  case neg =>
    have h' : ((ps.length : Int) != (ps'.length : Int)) = true := by rw [bne_iff_ne]; omega
    have HN : Hid (¬ ps = ps') := fun h => hl (by rw [h])
    clear hl A B
    go_enter Tryd.func17, Tryd.ntmps17
    go_wp2_with fail
    go_ret
    exact tells_no rfl HN.out ⟨0, rfl⟩
  case pos =>
    have h' : ((ps.length : Int) != (ps'.length : Int)) = false := by rw [bne_eq_false_iff_eq]; omega
    have HL := Lib.hid hl
    have HA := Lib.hid A
    have HB := Lib.hid B
    obtain ⟨m, hm⟩ : ∃ m, ps.length = m := ⟨_, rfl⟩
    have HM := Lib.hid hm
    have hm' : ps'.length = m := by omega
    have HM' := Lib.hid hm'
    rw [hm, hm'] at h' ⊢
    rw [hm] at l1
    rw [hm'] at l3
    clear hl A B hm hm' h'
    go_enter Tryd.func17, Tryd.ntmps17
    go_wp2_with fail
    go_loopw [13] (fun x wr => ∃ k q : Nat, k ≤ m ∧ x = .int .i64 (k : Int) ∧ wr = w.drewN q ∧ Hid (∀ j, j < k → ps[j]? = ps'[j]?)) (fun x _ => m - (intOf x).toNat)
    case atStart => exact ⟨0, 0, Nat.zero_le _, rfl, rfl, fun j hj => by omega⟩
    case round =>
      obtain ⟨k, q, hk, rfl, rfl, HJ⟩ := hrel
      by_cases hlt : k < m
      · have hlt' : (k : Int) < m := by omega
        obtain ⟨X, hX⟩ : ∃ X, ps[k]? = some X := ⟨_, List.getElem?_eq_getElem (by have := HM.out; omega)⟩
        obtain ⟨Y, hY⟩ : ∃ Y, ps'[k]? = some Y := ⟨_, List.getElem?_eq_getElem (by have := HM'.out; omega)⟩
        obtain ⟨b, off, rfl, hbn, x0, x1, x2, x3, x4⟩ := HA.out.el k X hX
        obtain ⟨b', off', rfl, hbn', y0, y1, y2, y3, y4⟩ := HB.out.el k Y hY
        have HNE : Hid (X ≠ Y → ¬ ps = ps') := fun h h2 => h (by rw [h2, hY] at hX; injection hX with hX; exact hX.symm)
        have HEQ : Hid (X = Y → ∀ j, j < k + 1 → ps[j]? = ps'[j]?) := fun h j hj => by
          rcases Nat.lt_succ_iff_lt_or_eq.1 hj with h1 | rfl
          · exact HJ.out j h1
          · rw [hX, hY, h]
        clear hX hY
        by_cases h0 : X.ex = Y.ex
        case neg =>
          have HX : Hid (X ≠ Y) := fun h => h0 (by rw [h])
          have e0 : (X.ex == Y.ex) = false := beq_eq_false_iff_ne.2 h0
          clear h0
          go_wp2_with fail
          go_quiet (fail)
          go_wp2_with fail
          go_ret
          exact tells_no rfl (HNE.out HX.out) ⟨_, World.drewN_drewN _ _ _⟩
        by_cases h1 : X.s = Y.s
        case neg =>
          have HX : Hid (X ≠ Y) := fun h => h1 (by rw [h])
          have e0 : (X.ex == Y.ex) = true := by simp [h0]
          have e1 : (X.s.toList == Y.s.toList) = false := str_ne h1
          clear h0 h1
          go_wp2_with fail
          go_quiet (fail)
          go_wp2_with fail
          go_ret
          exact tells_no rfl (HNE.out HX.out) ⟨_, World.drewN_drewN _ _ _⟩
        by_cases h2 : X.a = Y.a
        case neg =>
          have HX : Hid (X ≠ Y) := fun h => h2 (by rw [h])
          have e0 : (X.ex == Y.ex) = true := by simp [h0]
          have e1 : (X.s.toList == Y.s.toList) = true := str_eq h1
          have e2 : (X.a == Y.a) = false := beq_eq_false_iff_ne.2 h2
          clear h0 h1 h2
          go_wp2_with fail
          go_quiet (fail)
          go_wp2_with fail
          go_ret
          exact tells_no rfl (HNE.out HX.out) ⟨_, World.drewN_drewN _ _ _⟩
        by_cases h3 : X.l = Y.l
        case neg =>
          have HX : Hid (X ≠ Y) := fun h => h3 (by rw [h])
          have e0 : (X.ex == Y.ex) = true := by simp [h0]
          have e1 : (X.s.toList == Y.s.toList) = true := str_eq h1
          have e2 : (X.a == Y.a) = true := by simp [h2]
          have e3 : (X.l == Y.l) = false := beq_eq_false_iff_ne.2 h3
          clear h0 h1 h2 h3
          go_wp2_with fail
          go_quiet (fail)
          go_wp2_with fail
          go_ret
          exact tells_no rfl (HNE.out HX.out) ⟨_, World.drewN_drewN _ _ _⟩
        by_cases h4 : X.c = Y.c
        case neg =>
          have HX : Hid (X ≠ Y) := fun h => h4 (by rw [h])
          have e0 : (X.ex == Y.ex) = true := by simp [h0]
          have e1 : (X.s.toList == Y.s.toList) = true := str_eq h1
          have e2 : (X.a == Y.a) = true := by simp [h2]
          have e3 : (X.l == Y.l) = true := by simp [h3]
          have e4 : (X.c == Y.c) = false := beq_eq_false_iff_ne.2 h4
          clear h0 h1 h2 h3 h4
          go_wp2_with fail
          go_quiet (fail)
          go_wp2_with fail
          go_ret
          exact tells_no rfl (HNE.out HX.out) ⟨_, World.drewN_drewN _ _ _⟩
        case pos =>
          have HX : Hid (X = Y) := PA.ext' h0 h1 h2 h3 h4
          have e0 : (X.ex == Y.ex) = true := by simp [h0]
          have e1 : (X.s.toList == Y.s.toList) = true := str_eq h1
          have e2 : (X.a == Y.a) = true := by simp [h2]
          have e3 : (X.l == Y.l) = true := by simp [h3]
          have e4 : (X.c == Y.c) = true := by simp [h4]
          clear h0 h1 h2 h3 h4
          go_wp2_with fail
          go_quiet (fail)
          go_wp2_with fail
          go_roundw
          case rel => exact ⟨k + 1, _, by omega, by go_num, rfl, HEQ.out HX.out⟩
          case measure => simp [intOf]; omega
      · have hlt' : ¬ (k : Int) < m := by omega
        have HE : Hid (ps = ps') := by
          apply List.ext_getElem?
          intro j
          rcases Nat.lt_or_ge j k with h | h
          · exact HJ.out j h
          · rw [List.getElem?_eq_none (by have := HM.out; omega), List.getElem?_eq_none (by have := HM'.out; omega)]
        go_wp2_with fail
        go_ret
        exact tells_yes rfl HE.out ⟨_, rfl⟩
end Go.Proofs.YtejpbebfkogmfaaDoor
