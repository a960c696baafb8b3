/- The text of an address. -/
import Derived.Test.YtakoghdkllfhlaaDoorSb
import Derived.Test.YtakoghdkllfhlaaDoorTpd
namespace Go.Proofs.YtakoghdkllfhlaaDoor
open Go.RowKit

/-- the table of tens -/
abbrev TabW (w : World) : Prop := Lib.TabIs Tryd.prog w "internal/strconv.uint64pow10" .u64 Lib.pow10Tab
theorem tab_below {w w' : World} {n : Nat} (h : TabW w) (hb : Below n w w') (hn : w.heap.size ≤ n) : TabW w' := by
  unfold TabW Lib.TabIs World.var? at *
  cases hg : Tryd.prog.globalNamed "internal/strconv.uint64pow10" with
  | none => rw [hg] at h; cases h
  | some g =>
    rw [hg] at h
    simp only [Option.bind_some] at h ⊢
    cases hw : w.heap[g]? with
    | none => rw [hw] at h; cases h
    | some o =>
      rw [hb.block g (by have := (Array.getElem?_eq_some_iff.1 hw).1; omega), hw]
      rw [hw] at h
      exact h
/-- an address whose texts are short -/
structure Lo (a : Adr) : Prop where
  t : a.t.size ≤ 1000000
  n : a.n.size ≤ 1000000
  k : a.k.size ≤ 1000000
  i1 : -9223372036854775808 ≤ a.i
  i2 : a.i ≤ 9223372036854775807
/-- its text -/
def prA (a : Adr) : ByteArray :=
  if a.kd = 1 then a.t ++ ⟨#[46]⟩ ++ a.n ++ ⟨#[91]⟩ ++ ⟨(Lib.itoa a.i).toArray⟩ ++ ⟨#[93]⟩
  else if a.kd = 2 then a.t ++ ⟨#[46]⟩ ++ a.n ++ ⟨#[91]⟩ ++ ⟨#[34]⟩ ++ a.k ++ ⟨#[34]⟩ ++ ⟨#[93]⟩
  else a.t ++ ⟨#[46]⟩ ++ a.n
theorem itoa_sz (n : Int) (h1 : -9223372036854775808 ≤ n) (h2 : n ≤ 9223372036854775807) : (⟨(Lib.itoa n).toArray⟩ : ByteArray).size ≤ 1000000 := by
  show (Lib.itoa n).length ≤ _
  have := Lib.itoa_length_le n h1 h2
  omega
set_option maxHeartbeats 1000000 in
theorem printA_any (a : Adr) (w : World) (h : Lo a) (hT : TabW w) : Calls Tryd.prog 27 #[av a] w fun e w' => e = .returned (.string (prA a)) ∧ Below w.heap.size w w' := by
  have HW := Lib.hid ((Below.refl w.heap.size w).alloc (Nat.le_refl _) (ba a))
  have C := print_any a.i (w.alloc (ba a)) h.i1 h.i2 (tab_below hT HW.out (Nat.le_refl _))
  have hz := itoa_sz a.i h.i1 h.i2
  unfold prA
  obtain ⟨h1, h2, h3, -, -⟩ := h
  obtain ⟨t, n, kd, i, k⟩ := a
  dsimp only at h1 h2 h3 hz C HW ⊢
  generalize (⟨(Lib.itoa i).toArray⟩ : ByteArray) = I at *
  have C := Lib.hid C
  clear hT
  by_cases k1 : kd = 1
  · subst k1
    rw [if_pos rfl]
    go_enter Tryd.func27, Tryd.ntmps27
    go_wp2_with fail
    refine C.out.mono ?_
    rintro e w' ⟨rfl, hB⟩
    have HB := Lib.hid (HW.out.trans (hB.mono (by simp)))
    clear hB
    go_wp2_with fail
    go_ret
    exact ⟨rfl, HB.out⟩
  · rw [if_neg k1]
    have b1 : (kd == 1) = false := by rw [beq_eq_false_iff_ne]; exact k1
    by_cases k2 : kd = 2
    · subst k2
      rw [if_pos rfl]
      clear C
      go_enter Tryd.func27, Tryd.ntmps27
      go_wp2_with fail
      go_ret
      exact ⟨rfl, HW.out⟩
    · rw [if_neg k2]
      have b2 : (kd == 2) = false := by rw [beq_eq_false_iff_ne]; exact k2
      clear C k1 k2
      go_enter Tryd.func27, Tryd.ntmps27
      go_wp2_with fail
      go_ret
      exact ⟨rfl, HW.out⟩
theorem str_two (a b : ByteArray) (x y z u : UInt8) : a ++ ⟨#[x, y]⟩ ++ b ++ ⟨#[z, u]⟩ = a ++ ⟨#[x]⟩ ++ ⟨#[y]⟩ ++ b ++ ⟨#[z]⟩ ++ ⟨#[u]⟩ := by
  apply lb_inj
  unfold lb
  simp only [ByteArray.data_append]
  simp
set_option maxHeartbeats 1000000 in
theorem rprintA_any (a : Adr) (w : World) (h : Lo a) : Calls Tryd.prog 28 #[av a] w fun e w' => e = .returned (.string (prA a)) ∧ Below w.heap.size w w' := by
  have HW := Lib.hid ((Below.refl w.heap.size w).alloc (Nat.le_refl _) (ba a))
  have C := rprint_any a.i (w.alloc (ba a)) h.i1 h.i2
  have hz := itoa_sz a.i h.i1 h.i2
  unfold prA
  rw [← str_two]
  obtain ⟨h1, h2, h3, -, -⟩ := h
  obtain ⟨t, n, kd, i, k⟩ := a
  dsimp only at h1 h2 h3 hz C HW ⊢
  generalize (⟨(Lib.itoa i).toArray⟩ : ByteArray) = I at *
  have C := Lib.hid C
  by_cases k1 : kd = 1
  · subst k1
    rw [if_pos rfl]
    go_enter Tryd.func28, Tryd.ntmps28
    go_wp2_with fail
    refine C.out.mono ?_
    rintro e w' ⟨rfl, q, rfl⟩
    have HB := Lib.hid (below_drewN HW.out q)
    go_wp2_with fail
    go_ret
    exact ⟨rfl, HB.out⟩
  · rw [if_neg k1]
    have b1 : (kd == 1) = false := by rw [beq_eq_false_iff_ne]; exact k1
    by_cases k2 : kd = 2
    · subst k2
      rw [if_pos rfl]
      clear C
      go_enter Tryd.func28, Tryd.ntmps28
      go_wp2_with fail
      go_ret
      exact ⟨rfl, HW.out⟩
    · rw [if_neg k2]
      have b2 : (kd == 2) = false := by rw [beq_eq_false_iff_ne]; exact k2
      clear C k1 k2
      go_enter Tryd.func28, Tryd.ntmps28
      go_wp2_with fail
      go_ret
      exact ⟨rfl, HW.out⟩
/-- Parse, in plain words -/
noncomputable def parA (s : ByteArray) : Adr × Int := if checkB (pieceL (lb s)) = true ∧ prA (pieceL (lb s)) = s then (pieceL (lb s), 0) else (⟨⟨#[]⟩, ⟨#[]⟩, 0, 0, ⟨#[]⟩⟩, 4)
theorem cutA_le (c : UInt8) (l : List UInt8) : (cutA c l).length ≤ l.length := by
  unfold cutA
  exact (List.takeWhile_prefix _).length_le
theorem pv_in (l : List UInt8) (m : Bool) : -9223372036854775808 ≤ pv l m ∧ pv l m ≤ 9223372036854775807 := by
  unfold pv
  split
  · unfold nv
    split
    · rename_i h
      unfold inI at h
      simpa using h
    · omega
  · omega
theorem numv_in (l : List UInt8) : -9223372036854775808 ≤ numv l ∧ numv l ≤ 9223372036854775807 := by
  unfold numv
  split <;> exact pv_in _ _
theorem lastL_lo (l : List UInt8) : (lastL l).2.2.length ≤ l.length ∧ -9223372036854775808 ≤ (lastL l).2.1 ∧ (lastL l).2.1 ≤ 9223372036854775807 := by
  unfold lastL
  split
  · refine ⟨?_, by simp, by simp⟩
    have := trim_le 34 l.tail
    rw [List.length_tail] at this
    show (trim 34 l.tail).length ≤ _
    omega
  · split
    · exact ⟨Nat.zero_le _, numv_in l⟩
    · exact ⟨Nat.zero_le _, by simp, by simp⟩
theorem piece_lo {s : ByteArray} (hs : s.size ≤ 1000000) : Lo (pieceL (lb s)) := by
  have hl : (lb s).length = s.size := L_len s
  have a1 := cutA_le 46 (lb s)
  have a2 := cutB_le 46 (lb s)
  have a3 := cutA_le 91 (cutB 46 (lb s))
  have a4 := cutB_le 91 (cutB 46 (lb s))
  have a5 := trim_le 93 (cutB 91 (cutB 46 (lb s)))
  obtain ⟨b1, b2, b3⟩ := lastL_lo (trim 93 (cutB 91 (cutB 46 (lb s))))
  unfold pieceL
  split
  · exact ⟨by show (cutA 46 (lb s)).length ≤ _; omega, by show (cutA 91 (cutB 46 (lb s))).length ≤ _; omega, by show (lastL (trim 93 (cutB 91 (cutB 46 (lb s))))).2.2.length ≤ _; omega, b2, b3⟩
  · exact ⟨by show (cutA 46 (lb s)).length ≤ _; omega, by show (cutA 91 (cutB 46 (lb s))).length ≤ _; omega, by show 0 ≤ _; omega, by simp, by simp⟩
theorem Lo.sm {a : Adr} (h : Lo a) : Sm a := ⟨by have := h.t; omega, by have := h.n; omega, by have := h.k; omega⟩
end Go.Proofs.YtakoghdkllfhlaaDoor
