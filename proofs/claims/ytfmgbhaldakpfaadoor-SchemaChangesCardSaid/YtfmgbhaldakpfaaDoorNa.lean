/- slices.Index, Find, From. -/
import Derived.Test.YtfmgbhaldakpfaaDoorD
import Derived.Test.YtfmgbhaldakpfaaDoorX
namespace Go.Proofs.YtfmgbhaldakpfaaDoor
open Go.RowKit

/-- where s stands among the first m -/
def At (ks : List ByteArray) (m : Nat) (s : ByteArray) (r : Int) : Prop := (r = -1 ∧ ∀ j, j < m → kk ks j ≠ s) ∨ ∃ j : Nat, r = j ∧ j < m ∧ kk ks j = s ∧ ∀ q, q < j → kk ks q ≠ s
theorem At.uniq {ks : List ByteArray} {m : Nat} {s : ByteArray} {r r' : Int} (h : At ks m s r) (h' : At ks m s r') : r = r' := by
  rcases h with ⟨e, n⟩ | ⟨j, e, l, k, n⟩ <;> rcases h' with ⟨e', n'⟩ | ⟨j', e', l', k', n'⟩
  · rw [e, e']
  · exact absurd k' (n j' l')
  · exact absurd k (n' j l)
  · rcases Nat.lt_trichotomy j j' with d | d | d
    · exact absurd k (n' j d)
    · rw [e, e', d]
    · exact absurd k' (n j' d)
set_option maxRecDepth 100000 in
set_option maxHeartbeats 2000000 in
theorem index_any {n : Nat} {w : World} {ks : List ByteArray} {o : Option Addr} {cap : Nat} (s : ByteArray) (hR : Row n w o cap ks.length 1 (fun j _ => .string (ks.getD j default))) (hn : n ≤ w.heap.size) :
    Calls Tryd.prog 66 #[.slice o ks.length cap, .string s] w fun e w' => (∃ r : Int, e = .returned (.int .i64 r) ∧ At ks ks.length s r) ∧ Below w.heap.size w w' := by
  have l1 := hR.1
  have l2 := hR.2.1
  unfold maxLen at l2
  have HR := Lib.hid hR
  clear hR
  go_enter Tryd.func66, Tryd.ntmps66
  go_wp2_with fail
  go_loopw [8] (fun i wr => ∃ j : Nat, j ≤ ks.length ∧ i = .int .i64 j ∧ Hid (∀ q, q < j → kk ks q ≠ s) ∧ Hid (Below w.heap.size w wr)) (fun i _ => ks.length - (intOf i).toNat)
  case atStart => exact ⟨0, Nat.zero_le _, rfl, (fun q h => absurd h (Nat.not_lt_zero _)), Below.refl _ _⟩
  case round =>
    obtain ⟨j, hj, rfl, hok, hbr⟩ := hrel
    by_cases hlt : j < ks.length
    · obtain ⟨b, off, e, hb, y0⟩ := (HR.out.below (hbr.out.mono hn)).key hlt
      subst e
      by_cases he : s = kk ks j
      · obtain ⟨g1, g2⟩ := str_eq he
        have HA : Hid (At ks ks.length s j) := .inr ⟨j, rfl, hlt, he.symm, hok.out⟩
        clear he hok
        go_wp2_with fail
        go_ret
        exact ⟨⟨j, rfl, HA.out⟩, hbr.out⟩
      · obtain ⟨g1, g2⟩ := str_ne he
        have HN : Hid (∀ q, q < j + 1 → kk ks q ≠ s) := fun q hq hk => by
          by_cases e : q = j
          · subst e; exact he hk.symm
          · exact hok.out q (by omega) hk
        clear he hok
        go_wp2_with fail
        go_roundw
        case rel => first | exact ⟨j + 1, by omega, by go_num, HN, hbr⟩ | ((repeat apply Exists.intro); refine ⟨?_, rfl⟩; exact ⟨j + 1, by omega, by go_num, HN, hbr⟩)
        case measure => simp [intOf]; omega
    · have HA : Hid (At ks ks.length s (-1)) := .inl ⟨rfl, fun q hq => hok.out q (by omega)⟩
      clear hok
      go_wp2_with fail
      go_ret
      exact ⟨⟨-1, rfl, HA.out⟩, hbr.out⟩
set_option maxRecDepth 100000 in
set_option maxHeartbeats 4000000 in
theorem find_any {n : Nat} {V : Val} {v : Value} {w : World} (s : ByteArray) (h5 : V.k = 5) (hkl : V.ks.length = V.l.length) (h : Lies n w V v) (hn : n ≤ w.heap.size) :
    Calls Tryd.prog 39 #[v, .string s] w fun e w' => (∃ r : Int, e = .returned (.int .i64 r) ∧ At V.ks V.ks.length s r) ∧ Below w.heap.size w w' := by
  obtain ⟨oL, oK, cL, cK, c, rfl, O⟩ := h.inv
  have l3 := O.K.1
  have l4 := O.K.2.1
  unfold maxLen at l4
  have HB := Lib.hid (Hd.made w V (.slice oL V.l.length cL) (.slice oK V.ks.length cK))
  have HW := Lib.hid ((Below.refl w.heap.size w).alloc (Nat.le_refl _) (bx V oL oK cL cK))
  have HZ : Hid ((w.alloc (bx V oL oK cL cK)).heap.size = w.heap.size + 1) := by simp [Hid]
  have H := Lib.hid (O.kept (HW.out.mono hn))
  have hc : cnt V = V.ks.length := by unfold cnt; rw [if_neg (by omega), if_pos h5]; omega
  have g5 : (V.k == 5) = true := by simp [h5]
  have HK := Lib.hid (And.intro h5 (And.intro hkl hc))
  clear h O h5 hkl hc
  go_enter Tryd.func39, Tryd.ntmps39
  go_wp2_with fail
  generalize w.alloc _ = w0 at *
  go_loopw [5] (fun i wr => ∃ j : Nat, j ≤ V.ks.length ∧ i = .int .i64 j ∧ Hid (∀ q, q < j → kk V.ks q ≠ s) ∧ Hid (Below w0.heap.size w0 wr)) (fun i _ => V.ks.length - (intOf i).toNat)
  case atStart => exact ⟨0, Nat.zero_le _, rfl, (fun q h => absurd h (Nat.not_lt_zero _)), Below.refl _ _⟩
  case round =>
    obtain ⟨j, hj, rfl, hok, hbr⟩ := hrel
    obtain ⟨x8, x0, x1, x2, x3, x4, x5, x6, x7⟩ := HB.out.kept hbr.out (by have := HZ.out; omega)
    go_wp2_with fail
    refine (len_any (H.out.kept (hbr.out.mono (by have := HZ.out; omega))).lies).mono ?_
    rw [HK.out.2.2]
    rintro e w2 ⟨rfl, b2⟩
    have B2 := Lib.hid (hbr.out.trans (b2.mono hbr.out.size))
    clear b2 x8 x0 x1 x2 x3 x4 x5 x6 x7
    obtain ⟨x8, x0, x1, x2, x3, x4, x5, x6, x7⟩ := HB.out.kept B2.out (by have := HZ.out; omega)
    by_cases hlt : j < V.ks.length
    · obtain ⟨b, off, e, hb, y0⟩ := (H.out.kept (B2.out.mono (by have := HZ.out; omega))).K.key hlt
      subst e
      by_cases he : kk V.ks j = s
      · obtain ⟨g1, g2⟩ := str_eq he
        have HA : Hid (At V.ks V.ks.length s j) := .inr ⟨j, rfl, hlt, he, hok.out⟩
        clear he hok
        go_wp2_with fail
        go_ret
        exact ⟨⟨j, rfl, HA.out⟩, HW.out.trans (B2.out.mono HW.out.size)⟩
      · obtain ⟨g1, g2⟩ := str_ne he
        have HN : Hid (∀ q, q < j + 1 → kk V.ks q ≠ s) := fun q hq hk => by
          by_cases e : q = j
          · subst e; exact he hk
          · exact hok.out q (by omega) hk
        clear he hok
        go_wp2_with fail
        go_roundw
        case rel => first | exact ⟨j + 1, by omega, by go_num, HN, B2⟩ | ((repeat apply Exists.intro); refine ⟨?_, rfl⟩; exact ⟨j + 1, by omega, by go_num, HN, B2⟩)
        case measure => simp [intOf]; omega
    · have HA : Hid (At V.ks V.ks.length s (-1)) := .inl ⟨rfl, fun q hq => hok.out q (by omega)⟩
      clear hok
      go_wp2_with fail
      go_ret
      exact ⟨⟨-1, rfl, HA.out⟩, HW.out.trans (B2.out.mono HW.out.size)⟩
end Go.Proofs.YtfmgbhaldakpfaaDoor
