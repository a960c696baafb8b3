/- The reference's Check. -/
import Derived.Test.YtfmgbhaldakpfaaDoorR
namespace Go.Proofs.YtfmgbhaldakpfaaDoor
open Go.RowKit

theorem rchk_any (m : Nat) (hm : m ≤ 9) : ∀ (n : Nat) (V : Val) (v : Value) (w : World), Lies n w V v → n ≤ w.heap.size → Calls Tryd.prog 44 #[v, .int .i64 m] w fun e w' => e = .returned (.bool (okT m V)) ∧ Below w.heap.size w w' := by
  induction m with
  | zero => intro n V v w h hn; exact rchk_z V v w n h
  | succ m ih =>
    intro n V v w h hn
    have hf := ih (by omega)
    have kc : V.k = 0 ∨ V.k = 1 ∨ V.k = 2 ∨ V.k = 3 ∨ V.k = 4 ∨ V.k = 5 ∨ V.k = 6 ∨ (V.k < 0 ∨ 6 < V.k) := by omega
    rcases kc with hk | hk | hk | hk | hk | hk | hk | hk
    · exact rchk_0 m V v w n hk h
    · exact rchk_1 m V v w n hk h
    · exact rchk_2 m V v w n hk h
    · exact rchk_3 m V v w n hk h
    · by_cases hs : V.i = 0 ∧ V.s.toList.isEmpty = true ∧ V.tk = 0 ∧ V.to = 0 ∧ V.l.length ≤ 128 ∧ V.ks.length = 0
      · obtain ⟨a, b, c, d, e, f⟩ := hs
        exact rchk_4_yes m (by omega) V v w n hk h hn hf a b c d e f
      · exact rchk_4_no m V v w n hk h hs
    · by_cases hs : V.i = 0 ∧ V.s.toList.isEmpty = true ∧ V.tk = 0 ∧ V.to = 0 ∧ V.l.length ≤ 128 ∧ V.ks.length = V.l.length
      · obtain ⟨a, b, c, d, e, f⟩ := hs
        cases hq : keysOk V.ks with
        | true => exact rchk_5_yes m (by omega) V v w n hk h hn hf a b c d e f hq
        | false => exact rchk_5_bad m V v w n hk h hn hf a b c d e f hq
      · exact rchk_5_no m V v w n hk h hs
    · exact rchk_6 m V v w n hk h
    · exact rchk_o m V v w n h hk
set_option maxHeartbeats 1000000 in
theorem rCheck_any (n : Nat) (V : Val) (v : Value) (w : World) (hs : sz V ≤ 60000) (h : Lies n w V v) (hn : n ≤ w.heap.size) : Calls Tryd.prog 18 #[v] w fun e w' => e = .returned (.bool (chk V)) ∧ Below w.heap.size w w' := by
  obtain ⟨oL, oK, cL, cK, c, rfl, O⟩ := h.inv
  have HB := Lib.hid (Hd.made w V (.slice oL V.l.length cL) (.slice oK V.ks.length cK))
  have HW := Lib.hid ((Below.refl w.heap.size w).alloc (Nat.le_refl _) (bx V oL oK cL cK))
  have HZ : Hid ((w.alloc (bx V oL oK cL cK)).heap.size = w.heap.size + 1) := by simp [Hid]
  have H := Lib.hid (O.kept (HW.out.mono hn))
  have HG : Hid (∀ (n : Nat) (V : Val) (v : Value) (w : World), Lies n w V v → n ≤ w.heap.size → Calls Tryd.prog 44 #[v, .int .i64 8] w fun e w' => e = .returned (.bool (okT 8 V)) ∧ Below w.heap.size w w') := rchk_any 8 (by omega)
  have hws := weight_sz V
  clear h O
  go_enter Tryd.func18, Tryd.ntmps18
  go_wp2_with fail
  generalize w.alloc _ = w0 at *
  with_reducible refine (HG.out _ V _ _ H.out.lies (by have := HZ.out; omega)).mono ?_
  rintro e w1 ⟨rfl, b1⟩
  have hz := HZ.out
  obtain ⟨x8, x0, x1, x2, x3, x4, x5, x6, x7⟩ := HB.out.kept b1 (by omega)
  have B1 := Lib.hid b1
  clear b1 hz
  cases ho : okT 8 V with
  | false =>
    have HO := Lib.hid ho
    clear ho
    go_wp2_with fail
    go_ret
    exact ⟨by unfold chk; rw [HO.out, Bool.and_false]; rfl, HW.out.trans (B1.out.mono (by have := HZ.out; omega))⟩
  | true =>
    have HO := Lib.hid ho
    clear ho
    go_wp2_with fail
    with_reducible refine (rweight_any 60000 (Nat.le_refl _) n V _ _ hs (H.out.kept (B1.out.mono (by have := HZ.out; omega))).lies (by have := HZ.out; have := B1.out.size; omega)).mono ?_
    rintro e w2 ⟨rfl, b2⟩
    have B2 := Lib.hid (B1.out.trans (b2.mono B1.out.size))
    clear b2
    go_wp2_with fail
    all_goals
      go_ret
      refine ⟨ret_b' ?_, HW.out.trans (B2.out.mono (by have := HZ.out; omega))⟩
      unfold chk; rw [HO.out, Bool.and_true]; first | (simp; omega) | (simp)
end Go.Proofs.YtfmgbhaldakpfaaDoor
