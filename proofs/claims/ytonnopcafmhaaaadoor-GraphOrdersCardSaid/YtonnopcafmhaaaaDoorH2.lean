/- GraphOrders: the law's walk. -/
import Derived.Test.YtonnopcafmhaaaaDoorD2
import Derived.Test.YtonnopcafmhaaaaDoorR2
namespace Go.Proofs.YtonnopcafmhaaaaDoor
open Go.RowKit

theorem oL_len2 (A : Nat → Nat → Bool) (N : Nat) : (nl (oL A N)).length ≤ N := by rw [nl_len]; exact oL_len
set_option maxRecDepth 20000 in
set_option maxHeartbeats 8000000 in
theorem orders_any (n : Int) (pp : Option Addr) (m cap : Nat) (S : Nat → Option Addr) (M : Nat → List Int) (C : Nat → Nat) (w : World) (h : Pt w pp m S M C) (hm : m ≤ maxLen) (hT : Tab w) :
    Calls Tryd.prog 4 #[.int .i64 n, .slice pp m cap] w fun e w' => e = .returned (.bool true) ∧ Below w.heap.size w w' := by
  have HT := Lib.hid hT
  have GA := great_any n pp m cap S M C w h hm
  cases hg : greatB n m M with
  | true =>
    have AW := Lib.hid (awake_any w hT)
    rw [hg] at GA
    clear h hT hg
    go_enter Tryd.func4, Tryd.ntmps4
    go_wp2_with fail
    refine GA.mono ?_
    rintro e w1 ⟨rfl, rfl⟩
    clear GA
    go_wp2_with fail
    refine AW.out.mono ?_
    rintro e w2 ⟨rfl, b⟩
    have B2 := Lib.hid b
    clear b AW
    go_wp2
    go_ret
    exact ⟨rfl, B2.out⟩
  | false =>
    rw [hg] at GA
    have HP := Lib.hid h
    have hN := clamp_le n
    generalize hNN : clamp n = N at *
    have HNN := Lib.hid hNN
    generalize hAA : ahA N m M = A at *
    have HAA := Lib.hid hAA
    obtain ⟨s1, hs1⟩ : ∃ k, w.heap.size = k := ⟨_, rfl⟩
    have HS1 := Lib.hid hs1
    have hT0 : 0 < s1 := by rw [← hs1]; exact hT.1
    have hl1 : (nl (oL A N)).length ≤ maxLen := Nat.le_trans (oL_len2 A N) (by unfold maxLen; omega)
    have hl2 : (lst (stuckS A N) 128).length ≤ maxLen := Nat.le_trans (lst_len _ _) (by unfold maxLen; omega)
    have HLE : Hid (∀ W, Below s1 w W → s1 ≤ W.heap.size) := fun W b => by have := b.size; omega
    have HTW : Hid (∀ W, Below s1 w W → Tab W) := fun W b => HT.out.below b hT0
    have HPW : Hid (∀ W, Below s1 w W → Pt W pp m S M C) := fun W b => HP.out.below b (by have := HS1.out; omega)
    have HBw : Hid (Below s1 w w) := Below.refl _ _
    clear h hT hg hNN hAA hs1
    go_enter Tryd.func4, Tryd.ntmps4
    go_wp2_with fail
    refine GA.mono ?_
    rintro e w1 ⟨rfl, rfl⟩
    clear GA
    have CN := new_any n pp m cap S M C w HP.out hm
    rw [HNN.out, HAA.out] at CN
    have CT := CN
    go_wp2_with fail
    refine CT.mono ?_
    rintro e w1 ⟨rfl, g1, b⟩
    have HB1 : Hid (Below s1 w w1) := HBw.out.trans (b.mono (HLE.out _ HBw.out))
    have HG1 := Lib.hid g1
    clear g1
    clear CT b CN
    have CO := order_any HG1.out (HTW.out _ HB1.out)
    rw [show ordM A N N (fun _ => false) = oL A N from rfl] at CO
    have CT := CO
    go_wp2_with fail
    refine CT.mono ?_
    rintro e w2 ⟨v1, v2, rfl, ⟨p1, c1, rfl, -, -, rd1, -⟩, ⟨p2, c2, rfl, -, -, rd2, -⟩, b⟩
    have HB2 : Hid (Below s1 w w2) := HB1.out.trans (b.mono (HLE.out _ HB1.out))
    have HRa : Hid (Rd w2 p1 (nl (oL A N))) := rd1
    have HRb : Hid (Rd w2 p2 (lst (stuckS A N) 128)) := rd2
    clear CT b CO rd1 rd2 HG1
    have CN := rnew_any n pp m cap S M C _ (HPW.out _ HB2.out) hm
    rw [HNN.out, HAA.out] at CN
    have CT := CN
    go_wp2_with fail
    refine CT.mono ?_
    rintro e w3 ⟨rfl, g3, b⟩
    have HB3 : Hid (Below s1 w w3) := HB2.out.trans (b.mono (HLE.out _ HB2.out))
    have HRa : Hid (Rd w3 p1 (nl (oL A N))) := HRa.out.below b (Nat.le_refl _)
    have HRb : Hid (Rd w3 p2 (lst (stuckS A N) 128)) := HRb.out.below b (Nat.le_refl _)
    have HG3 := Lib.hid g3
    clear g3
    clear CT b CN
    have CO := rorder_any HG3.out
    have CT := CO
    go_wp2_with fail
    refine CT.mono ?_
    rintro e w4 ⟨v3, v4, rfl, ⟨p3, c3, rfl, -, -, rd1, -⟩, ⟨p4, c4, rfl, -, -, rd2, -⟩, b⟩
    have HB4 : Hid (Below s1 w w4) := HB3.out.trans (b.mono (HLE.out _ HB3.out))
    have HRa : Hid (Rd w4 p1 (nl (oL A N))) := HRa.out.below b (Nat.le_refl _)
    have HRb : Hid (Rd w4 p2 (lst (stuckS A N) 128)) := HRb.out.below b (Nat.le_refl _)
    have HRc : Hid (Rd w4 p3 (nl (oL A N))) := rd1
    have HRd : Hid (Rd w4 p4 (lst (stuckS A N) 128)) := rd2
    clear CT b CO rd1 rd2 HG3
    have CI := ints_any p1 p3 c1 c3 _ _ _ HRa.out HRc.out hl1 hl1
    rw [decide_eq_true rfl] at CI
    have CT := CI
    go_wp2_with fail
    refine CT.mono ?_
    rintro e w5 ⟨rfl, b⟩
    have HB5 : Hid (Below s1 w w5) := HB4.out.trans (b.mono (HLE.out _ HB4.out))
    have HRa : Hid (Rd w5 p1 (nl (oL A N))) := HRa.out.below b (Nat.le_refl _)
    have HRb : Hid (Rd w5 p2 (lst (stuckS A N) 128)) := HRb.out.below b (Nat.le_refl _)
    have HRc : Hid (Rd w5 p3 (nl (oL A N))) := HRc.out.below b (Nat.le_refl _)
    have HRd : Hid (Rd w5 p4 (lst (stuckS A N) 128)) := HRd.out.below b (Nat.le_refl _)
    clear CT b CI
    clear HRa
    clear HRc
    have CI := ints_any p2 p4 c2 c4 _ _ _ HRb.out HRd.out hl2 hl2
    rw [decide_eq_true rfl] at CI
    have CT := CI
    go_wp2_with fail
    refine CT.mono ?_
    rintro e w6 ⟨rfl, b⟩
    have HB6 : Hid (Below s1 w w6) := HB5.out.trans (b.mono (HLE.out _ HB5.out))
    have HRb : Hid (Rd w6 p2 (lst (stuckS A N) 128)) := HRb.out.below b (Nat.le_refl _)
    have HRd : Hid (Rd w6 p4 (lst (stuckS A N) 128)) := HRd.out.below b (Nat.le_refl _)
    clear CT b CI
    clear HRb
    clear HRd
    have CT := awake_any _ (HTW.out _ HB6.out)
    go_wp2_with fail
    refine CT.mono ?_
    rintro e w7 ⟨rfl, b⟩
    have HB7 : Hid (Below s1 w w7) := HB6.out.trans (b.mono (HLE.out _ HB6.out))
    clear CT b
    have HEND : Hid (Below w.heap.size w w7) := by
      unfold Hid; rw [HS1.out]; exact HB7.out
    clear HB7
    go_wp2
    go_ret
    exact ⟨rfl, HEND.out⟩
end Go.Proofs.YtonnopcafmhaaaaDoor
