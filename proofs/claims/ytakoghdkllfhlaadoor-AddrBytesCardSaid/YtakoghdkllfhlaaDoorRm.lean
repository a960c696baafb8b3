/- The reader of package addr: a Kind. -/
import Derived.Test.YtakoghdkllfhlaaDoorRl
namespace Go.Proofs.YtakoghdkllfhlaaDoor
open Go.RowKit Go.Lib

theorem drop_cons' {M : List Nat} {j : Nat} (h : j < M.length) : M.drop j = M.getD j 0 :: M.drop (j + 1) := by
  rw [List.drop_eq_getElem_cons h, List.getD_eq_getElem?_getD, List.getElem?_eq_getElem h]; rfl
set_option maxRecDepth 100000 in
set_option maxHeartbeats 2000000 in
theorem akind_any {rb : Nat} {o : Option Addr} {cap : Nat} {M : List Nat} {at' e : Nat} {w : World} (R : Rda w rb o cap M at' e) :
    Calls Tryd.prog 81 #[.pointer (some ⟨rb, 0, none⟩)] w fun r w' => r = .returned (.int .i64 ((stKind M at' e).1 : Nat)) ∧ Rx w rb o cap M (stKind M at' e).2.1 (stKind M at' e).2.2 w' := by
  have H := Lib.hid R
  have l1 := R.B.row.1
  have l2 := R.B.row.2.1
  have le := R.le
  unfold maxLen at l2
  clear R
  by_cases he : e = 0
  case neg =>
    have hs : stKind M at' e = (0, at', e) := by unfold stKind; rw [if_pos he]
    rw [hs]
    have h1 : ((e : Int) != 0) = true := by rw [bne_iff_ne]; omega
    have h2 : ((e : Int) == 0) = false := by rw [beq_eq_false_iff_ne]; omega
    obtain ⟨x0, x1, x2, x3, x4, x5⟩ := H.out.rc
    clear hs he
    go_enter Tryd.func81, Tryd.ntmps81
    go_wp2_with fail
    go_quiet (fail)
    go_wp2_with fail
    go_ret
    exact ⟨rfl, H.out.kept (below_drewN (Below.refl (rb + 1) w) _) (Nat.lt_succ_self _), Exc.of_below (below_drewN (Below.refl _ w) _)⟩
  subst he
  have HD : Hid (∀ q z, Rx w rb o cap M at' z ((w.drewN q).setCell ⟨rb, 2, none⟩ (.int .i64 (z : Nat)))) := fun q z =>
    ⟨(H.out.kept (below_drewN (Below.refl (rb + 1) w) q) (Nat.lt_succ_self _)).set2, (Exc.of_below (below_drewN (Below.refl _ w) q)).trans exc_set⟩
  by_cases hlt : at' < M.length
  · obtain ⟨b, off, e1, hbn, c0⟩ := H.out.B.at hlt
    obtain ⟨c, hc⟩ : ∃ c, M.getD at' 0 = c := ⟨_, rfl⟩
    have hc2 : c < 256 := by rw [← hc]; exact H.out.B.lt at'
    have hs : stKind M at' 0 = if 2 < c then (0, at', 4) else (c, at' + 1, 0) := by unfold stKind; rw [if_neg (by simp), drop_cons' hlt, hc]
    rw [hs]
    have hne : ((at' : Int) == (M.length : Int)) = false := by rw [beq_eq_false_iff_ne]; omega
    have hlt' : (at' : Int) < (M.length : Int) := by omega
    rw [hc] at c0
    subst e1
    have HE : Hid (∀ q, Rx w rb (some ⟨b, off, none⟩) cap M (at' + 1) 0 ((w.drewN q).setCell ⟨rb, 1, none⟩ (.int .i64 ((at' : Int) + 1)))) := fun q => by
      rw [show ((at' : Int) + 1) = ((at' + 1 : Nat) : Int) by omega]
      exact ⟨(H.out.kept (below_drewN (Below.refl (rb + 1) w) q) (Nat.lt_succ_self _)).set1 hlt, (Exc.of_below (below_drewN (Below.refl _ w) q)).trans exc_set⟩
    clear hs hc
    obtain ⟨x0, x1, x2, x3, x4, x5⟩ := H.out.rc
    by_cases h2 : 2 < c
    · rw [if_pos h2]
      have h3 : (2 : Int) < c := by omega
      go_enter Tryd.func81, Tryd.ntmps81
      go_wp2_with fail
      go_quiet (fail)
      go_wp2_with fail
      go_quiet (fail)
      go_wp2_with fail
      go_ret

      exact ⟨rfl, HD.out _ 4⟩
    · rw [if_neg h2]
      have h3 : ¬ (2 : Int) < c := by omega
      go_enter Tryd.func81, Tryd.ntmps81
      go_wp2_with fail
      go_quiet (fail)
      go_wp2_with fail
      go_quiet (fail)
      go_wp2_with fail
      go_ret
      exact ⟨rfl, HE.out _⟩
  · have he : at' = M.length := by omega
    have hs : stKind M at' 0 = (0, at', 2) := by unfold stKind; rw [if_neg (by simp), List.drop_eq_nil_of_le (by omega)]
    rw [hs]
    obtain ⟨x0, x1, x2, x3, x4, x5⟩ := H.out.rc
    have HX := HD.out
    have hq : ((at' : Int) == (M.length : Int)) = true := by rw [beq_iff_eq]; omega
    clear hs he
    go_enter Tryd.func81, Tryd.ntmps81
    go_wp2_with fail
    go_quiet (fail)
    go_wp2_with fail
    go_ret
    exact ⟨rfl, HD.out _ 2⟩
end Go.Proofs.YtakoghdkllfhlaaDoor
