/- The reference's GetStr. -/
import Derived.Test.YtpmdkekjoocplaaGf
import Derived.Test.YtpmdkekjoocplaaTd
namespace Go.Proofs.Ytpmdkekjoocplaa
open Go.RowKit

/-- a text and how many bytes it took, as an answer -/
def rstrV (r : Except Nat (ByteArray × Nat)) : Ending := match r with
  | .ok (s, k) => .returned (.tuple #[.string s, .int .i64 k, .int .i64 0])
  | .error e => .returned (.tuple #[.string ⟨#[]⟩, .int .i64 0, .int .i64 e])
set_option maxHeartbeats 1000000 in
theorem rgetStr_any {n : Nat} {o : Option Addr} {cap : Nat} {M : List Nat} {w : World} (B : Bts n w o cap M) :
    Calls Try.prog 30 #[.slice o M.length cap, .int .i64 1024] w fun e w' => e = rstrV (gstr M 1024) ∧ ∃ m, w' = w.drewN m := by
  have S := rgetShort_any B
  have HB := Lib.hid B
  have l1 := B.row.1
  have l2 := B.row.2.1
  unfold maxLen at l2
  cases hg : gs 0 M with
  | error x =>
    have HQ : Hid (gstr M 1024 = .error x) := by unfold Hid gstr; rw [hg]
    have hx : ((x : Int) != 0) = true := by rw [bne_iff_ne]; have := gs_err _ _ _ hg; omega
    rw [hg] at S
    have HS := Lib.hid S
    clear S B hg
    go_enter Try.func30, Try.ntmps30
    go_wp2_with fail
    refine HS.out.mono ?_
    rintro e w1 ⟨rfl, m, rfl⟩
    unfold gsV
    go_wp2_with fail
    go_ret3
    exact ⟨by rw [HQ.out]; rfl, m, rfl⟩
  | ok p =>
    obtain ⟨n', k⟩ := p
    obtain ⟨hk, hk0⟩ := gs_ok hg
    have hb := gs_bd B.b 0 n' k (by omega) hg
    rw [hg] at S
    have HS := Lib.hid S
    by_cases h1 : 1024 < n'
    · have HQ : Hid (gstr M 1024 = .error 3) := by unfold Hid gstr; rw [hg]; simp only; rw [if_pos h1]
      clear S B hg
      go_enter Try.func30, Try.ntmps30
      go_wp2_with fail
      refine HS.out.mono ?_
      rintro e w1 ⟨rfl, m, rfl⟩
      unfold gsV
      go_wp2_with fail
      go_ret3
      exact ⟨by rw [HQ.out]; rfl, m, rfl⟩
    · by_cases h2 : M.length - k < n'
      · have HQ : Hid (gstr M 1024 = .error 2) := by unfold Hid gstr; rw [hg]; simp only; rw [if_neg h1, if_pos h2]
        clear S B hg
        go_enter Try.func30, Try.ntmps30
        go_wp2_with fail
        refine HS.out.mono ?_
        rintro e w1 ⟨rfl, m, rfl⟩
        unfold gsV
        go_wp2_with fail
        go_ret3
        exact ⟨by rw [HQ.out]; rfl, m, rfl⟩
      · have HQ : Hid (gstr M 1024 = .ok (bs ((M.drop k).take n'), k + n')) := by unfold Hid gstr; rw [hg]; simp only; rw [if_neg h1, if_neg h2]
        cases o with
        | none => have := B.nil.2; subst this; simp at hk; omega
        | some a =>
          have hsp := B.sp a rfl
          obtain ⟨b, off, spot⟩ := a
          simp only at hsp
          subst hsp
          have kc := fun m => conv_bytes (B.kept (below_drewN (Below.refl n w) m)) (j := k) (m := n') (by omega)
          clear S B hg
          go_enter Try.func30, Try.ntmps30
          go_wp2_with fail
          refine HS.out.mono ?_
          rintro e w1 ⟨rfl, m, rfl⟩
          unfold gsV
          go_wp2_with fail
          all_goals
            go_ret3
            exact ⟨by rw [HQ.out]; rfl, m, rfl⟩
end Go.Proofs.Ytpmdkekjoocplaa
