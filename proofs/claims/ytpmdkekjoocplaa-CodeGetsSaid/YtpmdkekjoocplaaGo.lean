/- The reference's get, of any bytes; its Get. -/
import Derived.Test.YtpmdkekjoocplaaGn0
import Derived.Test.YtpmdkekjoocplaaGn1
import Derived.Test.YtpmdkekjoocplaaGn2
import Derived.Test.YtpmdkekjoocplaaGn3
import Derived.Test.YtpmdkekjoocplaaGn4
import Derived.Test.YtpmdkekjoocplaaGn5
import Derived.Test.YtpmdkekjoocplaaGn6
import Derived.Test.YtpmdkekjoocplaaGn7
import Derived.Test.YtpmdkekjoocplaaC
namespace Go.Proofs.Ytpmdkekjoocplaa
open Go.RowKit Typ

set_option maxRecDepth 100000 in
set_option maxHeartbeats 2000000 in
theorem rget_end {d : Nat} (hd : d ≤ 7) {n : Nat} {o : Option Addr} {cap : Nat} {M : List Nat} {w : World} (B : Bts n w o cap M) :
    Calls Try.prog 16 #[.slice o M.length cap, .int .i64 M.length, .int .i64 ((8 - d : Nat) : Int)] w (RPost (dec tok (d + 1) (M.drop M.length)) M.length M.length w) := by
  have hdep : ¬ (8 : Int) < ((8 - d : Nat) : Int) := by omega
  obtain ⟨D, hD⟩ : ∃ D : Int, ((8 - d : Nat) : Int) = D := ⟨_, rfl⟩
  rw [hD] at hdep ⊢
  have hDb : 0 ≤ D ∧ D ≤ 8 := by omega
  obtain ⟨hDb1, hDb2⟩ := hDb
  have l1 := B.row.1
  have l2 := B.row.2.1
  unfold maxLen at l2
  have HB0 := Lib.hid (((Below.refl w.heap.size w).alloc (Nat.le_refl _) (.cells zero8 30)).alloc (by simp) (.cells zero8 30))
  have C0 : Hid (((w.alloc (.cells zero8 30)).alloc (.cells zero8 30)).heap[w.heap.size]? = some (.cells zero8 30 (0, 0))) := (Below.heap_alloc _ _ _ (by simp)).trans (heap_alloc_new _ _)
  have C1 : Hid (((w.alloc (.cells zero8 30)).alloc (.cells zero8 30)).heap[w.heap.size + 1]? = some (.cells zero8 30 (0, 0))) := by
    have := heap_alloc_new (w.alloc (.cells zero8 30)) (.cells zero8 30)
    simpa [Hid] using this
  clear B hD
  go_enter Try.func16, Try.ntmps16
  go_upto_region 2 with fail
  generalize World.alloc (World.alloc _ _) _ = W at *
  obtain ⟨y0, y1, y2, y3, y4, y5, y6, y7, z0, z1, z2, z3, z4, z5, z6, z7, zl⟩ := b8_of C0.out
  obtain ⟨q0, q1, q2, q3, q4, q5, q6, q7, -, -, -, -, -, -, -, -, -⟩ := b8_of C1.out
  go_wp2_with fail
  refine bodyPost_ret (v := .tuple #[zeroV, .int .i64 0, .int .i64 2]) (by simp [results, Try.results16, go_sem, y0, y1, y2, y3, y4, y5, y6, y7]) rfl ?_
  exact rp_err (show dec tok (d + 1) [] = .error 2 from rfl) (by decide) (below_set8 HB0.out (Nat.le_refl _) _ _ _ _ _ _ _ _) rfl
theorem rget_next {d : Nat} (hd : d ≤ 7) (HV : RHolds ((9 - d : Nat) : Int) (dec tok d)) : RHolds ((8 - d : Nat) : Int) (dec tok (d + 1)) := by
  intro n o cap M at' w B hn hle
  by_cases hlt : at' < M.length
  · have hK : M.getD at' 0 % 128 = 0 ∨ M.getD at' 0 % 128 = 1 ∨ M.getD at' 0 % 128 = 2 ∨ M.getD at' 0 % 128 = 3 ∨ M.getD at' 0 % 128 = 4 ∨ M.getD at' 0 % 128 = 5 ∨ M.getD at' 0 % 128 = 6 ∨ 7 ≤ M.getD at' 0 % 128 := by omega
    rcases hK with h | h | h | h | h | h | h | h
    · exact rget_0 hd HV B hn hlt h
    · exact rget_1 hd HV B hn hlt h
    · exact rget_2 hd HV B hn hlt h
    · exact rget_3 hd HV B hn hlt h
    · exact rget_4 hd HV B hn hlt h
    · exact rget_5 hd HV B hn hlt h
    · exact rget_6 hd HV B hn hlt h
    · exact rget_7 hd HV B hn hlt h rfl
  · obtain rfl : at' = M.length := by omega
    exact rget_end hd B
theorem rget_all : ∀ d : Nat, d ≤ 8 → RHolds ((9 - d : Nat) : Int) (dec tok d) := by
  intro d
  induction d with
  | zero => intro _; exact rget_deep
  | succ d ih =>
    intro h
    rw [show 9 - (d + 1) = 8 - d by omega]
    exact rget_next (by omega) (ih (by omega))
end Go.Proofs.Ytpmdkekjoocplaa
