/- GraphRight: the law's walk. -/
import Derived.Test.YtonnopcafmhaaaaDoorR1
namespace Go.Proofs.YtonnopcafmhaaaaDoor
open Go.RowKit

theorem nl_get {L : List Nat} {j : Nat} (h : j < L.length) : ∃ k, L[j]? = some k ∧ (nl L).getD j 0 = (k : Int) := by
  refine ⟨L[j], List.getElem?_eq_getElem h, ?_⟩
  unfold nl
  rw [List.getD_eq_getElem?_getD, List.getElem?_map, List.getElem?_eq_getElem h]; rfl
theorem oL_lt {A : Nat → Nat → Bool} {N q k : Nat} (h : (oL A N)[q]? = some k) : k < N := (ord_lt N _ k (List.mem_of_getElem? h)).1
theorem any_step {L : List Nat} {z l : Nat} (h : L[z]? = some l) (p : Nat → Bool) : (L.take (z + 1)).any p = ((L.take z).any p || p l) := by
  rw [List.take_add_one, h, List.any_append]; simp
set_option maxRecDepth 20000 in
set_option maxHeartbeats 8000000 in
theorem right_any (n : Int) (pp : Option Addr) (m cap : Nat) (S : Nat → Option Addr) (M : Nat → List Int) (C : Nat → Nat) (w : World) (h : Pt w pp m S M C) (hm : m ≤ maxLen) (hT : Tab w) :
    Calls Tryd.prog 5 #[.int .i64 n, .slice pp m cap] w fun e w' => e = .returned (.bool true) ∧ Below w.heap.size w w' := by
  have HT := Lib.hid hT
  have GA := great_any n pp m cap S M C w h hm
  cases hg : greatB n m M with
  | true =>
    have AW := Lib.hid (awake_any w hT)
    rw [hg] at GA
    clear h hT hg
    go_enter Tryd.func5, Tryd.ntmps5
    go_wp2_with fail
    refine GA.mono ?_
    rintro e w1 ⟨rfl, rfl⟩
    clear GA
    go_wp2_with fail
    refine AW.out.mono ?_
    rintro e w2 ⟨rfl, b⟩
    have B2 := Lib.hid b
    clear b AW
    go_wp2
    go_ret
    exact ⟨rfl, B2.out⟩
  | false =>
    rw [hg] at GA
    have NA := new_any n pp m cap S M C w h hm
    have hN := clamp_le n
    generalize clamp n = N at *
    generalize ahA N m M = A at *
    have hT0 := hT.1
    obtain ⟨n0, hn0⟩ : ∃ k, w.heap.size = k := ⟨_, rfl⟩
    rw [hn0] at NA hT0
    have HN0 := Lib.hid hn0
    clear h hT hg hm
    go_enter Tryd.func5, Tryd.ntmps5
    go_wp2_with fail
    refine GA.mono ?_
    rintro e w1 ⟨rfl, rfl⟩
    clear GA
    go_wp2_with fail
    refine NA.mono ?_
    rintro e w1 ⟨rfl, g1, b1⟩
    have OA := order_any g1 (HT.out.below b1 hT0)
    have HG1 := Lib.hid g1
    have HB1 := Lib.hid b1
    have hs1 := g1.lt
    clear NA g1 b1 hn0
    go_wp2_with fail
    refine OA.mono ?_
    rintro e w2 ⟨v1, v2, rfl, ⟨p1, c1, rfl, -, -, rd1, -⟩, ⟨p2, c2, rfl, -, -, rd2, -⟩, b2⟩
    have HG2 := Lib.hid (HG1.out.below b2 hs1)
    have HB2 : Hid (Below n0 w w2) := HB1.out.trans (b2.mono (by omega))
    rw [lst_kL] at rd2
    have HR1 := Lib.hid (show Rd w2 p1 (nl (oL A N)) from rd1)
    have HR2 := Lib.hid rd2
    have e1 : (nl (ordM A N N fun _ => false)).length = (oL A N).length := nl_len _
    have e2 : (lst (stuckS A N) 128).length = (kL A N).length := nl_len _
    rw [e1, e2]
    clear OA rd1 rd2 HG1 HB1 e1 e2
    have LE := len_any HG2.out.blk
    go_wp2_with fail
    refine LE.mono ?_
    rintro e w3 ⟨rfl, rfl⟩
    clear LE b2
    have hmk := run_make_row' (P := Tryd.prog) 23 3 (.int .i64 0) 8 Tryd.underlying23 info3 rfl .i64 .i64 N (by omega) (by omega)
    have HMK := Lib.hid (World.rowIs_made w2 (.int .i64 0) N 3)
    have HBM := Lib.hid ((Below.refl w2.heap.size w2).alloc (Nat.le_refl _) (.cells (madeCells #[.int .i64 0] N) 3))
    have hsz : n0 ≤ w2.heap.size := by have := HB2.out.size; have := HN0.out; omega
    have hgl := HG2.out.lt
    obtain ⟨g8, hg8⟩ : ∃ k, w2.heap.size = k := ⟨_, rfl⟩
    rw [hg8] at HMK HBM hsz hgl
    have HG8 := Lib.hid hg8
    have LO := Lib.hid (oL_len (A := A) (N := N))
    have hO := oL_len (A := A) (N := N)
    have hKL := len_all (A := A) hN
    go_wp2_with fail
    generalize hol : (oL A N).length = lo at *
    generalize hkl : (kL A N).length = lk at *
    have HOL := Lib.hid hol
    have HKL := Lib.hid hkl
    clear hol hkl
    have LOK := Lib.hid hKL
    have hlo : lo ≤ 128 := by omega
    have hlk : lk ≤ 128 := by omega
    clear hO hKL
    go_loopg [9] lo (fun k c wr => ∃ (j : Nat) (f : Nat → Int), j ≤ lo ∧ k = lo - j ∧ c = .int .i64 j ∧ Hid (wr.rowIs g8 3 N fun q => .int .i64 (f q)) ∧ Hid (Below g8 w2 wr) ∧ Hid (P1 A N j f))
    case atStart => exact ⟨0, fun _ => 0, by omega, by omega, rfl, HMK.out, HBM.out, P1.start⟩
    case round =>
      clear HMK HBM hg8
      obtain ⟨j, f, hj, rfl, rfl, H8, HB, HP⟩ := hrel
      by_cases hjl : j < lo
      · obtain ⟨x, hx, hxv⟩ := nl_get (L := oL A N) (j := j) (by rw [HOL.out]; exact hjl)
        obtain ⟨b1, o1, rfl, q1, c1⟩ := HR1.out j (by rw [nl_len, HOL.out]; exact hjl)
        rw [hxv] at c1
        have c1 : wr.cell? ⟨b1, o1 + j, none⟩ = _ := (HB.out.cell (p := ⟨b1, o1 + j, none⟩) (by show b1 < g8; have := HG8.out; omega)).trans c1
        have hxN := oL_lt hx
        have c8 := H8.out.cell hxN
        have f8 := H8.out.frozen x
        rw [HP.out.zero hx] at c8
        have HP2 := Lib.hid (HP.out.step hx)
        have H82 := Lib.hid (H8.out.set x (.int .i64 ((j : Int) + 1)))
        have HB2 : Hid (Below g8 w2 (wr.setCell ⟨g8, x, none⟩ (.int .i64 ((j : Int) + 1)))) := HB.out.setCell (Nat.le_refl _) _
        have j0 : (0 : Int) ≤ j := by omega
        have jl : (j : Int) < lo := by omega
        have x0 : (0 : Int) ≤ x := by omega
        have xN : (x : Int) < N := by omega
        clear hxv hx H8 HB HP
        go_wp2
        go_roundg (lo - (j + 1))
        case rel => exact ⟨j + 1, fun q => if q = x then (j : Int) + 1 else f q, by omega, rfl, by go_num, H82.out.congr (fun q _ => by show (if _ then _ else _) = Value.int .i64 (if _ then _ else _); split <;> rfl), HB2.out, HP2.out⟩
        case measure => omega
      · have hjl : j = lo := by omega
        subst hjl
        have HP2 := HP.out
        rw [← HOL.out] at HP2
        have HP3 := Lib.hid HP2.done
        clear HP HP2 HR1
        go_wp2
        go_loopg [11] lk (fun k c wr => ∃ (i : Nat) (f : Nat → Int), i ≤ lk ∧ k = lk - i ∧ c = .int .i64 i ∧ Hid (wr.rowIs g8 3 N fun q => .int .i64 (f q)) ∧ Hid (Below g8 w2 wr) ∧ Hid (P2 A N i f))
        case atStart => exact ⟨0, f, by omega, by omega, rfl, H8.out, HB.out, HP3.out⟩
        case round =>
          clear H8 HB HP3
          obtain ⟨i, f, hi, rfl, rfl, H8, HB, HP⟩ := hrel
          by_cases hil : i < lk
          · obtain ⟨x, hx, hxv⟩ := nl_get (L := kL A N) (j := i) (by rw [HKL.out]; exact hil)
            obtain ⟨b1, o1, rfl, q1, c1⟩ := HR2.out i (by rw [nl_len, HKL.out]; exact hil)
            rw [hxv] at c1
            have c1 : wr.cell? ⟨b1, o1 + i, none⟩ = _ := (HB.out.cell (p := ⟨b1, o1 + i, none⟩) (by show b1 < g8; have := HG8.out; omega)).trans c1
            have hxN := (kL_not hx).1
            have c8 := H8.out.cell hxN
            have f8 := H8.out.frozen x
            rw [HP.out.zero hx] at c8
            have HP2 := Lib.hid (HP.out.step hx)
            have H82 := Lib.hid (H8.out.set x (.int .i64 (-1)))
            have HB2 : Hid (Below g8 w2 (wr.setCell ⟨g8, x, none⟩ (.int .i64 (-1)))) := HB.out.setCell (Nat.le_refl _) _
            have j0 : (0 : Int) ≤ i := by omega
            have jl : (i : Int) < lk := by omega
            have x0 : (0 : Int) ≤ x := by omega
            have xN : (x : Int) < N := by omega
            clear hxv hx H8 HB HP
            go_wp2
            go_roundg (lk - (i + 1))
            case rel => exact ⟨i + 1, fun q => if q = x then -1 else f q, by omega, rfl, by go_num, H82.out.congr (fun q _ => by show (if _ then _ else _) = Value.int .i64 (if _ then _ else _); split <;> rfl), HB2.out, HP2.out⟩
            case measure => omega
          · have hil : i = lk := by omega
            subst hil
            have HP2 := HP.out
            rw [← HKL.out] at HP2
            have HP3 := Lib.hid (HP2.done hN)
            clear HP HP2 HR2
            have HF := Lib.hid HG2.out.fit
            go_wp2
            go_loopg [13] N (fun k c wr => ∃ s : Nat, s ≤ N ∧ k = N - s ∧ c = .int .i64 s ∧ Hid (wr.rowIs g8 3 N fun q => .int .i64 (f q)) ∧ Hid (Below g8 w2 wr))
            case atStart => exact ⟨0, by omega, by omega, rfl, H8.out, HB.out⟩
            case round =>
              clear H8 HB
              obtain ⟨s, hs, rfl, rfl, H8, HB⟩ := hrel
              by_cases hsl : s < N
              · have hGR := HG2.out.below HB.out hgl
                have AA := ahead_any (s : Int) hGR.blk hN (HT.out.below (HB2.out.trans (HB.out.mono hsz)) hT0)
                rw [rowI_nat hsl, lst_nl] at AA
                have s0 : (0 : Int) ≤ s := by omega
                have sN : (s : Int) < N := by omega
                clear hGR
                go_wp2_with fail
                refine AA.mono ?_
                rintro e w4 ⟨v, rfl, ⟨p4, c4, rfl, -, -, rd4, -⟩, b4⟩
                have H84 := Lib.hid (below_row b4 H8.out H8.out.lt)
                have HB4 : Hid (Below g8 w2 w4) := HB.out.trans (b4.mono (Nat.le_of_lt H8.out.lt))
                have HR4 := Lib.hid rd4
                have HM : Hid (∀ l, l ∈ lstN (A s) 128 → A s l = true) := fun l hl => (mem_lstN.1 hl).2
                have HM2 : Hid (∀ l, A s l = true → l ∈ lstN (A s) 128) := fun l hl => mem_lstN.2 ⟨by have := (HF.out s l hl).2; omega, hl⟩
                rw [nl_len]
                have hl128 : (lstN (A s) 128).length ≤ 128 := by
                  have := lst_len (A s) 128
                  rw [lst_nl, nl_len] at this; exact this
                generalize lstN (A s) 128 = L at *
                clear AA rd4 b4 H8 HB
                obtain ⟨ll, hll⟩ : ∃ k, L.length = k := ⟨_, rfl⟩
                rw [hll] at hl128 ⊢
                have HLL := Lib.hid hll
                clear hll
                go_wp2
                go_loopg [15, 16] ll (fun k b c wr => ∃ (z : Nat) (nb : Bool), z ≤ ll ∧ k = ll - z ∧ c = .int .i64 z ∧ b = .bool nb ∧ Hid (nb = (L.take z).any (fun l => decide (f l < 0))) ∧ Hid (wr.rowIs g8 3 N fun q => .int .i64 (f q)) ∧ Hid (Below w4.heap.size w4 wr))
                case atStart => exact ⟨0, false, by omega, by omega, rfl, rfl, by unfold Hid; simp, H84.out, Below.refl _ _⟩
                case round =>
                  clear H84
                  obtain ⟨z, nb, hz, rfl, rfl, rfl, HNB, H8, HB⟩ := hrel
                  by_cases hzl : z < ll
                  · obtain ⟨l, hl, hlv⟩ := nl_get (L := L) (j := z) (by rw [HLL.out]; exact hzl)
                    obtain ⟨b1, o1, rfl, q1, c1⟩ := HR4.out z (by rw [nl_len, HLL.out]; exact hzl)
                    rw [hlv] at c1
                    have c1 : wr.cell? ⟨b1, o1 + z, none⟩ = _ := (HB.out.cell (p := ⟨b1, o1 + z, none⟩) q1).trans c1
                    have hal := HM.out l (List.mem_of_getElem? hl)
                    have hlN := (HF.out s l hal).2
                    have cs := H8.out.cell hsl
                    have cl := H8.out.cell hlN
                    have HBH : Hid (0 < f s → 1 ≤ f l ∧ f l < f s) := fun hp => P3.behind HP3.out HF.out hal hp
                    have HAS := any_step hl fun l => decide (f l < 0)
                    rw [← HNB.out] at HAS
                    have HAS := Lib.hid HAS
                    have z0 : (0 : Int) ≤ z := by omega
                    have zl : (z : Int) < ll := by omega
                    have l0 : (0 : Int) ≤ l := by omega
                    have lN : (l : Int) < N := by omega
                    have HD : Hid (∀ q, Below w4.heap.size w4 (wr.drewN q)) := fun q => below_drewN HB.out q
                    clear hlv hl hal HNB
                    generalize f s = x at *
                    generalize f l = y at *
                    by_cases hx : 0 < x
                    · have hx1 : decide (0 < x) = true := decide_eq_true hx
                      have hy := HBH.out hx
                      have hy1 : decide (y < 1) = false := decide_eq_false (by omega)
                      have hy2 : decide (x ≤ y) = false := decide_eq_false (by omega)
                      have hy3 : decide (y < 0) = false := decide_eq_false (by omega)
                      rw [hy3] at HAS
                      clear hy HBH
                      cases nb with
                      | true =>
                        go_wp2
                        go_quiet (fail)
                        go_wp2
                        go_roundg (ll - (z + 1))
                        case rel => exact ⟨z + 1, true, by omega, rfl, by go_num, rfl, by rw [Bool.or_false] at HAS; exact HAS.out.symm, H8.out, HD.out _⟩
                        case measure => omega
                      | false =>
                        go_wp2
                        go_quiet (fail)
                        go_wp2
                        go_roundg (ll - (z + 1))
                        case rel => exact ⟨z + 1, false, by omega, rfl, by go_num, rfl, by rw [Bool.or_false] at HAS; exact HAS.out.symm, H8.out, HD.out _⟩
                        case measure => omega
                    · have hx1 : decide (0 < x) = false := decide_eq_false hx
                      clear HBH
                      cases nb with
                      | true =>
                        go_wp2
                        go_quiet (fail)
                        go_wp2
                        go_roundg (ll - (z + 1))
                        case rel => exact ⟨z + 1, true, by omega, rfl, by go_num, rfl, by rw [Bool.true_or] at HAS; exact HAS.out.symm, H8.out, HD.out _⟩
                        case measure => omega
                      | false =>
                        rw [Bool.false_or] at HAS
                        generalize hyb : decide (y < 0) = yb at *
                        go_wp2
                        go_quiet (fail)
                        go_wp2
                        go_roundg (ll - (z + 1))
                        case rel => exact ⟨z + 1, yb, by omega, rfl, by go_num, rfl, HAS.out.symm, H8.out, HD.out _⟩
                        case measure => omega
                  · have hzl : z = ll := by omega
                    subst hzl
                    have cs := H8.out.cell hsl
                    have hne := P3.ne HP3.out hsl
                    have HB5 : Hid (Below g8 w2 wr) := HB4.out.trans (HB.out.mono (by have := HB4.out.size; have := HG8.out; omega))
                    have HST : Hid (f s < 0 → nb = true) := fun hn => by
                      obtain ⟨l, h1, h2, h3⟩ := P3.stuck HP3.out hsl hn
                      have h4 := HM2.out l h1
                      rw [HNB.out, ← HLL.out, List.take_length, List.any_eq_true]
                      exact ⟨l, h4, decide_eq_true h3⟩
                    clear HNB HB HM HM2 HR4
                    generalize f s = x at *
                    have hne1 : (x == 0) = false := by simpa using hne
                    by_cases hx : x < 0
                    · have hx1 : decide (x < 0) = true := decide_eq_true hx
                      have := HST.out hx
                      subst this
                      clear HST
                      go_wp2
                      go_roundg (N - (s + 1))
                      case rel => exact ⟨s + 1, by omega, rfl, by go_num, H8.out, HB5.out⟩
                      case measure => omega
                    · have hx1 : decide (x < 0) = false := decide_eq_false hx
                      clear HST
                      go_wp2
                      go_roundg (N - (s + 1))
                      case rel => exact ⟨s + 1, by omega, rfl, by go_num, H8.out, HB5.out⟩
                      case measure => omega
              · have hsN : s = N := by omega
                subst hsN
                have hsum : IntKind.i64.wrap ((j : Int) + (i : Int)) = (s : Int) := by
                  have := LOK.out
                  rw [IntWalk.i64_in _ (by omega)]; omega
                have AW := Lib.hid (awake_any wr (HT.out.below (HB2.out.trans (HB.out.mono hsz)) hT0))
                have hsz2 : Hid (n0 ≤ wr.heap.size) := by unfold Hid; have := HB.out.size; have := HG8.out; omega
                have HB6 : Hid (Below n0 w wr) := HB2.out.trans (HB.out.mono hsz)
                clear H8 HB
                go_wp2_with fail
                refine AW.out.mono ?_
                rintro e w5 ⟨rfl, b5⟩
                have HB7 : Hid (Below w.heap.size w w5) := by
                  unfold Hid; rw [HN0.out]; exact HB6.out.trans (b5.mono hsz2.out)
                clear AW b5 HB6 hsz2
                go_wp2
                go_ret
                exact ⟨rfl, HB7.out⟩
end Go.Proofs.YtonnopcafmhaaaaDoor
