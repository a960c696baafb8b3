/- ExprGroups: the law's walk. -/
import Derived.Test.YtncjncacfagldaaDoorXO
import Derived.Test.YtncjncacfagldaaDoorXJ
namespace Go.Proofs.YtncjncacfagldaaDoor
open Go.RowKit Go.Lib

set_option maxRecDepth 100000 in
set_option maxHeartbeats 4000000 in
theorem lgroups_any {w : World} (s : ByteArray) (n : Nat) (hn : n < 256) (hT : Tab w) (hV : Lev w) (h2 : 2 ≤ w.heap.size) : Calls Tryd.prog 3 #[.string s, .int .u8 n] w fun e w' => e = .returned (.bool true) ∧ Below w.heap.size w w' := by
  have AW : Hid (∀ W, Below w.heap.size w W → Calls Tryd.prog 8 #[] W fun e w' => e = .returned (.bool true) ∧ Below W.heap.size W w') := fun W hW => awake_any (hT.at (hW.block 0 (by omega))) (hV.at (hW.block 1 (by omega))) (by have := hW.size; omega)
  have HT := Lib.hid (And.intro hT (And.intro hV h2))
  have PA : Hid (∀ W, Below w.heap.size w W → ∀ L : List UInt8, L.length ≤ 32768 → Calls Tryd.prog 9 #[.string (tx L)] W (PPost W (parseM L))) := fun W hW L hL => parse_any (s := tx L) (hT.at (hW.block 0 (by omega))) (hV.at (hW.block 1 (by omega))) (by have := hW.size; omega) (by rw [tx_sz]; exact hL)
  clear hT hV h2
  by_cases hs : 3000 < s.size
  · have es : decide ((3000 : Int) < (s.size : Int)) = true := decide_eq_true (by omega)
    go_enter Tryd.func3, Tryd.ntmps3
    go_wp2_with fail
    refine (AW.out w (Below.refl _ _)).mono ?_
    rintro e w1 ⟨rfl, b1⟩
    go_wp2_with fail
    go_ret
    exact ⟨rfl, b1⟩
  · have es : decide ((3000 : Int) < (s.size : Int)) = false := decide_eq_false (by omega)
    have HS : Hid ((lb s).length ≤ 3000) := by rw [show (lb s).length = s.size from tp_L_len s]; unfold Hid; omega
    have HG := Lib.hid fun (h0 : (parseM (lb s)).2.1 = 0) => parse_groups_same (s := lb s) h0 (n % 9) (by have := HS.out; have := Nat.mod_lt n (show 0 < 9 by decide); omega)
    have P1 : Hid (∀ W, Below w.heap.size w W → Calls Tryd.prog 9 #[.string s] W (PPost W (parseM (lb s)))) := fun W hW => PA.out W hW (lb s) (by have := HS.out; omega)
    have P2 : Hid (∀ W, Below w.heap.size w W → Calls Tryd.prog 9 #[.string (tx (grps (n % 9) (lb s)))] W (PPost W (parseM (grps (n % 9) (lb s))))) := fun W hW => PA.out W hW _ (by rw [grps_len]; have := HS.out; have := Nat.mod_lt n (show 0 < 9 by decide); omega)
    have hm : n % 9 < 9 := Nat.mod_lt n (by decide)
    have em : (n : Int) % 9 = ((n % 9 : Nat) : Int) := by omega
    clear hs PA
    generalize parseM (lb s) = MA at *
    generalize parseM (grps (n % 9) (lb s)) = MB at *
    generalize n % 9 = m at *
    have HM := Lib.hid hm
    have HE := Lib.hid em
    clear hm em
    go_enter Tryd.func3, Tryd.ntmps3
    go_wp2_with fail
    refine (P1.out w (Below.refl _ _)).mono ?_
    rintro e u0 ⟨oV, cV, oK, cK, o0, cap0, rfl, hx, hb⟩
    have G0 := Lib.hid (PB.mk' (w0 := w) (M := MA) (Below.refl _ _) hx hb)
    go_upto_region 4 with fail
    clear hx hb
    generalize (u0.alloc (Obj.cells (xc MA.1 oV cV oK cK o0 cap0) 33)).alloc (Obj.cells #[Value.int IntKind.i64 MA.2.1, Value.int IntKind.i64 MA.2.2.a, Value.int IntKind.i64 MA.2.2.l, Value.int IntKind.i64 MA.2.2.c, Value.string ⟨#[]⟩] 36) = v0 at *
    generalize u0.heap.size = b0 at *
    go_wp2_with fail
    go_loopw [7, 8] (fun v7 v8 wr => ∃ k : Nat, k ≤ m ∧ v7 = .string (tx (grps k (lb s))) ∧ v8 = .int .i64 k ∧ wr = v0) (fun _ v _ => m - (RowKit.intOf v).toNat)
    case atStart => exact ⟨0, Nat.zero_le _, rfl, rfl, rfl⟩
    case round =>
      obtain ⟨k, hk, rfl, rfl, rfl⟩ := hrel
      have em := HE.out
      by_cases hlt : k < m
      · have e1 : (k : Int) < (m : Int) := by omega
        have e2 : IntKind.i64.wrap ((k : Int) + 1) = ((k + 1 : Nat) : Int) := by rw [IntWalk.i64_in _ (by have := HM.out; omega)]; rfl
        have HP : Hid (∀ Q, tx (grps k (lb s)) = Q → (tx [40] ++ Q) ++ tx [10, 41] = tx (grps (k + 1) (lb s))) := fun Q hQ => by rw [← hQ, tx_app, tx_app]; rfl
        have hsz : (tx (grps k (lb s))).size ≤ 4000 := by rw [tx_sz, grps_len]; have := HS.out; have := HM.out; omega
        obtain ⟨Q, hQ⟩ : ∃ Q, tx (grps k (lb s)) = Q := ⟨_, rfl⟩
        replace HP := Lib.hid (HP.out Q hQ)
        rw [hQ] at hsz ⊢
        clear hQ
        have f1 : ¬ 9223372036854775807 < 1 + Q.size := by omega
        have f2 : ¬ 9223372036854775807 < 1 + Q.size + 2 := by omega
        have f3 : ¬ (9223372036854775807 : Int) < 1 + (Q.size : Int) := by omega
        have f4 : ¬ (9223372036854775807 : Int) < 1 + (Q.size : Int) + 2 := by omega
        go_wp2_with fail
        go_roundw
        case rel => exact ⟨k + 1, hlt, congrArg Value.string HP.out, rfl, trivial⟩
        case measure => simp only [RowKit.intOf]; omega
      · have e1 : ¬ (k : Int) < (m : Int) := by omega
        obtain rfl : k = m := by omega
        go_wp2_with fail
        refine (P2.out _ G0.out.b).mono ?_
        rintro e u1 ⟨oV1, cV1, oK1, cK1, o1, cap1, rfl, hx, hb⟩
        have G1 := Lib.hid (PB.mk' (w0 := w) (M := MB) G0.out.b hx hb)
        have K0 := Lib.hid (G0.out.kept (hb.trans ((((Below.refl u1.heap.size u1).alloc (Nat.le_refl _) (.cells (xc MB.1 oV1 cV1 oK1 cK1 o1 cap1) 33)).alloc (by simp) (.cells #[.int .i64 MB.2.1, .int .i64 MB.2.2.a, .int .i64 MB.2.2.l, .int .i64 MB.2.2.c, .string ⟨#[]⟩] 36)).mono hb.size)))
        go_upto_region 10 with fail
        clear hx hb
        generalize (u1.alloc (Obj.cells (xc MB.1 oV1 cV1 oK1 cK1 o1 cap1) 33)).alloc (Obj.cells #[Value.int IntKind.i64 MB.2.1, Value.int IntKind.i64 MB.2.2.a, Value.int IntKind.i64 MB.2.2.l, Value.int IntKind.i64 MB.2.2.c, Value.string ⟨#[]⟩] 36) = v1 at *
        generalize u1.heap.size = b1 at *
        clear G0 P1 P2
        obtain ⟨⟨oVa, cVa, oKa, cKa, ra, xa⟩, ⟨qa, da⟩, na, -⟩ := K0.out
        obtain ⟨⟨oVb, cVb, oKb, cKb, rb, xb⟩, ⟨qb, db⟩, nb, hbw⟩ := G1.out
        have HBW := Lib.hid hbw
        have HXA := Lib.hid (XP.mono (P' := fun k => k < v1.heap.size) xa fun k hk => Nat.lt_of_lt_of_le hk na)
        have HXB := Lib.hid (XP.mono (P' := fun k => k < v1.heap.size) xb fun k hk => Nat.lt_of_lt_of_le hk nb)
        clear xa xb na nb hbw K0 G1
        obtain ⟨⟨s0, s1, s2, s3, s4⟩, -, hda⟩ := rc5 da
        obtain ⟨⟨t0, t1, t2, t3, t4⟩, -, hdb⟩ := rc5 db
        clear s1 s2 s3 s4 t1 t2 t3 t4 da db
        by_cases h0 : MA.2.1 = 0
        · obtain ⟨g1, g2⟩ := HG.out h0
          have HG2 := Lib.hid g2
          rw [h0] at s0
          rw [g1] at t0
          obtain ⟨⟨p0, p1, p2, p3, p4, p5, p6, p7, p8, p9, p10, p11, p12, p13, p14⟩, -, hra⟩ := rc15 ra
          obtain ⟨⟨q0, q1, q2, q3, q4, q5, q6, q7, q8, q9, q10, q11, q12, q13, q14⟩, -, hrb⟩ := rc15 rb
          clear g1 g2 h0 ra rb
          have C1 : Hid (Calls Tryd.prog 10 #[.agg (xc MA.1 oVa cVa oKa cKa o0 cap0), .agg (xc MB.1 oVb cVb oKb cKb o1 cap1), .bool false] v1 fun e w' => e = .returned (.bool true) ∧ Below v1.heap.size v1 w') := by
            have := same10_any _ v1.heap.size MA.1 MB.1 _ _ v1 (Nat.le_refl _) HXA.out HXB.out (Nat.le_refl _)
            rw [HG2.out] at this; exact this
          go_wp2_with fail
          refine (C1.out).mono ?_
          rintro e v2 ⟨rfl, k2⟩
          have HB2 := Lib.hid (HBW.out.trans (k2.mono HBW.out.size))
          clear k2
          go_wp2_with fail
          refine (AW.out _ HB2.out).mono ?_
          rintro e v3 ⟨rfl, k3⟩
          have HB3 := Lib.hid (HB2.out.trans (k3.mono HB2.out.size))
          clear k3
          go_wp2_with fail
          go_ret
          exact ⟨rfl, HB3.out⟩
        · have en : ((MA.2.1 : Int) != 0) = true := by rw [bne_iff_ne]; omega
          clear ra rb h0
          go_wp2_with fail
          refine (AW.out _ HBW.out).mono ?_
          rintro e v3 ⟨rfl, k3⟩
          have HB3 := Lib.hid (HBW.out.trans (k3.mono HBW.out.size))
          clear k3
          go_wp2_with fail
          go_ret
          exact ⟨rfl, HB3.out⟩
end Go.Proofs.YtncjncacfagldaaDoor
