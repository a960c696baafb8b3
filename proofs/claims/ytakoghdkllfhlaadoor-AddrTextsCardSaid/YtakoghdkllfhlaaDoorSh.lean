/- The reference's Parse. -/
import Derived.Test.YtakoghdkllfhlaaDoorSg
namespace Go.Proofs.YtakoghdkllfhlaaDoor
open Go.RowKit

/-- a piece of a text is no longer than it -/
theorem td_le (l : List UInt8) (m n : Nat) : ((l.take m).drop n).length ≤ l.length := by rw [List.length_drop, List.length_take]; omega
/-- a piece of a text, as the text's own -/
theorem ext_to (s : ByteArray) (n : Nat) : s.extract 0 n = tx ((lb s).take n) := lb_inj (by rw [extract_lb, List.drop_zero, lb_tx])
theorem ext_from (s : ByteArray) (n : Nat) : s.extract n s.size = tx ((lb s).drop n) := lb_inj (by rw [extract_lb, lb_tx, ← L_len s, List.take_length])
theorem ext_mid (s : ByteArray) (n m : Nat) : s.extract n m = tx (((lb s).take m).drop n) := lb_inj (by rw [extract_lb, lb_tx])
/-- the result's block N is zero, block M holds the address, all below N is as it was -/
structure St (w W : World) (N M : Nat) (a : Adr) : Prop where
  n : W.heap[N]? = some (.cells #[.string ⟨#[]⟩, .string ⟨#[]⟩, .int .i64 0, .int .i64 0, .string ⟨#[]⟩] 23 (0, 0))
  m : W.heap[M]? = some (.cells #[.string a.t, .string a.n, .int .i64 a.kd, .int .i64 a.i, .string a.k] 23 (0, 0))
  b : Below N w W
  lt : N < M
theorem St.kept {w W W' : World} {N M : Nat} {a : Adr} (h : St w W N M a) (hb : Below W.heap.size W W') : St w W' N M a := by
  have h1 := (Array.getElem?_eq_some_iff.1 h.n).1
  exact ⟨(hb.block N h1).trans h.n, (hb.block M (Array.getElem?_eq_some_iff.1 h.m).1).trans h.m, h.b.trans (hb.mono (Nat.le_of_lt h1)), h.lt⟩
theorem St.made {w w0 : World} {N : Nat} (h0 : Below N w w0) (hr : w0.heap[N]? = some (.cells #[.string ⟨#[]⟩, .string ⟨#[]⟩, .int .i64 0, .int .i64 0, .string ⟨#[]⟩] 23 (0, 0))) (a : Adr) : St w (w0.alloc (ba a)).drew N w0.heap.size a := by
  have h1 := (Array.getElem?_eq_some_iff.1 hr).1
  have hz : (w0.alloc (ba a)).heap.size = w0.heap.size + 1 := by simp
  have hd := (held_at (W0 := w0.alloc (ba a)) rfl).2.1.out
  have h2 : Below w0.heap.size w0 (w0.alloc (ba a)).drew := ((Below.refl _ _).alloc (Nat.le_refl _) _).trans (hd.mono (by omega))
  exact ⟨(h2.block N h1).trans hr, (hd.block _ (by omega)).trans (heap_alloc_new _ _), h0.trans (h2.mono (Nat.le_of_lt h1)), h1⟩
theorem St.store {w W : World} {N M : Nat} {a b : Adr} {i : Nat} {v : Value} (h : St w W N M a) (e : #[.string a.t, .string a.n, .int .i64 a.kd, .int .i64 a.i, .string a.k].setIfInBounds i v = #[.string b.t, .string b.n, .int .i64 b.kd, .int .i64 b.i, .string b.k]) : St w (W.setCell ⟨M, i, none⟩ v) N M b := by
  have h1 := h.lt
  refine ⟨?_, ?_, h.b.setCell (p := ⟨M, i, none⟩) (Nat.le_of_lt h1) _, h1⟩
  · rw [heap_setCell_other _ _ _ _ (by show N ≠ M; omega)]; exact h.n
  · rw [heap_setCell_same _ _ _ _ _ _ h.m, e]
theorem head_34 {U : ByteArray} (h0 : 0 < U.size) (h : (U[0].toNat : Int) = 34) : (lb U).head? = some 34 := by
  rw [head_at h0]
  refine congrArg some (UInt8.toNat_inj.1 ?_)
  have e : U[0].toNat = 34 := by omega
  rw [e]; rfl
theorem no_34 {U : ByteArray} (h0 : 0 < U.size) (h : ¬ (U[0].toNat : Int) = 34) : ¬ (lb U).head? = some 34 := fun q => h (by
  rw [head_at h0] at q
  rw [Option.some.inj q]; rfl)
theorem at_lb {s : ByteArray} {k : Nat} (h : k < s.size) : (lb s)[k]'(by rw [L_len]; exact h) = s[k] := L_get s k h
theorem fi_step (c : UInt8) {s : ByteArray} {k : Nat} (h : k < s.size) : fi c ((lb s).take (k + 1)) = if (s[k].toNat : Int) = c.toNat ∧ fi c ((lb s).take k) < 0 then (k : Int) else fi c ((lb s).take k) := by
  rw [fi_next c (by rw [L_len]; exact h), at_lb h]
  by_cases e : s[k] = c
  · rw [e]; simp
  · rw [if_neg fun q => e q.1, if_neg fun q => e (UInt8.toNat_inj.1 (by omega))]
set_option maxHeartbeats 4000000 in
theorem rparse_any {s : ByteArray} {w : World} (hs : s.size ≤ 1000000) : Calls Tryd.prog 26 #[.string s] w fun e w' => e = .returned (.tuple #[av (parA s).1, .int .i64 (parA s).2]) ∧ Below w.heap.size w w' := by
  obtain ⟨N, hN⟩ : ∃ N, N = w.heap.size := ⟨_, rfl⟩
  obtain ⟨w0, hw0⟩ : ∃ w0, w0 = w.alloc (.cells #[.string ⟨#[]⟩, .string ⟨#[]⟩, .int .i64 0, .int .i64 0, .string ⟨#[]⟩] 23) := ⟨_, rfl⟩
  have HB0 : Hid (Below N w w0) := by rw [hw0]; exact below_alloc hN _
  have hr0 : w0.heap[N]? = some (.cells #[.string ⟨#[]⟩, .string ⟨#[]⟩, .int .i64 0, .int .i64 0, .string ⟨#[]⟩] 23 (0, 0)) := by rw [hw0, hN]; exact heap_alloc_new _ _
  have HR0 := Lib.hid hr0
  have HS := gP_same s
  obtain ⟨X, hX⟩ : ∃ X, parA s = X := ⟨_, rfl⟩
  rw [hX] at HS ⊢
  replace HS := Lib.hid HS
  clear hX
  rw [← hN]
  clear hr0
  go_enter Tryd.func26, Tryd.ntmps26
  go_upto_region 1 with fail
  rw [← hw0, ← hN]
  clear hw0 hN
  go_upto_region 3 with fail
  go_loop [4, 5, 6] (fun a b i => ∃ k : Nat, k ≤ s.size ∧ i = .int .i64 k ∧ ∃ D O : Int, a = .int .i64 D ∧ b = .int .i64 O ∧ -1 ≤ D ∧ D ≤ 1000000 ∧ -1 ≤ O ∧ O ≤ 1000000 ∧ Hid (D = fi 46 ((lb s).take k)) ∧ Hid (O = fi 91 ((lb s).take k))) (fun _ _ i => s.size - (intOf i).toNat)
  case atStart =>
    exact ⟨0, Nat.zero_le _, rfl, -1, -1, rfl, rfl, by omega, by omega, by omega, by omega, by unfold Hid; rw [List.take_zero]; exact (fi_not (by simp)).symm, by unfold Hid; rw [List.take_zero]; exact (fi_not (by simp)).symm⟩
  case round =>
    obtain ⟨k, hk, rfl, D, O, rfl, rfl, d1, d2, o1, o2, hD, hO⟩ := hrel
    by_cases hlt : k < s.size
    · skip
      have fD := fi_step 46 hlt
      have fO := fi_step 91 hlt
      rw [← hD.out] at fD
      rw [← hO.out] at fO
      have hlt' : (k : Int) < s.size := by omega
      obtain ⟨c, hcc⟩ : ∃ c, (s[k].toNat : Int) = c := ⟨_, rfl⟩
      rw [hcc] at fD fO
      have e46 : ((46 : UInt8).toNat : Int) = 46 := rfl
      have e91 : ((91 : UInt8).toNat : Int) = 91 := rfl
      rw [e46] at fD
      rw [e91] at fO
      clear e46 e91 hD hO
      by_cases h46 : c = 46
      · skip
        subst h46
        rw [if_neg (by omega)] at fO
        have fO := Lib.hid fO
        by_cases hd : D < 0
        · skip
          rw [if_pos ⟨rfl, hd⟩] at fD
          have fD := Lib.hid fD
          go_wp2_with fail
          refine ⟨⟨k + 1, hlt, ?_, k, O, rfl, rfl, by omega, by omega, by omega, by omega, fD.out.symm, fO.out.symm⟩, ?_⟩
          · go_num
          · show s.size - (k + 1 : Int).toNat < s.size - (k : Int).toNat; omega
        · skip
          rw [if_neg fun q => hd q.2] at fD
          have fD := Lib.hid fD
          go_wp2_with fail
          refine ⟨⟨k + 1, hlt, ?_, D, O, rfl, rfl, by omega, by omega, by omega, by omega, fD.out.symm, fO.out.symm⟩, ?_⟩
          · go_num
          · show s.size - (k + 1 : Int).toNat < s.size - (k : Int).toNat; omega
      · skip
        rw [if_neg fun q => h46 q.1] at fD
        have fD := Lib.hid fD
        have b46 : (c == 46) = false := by rw [beq_eq_false_iff_ne]; exact h46
        by_cases h91 : c = 91
        · skip
          subst h91
          clear h46 b46
          by_cases ho : O < 0
          · skip
            rw [if_pos ⟨rfl, ho⟩] at fO
            have fO := Lib.hid fO
            go_wp2_with fail
            refine ⟨⟨k + 1, hlt, ?_, D, k, rfl, rfl, by omega, by omega, by omega, by omega, fD.out.symm, fO.out.symm⟩, ?_⟩
            · go_num
            · show s.size - (k + 1 : Int).toNat < s.size - (k : Int).toNat; omega
          · skip
            rw [if_neg fun q => ho q.2] at fO
            have fO := Lib.hid fO
            go_wp2_with fail
            refine ⟨⟨k + 1, hlt, ?_, D, O, rfl, rfl, by omega, by omega, by omega, by omega, fD.out.symm, fO.out.symm⟩, ?_⟩
            · go_num
            · show s.size - (k + 1 : Int).toNat < s.size - (k : Int).toNat; omega
        · skip
          rw [if_neg fun q => h91 q.1] at fO
          have fO := Lib.hid fO
          have b91 : (c == 91) = false := by rw [beq_eq_false_iff_ne]; exact h91
          go_wp2_with fail
          refine ⟨⟨k + 1, hlt, ?_, D, O, rfl, rfl, by omega, by omega, by omega, by omega, fD.out.symm, fO.out.symm⟩, ?_⟩
          · go_num
          · show s.size - (k + 1 : Int).toNat < s.size - (k : Int).toNat; omega
    · skip
      obtain rfl : k = s.size := by omega
      have eL : (lb s).take s.size = lb s := by rw [← L_len s, List.take_length]
      rw [eL] at hD hO
      clear eL hlt hk
      have i1 := (fi_in 46 (lb s)).2
      have i2 := (fi_in 91 (lb s)).2
      rw [← hD.out, L_len] at i1
      rw [← hO.out, L_len] at i2
      have hne : 0 ≤ D → D ≠ O := fun h => by rw [hD.out, hO.out]; exact fi_apart (by decide) (by rw [← hD.out]; exact h)
      go_upto_region 9 with fail
      by_cases hd : D < 0
      · skip
        have hg : gP (lb s) = zA := by unfold gP; rw [← hD.out, ← hO.out]; exact if_pos (by omega)
        have hc : ¬ (checkB (gP (lb s)) = true ∧ prA (gP (lb s)) = s) := fun h => by rw [hg] at h; exact absurd h.1 (by decide)
        have hX : X = (zA, 4) := by rw [← HS.out, if_neg hc]
        subst hX
        clear hg hc HS hD hO hne
        obtain ⟨⟨r0, r1, r2, r3, r4⟩, ⟨f0, f1, f2, f3, f4⟩, lN⟩ := rc5 HR0.out
        go_wp2_with fail
        refine bodyPost_ret (v := .tuple #[av zA, .int .i64 4]) (by simp [results, Tryd.results26, go_sem, r0, r1, r2, r3, r4, av, lN]) rfl ?_
        exact ⟨rfl, below_set5 HB0.out (Nat.le_refl N)⟩
      · skip
        by_cases he : 0 ≤ O ∧ O < D
        · skip
          obtain ⟨he1, he2⟩ := he
          have hg : gP (lb s) = zA := by unfold gP; rw [← hD.out, ← hO.out]; exact if_pos (by omega)
          have hc : ¬ (checkB (gP (lb s)) = true ∧ prA (gP (lb s)) = s) := fun h => by rw [hg] at h; exact absurd h.1 (by decide)
          have hX : X = (zA, 4) := by rw [← HS.out, if_neg hc]
          subst hX
          clear hg hc HS hD hO hne
          obtain ⟨⟨r0, r1, r2, r3, r4⟩, ⟨f0, f1, f2, f3, f4⟩, lN⟩ := rc5 HR0.out
          go_wp2_with fail
          refine bodyPost_ret (v := .tuple #[av zA, .int .i64 4]) (by simp [results, Tryd.results26, go_sem, r0, r1, r2, r3, r4, av, lN]) rfl ?_
          exact ⟨rfl, below_set5 HB0.out (Nat.le_refl N)⟩
        have hg : gP (lb s) = if 0 ≤ O then ⟨tx ((lb s).take D.toNat), tx (((lb s).take O.toNat).drop (D.toNat + 1)), (lastR ((lb s).drop (O.toNat + 1))).1, (lastR ((lb s).drop (O.toNat + 1))).2.1, tx (lastR ((lb s).drop (O.toNat + 1))).2.2⟩ else ⟨tx ((lb s).take D.toNat), tx ((lb s).drop (D.toNat + 1)), 0, 0, ⟨#[]⟩⟩ := by unfold gP; rw [← hD.out, ← hO.out]; exact if_neg (by omega)
        obtain ⟨m, rfl⟩ : ∃ m : Nat, D = m := ⟨D.toNat, by omega⟩
        rw [Int.toNat_natCast] at hg
        have hg := Lib.hid hg
        have x1 := ext_to s m
        have x2 := ext_from s (m + 1)
        clear hD hO
        have sz1 : (tx ((lb s).take m)).size ≤ 1000000 := by show ((lb s).take m).length ≤ _; rw [List.length_take, L_len]; omega
        have sz2 : (tx ((lb s).drop (m + 1))).size ≤ 1000000 := by show ((lb s).drop (m + 1)).length ≤ _; rw [List.length_drop, L_len]; omega
        generalize tx ((lb s).take m) = T at *
        generalize tx ((lb s).drop (m + 1)) = R at *
        have hm1 : (m : Int) + 1 ≤ s.size := by omega
        by_cases ho : 0 ≤ O
        · skip
          obtain ⟨o, rfl⟩ : ∃ o : Nat, O = o := ⟨O.toNat, by omega⟩
          replace HS := HS.out
          rw [hg.out, if_pos ho] at HS
          rw [Int.toNat_natCast] at HS
          have hmo : (m : Int) + 1 ≤ o := by have := hne (by omega); omega
          have hos : (o : Int) ≤ s.size := by omega
          have hos1 : (o : Int) + 1 ≤ s.size := by omega
          obtain ⟨U, hU⟩ : ∃ U : ByteArray, (lb s).drop (o + 1) = lb U := ⟨tx ((lb s).drop (o + 1)), rfl⟩
          rw [hU] at HS
          have x3 := ext_mid s (m + 1) o
          have x4 : s.extract (o + 1) s.size = U := by rw [ext_from, hU]
          have sz3 : (tx (((lb s).take o).drop (m + 1))).size ≤ 1000000 := by show (((lb s).take o).drop (m + 1)).length ≤ _; have := td_le (lb s) o (m + 1); rw [L_len] at this; omega
          have szU : U.size ≤ 1000000 := by have e : (lb U).length = U.size := L_len U; have e2 : (lb s).length = s.size := L_len s; rw [← hU, List.length_drop] at e; omega
          generalize tx (((lb s).take o).drop (m + 1)) = Nm at *
          replace HS := Lib.hid HS
          clear hne hg hU he
          have ST := Lib.hid (St.made HB0.out HR0.out ⟨T, R, 0, 0, ⟨#[]⟩⟩)
          have lN : N < w0.heap.size := (Array.getElem?_eq_some_iff.1 HR0.out).1
          have hm0 : (m : Int) ≤ s.size := by omega
          go_upto_region 11 with fail
          clear d1 d2 i1
          go_region
          unfold ba at ST
          dsimp only at ST
          obtain ⟨M, hM⟩ : ∃ M, M = w0.heap.size := ⟨_, rfl⟩
          rw [← hM] at ST ⊢
          obtain ⟨W1, hW1⟩ : ∃ W1, W1 = (w0.alloc (.cells #[.string T, .string R, .int .i64 0, .int .i64 0, .string ⟨#[]⟩] 23)).drew := ⟨_, rfl⟩
          rw [← hW1] at ST ⊢
          clear hW1 hM lN HR0 HB0
          have S1 := Lib.hid (ST.out.store (b := ⟨T, Nm, 0, 0, ⟨#[]⟩⟩) (i := 1) (v := .string Nm) rfl)
          obtain ⟨⟨r0, r1, r2, r3, r4⟩, ⟨f0, f1, f2, f3, f4⟩, lM⟩ := rc5 ST.out.m
          go_upto_region 15 with fail
          obtain ⟨W2, hW2⟩ : ∃ W2, W2 = W1.setCell ⟨M, 1, none⟩ (.string Nm) := ⟨_, rfl⟩
          rw [← hW2] at S1 ⊢
          clear hW2 ST r0 r1 r2 r3 r4 f0 f1 f2 f3 f4 lM x1 x2 x3 x4
          obtain ⟨⟨r0, r1, r2, r3, r4⟩, ⟨f0, f1, f2, f3, f4⟩, lM⟩ := rc5 S1.out.m
          by_cases h3 : 3 ≤ U.size
          · skip
            have h3' : (3 : Int) ≤ U.size := by omega
            have h0' : (0 : Int) < U.size := by omega
            have h0 : 0 < U.size := by omega
            by_cases h34 : (U[0].toNat : Int) = 34
            · skip
              have hl : lastR (lb U) = (2, 0, ((lb U).take (U.size - 2)).drop 1) := by unfold lastR; rw [L_len, if_pos ⟨h3, head_34 h0 h34⟩]
              replace HS := HS.out
              rw [hl] at HS
              have x5 := ext_mid U 1 (U.size - 2)
              have sz5 : (tx (((lb U).take (U.size - 2)).drop 1)).size ≤ 1000000 := by show (((lb U).take (U.size - 2)).drop 1).length ≤ _; have := td_le (lb U) (U.size - 2) 1; rw [L_len] at this; omega
              dsimp only at HS
              generalize tx (((lb U).take (U.size - 2)).drop 1) = K at *
              replace HS := Lib.hid HS
              clear hl
              have S2 := Lib.hid ((S1.out.store (b := ⟨T, Nm, 2, 0, ⟨#[]⟩⟩) (i := 2) (v := .int .i64 2) rfl).store (b := ⟨T, Nm, 2, 0, K⟩) (i := 4) (v := .string K) rfl)
              have hw5 : (U.size : Int) - 2 = ((U.size - 2 : Nat) : Int) := by omega
              go_upto_region 22 with fail
              obtain ⟨W3, hW3⟩ : ∃ W3, W3 = (W2.setCell ⟨M, 2, none⟩ (.int .i64 2) |>.setCell ⟨M, 4, none⟩ (.string K)) := ⟨_, rfl⟩
              rw [← hW3] at S2 ⊢
              clear hW3
              obtain ⟨a, ha⟩ : ∃ a : Adr, (⟨T, Nm, 2, 0, K⟩ : Adr) = a := ⟨_, rfl⟩
              have L : Lo a := by rw [← ha]; exact ⟨sz1, sz3, by exact sz5, by simp, by simp⟩
              replace HS : Hid ((if checkB a = true ∧ prA a = s then (a, (0 : Int)) else (zA, 4)) = X) := by rw [← ha]; exact HS.out
              rw [ha] at S2
              have ST := S2
              clear ha S1 S2 sz1 sz2 sz3 szU r0 r1 r2 r3 r4 f0 f1 f2 f3 f4 lM
              obtain ⟨⟨r0, r1, r2, r3, r4⟩, -, lM⟩ := rc5 ST.out.m
              have C2 := Lib.hid (fun w => rcheck_any a w L.sm)
              have C3 := Lib.hid (fun w => rprintA_any a w L)
              clear L
              have e0 := Lib.hid (Eq.refl N)
              cases hc : checkB a with
              | false =>
                have hX : X = (zA, 4) := by rw [← HS.out, if_neg (fun h => by rw [hc] at h; cases h.1)]
                subst hX
                rw [hc] at C2
                clear HS hc C3
                go_wp2_with fail
                refine (C2.out _).mono ?_
                rintro e w2 ⟨rfl, hb2⟩
                have S2 := Lib.hid (ST.out.kept hb2)
                obtain ⟨⟨y0, y1, y2, y3, y4⟩, ⟨f0, f1, f2, f3, f4⟩, lN⟩ := rc5 S2.out.n
                clear hb2 r0 r1 r2 r3 r4
                go_wp2_with fail
                refine bodyPost_ret (v := .tuple #[av zA, .int .i64 4]) (by simp [results, Tryd.results26, go_sem, y0, y1, y2, y3, y4, av, lN]) rfl ?_
                exact ⟨rfl, below_set5 S2.out.b (Nat.le_refl N)⟩
              | true =>
                rw [hc] at C2
                by_cases hp : prA a = s
                · skip
                  have hX : X = (a, 0) := by rw [← HS.out, if_pos ⟨hc, hp⟩]
                  have hb := str_eq hp
                  subst hX
                  clear HS hc
                  generalize prA a = PA at *
                  clear hp
                  go_wp2_with fail
                  refine (C2.out _).mono ?_
                  rintro e w2 ⟨rfl, hb2⟩
                  have S2 := Lib.hid (ST.out.kept hb2)
                  obtain ⟨⟨x0, x1, x2, x3, x4⟩, -, lM2⟩ := rc5 S2.out.m
                  clear hb2 r0 r1 r2 r3 r4
                  go_wp2_with fail
                  refine (C3.out _).mono ?_
                  rintro e w3 ⟨rfl, hb3⟩
                  have S3 := Lib.hid (S2.out.kept hb3)
                  obtain ⟨⟨y0, y1, y2, y3, y4⟩, ⟨f0, f1, f2, f3, f4⟩, lN⟩ := rc5 S3.out.n
                  obtain ⟨⟨z0, z1, z2, z3, z4⟩, -, lM3⟩ := rc5 S3.out.m
                  clear hb3 x0 x1 x2 x3 x4
                  go_wp2_with fail
                  refine bodyPost_ret (v := .tuple #[av a, .int .i64 0]) (by simp [results, Tryd.results26, go_sem, y0, y1, y2, y3, y4, av, lN]) rfl ?_
                  exact ⟨rfl, below_set5 S3.out.b (Nat.le_refl N)⟩
                · skip
                  have hX : X = (zA, 4) := by rw [← HS.out, if_neg (fun h => hp h.2)]
                  have hb := str_ne hp
                  subst hX
                  clear HS hc
                  generalize prA a = PA at *
                  clear hp
                  go_wp2_with fail
                  refine (C2.out _).mono ?_
                  rintro e w2 ⟨rfl, hb2⟩
                  have S2 := Lib.hid (ST.out.kept hb2)
                  obtain ⟨⟨x0, x1, x2, x3, x4⟩, -, lM2⟩ := rc5 S2.out.m
                  clear hb2 r0 r1 r2 r3 r4
                  go_wp2_with fail
                  refine (C3.out _).mono ?_
                  rintro e w3 ⟨rfl, hb3⟩
                  have S3 := Lib.hid (S2.out.kept hb3)
                  obtain ⟨⟨y0, y1, y2, y3, y4⟩, ⟨f0, f1, f2, f3, f4⟩, lN⟩ := rc5 S3.out.n
                  clear hb3 x0 x1 x2 x3 x4
                  go_wp2_with fail
                  refine bodyPost_ret (v := .tuple #[av zA, .int .i64 4]) (by simp [results, Tryd.results26, go_sem, y0, y1, y2, y3, y4, av, lN]) rfl ?_
                  exact ⟨rfl, below_set5 S3.out.b (Nat.le_refl N)⟩
            · skip
              have hl : lastR (lb U) = (1, numv ((lb U).take (U.size - 1)), []) := by unfold lastR; rw [L_len, if_neg (fun q => no_34 h0 h34 q.2), if_pos h0]
              replace HS := HS.out
              rw [hl] at HS
              have x5 := ext_to U (U.size - 1)
              have CN := fun w => rnum_any (tx ((lb U).take (U.size - 1))) w (by show ((lb U).take (U.size - 1)).length ≤ _; rw [List.length_take, L_len]; omega)
              rw [lb_tx] at CN
              obtain ⟨n1, n2⟩ := numv_in ((lb U).take (U.size - 1))
              dsimp only at HS
              generalize nume ((lb U).take (U.size - 1)) = nE at *
              generalize numv ((lb U).take (U.size - 1)) = nV at *
              generalize tx ((lb U).take (U.size - 1)) = V at *
              replace HS := Lib.hid HS
              replace CN := Lib.hid CN
              clear hl
              have S2 := Lib.hid ((S1.out.store (b := ⟨T, Nm, 1, 0, ⟨#[]⟩⟩) (i := 2) (v := .int .i64 1) rfl).store (b := ⟨T, Nm, 1, nV, ⟨#[]⟩⟩) (i := 3) (v := .int .i64 nV) rfl)
              have hw5 : (U.size : Int) - 1 = ((U.size - 1 : Nat) : Int) := by omega
              have b34 : ((U[0].toNat : Int) == 34) = false := by rw [beq_eq_false_iff_ne]; exact h34
              go_wp2_with fail
              refine (CN.out _).mono ?_
              rintro e w2 ⟨rfl, rfl⟩
              go_upto_region 22 with fail
              obtain ⟨W3, hW3⟩ : ∃ W3, W3 = (W2.setCell ⟨M, 2, none⟩ (.int .i64 1) |>.setCell ⟨M, 3, none⟩ (.int .i64 nV)) := ⟨_, rfl⟩
              rw [← hW3] at S2 ⊢
              clear hW3
              obtain ⟨a, ha⟩ : ∃ a : Adr, (⟨T, Nm, 1, nV, ⟨#[]⟩⟩ : Adr) = a := ⟨_, rfl⟩
              have L : Lo a := by rw [← ha]; exact ⟨sz1, sz3, by show 0 ≤ _; omega, n1, n2⟩
              replace HS : Hid ((if checkB a = true ∧ prA a = s then (a, (0 : Int)) else (zA, 4)) = X) := by rw [← ha]; exact HS.out
              rw [ha] at S2
              have ST := S2
              clear ha S1 S2 sz1 sz2 sz3 szU r0 r1 r2 r3 r4 f0 f1 f2 f3 f4 lM
              obtain ⟨⟨r0, r1, r2, r3, r4⟩, -, lM⟩ := rc5 ST.out.m
              have C2 := Lib.hid (fun w => rcheck_any a w L.sm)
              have C3 := Lib.hid (fun w => rprintA_any a w L)
              clear L
              have e0 := Lib.hid (Eq.refl N)
              cases hc : checkB a with
              | false =>
                have hX : X = (zA, 4) := by rw [← HS.out, if_neg (fun h => by rw [hc] at h; cases h.1)]
                subst hX
                rw [hc] at C2
                clear HS hc C3
                go_wp2_with fail
                refine (C2.out _).mono ?_
                rintro e w2 ⟨rfl, hb2⟩
                have S2 := Lib.hid (ST.out.kept hb2)
                obtain ⟨⟨y0, y1, y2, y3, y4⟩, ⟨f0, f1, f2, f3, f4⟩, lN⟩ := rc5 S2.out.n
                clear hb2 r0 r1 r2 r3 r4
                go_wp2_with fail
                refine bodyPost_ret (v := .tuple #[av zA, .int .i64 4]) (by simp [results, Tryd.results26, go_sem, y0, y1, y2, y3, y4, av, lN]) rfl ?_
                exact ⟨rfl, below_set5 S2.out.b (Nat.le_refl N)⟩
              | true =>
                rw [hc] at C2
                by_cases hp : prA a = s
                · skip
                  have hX : X = (a, 0) := by rw [← HS.out, if_pos ⟨hc, hp⟩]
                  have hb := str_eq hp
                  subst hX
                  clear HS hc
                  generalize prA a = PA at *
                  clear hp
                  go_wp2_with fail
                  refine (C2.out _).mono ?_
                  rintro e w2 ⟨rfl, hb2⟩
                  have S2 := Lib.hid (ST.out.kept hb2)
                  obtain ⟨⟨x0, x1, x2, x3, x4⟩, -, lM2⟩ := rc5 S2.out.m
                  clear hb2 r0 r1 r2 r3 r4
                  go_wp2_with fail
                  refine (C3.out _).mono ?_
                  rintro e w3 ⟨rfl, hb3⟩
                  have S3 := Lib.hid (S2.out.kept hb3)
                  obtain ⟨⟨y0, y1, y2, y3, y4⟩, ⟨f0, f1, f2, f3, f4⟩, lN⟩ := rc5 S3.out.n
                  obtain ⟨⟨z0, z1, z2, z3, z4⟩, -, lM3⟩ := rc5 S3.out.m
                  clear hb3 x0 x1 x2 x3 x4
                  go_wp2_with fail
                  refine bodyPost_ret (v := .tuple #[av a, .int .i64 0]) (by simp [results, Tryd.results26, go_sem, y0, y1, y2, y3, y4, av, lN]) rfl ?_
                  exact ⟨rfl, below_set5 S3.out.b (Nat.le_refl N)⟩
                · skip
                  have hX : X = (zA, 4) := by rw [← HS.out, if_neg (fun h => hp h.2)]
                  have hb := str_ne hp
                  subst hX
                  clear HS hc
                  generalize prA a = PA at *
                  clear hp
                  go_wp2_with fail
                  refine (C2.out _).mono ?_
                  rintro e w2 ⟨rfl, hb2⟩
                  have S2 := Lib.hid (ST.out.kept hb2)
                  obtain ⟨⟨x0, x1, x2, x3, x4⟩, -, lM2⟩ := rc5 S2.out.m
                  clear hb2 r0 r1 r2 r3 r4
                  go_wp2_with fail
                  refine (C3.out _).mono ?_
                  rintro e w3 ⟨rfl, hb3⟩
                  have S3 := Lib.hid (S2.out.kept hb3)
                  obtain ⟨⟨y0, y1, y2, y3, y4⟩, ⟨f0, f1, f2, f3, f4⟩, lN⟩ := rc5 S3.out.n
                  clear hb3 x0 x1 x2 x3 x4
                  go_wp2_with fail
                  refine bodyPost_ret (v := .tuple #[av zA, .int .i64 4]) (by simp [results, Tryd.results26, go_sem, y0, y1, y2, y3, y4, av, lN]) rfl ?_
                  exact ⟨rfl, below_set5 S3.out.b (Nat.le_refl N)⟩
          · skip
            have h3' : ¬ (3 : Int) ≤ U.size := by omega
            by_cases h0 : 0 < U.size
            · skip
              have h0' : (0 : Int) < U.size := by omega
              have hl : lastR (lb U) = (1, numv ((lb U).take (U.size - 1)), []) := by unfold lastR; rw [L_len, if_neg (fun q => h3 q.1), if_pos h0]
              replace HS := HS.out
              rw [hl] at HS
              have x5 := ext_to U (U.size - 1)
              have CN := fun w => rnum_any (tx ((lb U).take (U.size - 1))) w (by show ((lb U).take (U.size - 1)).length ≤ _; rw [List.length_take, L_len]; omega)
              rw [lb_tx] at CN
              obtain ⟨n1, n2⟩ := numv_in ((lb U).take (U.size - 1))
              dsimp only at HS
              generalize nume ((lb U).take (U.size - 1)) = nE at *
              generalize numv ((lb U).take (U.size - 1)) = nV at *
              generalize tx ((lb U).take (U.size - 1)) = V at *
              replace HS := Lib.hid HS
              replace CN := Lib.hid CN
              clear hl
              have S2 := Lib.hid ((S1.out.store (b := ⟨T, Nm, 1, 0, ⟨#[]⟩⟩) (i := 2) (v := .int .i64 1) rfl).store (b := ⟨T, Nm, 1, nV, ⟨#[]⟩⟩) (i := 3) (v := .int .i64 nV) rfl)
              have hw5 : (U.size : Int) - 1 = ((U.size - 1 : Nat) : Int) := by omega
              go_wp2_with fail
              refine (CN.out _).mono ?_
              rintro e w2 ⟨rfl, rfl⟩
              go_upto_region 22 with fail
              obtain ⟨W3, hW3⟩ : ∃ W3, W3 = (W2.setCell ⟨M, 2, none⟩ (.int .i64 1) |>.setCell ⟨M, 3, none⟩ (.int .i64 nV)) := ⟨_, rfl⟩
              rw [← hW3] at S2 ⊢
              clear hW3
              obtain ⟨a, ha⟩ : ∃ a : Adr, (⟨T, Nm, 1, nV, ⟨#[]⟩⟩ : Adr) = a := ⟨_, rfl⟩
              have L : Lo a := by rw [← ha]; exact ⟨sz1, sz3, by show 0 ≤ _; omega, n1, n2⟩
              replace HS : Hid ((if checkB a = true ∧ prA a = s then (a, (0 : Int)) else (zA, 4)) = X) := by rw [← ha]; exact HS.out
              rw [ha] at S2
              have ST := S2
              clear ha S1 S2 sz1 sz2 sz3 szU r0 r1 r2 r3 r4 f0 f1 f2 f3 f4 lM
              obtain ⟨⟨r0, r1, r2, r3, r4⟩, -, lM⟩ := rc5 ST.out.m
              have C2 := Lib.hid (fun w => rcheck_any a w L.sm)
              have C3 := Lib.hid (fun w => rprintA_any a w L)
              clear L
              have e0 := Lib.hid (Eq.refl N)
              cases hc : checkB a with
              | false =>
                have hX : X = (zA, 4) := by rw [← HS.out, if_neg (fun h => by rw [hc] at h; cases h.1)]
                subst hX
                rw [hc] at C2
                clear HS hc C3
                go_wp2_with fail
                refine (C2.out _).mono ?_
                rintro e w2 ⟨rfl, hb2⟩
                have S2 := Lib.hid (ST.out.kept hb2)
                obtain ⟨⟨y0, y1, y2, y3, y4⟩, ⟨f0, f1, f2, f3, f4⟩, lN⟩ := rc5 S2.out.n
                clear hb2 r0 r1 r2 r3 r4
                go_wp2_with fail
                refine bodyPost_ret (v := .tuple #[av zA, .int .i64 4]) (by simp [results, Tryd.results26, go_sem, y0, y1, y2, y3, y4, av, lN]) rfl ?_
                exact ⟨rfl, below_set5 S2.out.b (Nat.le_refl N)⟩
              | true =>
                rw [hc] at C2
                by_cases hp : prA a = s
                · skip
                  have hX : X = (a, 0) := by rw [← HS.out, if_pos ⟨hc, hp⟩]
                  have hb := str_eq hp
                  subst hX
                  clear HS hc
                  generalize prA a = PA at *
                  clear hp
                  go_wp2_with fail
                  refine (C2.out _).mono ?_
                  rintro e w2 ⟨rfl, hb2⟩
                  have S2 := Lib.hid (ST.out.kept hb2)
                  obtain ⟨⟨x0, x1, x2, x3, x4⟩, -, lM2⟩ := rc5 S2.out.m
                  clear hb2 r0 r1 r2 r3 r4
                  go_wp2_with fail
                  refine (C3.out _).mono ?_
                  rintro e w3 ⟨rfl, hb3⟩
                  have S3 := Lib.hid (S2.out.kept hb3)
                  obtain ⟨⟨y0, y1, y2, y3, y4⟩, ⟨f0, f1, f2, f3, f4⟩, lN⟩ := rc5 S3.out.n
                  obtain ⟨⟨z0, z1, z2, z3, z4⟩, -, lM3⟩ := rc5 S3.out.m
                  clear hb3 x0 x1 x2 x3 x4
                  go_wp2_with fail
                  refine bodyPost_ret (v := .tuple #[av a, .int .i64 0]) (by simp [results, Tryd.results26, go_sem, y0, y1, y2, y3, y4, av, lN]) rfl ?_
                  exact ⟨rfl, below_set5 S3.out.b (Nat.le_refl N)⟩
                · skip
                  have hX : X = (zA, 4) := by rw [← HS.out, if_neg (fun h => hp h.2)]
                  have hb := str_ne hp
                  subst hX
                  clear HS hc
                  generalize prA a = PA at *
                  clear hp
                  go_wp2_with fail
                  refine (C2.out _).mono ?_
                  rintro e w2 ⟨rfl, hb2⟩
                  have S2 := Lib.hid (ST.out.kept hb2)
                  obtain ⟨⟨x0, x1, x2, x3, x4⟩, -, lM2⟩ := rc5 S2.out.m
                  clear hb2 r0 r1 r2 r3 r4
                  go_wp2_with fail
                  refine (C3.out _).mono ?_
                  rintro e w3 ⟨rfl, hb3⟩
                  have S3 := Lib.hid (S2.out.kept hb3)
                  obtain ⟨⟨y0, y1, y2, y3, y4⟩, ⟨f0, f1, f2, f3, f4⟩, lN⟩ := rc5 S3.out.n
                  clear hb3 x0 x1 x2 x3 x4
                  go_wp2_with fail
                  refine bodyPost_ret (v := .tuple #[av zA, .int .i64 4]) (by simp [results, Tryd.results26, go_sem, y0, y1, y2, y3, y4, av, lN]) rfl ?_
                  exact ⟨rfl, below_set5 S3.out.b (Nat.le_refl N)⟩
            · skip
              have h0' : ¬ (0 : Int) < U.size := by omega
              have hl : lastR (lb U) = (0, 0, []) := by unfold lastR; rw [L_len, if_neg (fun q => h3 q.1), if_neg h0]
              replace HS := HS.out
              rw [hl] at HS
              dsimp only at HS
              replace HS := Lib.hid HS
              clear hl
              have S2 := S1
              go_upto_region 22 with fail
              obtain ⟨W3, hW3⟩ : ∃ W3, W3 = W2 := ⟨_, rfl⟩
              rw [← hW3] at S2 ⊢
              clear hW3
              obtain ⟨a, ha⟩ : ∃ a : Adr, (⟨T, Nm, 0, 0, ⟨#[]⟩⟩ : Adr) = a := ⟨_, rfl⟩
              have L : Lo a := by rw [← ha]; exact ⟨sz1, sz3, by show 0 ≤ _; omega, by simp, by simp⟩
              replace HS : Hid ((if checkB a = true ∧ prA a = s then (a, (0 : Int)) else (zA, 4)) = X) := by rw [← ha]; exact HS.out
              rw [ha] at S2
              have ST := S2
              clear ha S1 S2 sz1 sz2 sz3 szU r0 r1 r2 r3 r4 f0 f1 f2 f3 f4 lM
              obtain ⟨⟨r0, r1, r2, r3, r4⟩, -, lM⟩ := rc5 ST.out.m
              have C2 := Lib.hid (fun w => rcheck_any a w L.sm)
              have C3 := Lib.hid (fun w => rprintA_any a w L)
              clear L
              have e0 := Lib.hid (Eq.refl N)
              cases hc : checkB a with
              | false =>
                have hX : X = (zA, 4) := by rw [← HS.out, if_neg (fun h => by rw [hc] at h; cases h.1)]
                subst hX
                rw [hc] at C2
                clear HS hc C3
                go_wp2_with fail
                refine (C2.out _).mono ?_
                rintro e w2 ⟨rfl, hb2⟩
                have S2 := Lib.hid (ST.out.kept hb2)
                obtain ⟨⟨y0, y1, y2, y3, y4⟩, ⟨f0, f1, f2, f3, f4⟩, lN⟩ := rc5 S2.out.n
                clear hb2 r0 r1 r2 r3 r4
                go_wp2_with fail
                refine bodyPost_ret (v := .tuple #[av zA, .int .i64 4]) (by simp [results, Tryd.results26, go_sem, y0, y1, y2, y3, y4, av, lN]) rfl ?_
                exact ⟨rfl, below_set5 S2.out.b (Nat.le_refl N)⟩
              | true =>
                rw [hc] at C2
                by_cases hp : prA a = s
                · skip
                  have hX : X = (a, 0) := by rw [← HS.out, if_pos ⟨hc, hp⟩]
                  have hb := str_eq hp
                  subst hX
                  clear HS hc
                  generalize prA a = PA at *
                  clear hp
                  go_wp2_with fail
                  refine (C2.out _).mono ?_
                  rintro e w2 ⟨rfl, hb2⟩
                  have S2 := Lib.hid (ST.out.kept hb2)
                  obtain ⟨⟨x0, x1, x2, x3, x4⟩, -, lM2⟩ := rc5 S2.out.m
                  clear hb2 r0 r1 r2 r3 r4
                  go_wp2_with fail
                  refine (C3.out _).mono ?_
                  rintro e w3 ⟨rfl, hb3⟩
                  have S3 := Lib.hid (S2.out.kept hb3)
                  obtain ⟨⟨y0, y1, y2, y3, y4⟩, ⟨f0, f1, f2, f3, f4⟩, lN⟩ := rc5 S3.out.n
                  obtain ⟨⟨z0, z1, z2, z3, z4⟩, -, lM3⟩ := rc5 S3.out.m
                  clear hb3 x0 x1 x2 x3 x4
                  go_wp2_with fail
                  refine bodyPost_ret (v := .tuple #[av a, .int .i64 0]) (by simp [results, Tryd.results26, go_sem, y0, y1, y2, y3, y4, av, lN]) rfl ?_
                  exact ⟨rfl, below_set5 S3.out.b (Nat.le_refl N)⟩
                · skip
                  have hX : X = (zA, 4) := by rw [← HS.out, if_neg (fun h => hp h.2)]
                  have hb := str_ne hp
                  subst hX
                  clear HS hc
                  generalize prA a = PA at *
                  clear hp
                  go_wp2_with fail
                  refine (C2.out _).mono ?_
                  rintro e w2 ⟨rfl, hb2⟩
                  have S2 := Lib.hid (ST.out.kept hb2)
                  obtain ⟨⟨x0, x1, x2, x3, x4⟩, -, lM2⟩ := rc5 S2.out.m
                  clear hb2 r0 r1 r2 r3 r4
                  go_wp2_with fail
                  refine (C3.out _).mono ?_
                  rintro e w3 ⟨rfl, hb3⟩
                  have S3 := Lib.hid (S2.out.kept hb3)
                  obtain ⟨⟨y0, y1, y2, y3, y4⟩, ⟨f0, f1, f2, f3, f4⟩, lN⟩ := rc5 S3.out.n
                  clear hb3 x0 x1 x2 x3 x4
                  go_wp2_with fail
                  refine bodyPost_ret (v := .tuple #[av zA, .int .i64 4]) (by simp [results, Tryd.results26, go_sem, y0, y1, y2, y3, y4, av, lN]) rfl ?_
                  exact ⟨rfl, below_set5 S3.out.b (Nat.le_refl N)⟩
        · skip
          replace HS := HS.out
          rw [hg.out, if_neg ho] at HS
          replace HS := Lib.hid HS
          clear hne hg he
          have ST := Lib.hid (St.made HB0.out HR0.out ⟨T, R, 0, 0, ⟨#[]⟩⟩)
          have lN : N < w0.heap.size := (Array.getElem?_eq_some_iff.1 HR0.out).1
          have hm0 : (m : Int) ≤ s.size := by omega
          go_upto_region 11 with fail
          clear d1 d2 i1
          go_region
          unfold ba at ST
          dsimp only at ST
          obtain ⟨M, hM⟩ : ∃ M, M = w0.heap.size := ⟨_, rfl⟩
          rw [← hM] at ST ⊢
          obtain ⟨W1, hW1⟩ : ∃ W1, W1 = (w0.alloc (.cells #[.string T, .string R, .int .i64 0, .int .i64 0, .string ⟨#[]⟩] 23)).drew := ⟨_, rfl⟩
          rw [← hW1] at ST ⊢
          clear hW1 hM lN HR0 HB0
          go_upto_region 22 with fail
          clear o1 o2 i2
          obtain ⟨a, ha⟩ : ∃ a : Adr, (⟨T, R, 0, 0, ⟨#[]⟩⟩ : Adr) = a := ⟨_, rfl⟩
          have L : Lo a := by rw [← ha]; exact ⟨sz1, sz2, by show 0 ≤ _; omega, by simp, by simp⟩
          rw [ha] at ST HS
          clear ha sz1 sz2 x1 x2
          obtain ⟨⟨r0, r1, r2, r3, r4⟩, -, lM⟩ := rc5 ST.out.m
          have C2 := Lib.hid (fun w => rcheck_any a w L.sm)
          have C3 := Lib.hid (fun w => rprintA_any a w L)
          clear L
          have e0 := Lib.hid (Eq.refl N)
          cases hc : checkB a with
          | false =>
            have hX : X = (zA, 4) := by rw [← HS.out, if_neg (fun h => by rw [hc] at h; cases h.1)]
            subst hX
            rw [hc] at C2
            clear HS hc C3
            go_wp2_with fail
            refine (C2.out _).mono ?_
            rintro e w2 ⟨rfl, hb2⟩
            have S2 := Lib.hid (ST.out.kept hb2)
            obtain ⟨⟨y0, y1, y2, y3, y4⟩, ⟨f0, f1, f2, f3, f4⟩, lN⟩ := rc5 S2.out.n
            clear hb2 r0 r1 r2 r3 r4
            go_wp2_with fail
            refine bodyPost_ret (v := .tuple #[av zA, .int .i64 4]) (by simp [results, Tryd.results26, go_sem, y0, y1, y2, y3, y4, av, lN]) rfl ?_
            exact ⟨rfl, below_set5 S2.out.b (Nat.le_refl N)⟩
          | true =>
            rw [hc] at C2
            by_cases hp : prA a = s
            · skip
              have hX : X = (a, 0) := by rw [← HS.out, if_pos ⟨hc, hp⟩]
              have hb := str_eq hp
              subst hX
              clear HS hc
              generalize prA a = PA at *
              clear hp
              go_wp2_with fail
              refine (C2.out _).mono ?_
              rintro e w2 ⟨rfl, hb2⟩
              have S2 := Lib.hid (ST.out.kept hb2)
              obtain ⟨⟨x0, x1, x2, x3, x4⟩, -, lM2⟩ := rc5 S2.out.m
              clear hb2 r0 r1 r2 r3 r4
              go_wp2_with fail
              refine (C3.out _).mono ?_
              rintro e w3 ⟨rfl, hb3⟩
              have S3 := Lib.hid (S2.out.kept hb3)
              obtain ⟨⟨y0, y1, y2, y3, y4⟩, ⟨f0, f1, f2, f3, f4⟩, lN⟩ := rc5 S3.out.n
              obtain ⟨⟨z0, z1, z2, z3, z4⟩, -, lM3⟩ := rc5 S3.out.m
              clear hb3 x0 x1 x2 x3 x4
              go_wp2_with fail
              refine bodyPost_ret (v := .tuple #[av a, .int .i64 0]) (by simp [results, Tryd.results26, go_sem, y0, y1, y2, y3, y4, av, lN]) rfl ?_
              exact ⟨rfl, below_set5 S3.out.b (Nat.le_refl N)⟩
            · skip
              have hX : X = (zA, 4) := by rw [← HS.out, if_neg (fun h => hp h.2)]
              have hb := str_ne hp
              subst hX
              clear HS hc
              generalize prA a = PA at *
              clear hp
              go_wp2_with fail
              refine (C2.out _).mono ?_
              rintro e w2 ⟨rfl, hb2⟩
              have S2 := Lib.hid (ST.out.kept hb2)
              obtain ⟨⟨x0, x1, x2, x3, x4⟩, -, lM2⟩ := rc5 S2.out.m
              clear hb2 r0 r1 r2 r3 r4
              go_wp2_with fail
              refine (C3.out _).mono ?_
              rintro e w3 ⟨rfl, hb3⟩
              have S3 := Lib.hid (S2.out.kept hb3)
              obtain ⟨⟨y0, y1, y2, y3, y4⟩, ⟨f0, f1, f2, f3, f4⟩, lN⟩ := rc5 S3.out.n
              clear hb3 x0 x1 x2 x3 x4
              go_wp2_with fail
              refine bodyPost_ret (v := .tuple #[av zA, .int .i64 4]) (by simp [results, Tryd.results26, go_sem, y0, y1, y2, y3, y4, av, lN]) rfl ?_
              exact ⟨rfl, below_set5 S3.out.b (Nat.le_refl N)⟩
end Go.Proofs.YtakoghdkllfhlaaDoor
