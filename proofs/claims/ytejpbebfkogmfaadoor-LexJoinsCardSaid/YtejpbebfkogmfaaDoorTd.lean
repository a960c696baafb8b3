/- LexTexts' walk. -/
import Derived.Test.YtejpbebfkogmfaaDoorTc
namespace Go.Proofs.YtejpbebfkogmfaaDoor
open Go.RowKit

theorem tcs_get {acc : List (Tkn × Value)} {i : Nat} {x : Tkn × Value} (h : acc[i]? = some x) (m : Nat) (hm : m < 7) : (tcs acc)[i * 7 + m]? = (tc7 x)[m]? := by
  induction acc generalizing i with
  | nil => simp at h
  | cons a r ih =>
    have e : tcs (a :: r) = tc7 a ++ tcs r := by simp [tcs]
    have l7 : (tc7 a).length = 7 := rfl
    rw [e]
    cases i with
    | zero =>
      simp only [List.getElem?_cons_zero, Option.some.injEq] at h
      subst h
      rw [Nat.zero_mul, Nat.zero_add, List.getElem?_append_left (by omega)]
    | succ i =>
      simp only [List.getElem?_cons_succ] at h
      rw [List.getElem?_append_right (by omega), l7, show (i + 1) * 7 + m - 7 = i * 7 + m by omega]
      exact ih h
theorem ts_len {L : List UInt8} {k : Nat} {ts : List Tkn} (h : TS L k ts) : ts.length + k ≤ L.length + 1 := by
  induction h with
  | fin k hk => simp; omega
  | tok h1 h2 h3 hp ht hr h ih => simp only [List.length_cons]; omega
theorem allL_nz {L : List UInt8} : ∀ (f k : Nat) (e : Nat) (p : Plc), k ≤ L.length → allL f (plc L k) (L.drop k) = .error (e, p) → e ≠ 0
  | 0, _, _, _, _, h => by injection h with h; injection h with h1 h2; rw [← h1]; decide
  | f + 1, k, e, p, hk, h => by
    obtain ⟨h1, h2, h3⟩ := skip_at L k hk
    rcases Nat.lt_or_ge (btw L k) L.length with hlt | hge
    · have hne : L.drop (btw L k) ≠ [] := fun e => by
        have := congrArg List.length e
        rw [List.length_drop] at this
        simp only [List.length_nil] at this; omega
      cases ht : tokL (plc L (btw L k)) (L.drop (btw L k)) with
      | error x =>
        rw [allL_err hk hlt ht] at h
        injection h with h; injection h with h1 h2
        rw [← h1]; exact tokL_nz ht hne
      | ok tr =>
        obtain ⟨t, r⟩ := tr
        obtain ⟨q1, q2, q3, q4⟩ := allL_tok (f := f) hk hlt ht
        rw [q1] at h
        cases hts : allL f (plc L (L.length - r.length)) (L.drop (L.length - r.length)) with
        | error y =>
          obtain ⟨y1, y2⟩ := y
          rw [hts] at h
          injection h with h; injection h with h1 h2
          rw [← h1]; exact allL_nz f _ _ _ q3 hts
        | ok us => rw [hts] at h; cases h
    · rw [allL_end hk (by omega)] at h; cases h
theorem lex_nz {L : List UInt8} {e : Nat} {p : Plc} (h : lexL L = .error (e, p)) : e ≠ 0 := by
  unfold lexL at h
  split at h
  · injection h with h; injection h with h1 h2; rw [← h1]; decide
  · exact allL_nz _ 0 e p (Nat.zero_le _) (by rw [List.drop_zero]; exact h)
/-- the cells of token i -/
structure Tc (w : World) (g i : Nat) (t : Tkn) : Prop where
  c0 : w.cell? ⟨g, i * 7, none⟩ = some (.int .i64 t.k)
  c1 : w.cell? ⟨g, i * 7 + 1, none⟩ = some (.string (tx t.s))
  c2 : w.cell? ⟨g, i * 7 + 2, none⟩ = some (.int .i64 t.n)
  c4 : w.cell? ⟨g, i * 7 + 4, none⟩ = some (.int .i64 t.p.a)
theorem Tc.of {w w' : World} {N g l c i : Nat} {acc : List (Tkn × Value)} {x : Tkn × Value} (h : Toks w N (.slice (some ⟨g, 0, none⟩) l c) acc) (hi : acc[i]? = some x) (hb : Below w.heap.size w w') : Tc w' g i x.1 := by
  have key : ∀ m v, m < 7 → (tc7 x)[m]? = some v → w'.cell? ⟨g, i * 7 + m, none⟩ = some v := fun m v hm hv => by
    have h1 := own_cell h.row ((tcs_get hi m hm).trans hv)
    exact (hb.cell (p := ⟨g, i * 7 + m, none⟩) (h.row.lt g rfl).2).trans h1
  exact ⟨key 0 _ (by omega) rfl, key 1 _ (by omega) rfl, key 2 _ (by omega) rfl, key 4 _ (by omega) rfl⟩
set_option maxRecDepth 100000 in
set_option maxHeartbeats 4000000 in
theorem ltexts_any {s : ByteArray} {w : World} (hT : Tab w) (hs : s.size ≤ 9223372036854775807) : Calls Tryd.prog 6 #[.string s] w fun e w' => e = .returned (.bool true) ∧ Below w.heap.size w w' := by
  have C := all_every hT hs
  have HA := Lib.hid (fun w1 (hB : Below w.heap.size w w1) => awake_any (hT.below hB hT.1))
  obtain ⟨R, hR⟩ : ∃ R, lexL (lb s) = R := ⟨_, rfl⟩
  rw [hR] at C
  have HC := Lib.hid C
  have HR := Lib.hid hR
  clear C hR hT
  go_enter Tryd.func6, Tryd.ntmps6
  go_wp2_with fail
  refine HC.out.mono ?_
  rintro e w2 ⟨hB, hpost⟩
  have HB := Lib.hid hB
  clear hB
  have HA2 : Hid (∀ o W, Below (w2.alloc o).heap.size (w2.alloc o) W → Calls Tryd.prog 7 #[] W fun e w' => e = .returned (.bool true) ∧ Below w.heap.size w w') := fun o W h => by
    have h1 : Below w.heap.size w W := (HB.out.alloc HB.out.size o).trans (h.mono (by have := HB.out.size; simp; omega))
    exact (HA.out W h1).mono fun e w' ⟨q1, q2⟩ => ⟨q1, h1.trans (q2.mono h1.size)⟩
  cases R with
  | error ep =>
    obtain ⟨e, p⟩ := ep
    obtain rfl := hpost
    by_cases hbig : 5000 < s.size
    · have hb : (5000 : Int) < s.size := by omega
      go_wp2_with fail
      refine (HA2.out _ _ (Below.refl _ _)).mono ?_
      rintro e w4 ⟨rfl, hB4⟩
      have HB4 := Lib.hid hB4
      clear hB4
      go_wp2_with fail
      go_ret
      exact ⟨rfl, HB4.out⟩
    · have hb : ¬ (5000 : Int) < s.size := by omega
      have he : ((e : Int) != 0) = true := by rw [bne_iff_ne]; have := lex_nz HR.out; omega
      go_wp2_with fail
      refine (HA2.out _ _ (Below.refl _ _)).mono ?_
      rintro e w4 ⟨rfl, hB4⟩
      have HB4 := Lib.hid hB4
      clear hB4
      go_wp2_with fail
      go_ret
      exact ⟨rfl, HB4.out⟩
  | ok ts =>
    obtain ⟨vl, acc, hm, rfl, hK⟩ := hpost
    by_cases hbig : 5000 < s.size
    · have hb : (5000 : Int) < s.size := by omega
      go_wp2_with fail
      refine (HA2.out _ _ (Below.refl _ _)).mono ?_
      rintro e w4 ⟨rfl, hB4⟩
      have HB4 := Lib.hid hB4
      clear hB4
      go_wp2_with fail
      go_ret
      exact ⟨rfl, HB4.out⟩
    · have hb : ¬ (5000 : Int) < s.size := by omega
      have hsz : s.size ≤ 5000 := by omega
      have HTS := Lib.hid (ts_get (lex_ts HR.out))
      have hne : 0 < acc.length := by
        obtain ⟨t, us, e, -⟩ := ts_head (lex_ts HR.out)
        rw [e] at hm
        cases acc with
        | nil => cases hm
        | cons a r => simp
      obtain ⟨g, cap, rfl, -, lg⟩ := hK.row.form hne
      have HK := Lib.hid hK
      have HM := Lib.hid hm
      have hal : acc.length ≤ 100000 := by
        have h1 := congrArg List.length hm
        rw [List.length_map] at h1
        have h2 := ts_len (lex_ts HR.out)
        rw [L_len] at h2
        omega
      have hal1 : (acc.length : Int) ≤ 100000 := by omega
      clear hK hm hbig
      go_wp2_with fail
      obtain ⟨w3, hw3⟩ : ∃ w3, w2.alloc (.cells dgz 35) = w3 := ⟨_, rfl⟩
      have HA3 : Hid (∀ W, Below w3.heap.size w3 W → Calls Tryd.prog 7 #[] W fun e w' => e = .returned (.bool true) ∧ Below w.heap.size w w') := fun W h => HA2.out _ W (by rw [hw3]; exact h)
      have HB3 : Hid (∀ W, Below w3.heap.size w3 W → Below w2.heap.size w2 W) := fun W h => by
        subst hw3; exact ((Below.refl _ _).alloc (Nat.le_refl _) _).trans (h.mono (by simp))
      rw [hw3]
      clear hw3
      go_loopw [5] (fun x wr => ∃ i : Nat, i ≤ acc.length ∧ x = .int .i64 i ∧ Hid (Below w3.heap.size w3 wr)) (fun x _ => acc.length - (intOf x).toNat)
      case atStart => exact ⟨0, Nat.zero_le _, rfl, Below.refl _ _⟩
      case round =>
        obtain ⟨i, hi, rfl, HW⟩ := hrel
        by_cases hlt : i < acc.length
        · have hlt' : (i : Int) < acc.length := by omega
          obtain ⟨⟨t, v⟩, hx⟩ : ∃ x, acc[i]? = some x := ⟨_, List.getElem?_eq_getElem hlt⟩
          have htx : ts[i]? = some t := by rw [← HM.out, List.getElem?_map, hx]; rfl
          obtain ⟨TWt, hnext⟩ := HTS.out i t htx
          obtain ⟨c0, c1, c2, c4⟩ := Tc.of HK.out hx (HB3.out wr HW.out)
          have hA : t.p.a ≤ s.size := by have := TWt.hi; rwa [L_len] at this
          have hw := TWt.w
          have hWl : (wrd t).length ≤ s.size - t.p.a := by
            have := congrArg List.length hw
            rw [List.length_take, List.length_drop, L_len] at this
            omega
          have hex : s.extract t.p.a (t.p.a + (wrd t).length) = tx (wrd t) := by
            have := extract_lb s t.p.a (t.p.a + (wrd t).length)
            rw [List.drop_take, Nat.add_sub_cancel_left, hw] at this
            exact (tx_lb _).symm.trans (congrArg tx this)
          obtain ⟨W, hW⟩ : ∃ W, wrd t = W := ⟨_, rfl⟩
          rw [hW] at hWl hex
          obtain ⟨A, hAA⟩ : ∃ A, t.p.a = A := ⟨_, rfl⟩
          rw [hAA] at c4 hA hWl hex hnext
          have k4 := TWt.k4
          have n1 := TWt.n1
          have n2 := TWt.n2
          have hA' : ¬ (s.size : Int) < A := by omega
          have CP := Lib.hid (rprint_any t.n wr n1 n2)
          obtain ⟨kk, ss, nn, pps, pp⟩ := t
          dsimp only at c0 c1 c2 c4 k4 n1 n2 CP
          have hprev : i = 0 ∨ (0 < i ∧ ∃ B : Nat, wr.cell? ⟨g, (i - 1) * 7 + 4, none⟩ = some (.int .i64 B) ∧ B < A) := by
            rcases Nat.eq_zero_or_pos i with h0 | h0
            · exact .inl h0
            · refine .inr ⟨h0, ?_⟩
              obtain ⟨⟨u, v'⟩, hu⟩ : ∃ x, acc[i - 1]? = some x := ⟨_, List.getElem?_eq_getElem (by omega)⟩
              have hut : ts[i - 1]? = some u := by rw [← HM.out, List.getElem?_map, hu]; rfl
              have hn := (HTS.out (i - 1) u hut).2
              rw [show i - 1 + 1 = i by omega] at hn
              exact ⟨u.p.a, (Tc.of HK.out hu (HB3.out wr HW.out)).c4, by have := hn _ htx; rw [hAA] at this; exact this⟩
          have hWk : (kk = 0 → W = []) ∧ ((kk = 1 ∨ kk = 4) → W = ss) ∧ (kk = 2 → W = Lib.itoa nn) ∧ (kk = 3 → W = [34]) := by
            subst hW
            refine ⟨fun h => ?_, fun h => ?_, fun h => ?_, fun h => ?_⟩
            · subst h; rfl
            · rcases h with rfl | rfl <;> rfl
            · subst h; rfl
            · subst h; rfl
          have HWK := Lib.hid hWk
          have HWB : Hid (∀ q, Below w3.heap.size w3 (wr.drewN q)) := fun q => below_drewN HW.out q
          clear hWk hw hW TWt hnext htx hx hAA
          have hkk : kk = 0 ∨ kk = 1 ∨ kk = 2 ∨ kk = 3 ∨ kk = 4 := by omega
          rcases hprev with rfl | ⟨h0, B, cB, hB⟩
          · simp only [Nat.zero_mul, Nat.zero_add] at c0 c1 c2 c4
            rcases hkk with rfl | rfl | rfl | rfl | rfl
            · obtain rfl := HWK.out.1 rfl
              simp only [List.length_nil] at hex hWl
              have hl2 : ¬ (s.size : Int) - A < 0 := by omega
              have hl3 : (A : Int) + 0 ≤ s.size := by omega
              rw [Nat.add_zero] at hex
              go_wp2_with fail
              go_roundw
              case rel => exact ⟨0 + 1, by omega, by go_num, HW.out⟩
              case measure => simp [intOf]; omega
            · obtain rfl := HWK.out.2.1 (by decide)
              obtain ⟨S, hS⟩ : ∃ S, tx W = S := ⟨_, rfl⟩
              have hSl : W.length = S.size := by rw [← hS]; rfl
              rw [hSl] at hex hWl
              rw [hS] at hex c1
              clear hS hSl
              have hl2 : ¬ (s.size : Int) - A < S.size := by omega
              have hl3 : (A : Int) + S.size ≤ s.size := by omega
              go_wp2_with fail
              go_roundw
              case rel => exact ⟨0 + 1, by omega, by go_num, HW.out⟩
              case measure => simp [intOf]; omega
            · obtain rfl := HWK.out.2.2.1 rfl
              generalize Lib.itoa nn = W at *
              obtain ⟨S, hS⟩ : ∃ S, tx W = S := ⟨_, rfl⟩
              have hSl : W.length = S.size := by rw [← hS]; rfl
              rw [hSl] at hex hWl
              rw [hS] at hex
              rw [show (⟨W.toArray⟩ : ByteArray) = S from hS] at CP
              clear hS hSl
              have hl2 : ¬ (s.size : Int) - A < S.size := by omega
              have hl3 : (A : Int) + S.size ≤ s.size := by omega
              go_wp2_with fail
              refine CP.out.mono ?_
              rintro e w5 ⟨rfl, q, rfl⟩
              have HQ := Lib.hid (HWB.out q)
              go_wp2_with fail
              go_roundw
              case rel => exact ⟨0 + 1, by omega, by go_num, HQ.out⟩
              case measure => simp [intOf]; omega
            · obtain rfl := HWK.out.2.2.2 rfl
              simp only [List.length_cons, List.length_nil] at hex hWl
              have hl2 : ¬ (s.size : Int) - A < 1 := by omega
              have hl3 : (A : Int) + 1 ≤ s.size := by omega
              go_wp2_with fail
              go_roundw
              case rel => exact ⟨0 + 1, by omega, by go_num, HW.out⟩
              case measure => simp [intOf]; omega
            · obtain rfl := HWK.out.2.1 (by decide)
              obtain ⟨S, hS⟩ : ∃ S, tx W = S := ⟨_, rfl⟩
              have hSl : W.length = S.size := by rw [← hS]; rfl
              rw [hSl] at hex hWl
              rw [hS] at hex c1
              clear hS hSl
              have hl2 : ¬ (s.size : Int) - A < S.size := by omega
              have hl3 : (A : Int) + S.size ≤ s.size := by omega
              go_wp2_with fail
              go_roundw
              case rel => exact ⟨0 + 1, by omega, by go_num, HW.out⟩
              case measure => simp [intOf]; omega
          · have h0' : (0 : Int) < i := by omega
            have hB' : ¬ (A : Int) ≤ B := by omega
            have hi1 : (1 : Int) ≤ i := by omega
            rcases hkk with rfl | rfl | rfl | rfl | rfl
            · obtain rfl := HWK.out.1 rfl
              simp only [List.length_nil] at hex hWl
              have hl2 : ¬ (s.size : Int) - A < 0 := by omega
              have hl3 : (A : Int) + 0 ≤ s.size := by omega
              rw [Nat.add_zero] at hex
              go_wp2_with fail
              go_roundw
              case rel => exact ⟨i + 1, by omega, by go_num, HW.out⟩
              case measure => simp [intOf]; omega
            · obtain rfl := HWK.out.2.1 (by decide)
              obtain ⟨S, hS⟩ : ∃ S, tx W = S := ⟨_, rfl⟩
              have hSl : W.length = S.size := by rw [← hS]; rfl
              rw [hSl] at hex hWl
              rw [hS] at hex c1
              clear hS hSl
              have hl2 : ¬ (s.size : Int) - A < S.size := by omega
              have hl3 : (A : Int) + S.size ≤ s.size := by omega
              go_wp2_with fail
              go_roundw
              case rel => exact ⟨i + 1, by omega, by go_num, HW.out⟩
              case measure => simp [intOf]; omega
            · obtain rfl := HWK.out.2.2.1 rfl
              generalize Lib.itoa nn = W at *
              obtain ⟨S, hS⟩ : ∃ S, tx W = S := ⟨_, rfl⟩
              have hSl : W.length = S.size := by rw [← hS]; rfl
              rw [hSl] at hex hWl
              rw [hS] at hex
              rw [show (⟨W.toArray⟩ : ByteArray) = S from hS] at CP
              clear hS hSl
              have hl2 : ¬ (s.size : Int) - A < S.size := by omega
              have hl3 : (A : Int) + S.size ≤ s.size := by omega
              go_wp2_with fail
              refine CP.out.mono ?_
              rintro e w5 ⟨rfl, q, rfl⟩
              have HQ := Lib.hid (HWB.out q)
              go_wp2_with fail
              go_roundw
              case rel => exact ⟨i + 1, by omega, by go_num, HQ.out⟩
              case measure => simp [intOf]; omega
            · obtain rfl := HWK.out.2.2.2 rfl
              simp only [List.length_cons, List.length_nil] at hex hWl
              have hl2 : ¬ (s.size : Int) - A < 1 := by omega
              have hl3 : (A : Int) + 1 ≤ s.size := by omega
              go_wp2_with fail
              go_roundw
              case rel => exact ⟨i + 1, by omega, by go_num, HW.out⟩
              case measure => simp [intOf]; omega
            · obtain rfl := HWK.out.2.1 (by decide)
              obtain ⟨S, hS⟩ : ∃ S, tx W = S := ⟨_, rfl⟩
              have hSl : W.length = S.size := by rw [← hS]; rfl
              rw [hSl] at hex hWl
              rw [hS] at hex c1
              clear hS hSl
              have hl2 : ¬ (s.size : Int) - A < S.size := by omega
              have hl3 : (A : Int) + S.size ≤ s.size := by omega
              go_wp2_with fail
              go_roundw
              case rel => exact ⟨i + 1, by omega, by go_num, HW.out⟩
              case measure => simp [intOf]; omega
        · have hlt' : ¬ (i : Int) < acc.length := by omega
          go_wp2_with fail
          refine (HA3.out _ HW.out).mono ?_
          rintro e w4 ⟨rfl, hB4⟩
          have HB4 := Lib.hid hB4
          clear hB4
          go_wp2_with fail
          go_ret
          exact ⟨rfl, HB4.out⟩
end Go.Proofs.YtejpbebfkogmfaaDoor
