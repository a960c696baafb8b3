/- Contract: the reference's Sort. -/
import Derived.Test.YtakoghdkllfhlaaDoorVg
import Derived.Test.YtakoghdkllfhlaaDoorVi
import Derived.Laws.AppendOwnNone
import Derived.Deep.DeepMust
namespace Go.Proofs.YtakoghdkllfhlaaDoor
open Go.RowKit

theorem own_keep {w w' : World} {m B : Nat} {e : TypeId} {z : Nat} {v : Value} {n : Nat} {xs : List Value} (h : w.ownsRow B e z v n xs) (hb : Below m w w') (hm : ∀ g, v.ownBlock = some g → g < m) : w'.ownsRow B e z v n xs := by
  refine ⟨h.1, ?_⟩
  rcases h.2 with hn | ⟨g, cap, cur, hv, hbg, hgb, r⟩
  · exact .inl hn
  · exact .inr ⟨g, cap, cur, hv, hbg, (hb.block g (hm g (by rw [hv]; rfl))).trans hgb, r⟩
theorem own_all {w w' : World} {B : Nat} {e : TypeId} {z : Nat} {v : Value} {n : Nat} {xs : List Value} (h : w.ownsRow B e z v n xs) (hb : Below w.heap.size w w') : w'.ownsRow B e z v n xs := own_keep h hb fun g hg => (h.lt g hg).2
theorem own_down {w : World} {B B' : Nat} {e : TypeId} {z : Nat} {v : Value} {n : Nat} {xs : List Value} (h : w.ownsRow B e z v n xs) (hb : B' ≤ B) : w.ownsRow B' e z v n xs := by
  refine ⟨h.1, ?_⟩
  rcases h.2 with hn | ⟨g, cap, cur, hv, hbg, r⟩
  · exact .inl hn
  · exact .inr ⟨g, cap, cur, hv, Nat.le_trans hb hbg, r⟩
theorem own_none (w : World) (B : Nat) : w.ownsRow B 26 6 (.slice none 0 0) ([] : List Obt).length (([] : List Obt).flatMap ke) := ⟨rfl, .inl ⟨rfl, rfl⟩⟩
theorem flat_one (l : List Obt) : ∀ u ∈ l.flatMap ke, u.oneCell' = true := fun u hu => by
  obtain ⟨k, _, hk⟩ := List.mem_flatMap.1 hu
  exact ke_one k u hk
theorem hc_get {w : World} {b o : Nat} {k : Obt} (h : Hc w b o k) {m : Nat} {u : Value} (hu : (ke k)[m]? = some u) : w.cell? ⟨b, o + m, none⟩ = some u := by
  have hm : m < 6 := by obtain ⟨h1, _⟩ := List.getElem?_eq_some_iff.1 hu; exact h1
  obtain rfl | rfl | rfl | rfl | rfl | rfl : m = 0 ∨ m = 1 ∨ m = 2 ∨ m = 3 ∨ m = 4 ∨ m = 5 := by omega
  · simp at hu; subst hu; exact h.c0
  · simp at hu; subst hu; exact h.c1
  · simp at hu; subst hu; exact h.c2
  · simp at hu; subst hu; exact h.c3
  · simp at hu; subst hu; exact h.c4
  · simp at hu; subst hu; exact h.c5
set_option maxRecDepth 100000 in
/-- objects in memory are laid behind a row of the call's own -/
theorem app_ks {w : World} {ops : Array Oper} {rest : List Oper} {o : Oper} {a : Act} {Q : Exit → Act → World → Prop} (hgd : o.guard = none) (s x : Operand)
    (ho : o.op = .call { callee := .builtin .append, args := #[s, x], argTypes := #[38, 38] }) {base : Nat} {v : Value} {M N : List Obt} {sp : Option Addr} {cap : Nat} (hs : a.eval s = v) (hx : a.eval x = .slice sp M.length cap)
    (hown : w.ownsRow base 26 6 v N.length (N.flatMap ke)) (B : Ks w sp cap M) (hlen : N.length + M.length ≤ 1000) (hbase : base ≤ w.heap.size)
    (h : ∀ v' w', w'.ownsRow base 26 6 v' (N ++ M).length ((N ++ M).flatMap ke) → Below base w w' → wpList Tryd.prog ops Q rest (a.put o.dst v') w') : wpList Tryd.prog ops Q (o :: rest) a w := by
  obtain ⟨i, hi, hz, hs1, hb⟩ := info_parts info26
  have hr : ∀ k, v.ownBlock = some k → base ≤ k := fun k hk => (hown.lt k hk).1
  cases sp with
  | none =>
    have hc0 : cap = 0 := B.nz rfl
    have h0 : M.length = 0 := by have := B.lc; omega
    obtain rfl := List.length_eq_zero_iff.1 h0
    refine wpList_append_own_none hgd s x 38 ho base 26 i 6 Tryd.underlying38 hi v N.length (N.flatMap ke) hs hown (by rw [hx, hc0]; rfl) (h v w ?_ (Below.refl _ _))
    rw [List.append_nil]; exact hown
  | some ad =>
    refine wpList_append_own w hgd s x 38 ho base 26 i _ 6 72 Tryd.underlying38 hi hz hs1 hb rfl (by omega) v N.length (N.flatMap ke) hs hown ad M.length cap (M.flatMap ke) hx (flat_len M) (fun j u hu => ?_) (flat_one M) (by unfold maxLen; omega) (by omega) hbase (fun v' w' h1 h2 _ => h v' w' ?_ ((Below.refl base w).grown h2 hbase hr))
    · have hj : j < M.length * 6 := by
        have := (List.getElem?_eq_some_iff.1 hu).1
        rwa [flat_len] at this
      obtain ⟨b, off, k, e, _, hk, c⟩ := B.at (i := j / 6) (by omega)
      injection e with e
      subst e
      have ea : (⟨b, off, none⟩ : Addr).add j = ⟨b, off + j / 6 * 6 + j % 6, none⟩ := by
        have : off + j / 6 * 6 + j % 6 = off + j := by omega
        rw [this]
        unfold Addr.add; split <;> simp_all
      rw [ea]
      have h5 := flat_get hk (j % 6) (by omega)
      rw [show j / 6 * 6 + j % 6 = j by omega, hu] at h5
      exact hc_get c h5.symm
    · rw [List.length_append, List.flatMap_append]; exact h1
theorem Ks.take {w : World} {p : Option Addr} {cap : Nat} {l : List Obt} (h : Ks w p cap l) (k : Nat) : Ks w p cap (l.take k) := by
  refine ⟨by rw [List.length_take]; have := h.lc; omega, h.cm, h.nz, fun h0 => ?_⟩
  rw [List.length_take] at h0
  obtain ⟨b, o, e, hb, hc⟩ := h.el (by omega)
  refine ⟨b, o, e, hb, fun i x hx => hc i x ?_⟩
  have hi : i < k := by obtain ⟨h1, _⟩ := List.getElem?_eq_some_iff.1 hx; rw [List.length_take] at h1; omega
  rwa [List.getElem?_take_of_lt hi] at hx
theorem Ks.drop {w : World} {b o cap : Nat} {l : List Obt} (h : Ks w (some ⟨b, o, none⟩) cap l) (k : Nat) : Ks w (some ⟨b, o + k * 6, none⟩) (cap - k) (l.drop k) := by
  refine ⟨by rw [List.length_drop]; have := h.lc; omega, Nat.le_trans (Nat.sub_le _ _) h.cm, (fun e => by cases e), fun h0 => ?_⟩
  rw [List.length_drop] at h0
  obtain ⟨b', o', e, hb, hc⟩ := h.el (by omega)
  injection e with e
  injection e with e1 e2
  subst e1 e2
  refine ⟨b, _, rfl, hb, fun i x hx => ?_⟩
  rw [List.getElem?_drop] at hx
  have := hc _ _ hx
  rwa [show o + (k + i) * 6 = o + k * 6 + i * 6 by omega] at this
theorem ks_none (w : World) (p : Option Addr) (c : Nat) (hp : p ≠ none) (hc : c ≤ maxLen) : Ks w p c [] := ⟨Nat.zero_le _, hc, fun e => absurd e hp, fun h => absurd h (Nat.lt_irrefl _)⟩
theorem ks_one (w : World) (k : Obt) : Ks (w.alloc (bk k)) (some ⟨w.heap.size, 0, none⟩) 1 [k] := by
  refine ⟨Nat.le_refl _, by unfold maxLen; omega, (fun e => by cases e), fun _ => ⟨w.heap.size, 0, rfl, by simp, fun i x hx => ?_⟩⟩
  have hi : i = 0 := by obtain ⟨h1, _⟩ := List.getElem?_eq_some_iff.1 hx; simpa using h1
  subst hi
  simp only [List.getElem?_cons_zero, Option.some.injEq] at hx
  subst hx
  obtain ⟨_, c0, c1, c2, c3, c4, c5⟩ := Hk.made w k
  exact ⟨c0, c1, c2, c3, c4, c5⟩
set_option maxRecDepth 100000 in
set_option maxHeartbeats 8000000 in
theorem rsort_any {p : Option Addr} {cap : Nat} {l : List Obt} {w : World} (hK : Ks w p cap l) (hl : l.length ≤ 60) : Calls Tryd.prog 24 #[.slice p l.length cap] w (SrtR l w) := by
  have HK := Lib.hid hK
  have l1 := hK.lc
  have l2 := hK.cm
  unfold maxLen at l2
  clear hK
  go_enter Tryd.func24, Tryd.ntmps24
  go_wp2_with fail
  go_loopw [3, 4] (fun v i wr => ∃ (j : Nat) (acc : List Obt), j ≤ l.length ∧ i = .int .i64 j ∧ acc.length ≤ j ∧ Hid (wr.ownsRow w.heap.size 26 6 v acc.length (acc.flatMap ke)) ∧ Hid (Srt acc (l.take j)) ∧ Hid (Below w.heap.size w wr)) (fun _ i _ => l.length - (intOf i).toNat)
  case atStart => exact ⟨0, [], Nat.zero_le _, rfl, Nat.le_refl _, own_none w w.heap.size, Srt.nil, Below.refl _ _⟩
  case round =>
    obtain ⟨j, acc, hj, rfl, ha, HR, HS, HW⟩ := hrel
    by_cases hlt : j < l.length
    · have k1 : (j : Int) < (l.length : Int) := by omega
      obtain ⟨b, o, x, rfl, hb, hx, hc⟩ := HK.out.at hlt
      have HC := Lib.hid (And.intro hb (And.intro hx hc))
      obtain ⟨y0, y1, y2, y3, y4, y5⟩ := hc.kept HW.out hb
      clear hb hx hc
      obtain ⟨pv, cv, rfl, hkv⟩ := ks_of_own HR.out
      have HKV := Lib.hid hkv
      clear hkv
      go_wp2_with fail
      refine (rhas_any HKV.out x).mono ?_
      rintro e w1 ⟨r, rfl, hr, b1⟩
      have B1 := Lib.hid (And.intro hr b1)
      clear hr b1 y0 y1 y2 y3 y4 y5
      cases r with
      | true =>
        go_wp2_with fail
        go_roundw
        case rel => exact ⟨j + 1, acc, by omega, by go_num, by omega, own_all HR.out B1.out.2, by rw [Hid, take_snoc HC.out.2.1]; exact HS.out.skip (B1.out.1.1 trivial), HW.out.trans (B1.out.2.mono HW.out.size)⟩
        case measure => simp [intOf]; omega
      | false =>
        have HR1 := Lib.hid (own_all HR.out B1.out.2)
        have HW1 := Lib.hid (HW.out.trans (B1.out.2.mono HW.out.size))
        have HKV1 := Lib.hid (HKV.out.below B1.out.2)
        have HNX : Hid (x ∉ acc) := fun h => by have := B1.out.1.2 h; cases this
        clear HR HW HKV B1
        have hF := HR1.out.2
        rcases hF with ⟨e3, h0⟩ | ⟨g, cg, cur, e3, hg0, hgb, -, -, -, -⟩
        · obtain rfl : acc = [] := List.eq_nil_of_length_eq_zero h0
          injection e3 with e3 e4 e5
          subst e3 e5
          clear e4 h0
          simp only [List.length_nil] at *
          go_wp2_with fail
          go_loopw [5] (fun i2 w2 => i2 = .int .i64 0 ∧ Hid (Below w1.heap.size w1 w2)) (fun i2 _ => 0)
          case atStart => exact ⟨rfl, Below.refl _ _⟩
          case round =>
            obtain ⟨rfl, HI⟩ := hrel
            obtain ⟨N, hN⟩ : ∃ N, N = wr.heap.size := ⟨_, rfl⟩
            have S0 := held_at hN
            have HNN := Lib.hid hN
            clear hN
            go_upto_region 7 with fail
            refine wp_region_noPanic ?_
            refine wp_region_held_drew (S := (fun W => (∀ b o, b < N → W.cell? ⟨b, o, none⟩ = wr.cell? ⟨b, o, none⟩) ∧ Hid (Below N wr W) ∧ Hid (N ≤ W.heap.size))) (by kernel_rfl) ?_ (fun hH => ?_)
            · exact S0
            refine wpAnyH_take (i := 0) (oi := { dst := some 19, op := Op.move (Operand.tmp 5), type := 3, pos := "ref.go:216", after := #[], guard := none }) (v := ?_) rfl (by kernel_rfl) (by kernel_rfl) (by kernel_rfl) (fun _ _ _ h => h) (Or.inl ⟨by rfl, ?_⟩) (by assumption) ?_
            rotate_left
            · (intro w hSw; (try dsimp only at hSw); go_simp; try with_reducible rfl)
            try simp only [Act.put, List.setIfInBounds_toArray, List.set_cons_zero, List.set_cons_succ]
            refine wpAnyH_take (i := 1) (oi := { dst := some 20, op := Op.move (Operand.tmp 3), type := 38, pos := "ref.go:216", after := #[], guard := none }) (v := ?_) rfl (by kernel_rfl) (by kernel_rfl) (by kernel_rfl) (fun _ _ _ h => h) (Or.inl ⟨by rfl, ?_⟩) (by assumption) ?_
            rotate_left
            · (intro w hSw; (try dsimp only at hSw); go_simp; try with_reducible rfl)
            try simp only [Act.put, List.setIfInBounds_toArray, List.set_cons_zero, List.set_cons_succ]
            refine wpAnyH_take (i := 2) (oi := { dst := some 21, op := Op.call { callee := Callee.builtin Builtin.len, args := #[Operand.tmp 20], argTypes := #[38] }, type := 3, pos := "ref.go:216", after := #[{ on := 1, ground := Ground.data }], guard := none }) (v := ?_) rfl (by kernel_rfl) (by kernel_rfl) (by kernel_rfl) (fun _ _ _ h => h) (Or.inl ⟨by rfl, ?_⟩) (by assumption) ?_
            rotate_left
            · (intro w hSw; (try dsimp only at hSw); go_simp; try with_reducible rfl)
            try simp only [Act.put, List.setIfInBounds_toArray, List.set_cons_zero, List.set_cons_succ]
            refine wpAnyH_take (i := 3) (oi := { dst := some 22, op := Op.binOp BinOp.lss 3 (Operand.tmp 19) (Operand.tmp 21) 3, type := 4, pos := "ref.go:216", after := #[{ on := 0, ground := Ground.data }, { on := 2, ground := Ground.data }], guard := none }) (v := ?_) rfl (by kernel_rfl) (by kernel_rfl) (by kernel_rfl) (fun _ _ _ h => h) (Or.inl ⟨by rfl, ?_⟩) (by assumption) ?_
            rotate_left
            · (intro w hSw; (try dsimp only at hSw); go_simp; try with_reducible rfl)
            try simp only [Act.put, List.setIfInBounds_toArray, List.set_cons_zero, List.set_cons_succ]
            refine wpAnyH_take (i := 4) (oi := { dst := some 23, op := Op.move (Operand.tmp 22), type := 4, pos := "ref.go:216", after := #[{ on := 3, ground := Ground.data }], guard := none }) (v := ?_) rfl (by kernel_rfl) (by kernel_rfl) (by kernel_rfl) (fun _ _ _ h => h) (Or.inl ⟨by rfl, ?_⟩) (by assumption) ?_
            rotate_left
            · (intro w hSw; (try dsimp only at hSw); go_simp; try with_reducible rfl)
            try simp only [Act.put, List.setIfInBounds_toArray, List.set_cons_zero, List.set_cons_succ]
            refine wpAnyH_take (i := 5) (oi := { dst := some 24, op := Op.move (Operand.tmp 3), type := 38, pos := "ref.go:216", after := #[{ on := 4, ground := Ground.guard }], guard := some (4, true) }) (v := undef) rfl (by kernel_rfl) (by kernel_rfl) (by kernel_rfl) (fun _ _ _ h => h) (Or.inr ⟨by rfl, rfl⟩) (by assumption) ?_
            try simp only [Act.put, List.setIfInBounds_toArray, List.set_cons_zero, List.set_cons_succ]
            refine wpAnyH_take (i := 6) (oi := { dst := some 25, op := Op.move (Operand.tmp 5), type := 3, pos := "ref.go:216", after := #[{ on := 4, ground := Ground.guard }], guard := some (4, true) }) (v := undef) rfl (by kernel_rfl) (by kernel_rfl) (by kernel_rfl) (fun _ _ _ h => h) (Or.inr ⟨by rfl, rfl⟩) (by assumption) ?_
            try simp only [Act.put, List.setIfInBounds_toArray, List.set_cons_zero, List.set_cons_succ]
            refine wpAnyH_take (i := 7) (oi := { dst := some 26, op := Op.indexAddr 38 (Operand.tmp 24) (Operand.tmp 25), type := 0, pos := "ref.go:216", after := #[{ on := 5, ground := Ground.data }, { on := 6, ground := Ground.data }, { on := 4, ground := Ground.guard }], guard := some (4, true) }) (v := undef) rfl (by kernel_rfl) (by kernel_rfl) (by kernel_rfl) (fun _ _ _ h => h) (Or.inr ⟨by rfl, rfl⟩) (by assumption) ?_
            try simp only [Act.put, List.setIfInBounds_toArray, List.set_cons_zero, List.set_cons_succ]
            refine wpAnyH_take (i := 8) (oi := { dst := some 27, op := Op.load 26 (Operand.tmp 26), type := 26, pos := "ref.go:216", after := #[{ on := 7, ground := Ground.data }, { on := 4, ground := Ground.guard }], guard := some (4, true) }) (v := undef) rfl (by kernel_rfl) (by kernel_rfl) (by kernel_rfl) (fun _ _ _ h => h) (Or.inr ⟨by rfl, rfl⟩) (by assumption) ?_
            try simp only [Act.put, List.setIfInBounds_toArray, List.set_cons_zero, List.set_cons_succ]
            refine wpAnyH_take (i := 9) (oi := { dst := some 28, op := Op.move (Operand.tmp 0), type := 38, pos := "ref.go:216", after := #[{ on := 4, ground := Ground.guard }], guard := some (4, true) }) (v := undef) rfl (by kernel_rfl) (by kernel_rfl) (by kernel_rfl) (fun _ _ _ h => h) (Or.inr ⟨by rfl, rfl⟩) (by assumption) ?_
            try simp only [Act.put, List.setIfInBounds_toArray, List.set_cons_zero, List.set_cons_succ]
            refine wpAnyH_take (i := 10) (oi := { dst := some 29, op := Op.move (Operand.tmp 4), type := 3, pos := "ref.go:216", after := #[{ on := 4, ground := Ground.guard }], guard := some (4, true) }) (v := undef) rfl (by kernel_rfl) (by kernel_rfl) (by kernel_rfl) (fun _ _ _ h => h) (Or.inr ⟨by rfl, rfl⟩) (by assumption) ?_
            try simp only [Act.put, List.setIfInBounds_toArray, List.set_cons_zero, List.set_cons_succ]
            refine wpAnyH_take (i := 11) (oi := { dst := some 30, op := Op.indexAddr 38 (Operand.tmp 28) (Operand.tmp 29), type := 0, pos := "ref.go:216", after := #[{ on := 9, ground := Ground.data }, { on := 10, ground := Ground.data }, { on := 4, ground := Ground.guard }], guard := some (4, true) }) (v := undef) rfl (by kernel_rfl) (by kernel_rfl) (by kernel_rfl) (fun _ _ _ h => h) (Or.inr ⟨by rfl, rfl⟩) (by assumption) ?_
            try simp only [Act.put, List.setIfInBounds_toArray, List.set_cons_zero, List.set_cons_succ]
            refine wpAnyH_take (i := 12) (oi := { dst := some 31, op := Op.load 26 (Operand.tmp 30), type := 26, pos := "ref.go:216", after := #[{ on := 11, ground := Ground.data }, { on := 4, ground := Ground.guard }], guard := some (4, true) }) (v := undef) rfl (by kernel_rfl) (by kernel_rfl) (by kernel_rfl) (fun _ _ _ h => h) (Or.inr ⟨by rfl, rfl⟩) (by assumption) ?_
            try simp only [Act.put, List.setIfInBounds_toArray, List.set_cons_zero, List.set_cons_succ]
            refine wpAnyH_take (i := 13) (oi := { dst := some 32, op := Op.call { callee := Callee.value (Operand.func 19), args := #[Operand.tmp 27, Operand.tmp 31], argTypes := #[26, 26] }, type := 4, pos := "ref.go:216", after := #[{ on := 8, ground := Ground.data }, { on := 12, ground := Ground.data }, { on := 4, ground := Ground.chain }, { on := 4, ground := Ground.guard }], guard := some (4, true) }) (v := undef) rfl (by kernel_rfl) (by kernel_rfl) (by kernel_rfl) (fun _ _ _ h => h) (Or.inr ⟨by rfl, rfl⟩) (by assumption) ?_
            try simp only [Act.put, List.setIfInBounds_toArray, List.set_cons_zero, List.set_cons_succ]
            refine wpAnyH_take (i := 14) (oi := { dst := some 33, op := Op.pick (Operand.tmp 23) (Operand.tmp 32) (Operand.const (Value.bool false)), type := 4, pos := "ref.go:216", after := #[{ on := 4, ground := Ground.data }, { on := 13, ground := Ground.data }], guard := none }) (v := ?_) rfl (by kernel_rfl) (by kernel_rfl) (by kernel_rfl) (fun _ _ _ h => h) (Or.inl ⟨by rfl, ?_⟩) (by assumption) ?_
            rotate_left
            · (intro w hSw; (try dsimp only at hSw); go_simp; try with_reducible rfl)
            try simp only [Act.put, List.setIfInBounds_toArray, List.set_cons_zero, List.set_cons_succ]
            refine wpAnyH_done (by kernel_rfl) ?_ _
            refine NoPanic.normal ?_
            have BZ := Lib.hid (HI.out.trans (hH.2.1.out.mono (by rw [HNN.out]; exact HI.out.size)))
            clear S0 hH
            have HW3 := Lib.hid (HW1.out.trans (BZ.out.mono HW1.out.size))
            go_wp2_with (first | (at_builtin; go_must (refine app_ks rfl (.tmp 36) (.tmp 39) rfl (base := w1.heap.size) (M := []) (N := []) rfl rfl (own_none _ _) (Ks.nil _) (by simp) BZ.out.size ?_)))
            intro v1 w3 h1 hb1
            have B3 := Lib.hid (BZ.out.trans (hb1.mono (Nat.le_refl _)))
            have O3 := Lib.hid h1
            have HW4 := Lib.hid (HW1.out.trans (B3.out.mono HW1.out.size))
            clear h1 hb1
            obtain ⟨y0, y1, y2, y3, y4, y5⟩ := HC.out.2.2.kept HW4.out HC.out.1
            go_wp2_with (first | (at_builtin; go_must (refine app_ks rfl (.tmp 41) (.tmp 46) rfl (base := w1.heap.size) (M := [x]) (N := []) rfl rfl (O3.out.alloc _) (ks_one w3 x) (by simp) (by have := B3.out.size; simp; omega) ?_)))
            clear y0 y1 y2 y3 y4 y5
            intro v2 w4 h1 hb1
            have B4 := Lib.hid ((B3.out.alloc B3.out.size (bk x)).trans (hb1.mono (Nat.le_refl _)))
            have O4 := Lib.hid h1
            have HW5 := Lib.hid (HW1.out.trans (B4.out.mono HW1.out.size))
            clear h1 hb1
            go_wp2_with (first | (at_builtin; go_must (refine app_ks rfl (.tmp 48) (.tmp 51) rfl (base := w1.heap.size) (M := []) (N := [x]) rfl rfl O4.out (Ks.nil _) (by simp) B4.out.size ?_)))
            intro v3 w5 h1 hb1
            have B5 := Lib.hid (B4.out.trans (hb1.mono (Nat.le_refl _)))
            have O5 := Lib.hid h1
            have HW6 := Lib.hid (HW1.out.trans (B5.out.mono HW1.out.size))
            clear h1 hb1
            go_wp2_with fail
            go_roundw
            case rel => exact ⟨j + 1, [x], by omega, by go_num, by simp, own_down (by simpa using O5.out) HW1.out.size, by rw [Hid, take_snoc HC.out.2.1]; exact HS.out.put HNX.out 0 (Nat.zero_le _) (fun m h => absurd h (Nat.not_lt_zero _)) (fun y hy => by cases hy), HW6.out⟩
            case measure => simp [intOf]; omega
        · have HG := Lib.hid (show g < w1.heap.size from (Array.getElem?_eq_some_iff.1 hgb).1)
          injection e3 with e3 e4 e5
          subst e3 e5
          clear e4 hg0 hgb
          have la1 := HKV1.out.lc
          have la2 := HKV1.out.cm
          unfold maxLen at la2
          go_wp2_with fail
          go_loopw [5] (fun i2 w2 => ∃ k : Nat, k ≤ acc.length ∧ i2 = .int .i64 k ∧ Hid (Below w1.heap.size w1 w2) ∧ Hid (∀ m, m < k → ∀ y, acc[m]? = some y → ordK y x < 0)) (fun i2 _ => acc.length - (intOf i2).toNat)
          case atStart => exact ⟨0, Nat.zero_le _, rfl, Below.refl _ _, fun m h => absurd h (Nat.not_lt_zero _)⟩
          case round =>
            obtain ⟨k, hk, rfl, HI, HP⟩ := hrel
            obtain ⟨N, hN⟩ : ∃ N, N = wr.heap.size := ⟨_, rfl⟩
            have S0 := held_at hN
            have HNN := Lib.hid hN
            by_cases hk2 : k < acc.length
            · have k3 : (k : Int) < (acc.length : Int) := by omega
              obtain ⟨b2, o2, y, e2, hb2, hy, hc2⟩ := HKV1.out.at hk2
              injection e2 with e2
              injection e2 with e2 e4
              subst e2 e4
              rw [Nat.zero_add] at hc2
              obtain ⟨z0, z1, z2, z3, z4, z5⟩ := hc2.kept HI.out hb2
              have HW2 := Lib.hid (HW1.out.trans (HI.out.mono HW1.out.size))
              obtain ⟨y0, y1, y2, y3, y4, y5⟩ := HC.out.2.2.kept HW2.out HC.out.1
              have HYY := Lib.hid hy
              obtain ⟨r2, hr2⟩ : ∃ r, lessK y x = r := ⟨_, rfl⟩
              have R := fun w => rlessK_any y x w
              rw [hr2] at R
              have KR := Lib.hid R
              have HRR := Lib.hid hr2
              have lA : g < N := by have := HI.out.size; omega
              have lB : b < N := by have := HW2.out.size; have := HC.out.1; omega
              clear hN R hr2 hy hc2 hb2
              go_upto_region 7 with fail
              refine wp_region_noPanic ?_
              refine wp_region_held_drew (S := (fun W => (∀ b o, b < N → W.cell? ⟨b, o, none⟩ = wr.cell? ⟨b, o, none⟩) ∧ Hid (Below N wr W) ∧ Hid (N ≤ W.heap.size))) (by kernel_rfl) ?_ (fun hH => ?_)
              · exact S0
              refine wpAnyH_take (i := 0) (oi := { dst := some 19, op := Op.move (Operand.tmp 5), type := 3, pos := "ref.go:216", after := #[], guard := none }) (v := ?_) rfl (by kernel_rfl) (by kernel_rfl) (by kernel_rfl) (fun _ _ _ h => h) (Or.inl ⟨by rfl, ?_⟩) (by assumption) ?_
              rotate_left
              · (intro w hSw; (try dsimp only at hSw); go_simp; try with_reducible rfl)
              try simp only [Act.put, List.setIfInBounds_toArray, List.set_cons_zero, List.set_cons_succ]
              refine wpAnyH_take (i := 1) (oi := { dst := some 20, op := Op.move (Operand.tmp 3), type := 38, pos := "ref.go:216", after := #[], guard := none }) (v := ?_) rfl (by kernel_rfl) (by kernel_rfl) (by kernel_rfl) (fun _ _ _ h => h) (Or.inl ⟨by rfl, ?_⟩) (by assumption) ?_
              rotate_left
              · (intro w hSw; (try dsimp only at hSw); go_simp; try with_reducible rfl)
              try simp only [Act.put, List.setIfInBounds_toArray, List.set_cons_zero, List.set_cons_succ]
              refine wpAnyH_take (i := 2) (oi := { dst := some 21, op := Op.call { callee := Callee.builtin Builtin.len, args := #[Operand.tmp 20], argTypes := #[38] }, type := 3, pos := "ref.go:216", after := #[{ on := 1, ground := Ground.data }], guard := none }) (v := ?_) rfl (by kernel_rfl) (by kernel_rfl) (by kernel_rfl) (fun _ _ _ h => h) (Or.inl ⟨by rfl, ?_⟩) (by assumption) ?_
              rotate_left
              · (intro w hSw; (try dsimp only at hSw); go_simp; try with_reducible rfl)
              try simp only [Act.put, List.setIfInBounds_toArray, List.set_cons_zero, List.set_cons_succ]
              refine wpAnyH_take (i := 3) (oi := { dst := some 22, op := Op.binOp BinOp.lss 3 (Operand.tmp 19) (Operand.tmp 21) 3, type := 4, pos := "ref.go:216", after := #[{ on := 0, ground := Ground.data }, { on := 2, ground := Ground.data }], guard := none }) (v := ?_) rfl (by kernel_rfl) (by kernel_rfl) (by kernel_rfl) (fun _ _ _ h => h) (Or.inl ⟨by rfl, ?_⟩) (by assumption) ?_
              rotate_left
              · (intro w hSw; (try dsimp only at hSw); go_simp; try with_reducible rfl)
              try simp only [Act.put, List.setIfInBounds_toArray, List.set_cons_zero, List.set_cons_succ]
              refine wpAnyH_take (i := 4) (oi := { dst := some 23, op := Op.move (Operand.tmp 22), type := 4, pos := "ref.go:216", after := #[{ on := 3, ground := Ground.data }], guard := none }) (v := ?_) rfl (by kernel_rfl) (by kernel_rfl) (by kernel_rfl) (fun _ _ _ h => h) (Or.inl ⟨by rfl, ?_⟩) (by assumption) ?_
              rotate_left
              · (intro w hSw; (try dsimp only at hSw); go_simp; try with_reducible rfl)
              try simp only [Act.put, List.setIfInBounds_toArray, List.set_cons_zero, List.set_cons_succ]
              refine wpAnyH_take (i := 5) (oi := { dst := some 24, op := Op.move (Operand.tmp 3), type := 38, pos := "ref.go:216", after := #[{ on := 4, ground := Ground.guard }], guard := some (4, true) }) (v := ?_) rfl (by kernel_rfl) (by kernel_rfl) (by kernel_rfl) (fun _ _ _ h => h) (Or.inl ⟨by rfl, ?_⟩) (by assumption) ?_
              rotate_left
              · (intro w hSw; (try dsimp only at hSw); go_simp; try with_reducible rfl)
              try simp only [Act.put, List.setIfInBounds_toArray, List.set_cons_zero, List.set_cons_succ]
              refine wpAnyH_take (i := 6) (oi := { dst := some 25, op := Op.move (Operand.tmp 5), type := 3, pos := "ref.go:216", after := #[{ on := 4, ground := Ground.guard }], guard := some (4, true) }) (v := ?_) rfl (by kernel_rfl) (by kernel_rfl) (by kernel_rfl) (fun _ _ _ h => h) (Or.inl ⟨by rfl, ?_⟩) (by assumption) ?_
              rotate_left
              · (intro w hSw; (try dsimp only at hSw); go_simp; try with_reducible rfl)
              try simp only [Act.put, List.setIfInBounds_toArray, List.set_cons_zero, List.set_cons_succ]
              refine wpAnyH_take (i := 7) (oi := { dst := some 26, op := Op.indexAddr 38 (Operand.tmp 24) (Operand.tmp 25), type := 0, pos := "ref.go:216", after := #[{ on := 5, ground := Ground.data }, { on := 6, ground := Ground.data }, { on := 4, ground := Ground.guard }], guard := some (4, true) }) (v := ?_) rfl (by kernel_rfl) (by kernel_rfl) (by kernel_rfl) (fun _ _ _ h => h) (Or.inl ⟨by rfl, ?_⟩) (by assumption) ?_
              rotate_left
              · (intro w hSw; (try dsimp only at hSw); go_simp; try with_reducible rfl)
              try simp only [Act.put, List.setIfInBounds_toArray, List.set_cons_zero, List.set_cons_succ]
              refine wpAnyH_take (i := 8) (oi := { dst := some 27, op := Op.load 26 (Operand.tmp 26), type := 26, pos := "ref.go:216", after := #[{ on := 7, ground := Ground.data }, { on := 4, ground := Ground.guard }], guard := some (4, true) }) (v := ?_) rfl (by kernel_rfl) (by kernel_rfl) (by kernel_rfl) (fun _ _ _ h => h) (Or.inl ⟨by rfl, ?_⟩) (by assumption) ?_
              rotate_left
              · (intro w hSw; (try dsimp only at hSw); go_simp; try with_reducible rfl)
              try simp only [Act.put, List.setIfInBounds_toArray, List.set_cons_zero, List.set_cons_succ]
              refine wpAnyH_take (i := 9) (oi := { dst := some 28, op := Op.move (Operand.tmp 0), type := 38, pos := "ref.go:216", after := #[{ on := 4, ground := Ground.guard }], guard := some (4, true) }) (v := ?_) rfl (by kernel_rfl) (by kernel_rfl) (by kernel_rfl) (fun _ _ _ h => h) (Or.inl ⟨by rfl, ?_⟩) (by assumption) ?_
              rotate_left
              · (intro w hSw; (try dsimp only at hSw); go_simp; try with_reducible rfl)
              try simp only [Act.put, List.setIfInBounds_toArray, List.set_cons_zero, List.set_cons_succ]
              refine wpAnyH_take (i := 10) (oi := { dst := some 29, op := Op.move (Operand.tmp 4), type := 3, pos := "ref.go:216", after := #[{ on := 4, ground := Ground.guard }], guard := some (4, true) }) (v := ?_) rfl (by kernel_rfl) (by kernel_rfl) (by kernel_rfl) (fun _ _ _ h => h) (Or.inl ⟨by rfl, ?_⟩) (by assumption) ?_
              rotate_left
              · (intro w hSw; (try dsimp only at hSw); go_simp; try with_reducible rfl)
              try simp only [Act.put, List.setIfInBounds_toArray, List.set_cons_zero, List.set_cons_succ]
              refine wpAnyH_take (i := 11) (oi := { dst := some 30, op := Op.indexAddr 38 (Operand.tmp 28) (Operand.tmp 29), type := 0, pos := "ref.go:216", after := #[{ on := 9, ground := Ground.data }, { on := 10, ground := Ground.data }, { on := 4, ground := Ground.guard }], guard := some (4, true) }) (v := ?_) rfl (by kernel_rfl) (by kernel_rfl) (by kernel_rfl) (fun _ _ _ h => h) (Or.inl ⟨by rfl, ?_⟩) (by assumption) ?_
              rotate_left
              · (intro w hSw; (try dsimp only at hSw); go_simp; try with_reducible rfl)
              try simp only [Act.put, List.setIfInBounds_toArray, List.set_cons_zero, List.set_cons_succ]
              refine wpAnyH_take (i := 12) (oi := { dst := some 31, op := Op.load 26 (Operand.tmp 30), type := 26, pos := "ref.go:216", after := #[{ on := 11, ground := Ground.data }, { on := 4, ground := Ground.guard }], guard := some (4, true) }) (v := ?_) rfl (by kernel_rfl) (by kernel_rfl) (by kernel_rfl) (fun _ _ _ h => h) (Or.inl ⟨by rfl, ?_⟩) (by assumption) ?_
              rotate_left
              · (intro w hSw; (try dsimp only at hSw); go_simp; try with_reducible rfl)
              try simp only [Act.put, List.setIfInBounds_toArray, List.set_cons_zero, List.set_cons_succ]
              refine wpAnyH_ready (rs := [13]) (by kernel_rfl) (by simp) ?_
              refine AllReadyH.cons (o := { dst := some 32, op := Op.call { callee := Callee.value (Operand.func 19), args := #[Operand.tmp 27, Operand.tmp 31], argTypes := #[26, 26] }, type := 4, pos := "ref.go:216", after := #[{ on := 8, ground := Ground.data }, { on := 12, ground := Ground.data }, { on := 4, ground := Ground.chain }, { on := 4, ground := Ground.guard }], guard := some (4, true) }) rfl (fun K hK => ?_) AllReadyH.nil
              go_simp
              refine (KR.out _).mono ?_
              rintro e V_0 ⟨rfl, bq⟩
              refine hK.out _ _ ?_ (fun hH' => ?_)
              · exact held_next (by assumption) hH
              clear hK K hH
              have hH := hH'
              clear hH'
              try simp only [Act.put, List.setIfInBounds_toArray, List.set_cons_zero, List.set_cons_succ]
              refine wpAnyH_take (i := 14) (oi := { dst := some 33, op := Op.pick (Operand.tmp 23) (Operand.tmp 32) (Operand.const (Value.bool false)), type := 4, pos := "ref.go:216", after := #[{ on := 4, ground := Ground.data }, { on := 13, ground := Ground.data }], guard := none }) (v := ?_) rfl (by kernel_rfl) (by kernel_rfl) (by kernel_rfl) (fun _ _ _ h => h) (Or.inl ⟨by rfl, ?_⟩) (by assumption) ?_
              rotate_left
              · (intro w hSw; (try dsimp only at hSw); go_simp; try with_reducible rfl)
              try simp only [Act.put, List.setIfInBounds_toArray, List.set_cons_zero, List.set_cons_succ]
              refine wpAnyH_done (by kernel_rfl) ?_ _
              refine NoPanic.normal ?_
              have BZ := Lib.hid (HI.out.trans (hH.2.1.out.mono (by rw [HNN.out]; exact HI.out.size)))
              clear S0 hH
              clear z0 z1 z2 z3 z4 z5 y0 y1 y2 y3 y4 y5
              cases r2 with
              | true =>
                go_wp2_with fail
                go_roundw
                case rel =>
                  refine ⟨k + 1, by omega, by go_num, BZ.out, fun m hm u hu => ?_⟩
                  by_cases e : m = k
                  · subst e
                    rw [HYY.out] at hu
                    cases hu
                    have := HRR.out
                    unfold lessK at this
                    exact decide_eq_true_iff.1 this
                  · exact HP.out m (by omega) u hu
                case measure => simp [intOf]; omega
              | false =>
                have H2 : Hid (∀ u, acc[k]? = some u → ¬ ordK u x < 0) := fun u hu => by
                  rw [HYY.out] at hu
                  cases hu
                  have := HRR.out
                  unfold lessK at this
                  exact decide_eq_false_iff_not.1 this
                have HW3 := Lib.hid (HW1.out.trans (BZ.out.mono HW1.out.size))
                have HK3 := HKV1.out.below BZ.out
                have hlt1 : (acc.take k).length = k := by rw [List.length_take]; omega
                have hld : (acc.drop k).length = acc.length - k := List.length_drop
                have KT := HK3.take k
                have KP := HS.out.put HNX.out k hk HP.out H2.out
                obtain ⟨T, hT⟩ : ∃ T, acc.take k = T := ⟨_, rfl⟩
                obtain ⟨D, hD⟩ : ∃ D, acc.drop k = D := ⟨_, rfl⟩
                rw [hT] at hlt1 KT KP
                rw [hD] at hld KP
                rw [← take_snoc HC.out.2.1] at KP
                have HKT := Lib.hid KT
                have HKP := Lib.hid KP
                have HDD := Lib.hid hD
                have HLL := Lib.hid (And.intro hlt1 hld)
                clear hlt1 hld HK3 KT KP hT hD
                go_wp2_with (first | (at_builtin; go_must (refine app_ks rfl (.tmp 36) (.tmp 39) rfl (base := w1.heap.size) (M := T) (N := []) rfl (by rw [HLL.out.1]; rfl) (own_none _ _) HKT.out (by rw [HLL.out.1]; simp; omega) BZ.out.size ?_)))
                intro v1 w3 h1 hb1
                have B3 := Lib.hid (BZ.out.trans hb1)
                have O3 : Hid (w3.ownsRow w1.heap.size 26 6 v1 T.length (T.flatMap ke)) := by unfold Hid; simpa using h1
                have HW4 := Lib.hid (HW1.out.trans (B3.out.mono HW1.out.size))
                clear h1 hb1
                obtain ⟨y0, y1, y2, y3, y4, y5⟩ := HC.out.2.2.kept HW4.out HC.out.1
                go_wp2_with (first | (at_builtin; go_must (refine app_ks rfl (.tmp 41) (.tmp 46) rfl (base := w1.heap.size) (M := [x]) (N := T) rfl rfl (O3.out.alloc _) (ks_one w3 x) (by rw [HLL.out.1]; simp; omega) (by have := B3.out.size; simp; omega) ?_)))
                clear y0 y1 y2 y3 y4 y5
                intro v2 w4 h1 hb1
                have B4 := Lib.hid ((B3.out.alloc B3.out.size (bk x)).trans hb1)
                have O4 : Hid (w4.ownsRow w1.heap.size 26 6 v2 (T ++ [x]).length ((T ++ [x]).flatMap ke)) := by unfold Hid; simpa using h1
                clear h1 hb1
                have KD := (HKV1.out.below B4.out).drop k
                rw [HDD.out, Nat.zero_add] at KD
                have HKD := Lib.hid KD
                clear KD
                go_wp2_with (first | (at_builtin; go_must (refine app_ks rfl (.tmp 48) (.tmp 51) rfl (base := w1.heap.size) (M := D) (N := T ++ [x]) rfl (by rw [HLL.out.2]; rfl) O4.out HKD.out (by rw [HLL.out.2, List.length_append, HLL.out.1]; simp; omega) B4.out.size ?_)))
                intro v3 w5 h1 hb1
                have B5 := Lib.hid (B4.out.trans hb1)
                have O5 : Hid (w5.ownsRow w1.heap.size 26 6 v3 (T ++ x :: D).length ((T ++ x :: D).flatMap ke)) := by unfold Hid; simpa using h1
                have HW6 := Lib.hid (HW1.out.trans (B5.out.mono HW1.out.size))
                clear h1 hb1
                go_wp2_with fail
                go_roundw
                case rel =>
                  refine ⟨j + 1, T ++ x :: D, by omega, by go_num, ?_, own_down O5.out HW1.out.size, HKP.out, HW6.out⟩
                  rw [List.length_append, List.length_cons, HLL.out.1, HLL.out.2]; omega
                case measure => simp [intOf]; omega
            · have k3 : ¬ (k : Int) < (acc.length : Int) := by omega
              have H2 : Hid (∀ u, acc[k]? = some u → ¬ ordK u x < 0) := fun u hu => absurd (List.getElem?_eq_some_iff.1 hu).1 (by omega)
              clear hN
              go_upto_region 7 with fail
              refine wp_region_noPanic ?_
              refine wp_region_held_drew (S := (fun W => (∀ b o, b < N → W.cell? ⟨b, o, none⟩ = wr.cell? ⟨b, o, none⟩) ∧ Hid (Below N wr W) ∧ Hid (N ≤ W.heap.size))) (by kernel_rfl) ?_ (fun hH => ?_)
              · exact S0
              refine wpAnyH_take (i := 0) (oi := { dst := some 19, op := Op.move (Operand.tmp 5), type := 3, pos := "ref.go:216", after := #[], guard := none }) (v := ?_) rfl (by kernel_rfl) (by kernel_rfl) (by kernel_rfl) (fun _ _ _ h => h) (Or.inl ⟨by rfl, ?_⟩) (by assumption) ?_
              rotate_left
              · (intro w hSw; (try dsimp only at hSw); go_simp; try with_reducible rfl)
              try simp only [Act.put, List.setIfInBounds_toArray, List.set_cons_zero, List.set_cons_succ]
              refine wpAnyH_take (i := 1) (oi := { dst := some 20, op := Op.move (Operand.tmp 3), type := 38, pos := "ref.go:216", after := #[], guard := none }) (v := ?_) rfl (by kernel_rfl) (by kernel_rfl) (by kernel_rfl) (fun _ _ _ h => h) (Or.inl ⟨by rfl, ?_⟩) (by assumption) ?_
              rotate_left
              · (intro w hSw; (try dsimp only at hSw); go_simp; try with_reducible rfl)
              try simp only [Act.put, List.setIfInBounds_toArray, List.set_cons_zero, List.set_cons_succ]
              refine wpAnyH_take (i := 2) (oi := { dst := some 21, op := Op.call { callee := Callee.builtin Builtin.len, args := #[Operand.tmp 20], argTypes := #[38] }, type := 3, pos := "ref.go:216", after := #[{ on := 1, ground := Ground.data }], guard := none }) (v := ?_) rfl (by kernel_rfl) (by kernel_rfl) (by kernel_rfl) (fun _ _ _ h => h) (Or.inl ⟨by rfl, ?_⟩) (by assumption) ?_
              rotate_left
              · (intro w hSw; (try dsimp only at hSw); go_simp; try with_reducible rfl)
              try simp only [Act.put, List.setIfInBounds_toArray, List.set_cons_zero, List.set_cons_succ]
              refine wpAnyH_take (i := 3) (oi := { dst := some 22, op := Op.binOp BinOp.lss 3 (Operand.tmp 19) (Operand.tmp 21) 3, type := 4, pos := "ref.go:216", after := #[{ on := 0, ground := Ground.data }, { on := 2, ground := Ground.data }], guard := none }) (v := ?_) rfl (by kernel_rfl) (by kernel_rfl) (by kernel_rfl) (fun _ _ _ h => h) (Or.inl ⟨by rfl, ?_⟩) (by assumption) ?_
              rotate_left
              · (intro w hSw; (try dsimp only at hSw); go_simp; try with_reducible rfl)
              try simp only [Act.put, List.setIfInBounds_toArray, List.set_cons_zero, List.set_cons_succ]
              refine wpAnyH_take (i := 4) (oi := { dst := some 23, op := Op.move (Operand.tmp 22), type := 4, pos := "ref.go:216", after := #[{ on := 3, ground := Ground.data }], guard := none }) (v := ?_) rfl (by kernel_rfl) (by kernel_rfl) (by kernel_rfl) (fun _ _ _ h => h) (Or.inl ⟨by rfl, ?_⟩) (by assumption) ?_
              rotate_left
              · (intro w hSw; (try dsimp only at hSw); go_simp; try with_reducible rfl)
              try simp only [Act.put, List.setIfInBounds_toArray, List.set_cons_zero, List.set_cons_succ]
              refine wpAnyH_take (i := 5) (oi := { dst := some 24, op := Op.move (Operand.tmp 3), type := 38, pos := "ref.go:216", after := #[{ on := 4, ground := Ground.guard }], guard := some (4, true) }) (v := undef) rfl (by kernel_rfl) (by kernel_rfl) (by kernel_rfl) (fun _ _ _ h => h) (Or.inr ⟨by rfl, rfl⟩) (by assumption) ?_
              try simp only [Act.put, List.setIfInBounds_toArray, List.set_cons_zero, List.set_cons_succ]
              refine wpAnyH_take (i := 6) (oi := { dst := some 25, op := Op.move (Operand.tmp 5), type := 3, pos := "ref.go:216", after := #[{ on := 4, ground := Ground.guard }], guard := some (4, true) }) (v := undef) rfl (by kernel_rfl) (by kernel_rfl) (by kernel_rfl) (fun _ _ _ h => h) (Or.inr ⟨by rfl, rfl⟩) (by assumption) ?_
              try simp only [Act.put, List.setIfInBounds_toArray, List.set_cons_zero, List.set_cons_succ]
              refine wpAnyH_take (i := 7) (oi := { dst := some 26, op := Op.indexAddr 38 (Operand.tmp 24) (Operand.tmp 25), type := 0, pos := "ref.go:216", after := #[{ on := 5, ground := Ground.data }, { on := 6, ground := Ground.data }, { on := 4, ground := Ground.guard }], guard := some (4, true) }) (v := undef) rfl (by kernel_rfl) (by kernel_rfl) (by kernel_rfl) (fun _ _ _ h => h) (Or.inr ⟨by rfl, rfl⟩) (by assumption) ?_
              try simp only [Act.put, List.setIfInBounds_toArray, List.set_cons_zero, List.set_cons_succ]
              refine wpAnyH_take (i := 8) (oi := { dst := some 27, op := Op.load 26 (Operand.tmp 26), type := 26, pos := "ref.go:216", after := #[{ on := 7, ground := Ground.data }, { on := 4, ground := Ground.guard }], guard := some (4, true) }) (v := undef) rfl (by kernel_rfl) (by kernel_rfl) (by kernel_rfl) (fun _ _ _ h => h) (Or.inr ⟨by rfl, rfl⟩) (by assumption) ?_
              try simp only [Act.put, List.setIfInBounds_toArray, List.set_cons_zero, List.set_cons_succ]
              refine wpAnyH_take (i := 9) (oi := { dst := some 28, op := Op.move (Operand.tmp 0), type := 38, pos := "ref.go:216", after := #[{ on := 4, ground := Ground.guard }], guard := some (4, true) }) (v := undef) rfl (by kernel_rfl) (by kernel_rfl) (by kernel_rfl) (fun _ _ _ h => h) (Or.inr ⟨by rfl, rfl⟩) (by assumption) ?_
              try simp only [Act.put, List.setIfInBounds_toArray, List.set_cons_zero, List.set_cons_succ]
              refine wpAnyH_take (i := 10) (oi := { dst := some 29, op := Op.move (Operand.tmp 4), type := 3, pos := "ref.go:216", after := #[{ on := 4, ground := Ground.guard }], guard := some (4, true) }) (v := undef) rfl (by kernel_rfl) (by kernel_rfl) (by kernel_rfl) (fun _ _ _ h => h) (Or.inr ⟨by rfl, rfl⟩) (by assumption) ?_
              try simp only [Act.put, List.setIfInBounds_toArray, List.set_cons_zero, List.set_cons_succ]
              refine wpAnyH_take (i := 11) (oi := { dst := some 30, op := Op.indexAddr 38 (Operand.tmp 28) (Operand.tmp 29), type := 0, pos := "ref.go:216", after := #[{ on := 9, ground := Ground.data }, { on := 10, ground := Ground.data }, { on := 4, ground := Ground.guard }], guard := some (4, true) }) (v := undef) rfl (by kernel_rfl) (by kernel_rfl) (by kernel_rfl) (fun _ _ _ h => h) (Or.inr ⟨by rfl, rfl⟩) (by assumption) ?_
              try simp only [Act.put, List.setIfInBounds_toArray, List.set_cons_zero, List.set_cons_succ]
              refine wpAnyH_take (i := 12) (oi := { dst := some 31, op := Op.load 26 (Operand.tmp 30), type := 26, pos := "ref.go:216", after := #[{ on := 11, ground := Ground.data }, { on := 4, ground := Ground.guard }], guard := some (4, true) }) (v := undef) rfl (by kernel_rfl) (by kernel_rfl) (by kernel_rfl) (fun _ _ _ h => h) (Or.inr ⟨by rfl, rfl⟩) (by assumption) ?_
              try simp only [Act.put, List.setIfInBounds_toArray, List.set_cons_zero, List.set_cons_succ]
              refine wpAnyH_take (i := 13) (oi := { dst := some 32, op := Op.call { callee := Callee.value (Operand.func 19), args := #[Operand.tmp 27, Operand.tmp 31], argTypes := #[26, 26] }, type := 4, pos := "ref.go:216", after := #[{ on := 8, ground := Ground.data }, { on := 12, ground := Ground.data }, { on := 4, ground := Ground.chain }, { on := 4, ground := Ground.guard }], guard := some (4, true) }) (v := undef) rfl (by kernel_rfl) (by kernel_rfl) (by kernel_rfl) (fun _ _ _ h => h) (Or.inr ⟨by rfl, rfl⟩) (by assumption) ?_
              try simp only [Act.put, List.setIfInBounds_toArray, List.set_cons_zero, List.set_cons_succ]
              refine wpAnyH_take (i := 14) (oi := { dst := some 33, op := Op.pick (Operand.tmp 23) (Operand.tmp 32) (Operand.const (Value.bool false)), type := 4, pos := "ref.go:216", after := #[{ on := 4, ground := Ground.data }, { on := 13, ground := Ground.data }], guard := none }) (v := ?_) rfl (by kernel_rfl) (by kernel_rfl) (by kernel_rfl) (fun _ _ _ h => h) (Or.inl ⟨by rfl, ?_⟩) (by assumption) ?_
              rotate_left
              · (intro w hSw; (try dsimp only at hSw); go_simp; try with_reducible rfl)
              try simp only [Act.put, List.setIfInBounds_toArray, List.set_cons_zero, List.set_cons_succ]
              refine wpAnyH_done (by kernel_rfl) ?_ _
              refine NoPanic.normal ?_
              have BZ := Lib.hid (HI.out.trans (hH.2.1.out.mono (by rw [HNN.out]; exact HI.out.size)))
              clear S0 hH
              have HW3 := Lib.hid (HW1.out.trans (BZ.out.mono HW1.out.size))
              have HK3 := HKV1.out.below BZ.out
              have hlt1 : (acc.take k).length = k := by rw [List.length_take]; omega
              have hld : (acc.drop k).length = acc.length - k := List.length_drop
              have KT := HK3.take k
              have KP := HS.out.put HNX.out k hk HP.out H2.out
              obtain ⟨T, hT⟩ : ∃ T, acc.take k = T := ⟨_, rfl⟩
              obtain ⟨D, hD⟩ : ∃ D, acc.drop k = D := ⟨_, rfl⟩
              rw [hT] at hlt1 KT KP
              rw [hD] at hld KP
              rw [← take_snoc HC.out.2.1] at KP
              have HKT := Lib.hid KT
              have HKP := Lib.hid KP
              have HDD := Lib.hid hD
              have HLL := Lib.hid (And.intro hlt1 hld)
              clear hlt1 hld HK3 KT KP hT hD
              go_wp2_with (first | (at_builtin; go_must (refine app_ks rfl (.tmp 36) (.tmp 39) rfl (base := w1.heap.size) (M := T) (N := []) rfl (by rw [HLL.out.1]; rfl) (own_none _ _) HKT.out (by rw [HLL.out.1]; simp; omega) BZ.out.size ?_)))
              intro v1 w3 h1 hb1
              have B3 := Lib.hid (BZ.out.trans hb1)
              have O3 : Hid (w3.ownsRow w1.heap.size 26 6 v1 T.length (T.flatMap ke)) := by unfold Hid; simpa using h1
              have HW4 := Lib.hid (HW1.out.trans (B3.out.mono HW1.out.size))
              clear h1 hb1
              obtain ⟨y0, y1, y2, y3, y4, y5⟩ := HC.out.2.2.kept HW4.out HC.out.1
              go_wp2_with (first | (at_builtin; go_must (refine app_ks rfl (.tmp 41) (.tmp 46) rfl (base := w1.heap.size) (M := [x]) (N := T) rfl rfl (O3.out.alloc _) (ks_one w3 x) (by rw [HLL.out.1]; simp; omega) (by have := B3.out.size; simp; omega) ?_)))
              clear y0 y1 y2 y3 y4 y5
              intro v2 w4 h1 hb1
              have B4 := Lib.hid ((B3.out.alloc B3.out.size (bk x)).trans hb1)
              have O4 : Hid (w4.ownsRow w1.heap.size 26 6 v2 (T ++ [x]).length ((T ++ [x]).flatMap ke)) := by unfold Hid; simpa using h1
              clear h1 hb1
              have hDn : D = [] := List.eq_nil_of_length_eq_zero (by rw [HLL.out.2]; omega)
              have HKD := Lib.hid (fun (p : Option Addr) (c : Nat) (hp : p ≠ none) (hc : c ≤ maxLen) => show Ks w4 p c D from hDn ▸ ks_none w4 p c hp hc)
              clear hDn
              go_wp2_with (first | (at_builtin; go_must (refine app_ks rfl (.tmp 48) (.tmp 51) rfl (base := w1.heap.size) (M := D) (N := T ++ [x]) rfl (by rw [HLL.out.2]; rfl) O4.out (HKD.out _ _ (by split <;> simp) (by unfold maxLen; omega)) (by rw [HLL.out.2, List.length_append, HLL.out.1]; simp; omega) B4.out.size ?_)))
              all_goals
                intro v3 w5 h1 hb1
                have B5 := Lib.hid (B4.out.trans hb1)
                have O5 : Hid (w5.ownsRow w1.heap.size 26 6 v3 (T ++ x :: D).length ((T ++ x :: D).flatMap ke)) := by unfold Hid; simpa using h1
                have HW6 := Lib.hid (HW1.out.trans (B5.out.mono HW1.out.size))
                clear h1 hb1
                go_wp2_with fail
                go_roundw
                case rel =>
                  refine ⟨j + 1, T ++ x :: D, by omega, by go_num, ?_, own_down O5.out HW1.out.size, HKP.out, HW6.out⟩
                  rw [List.length_append, List.length_cons, HLL.out.1, HLL.out.2]; omega
                case measure => simp [intOf]; omega
    · have hjl : j = l.length := by omega
      subst hjl
      obtain ⟨pv, cv, rfl, hkv⟩ := ks_of_own HR.out
      have HKV := Lib.hid hkv
      clear hkv
      go_wp2_with fail
      go_ret
      exact ⟨pv, cv, acc, rfl, by have := HS.out; rwa [List.take_length] at this, HKV.out, HW.out⟩
end Go.Proofs.YtakoghdkllfhlaaDoor
