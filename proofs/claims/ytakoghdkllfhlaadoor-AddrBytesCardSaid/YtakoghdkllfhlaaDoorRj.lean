/- The form of an object, both. -/
import Derived.Test.YtakoghdkllfhlaaDoorRi
namespace Go.Proofs.YtakoghdkllfhlaaDoor
open Go.RowKit Go.Lib

/-- an object as the program has it -/
structure Okk (k : Obt) : Prop where
  sm : Sm k.a
  N0 : 0 ≤ k.N
  N1 : k.N < 4294967296
theorem form_yes (k : Obt) (w : World) (hk : Okk k) (hc : checkKB k = true) : Calls Tryd.prog 55 #[kv k] w (NewRow (formK k) w) := by
  have hM := may_of hc
  obtain ⟨⟨t, n, kd, i, kk⟩, N⟩ := k
  obtain ⟨m, rfl⟩ : ∃ m : Nat, N = m := ⟨N.toNat, by have := hk.N0; dsimp only at this; omega⟩
  have hm : m < 4294967296 := by have := hk.N1; dsimp only at this; omega
  rcases hM.kd with h | h | h
  · dsimp only at h; subst h; exact form_0 t n kk i m w hc hm hk.sm.k
  · dsimp only at h; subst h
    have h1 := hM.i1 rfl
    dsimp only at h1
    obtain ⟨j, rfl⟩ : ∃ j : Nat, i = j := ⟨i.toNat, by omega⟩
    exact form_1 t n kk j m w hc hm hk.sm.k
  · dsimp only at h; subst h; exact form_2 t n kk i m w hc hm
set_option maxRecDepth 100000 in
set_option maxHeartbeats 1000000 in
theorem form_no (k : Obt) (w : World) (hk : Okk k) (hc : checkKB k = false) : Calls Tryd.prog 55 #[kv k] w fun e w' => e = .returned (.slice none 0 0) ∧ Below w.heap.size w w' := by
  have C := fun w => checkK_any k w hk.sm hk.N0
  unfold Arg at C
  rw [hc] at C
  simp only [argN] at C
  have CK := Lib.hid C
  have HW := Lib.hid ((Below.refl w.heap.size w).alloc (Nat.le_refl _) (bk k))
  clear C hc
  go_enter Tryd.func55, Tryd.ntmps55
  go_wp2_with fail
  refine (CK.out _).mono ?_
  rintro e w1 ⟨rfl, b1⟩
  have E1 := Lib.hid (HW.out.trans (b1.mono HW.out.size))
  clear b1
  go_wp2_with fail
  go_ret
  exact ⟨rfl, E1.out⟩
theorem form_any (k : Obt) (w : World) (hk : Okk k) : Calls Tryd.prog 55 #[kv k] w (BtsR (fmK k) w) := by
  cases hc : checkKB k with
  | false =>
    have hf : fmK k = [] := by unfold fmK; rw [hc]; rfl
    rw [hf]
    exact (form_no k w hk hc).mono fun e w' h => ⟨none, 0, h.1, bts_nil _ _, h.2⟩
  | true =>
    have hf : fmK k = formK k := by unfold fmK; rw [hc]; rfl
    rw [hf]
    exact (form_yes k w hk hc).mono fun e w' h => h.bts (formK_bytes (may_of hc))
set_option maxRecDepth 100000 in
/-- bytes in memory are laid behind a row of the call's own, at a step of a drawn region -/
theorem step_app_bts {w : World} {ops : Array Oper} {o : Oper} {a : Act} {K : Act → World → Prop} {Q : Exit → Act → World → Prop} {E : Prop} (hgd : o.guard = none) (s x : Operand)
    (ho : o.op = .call { callee := .builtin .append, args := #[s, x], argTypes := #[49, 49] }) {base nb : Nat} {v : Value} {N M : List Nat} {sp : Option Addr} {cap : Nat} (hs : a.eval s = v) (hx : a.eval x = .slice sp M.length cap)
    (hown : w.ownsRow base 5 1 v N.length (bcs N)) (B : Bts nb w sp cap M) (hlen : N.length + M.length ≤ 4000000000) (hbase : base ≤ w.heap.size)
    (h : ∀ v' w', w'.ownsRow base 5 1 v' (N ++ M).length (bcs (N ++ M)) → Below base w w' → w.heap.size ≤ w'.heap.size → K (a.put o.dst v') w') : if Region.wanted o (yielded ops a.tmps) = true then Oper.wp Tryd.prog o a w K Q else E := by
  have hw : Region.wanted o (yielded ops a.tmps) = true := by simp [Region.wanted, hgd]
  rw [if_pos hw]
  obtain ⟨i, hi, hz, hs1, hb⟩ := info_parts info5
  have hr : ∀ k, v.ownBlock = some k → base ≤ k := fun k hk => (hown.lt k hk).1
  cases sp with
  | none =>
    have h0 : M.length = 0 := by have := B.row.2.2.1 rfl; have := B.row.1; omega
    have hc0 : cap = 0 := B.row.2.2.1 rfl
    obtain rfl := List.length_eq_zero_iff.1 h0
    have hrun := run_append_owned_none (P := Tryd.prog) (w := w) base 49 o.type 5 i 1 Tryd.underlying49 hi v N.length (bcs N) hown
    have hx2 : a.eval x = .slice none 0 0 := by rw [hx, hc0]; rfl
    unfold Oper.wp
    simp [execOp, ho, resolve, invoke, builtin, hs, hx2, hrun, Result.andThen]
    exact h v w (by rw [List.append_nil]; exact hown) (Below.refl _ _) (Nat.le_refl _)
  | some ad =>
    refine wp_append_own w s x 49 ho base 5 i (.int .u8 0) 1 1 Tryd.underlying49 hi hz hs1 hb rfl (by omega) v N.length (bcs N) hs hown ad M.length cap (bcs M) hx (by rw [bcs_len, Nat.mul_one]) (fun j u hu => ?_) (bcs_one M) (by unfold maxLen; omega) (by omega) hbase (fun v' w' h1 h2 _ => h v' w' ?_ ((Below.refl base w).grown h2 hbase hr) h2.size)
    · have hj : j < M.length := by
        have := (List.getElem?_eq_some_iff.1 hu).1
        rwa [bcs_len] at this
      obtain ⟨b, off, e, _, c⟩ := B.at hj
      injection e with e
      subst e
      have ea : (⟨b, off, none⟩ : Addr).add j = ⟨b, off + j, none⟩ := by unfold Addr.add; split <;> simp_all
      rw [ea, c]
      have h5 := bcs_get M j hj
      rw [List.getD_eq_getElem?_getD, hu] at h5
      simp only [Option.getD_some] at h5
      rw [h5]
    · rw [List.length_append, bcs_app]; exact h1
theorem held_next2 {N B : Nat} {W0 W1 W2 : World} (b : Below B W1 W2) (hB : N ≤ B) (h : (∀ b o, b < N → W1.cell? ⟨b, o, none⟩ = W0.cell? ⟨b, o, none⟩) ∧ Hid (Below N W0 W1) ∧ Hid (N ≤ W1.heap.size)) :
    (∀ b o, b < N → W2.cell? ⟨b, o, none⟩ = W0.cell? ⟨b, o, none⟩) ∧ Hid (Below N W0 W2) ∧ Hid (N ≤ W2.heap.size) := by
  have hB : Below N W0 W2 := h.2.1.out.trans (b.mono hB)
  exact ⟨fun b o hb => hB.cell (p := ⟨b, o, none⟩) hb, hB, Nat.le_trans h.2.2.out b.size⟩
set_option maxRecDepth 100000 in
set_option maxHeartbeats 4000000 in
theorem rform_0 (t n k : ByteArray) (i : Int) (m : Nat) (w : World) (hM : May ⟨⟨t, n, 0, i, k⟩, (m : Nat)⟩) (hm : m < 4294967296) : Calls Tryd.prog 34 #[kv ⟨⟨t, n, 0, i, k⟩, (m : Nat)⟩] w (NewRow (formK ⟨⟨t, n, 0, i, k⟩, (m : Nat)⟩) w) := by
  have ht : t.size ≤ 24 := hM.t
  have hn : n.size ≤ 24 := hM.n
  have lt := txt_len ht
  have ln := txt_len hn
  have T1 := Lib.hid (fun w => rstr_any t (by omega) w)
  have T2 := Lib.hid (fun w => rstr_any n (by omega) w)
  obtain ⟨L3, hL3⟩ : ∃ L, (shrt t.size ++ sb t) ++ (shrt n.size ++ sb n) = L := ⟨_, rfl⟩
  have HL3 := Lib.hid hL3
  have l3 : L3.length ≤ 80 := by rw [← hL3, List.length_append]; unfold txt at ln lt; omega
  obtain ⟨L4, hL4⟩ : ∃ L, L3 ++ [0] = L := ⟨_, rfl⟩
  have HL4 := Lib.hid hL4
  have HLL : Hid (L3.length + 1 = L4.length) := by unfold Hid; rw [← hL4, List.length_append]; rfl
  obtain ⟨La, hLa⟩ : ∃ L, shrt t.size ++ sb t = L := ⟨_, rfl⟩
  obtain ⟨Lb, hLb⟩ : ∃ L, shrt n.size ++ sb n = L := ⟨_, rfl⟩
  have HLab : Hid (La ++ Lb = L3) := by unfold Hid; rw [← hLa, ← hLb]; exact hL3
  have yb : Hid (∀ c, c ∈ Lb → c < 256) := fun c hc => by rw [← hLb] at hc; exact txt_bytes n c hc
  have la : La.length ≤ 40 := by rw [← hLa]; exact lt
  have lb : Lb.length ≤ 40 := by rw [← hLb]; exact ln
  rw [hLa] at T1
  rw [hLb] at T2
  clear hL3 hL4 hLa hLb lt ln
  have HK := Lib.hid (Hk.made w ⟨⟨t, n, 0, i, k⟩, (m : Nat)⟩)
  have HW := Lib.hid ((Below.refl w.heap.size w).alloc (Nat.le_refl _) (bk ⟨⟨t, n, 0, i, k⟩, (m : Nat)⟩))
  have HZ : Hid ((w.alloc (bk ⟨⟨t, n, 0, i, k⟩, (m : Nat)⟩)).heap.size = w.heap.size + 1) := by simp [Hid]
  obtain ⟨i5, hi5, hz5, hs5, hb5⟩ := info_parts info5
  clear hM
  go_enter Tryd.func34, Tryd.ntmps34
  go_upto_region 1 with fail
  generalize World.alloc w _ = w0 at *
  obtain ⟨x8, x0, x1, x2, x3, x4, x5⟩ := HK.out
  dsimp only at x0 x1 x2 x3 x4 x5
  obtain ⟨N, hN⟩ : ∃ N, N = w0.heap.size := ⟨_, rfl⟩
  have S0 := held_at hN
  have l0 : w.heap.size < N := by have := HZ.out; omega
  have HN := Lib.hid hN
  clear hN
  refine wp_region_noPanic ?_
  refine wp_region_held_drew (S := (fun W => (∀ b o, b < N → W.cell? ⟨b, o, none⟩ = w0.cell? ⟨b, o, none⟩) ∧ Hid (Below N w0 W) ∧ Hid (N ≤ W.heap.size))) (by kernel_rfl) ?_ (fun hH => ?_)
  · exact S0
  refine wpAnyH_take (i := 0) (oi := { dst := some 4, op := Op.fieldAddr 26 (Operand.tmp 1) 0, type := 0, pos := "ref.go:134", after := #[], guard := none }) (v := ?_) rfl (by kernel_rfl) (by kernel_rfl) (by kernel_rfl) (fun _ _ _ h => h) (Or.inl ⟨by rfl, ?_⟩) (by assumption) ?_
  rotate_left
  · (intro w hSw; (try dsimp only at hSw); go_simp; try with_reducible rfl)
  try simp only [Act.put, List.setIfInBounds_toArray, List.set_cons_zero, List.set_cons_succ]
  refine wpAnyH_take (i := 1) (oi := { dst := some 5, op := Op.fieldAddr 23 (Operand.tmp 4) 0, type := 0, pos := "ref.go:134", after := #[{ on := 0, ground := Ground.data }], guard := none }) (v := ?_) rfl (by kernel_rfl) (by kernel_rfl) (by kernel_rfl) (fun _ _ _ h => h) (Or.inl ⟨by rfl, ?_⟩) (by assumption) ?_
  rotate_left
  · (intro w hSw; (try dsimp only at hSw); go_simp; try with_reducible rfl)
  try simp only [Act.put, List.setIfInBounds_toArray, List.set_cons_zero, List.set_cons_succ]
  refine wpAnyH_take (i := 2) (oi := { dst := some 6, op := Op.load 9 (Operand.tmp 5), type := 9, pos := "ref.go:134", after := #[{ on := 1, ground := Ground.data }], guard := none }) (v := ?_) rfl (by kernel_rfl) (by kernel_rfl) (by kernel_rfl) (fun _ _ _ h => h) (Or.inl ⟨by rfl, ?_⟩) (by assumption) ?_
  rotate_left
  · (intro w hSw; (try dsimp only at hSw); go_simp; try with_reducible rfl)
  try simp only [Act.put, List.setIfInBounds_toArray, List.set_cons_zero, List.set_cons_succ]
  refine wpAnyH_take (i := 4) (oi := { dst := some 8, op := Op.fieldAddr 26 (Operand.tmp 1) 0, type := 0, pos := "ref.go:134", after := #[], guard := none }) (v := ?_) rfl (by kernel_rfl) (by kernel_rfl) (by kernel_rfl) (fun _ _ _ h => h) (Or.inl ⟨by rfl, ?_⟩) (by assumption) ?_
  rotate_left
  · (intro w hSw; (try dsimp only at hSw); go_simp; try with_reducible rfl)
  try simp only [Act.put, List.setIfInBounds_toArray, List.set_cons_zero, List.set_cons_succ]
  refine wpAnyH_take (i := 5) (oi := { dst := some 9, op := Op.fieldAddr 23 (Operand.tmp 8) 1, type := 0, pos := "ref.go:134", after := #[{ on := 4, ground := Ground.data }], guard := none }) (v := ?_) rfl (by kernel_rfl) (by kernel_rfl) (by kernel_rfl) (fun _ _ _ h => h) (Or.inl ⟨by rfl, ?_⟩) (by assumption) ?_
  rotate_left
  · (intro w hSw; (try dsimp only at hSw); go_simp; try with_reducible rfl)
  try simp only [Act.put, List.setIfInBounds_toArray, List.set_cons_zero, List.set_cons_succ]
  refine wpAnyH_take (i := 6) (oi := { dst := some 10, op := Op.load 9 (Operand.tmp 9), type := 9, pos := "ref.go:134", after := #[{ on := 5, ground := Ground.data }], guard := none }) (v := ?_) rfl (by kernel_rfl) (by kernel_rfl) (by kernel_rfl) (fun _ _ _ h => h) (Or.inl ⟨by rfl, ?_⟩) (by assumption) ?_
  rotate_left
  · (intro w hSw; (try dsimp only at hSw); go_simp; try with_reducible rfl)
  try simp only [Act.put, List.setIfInBounds_toArray, List.set_cons_zero, List.set_cons_succ]
  refine wpAnyH_ready (rs := [3]) (by kernel_rfl) (by simp) ?_
  refine AllReadyH.cons (o := { dst := some 7, op := Op.call { callee := Callee.value (Operand.func 56), args := #[Operand.tmp 6], argTypes := #[9] }, type := 49, pos := "ref.go:134", after := #[{ on := 2, ground := Ground.data }], guard := none }) rfl (fun K hK => ?_) AllReadyH.nil
  go_simp
  refine (T1.out _).mono ?_
  rintro e W_0 ⟨va, rfl, oa, bq⟩
  refine hK.out _ _ ?_ (fun hH' => ?_)
  · exact held_next (by assumption) hH
  have OA := Lib.hid oa
  clear oa
  clear hK K hH
  have hH := hH'
  clear hH'
  try simp only [Act.put, List.setIfInBounds_toArray, List.set_cons_zero, List.set_cons_succ]
  refine wpAnyH_ready (rs := [7]) (by kernel_rfl) (by simp) ?_
  refine AllReadyH.cons (o := { dst := some 11, op := Op.call { callee := Callee.value (Operand.func 56), args := #[Operand.tmp 10], argTypes := #[9] }, type := 49, pos := "ref.go:134", after := #[{ on := 6, ground := Ground.data }, { on := 3, ground := Ground.chain }], guard := none }) rfl (fun K hK => ?_) AllReadyH.nil
  go_simp
  refine (T2.out _).mono ?_
  rintro e W_1 ⟨vb, rfl, ob, bq⟩
  refine hK.out _ _ ?_ (fun hH' => ?_)
  · exact held_next (by assumption) hH
  have OB := Lib.hid ob
  have BB := Lib.hid bq
  have OA2 := Lib.hid (ownsRow_kept OA.out fun g hg => bq.block g (OA.out.lt g hg).2)
  clear ob
  clear hK K hH
  have hH := hH'
  clear hH'
  try simp only [Act.put, List.setIfInBounds_toArray, List.set_cons_zero, List.set_cons_succ]
  refine wpAnyH_ready (rs := [8]) (by kernel_rfl) (by simp) ?_
  refine AllReadyH.cons (o := { dst := some 12, op := Op.call { callee := Callee.builtin Builtin.append, args := #[Operand.tmp 7, Operand.tmp 11], argTypes := #[49, 49] }, type := 49, pos := "ref.go:134", after := #[{ on := 3, ground := Ground.data }, { on := 7, ground := Ground.data }, { on := 7, ground := Ground.chain }], guard := none }) rfl (fun K hK => ?_) AllReadyH.nil
  obtain ⟨pb, cb, rfl, TB⟩ := bts_of_own OB.out yb.out
  have HTB := Lib.hid TB
  have SB := Lib.hid BB.out.size
  clear TB
  refine step_app_bts rfl (.tmp 7) (.tmp 11) rfl (base := w0.drew.heap.size) (N := La) (M := Lb) rfl rfl OA2.out HTB.out (by omega) (by have := hH.2.2.out; rw [HN.out] at this; exact this) ?_
  intro vc wc oc bc zc
  have OC := Lib.hid oc
  refine hK.out _ _ ?_ (fun hH' => ?_)
  · exact held_next2 bc (Nat.le_of_eq HN.out) hH
  clear hK K hH
  have hH := hH'
  clear hH'
  try simp only [Act.put, List.setIfInBounds_toArray, List.set_cons_zero, List.set_cons_succ]
  refine wpAnyH_take (i := 9) (oi := { dst := some 3, op := Op.assign (Operand.tmp 12), type := 49, pos := "ref.go:134", after := #[{ on := 8, ground := Ground.data }, { on := 8, ground := Ground.chain }, { on := 0, ground := Ground.phase }, { on := 1, ground := Ground.phase }, { on := 2, ground := Ground.phase }, { on := 3, ground := Ground.phase }, { on := 4, ground := Ground.phase }, { on := 5, ground := Ground.phase }, { on := 6, ground := Ground.phase }, { on := 7, ground := Ground.phase }, { on := 8, ground := Ground.phase }], guard := none }) (v := ?_) rfl (by kernel_rfl) (by kernel_rfl) (by kernel_rfl) (fun _ _ _ h => h) (Or.inl ⟨by rfl, ?_⟩) (by assumption) ?_
  rotate_left
  · (intro w hSw; (try dsimp only at hSw); go_simp; try with_reducible rfl)
  try simp only [Act.put, List.setIfInBounds_toArray, List.set_cons_zero, List.set_cons_succ]
  refine wpAnyH_done (by kernel_rfl) ?_ _
  refine NoPanic.normal ?_
  have E1 := Lib.hid (show Below w0.heap.size w0 wc from hH.2.1.out.mono (Nat.le_of_eq HN.out.symm))
  have O3 : Hid (wc.ownsRow w0.heap.size 5 1 vc L3.length (bcs L3)) := by have := OC.out; rw [HLab.out] at this; exact this
  have SE := Lib.hid E1.out.size
  clear S0 hH oc bc zc OC OA OA2 OB l0 x8 x0 x1 x2 x3 x4 x5
  obtain ⟨x8, x0, x1, x2, x3, x4, x5⟩ := HK.out.kept E1.out (by have := HZ.out; omega)
  dsimp only at x0 x1 x2 x3 x4 x5
  have A3 : Hid ((wc.alloc (.cells #[.int .u8 ((0 : Nat) : Int)] 5)).ownsRow w0.heap.size 5 1 vc L3.length (bcs L3)) := O3.out.alloc _
  go_wp2_with (at_builtin; go_must (refine wpList_append_lies _ rfl (.tmp 13) (.tmp 18) 49 rfl w0.heap.size 5 i5 _ 1 1 Tryd.underlying49 hi5 hz5 hs5 hb5 rfl (by omega) _ L3.length (bcs L3) rfl A3.out ⟨wc.heap.size, 0, none⟩ 1 1 [.int .u8 ((0 : Nat) : Int)] rfl rfl (World.news_of_block (heap_alloc_new _ _)) (fun u hu => by simp at hu; subst hu; rfl) (by omega) (by unfold maxLen; omega) (by omega) (by have := SE.out; simp; omega) (wc.heap.size + 1) (by simp) ?_))
  intro g4 c4 w4 hown hgrow hat hlt4
  obtain ⟨o4, b4⟩ := app_one (w := w0) (c := 0) O3.out E1.out (Nat.le_refl _) hown hgrow
  rw [HL4.out] at o4
  rw [HLL.out] at o4 ⊢
  have O4 := Lib.hid o4
  have E4 := Lib.hid b4
  have l4 : L4.length ≤ 81 := by rw [← HLL.out]; omega
  clear x8 x0 x1 x2 x3 x4 x5
  clear hown hgrow hat o4 b4
  obtain ⟨x8, x0, x1, x2, x3, x4, x5⟩ := HK.out.kept E4.out (by have := HZ.out; omega)
  dsimp only at x0 x1 x2 x3 x4 x5
  obtain ⟨Ln, hLn⟩ : ∃ L, shrt m = L := ⟨_, rfl⟩
  have HLn := Lib.hid hLn
  have ln : Ln.length ≤ 10 := by rw [← hLn]; exact (shrt_len m (by omega)).1
  have T6 := Lib.hid (fun w => rshort_any m w (by omega))
  have hcm : (m : Int) % 18446744073709551616 = m := by omega
  rw [hLn] at T6
  have y6 : Hid (∀ c, c ∈ Ln → c < 256) := fun c hc => by rw [← hLn] at hc; exact shrt_bytes m c hc
  clear hLn
  go_wp2_with fail
  refine (T6.out _).mono ?_
  rintro e w6 ⟨v6, rfl, o6, b6⟩
  obtain ⟨p6, c6, rfl, T6⟩ := bts_of_own o6 (y6.out)
  have HT6 := Lib.hid T6
  have E6 := Lib.hid (E4.out.trans (b6.mono E4.out.size))
  have O6 := Lib.hid (ownsRow_kept O4.out fun g hg => b6.block g (O4.out.lt g hg).2)
  clear x8 x0 x1 x2 x3 x4 x5
  clear o6 b6 T6
  obtain ⟨x8, x0, x1, x2, x3, x4, x5⟩ := HK.out.kept E6.out (by have := HZ.out; omega)
  dsimp only at x0 x1 x2 x3 x4 x5
  have z6 := E6.out.size
  go_wp2_with (at_builtin; go_must (refine app_bts rfl (.tmp 41) (.tmp 45) rfl (base := w0.heap.size) (N := L4) (M := Ln) rfl rfl O6.out HT6.out (by omega) z6 ?_))
  intro v6x w6x o6x b6x z6x
  rw [← List.length_append] at o6x
  have E6x := Lib.hid (E6.out.trans b6x)
  have O6x := Lib.hid o6x
  clear x8 x0 x1 x2 x3 x4 x5
  clear o6x b6x z6x
  obtain ⟨x8, x0, x1, x2, x3, x4, x5⟩ := HK.out.kept E6x.out (by have := HZ.out; omega)
  dsimp only at x0 x1 x2 x3 x4 x5
  go_wp2_with fail
  go_ret
  have hf : formK ⟨⟨t, n, 0, i, k⟩, (m : Nat)⟩ = L4 ++ Ln := by rw [← HL4.out, ← HL3.out, ← HLn.out]; unfold formK mid; simp [txt]
  rw [hf]
  exact ⟨_, rfl, own_up O6x.out HW.out.size, HW.out.trans (E6x.out.mono HW.out.size)⟩
set_option maxRecDepth 100000 in
set_option maxHeartbeats 4000000 in
theorem rform_1 (t n k : ByteArray) (i : Nat) (m : Nat) (w : World) (hM : May ⟨⟨t, n, 1, (i : Nat), k⟩, (m : Nat)⟩) (hm : m < 4294967296) : Calls Tryd.prog 34 #[kv ⟨⟨t, n, 1, (i : Nat), k⟩, (m : Nat)⟩] w (NewRow (formK ⟨⟨t, n, 1, (i : Nat), k⟩, (m : Nat)⟩) w) := by
  have ht : t.size ≤ 24 := hM.t
  have hn : n.size ≤ 24 := hM.n
  have hi : i < 128 := by have := hM.i1 rfl; dsimp only at this; omega
  have lt := txt_len ht
  have ln := txt_len hn
  have T1 := Lib.hid (fun w => rstr_any t (by omega) w)
  have T2 := Lib.hid (fun w => rstr_any n (by omega) w)
  obtain ⟨L3, hL3⟩ : ∃ L, (shrt t.size ++ sb t) ++ (shrt n.size ++ sb n) = L := ⟨_, rfl⟩
  have HL3 := Lib.hid hL3
  have l3 : L3.length ≤ 80 := by rw [← hL3, List.length_append]; unfold txt at ln lt; omega
  obtain ⟨L4, hL4⟩ : ∃ L, L3 ++ [1] = L := ⟨_, rfl⟩
  have HL4 := Lib.hid hL4
  have HLL : Hid (L3.length + 1 = L4.length) := by unfold Hid; rw [← hL4, List.length_append]; rfl
  obtain ⟨La, hLa⟩ : ∃ L, shrt t.size ++ sb t = L := ⟨_, rfl⟩
  obtain ⟨Lb, hLb⟩ : ∃ L, shrt n.size ++ sb n = L := ⟨_, rfl⟩
  have HLab : Hid (La ++ Lb = L3) := by unfold Hid; rw [← hLa, ← hLb]; exact hL3
  have yb : Hid (∀ c, c ∈ Lb → c < 256) := fun c hc => by rw [← hLb] at hc; exact txt_bytes n c hc
  have la : La.length ≤ 40 := by rw [← hLa]; exact lt
  have lb : Lb.length ≤ 40 := by rw [← hLb]; exact ln
  rw [hLa] at T1
  rw [hLb] at T2
  clear hL3 hL4 hLa hLb lt ln
  have HK := Lib.hid (Hk.made w ⟨⟨t, n, 1, (i : Nat), k⟩, (m : Nat)⟩)
  have HW := Lib.hid ((Below.refl w.heap.size w).alloc (Nat.le_refl _) (bk ⟨⟨t, n, 1, (i : Nat), k⟩, (m : Nat)⟩))
  have HZ : Hid ((w.alloc (bk ⟨⟨t, n, 1, (i : Nat), k⟩, (m : Nat)⟩)).heap.size = w.heap.size + 1) := by simp [Hid]
  obtain ⟨i5, hi5, hz5, hs5, hb5⟩ := info_parts info5
  clear hM
  go_enter Tryd.func34, Tryd.ntmps34
  go_upto_region 1 with fail
  generalize World.alloc w _ = w0 at *
  obtain ⟨x8, x0, x1, x2, x3, x4, x5⟩ := HK.out
  dsimp only at x0 x1 x2 x3 x4 x5
  obtain ⟨N, hN⟩ : ∃ N, N = w0.heap.size := ⟨_, rfl⟩
  have S0 := held_at hN
  have l0 : w.heap.size < N := by have := HZ.out; omega
  have HN := Lib.hid hN
  clear hN
  refine wp_region_noPanic ?_
  refine wp_region_held_drew (S := (fun W => (∀ b o, b < N → W.cell? ⟨b, o, none⟩ = w0.cell? ⟨b, o, none⟩) ∧ Hid (Below N w0 W) ∧ Hid (N ≤ W.heap.size))) (by kernel_rfl) ?_ (fun hH => ?_)
  · exact S0
  refine wpAnyH_take (i := 0) (oi := { dst := some 4, op := Op.fieldAddr 26 (Operand.tmp 1) 0, type := 0, pos := "ref.go:134", after := #[], guard := none }) (v := ?_) rfl (by kernel_rfl) (by kernel_rfl) (by kernel_rfl) (fun _ _ _ h => h) (Or.inl ⟨by rfl, ?_⟩) (by assumption) ?_
  rotate_left
  · (intro w hSw; (try dsimp only at hSw); go_simp; try with_reducible rfl)
  try simp only [Act.put, List.setIfInBounds_toArray, List.set_cons_zero, List.set_cons_succ]
  refine wpAnyH_take (i := 1) (oi := { dst := some 5, op := Op.fieldAddr 23 (Operand.tmp 4) 0, type := 0, pos := "ref.go:134", after := #[{ on := 0, ground := Ground.data }], guard := none }) (v := ?_) rfl (by kernel_rfl) (by kernel_rfl) (by kernel_rfl) (fun _ _ _ h => h) (Or.inl ⟨by rfl, ?_⟩) (by assumption) ?_
  rotate_left
  · (intro w hSw; (try dsimp only at hSw); go_simp; try with_reducible rfl)
  try simp only [Act.put, List.setIfInBounds_toArray, List.set_cons_zero, List.set_cons_succ]
  refine wpAnyH_take (i := 2) (oi := { dst := some 6, op := Op.load 9 (Operand.tmp 5), type := 9, pos := "ref.go:134", after := #[{ on := 1, ground := Ground.data }], guard := none }) (v := ?_) rfl (by kernel_rfl) (by kernel_rfl) (by kernel_rfl) (fun _ _ _ h => h) (Or.inl ⟨by rfl, ?_⟩) (by assumption) ?_
  rotate_left
  · (intro w hSw; (try dsimp only at hSw); go_simp; try with_reducible rfl)
  try simp only [Act.put, List.setIfInBounds_toArray, List.set_cons_zero, List.set_cons_succ]
  refine wpAnyH_take (i := 4) (oi := { dst := some 8, op := Op.fieldAddr 26 (Operand.tmp 1) 0, type := 0, pos := "ref.go:134", after := #[], guard := none }) (v := ?_) rfl (by kernel_rfl) (by kernel_rfl) (by kernel_rfl) (fun _ _ _ h => h) (Or.inl ⟨by rfl, ?_⟩) (by assumption) ?_
  rotate_left
  · (intro w hSw; (try dsimp only at hSw); go_simp; try with_reducible rfl)
  try simp only [Act.put, List.setIfInBounds_toArray, List.set_cons_zero, List.set_cons_succ]
  refine wpAnyH_take (i := 5) (oi := { dst := some 9, op := Op.fieldAddr 23 (Operand.tmp 8) 1, type := 0, pos := "ref.go:134", after := #[{ on := 4, ground := Ground.data }], guard := none }) (v := ?_) rfl (by kernel_rfl) (by kernel_rfl) (by kernel_rfl) (fun _ _ _ h => h) (Or.inl ⟨by rfl, ?_⟩) (by assumption) ?_
  rotate_left
  · (intro w hSw; (try dsimp only at hSw); go_simp; try with_reducible rfl)
  try simp only [Act.put, List.setIfInBounds_toArray, List.set_cons_zero, List.set_cons_succ]
  refine wpAnyH_take (i := 6) (oi := { dst := some 10, op := Op.load 9 (Operand.tmp 9), type := 9, pos := "ref.go:134", after := #[{ on := 5, ground := Ground.data }], guard := none }) (v := ?_) rfl (by kernel_rfl) (by kernel_rfl) (by kernel_rfl) (fun _ _ _ h => h) (Or.inl ⟨by rfl, ?_⟩) (by assumption) ?_
  rotate_left
  · (intro w hSw; (try dsimp only at hSw); go_simp; try with_reducible rfl)
  try simp only [Act.put, List.setIfInBounds_toArray, List.set_cons_zero, List.set_cons_succ]
  refine wpAnyH_ready (rs := [3]) (by kernel_rfl) (by simp) ?_
  refine AllReadyH.cons (o := { dst := some 7, op := Op.call { callee := Callee.value (Operand.func 56), args := #[Operand.tmp 6], argTypes := #[9] }, type := 49, pos := "ref.go:134", after := #[{ on := 2, ground := Ground.data }], guard := none }) rfl (fun K hK => ?_) AllReadyH.nil
  go_simp
  refine (T1.out _).mono ?_
  rintro e W_0 ⟨va, rfl, oa, bq⟩
  refine hK.out _ _ ?_ (fun hH' => ?_)
  · exact held_next (by assumption) hH
  have OA := Lib.hid oa
  clear oa
  clear hK K hH
  have hH := hH'
  clear hH'
  try simp only [Act.put, List.setIfInBounds_toArray, List.set_cons_zero, List.set_cons_succ]
  refine wpAnyH_ready (rs := [7]) (by kernel_rfl) (by simp) ?_
  refine AllReadyH.cons (o := { dst := some 11, op := Op.call { callee := Callee.value (Operand.func 56), args := #[Operand.tmp 10], argTypes := #[9] }, type := 49, pos := "ref.go:134", after := #[{ on := 6, ground := Ground.data }, { on := 3, ground := Ground.chain }], guard := none }) rfl (fun K hK => ?_) AllReadyH.nil
  go_simp
  refine (T2.out _).mono ?_
  rintro e W_1 ⟨vb, rfl, ob, bq⟩
  refine hK.out _ _ ?_ (fun hH' => ?_)
  · exact held_next (by assumption) hH
  have OB := Lib.hid ob
  have BB := Lib.hid bq
  have OA2 := Lib.hid (ownsRow_kept OA.out fun g hg => bq.block g (OA.out.lt g hg).2)
  clear ob
  clear hK K hH
  have hH := hH'
  clear hH'
  try simp only [Act.put, List.setIfInBounds_toArray, List.set_cons_zero, List.set_cons_succ]
  refine wpAnyH_ready (rs := [8]) (by kernel_rfl) (by simp) ?_
  refine AllReadyH.cons (o := { dst := some 12, op := Op.call { callee := Callee.builtin Builtin.append, args := #[Operand.tmp 7, Operand.tmp 11], argTypes := #[49, 49] }, type := 49, pos := "ref.go:134", after := #[{ on := 3, ground := Ground.data }, { on := 7, ground := Ground.data }, { on := 7, ground := Ground.chain }], guard := none }) rfl (fun K hK => ?_) AllReadyH.nil
  obtain ⟨pb, cb, rfl, TB⟩ := bts_of_own OB.out yb.out
  have HTB := Lib.hid TB
  have SB := Lib.hid BB.out.size
  clear TB
  refine step_app_bts rfl (.tmp 7) (.tmp 11) rfl (base := w0.drew.heap.size) (N := La) (M := Lb) rfl rfl OA2.out HTB.out (by omega) (by have := hH.2.2.out; rw [HN.out] at this; exact this) ?_
  intro vc wc oc bc zc
  have OC := Lib.hid oc
  refine hK.out _ _ ?_ (fun hH' => ?_)
  · exact held_next2 bc (Nat.le_of_eq HN.out) hH
  clear hK K hH
  have hH := hH'
  clear hH'
  try simp only [Act.put, List.setIfInBounds_toArray, List.set_cons_zero, List.set_cons_succ]
  refine wpAnyH_take (i := 9) (oi := { dst := some 3, op := Op.assign (Operand.tmp 12), type := 49, pos := "ref.go:134", after := #[{ on := 8, ground := Ground.data }, { on := 8, ground := Ground.chain }, { on := 0, ground := Ground.phase }, { on := 1, ground := Ground.phase }, { on := 2, ground := Ground.phase }, { on := 3, ground := Ground.phase }, { on := 4, ground := Ground.phase }, { on := 5, ground := Ground.phase }, { on := 6, ground := Ground.phase }, { on := 7, ground := Ground.phase }, { on := 8, ground := Ground.phase }], guard := none }) (v := ?_) rfl (by kernel_rfl) (by kernel_rfl) (by kernel_rfl) (fun _ _ _ h => h) (Or.inl ⟨by rfl, ?_⟩) (by assumption) ?_
  rotate_left
  · (intro w hSw; (try dsimp only at hSw); go_simp; try with_reducible rfl)
  try simp only [Act.put, List.setIfInBounds_toArray, List.set_cons_zero, List.set_cons_succ]
  refine wpAnyH_done (by kernel_rfl) ?_ _
  refine NoPanic.normal ?_
  have E1 := Lib.hid (show Below w0.heap.size w0 wc from hH.2.1.out.mono (Nat.le_of_eq HN.out.symm))
  have O3 : Hid (wc.ownsRow w0.heap.size 5 1 vc L3.length (bcs L3)) := by have := OC.out; rw [HLab.out] at this; exact this
  have SE := Lib.hid E1.out.size
  clear S0 hH oc bc zc OC OA OA2 OB l0 x8 x0 x1 x2 x3 x4 x5
  obtain ⟨x8, x0, x1, x2, x3, x4, x5⟩ := HK.out.kept E1.out (by have := HZ.out; omega)
  dsimp only at x0 x1 x2 x3 x4 x5
  have A3 : Hid ((wc.alloc (.cells #[.int .u8 ((1 : Nat) : Int)] 5)).ownsRow w0.heap.size 5 1 vc L3.length (bcs L3)) := O3.out.alloc _
  go_wp2_with (at_builtin; go_must (refine wpList_append_lies _ rfl (.tmp 13) (.tmp 18) 49 rfl w0.heap.size 5 i5 _ 1 1 Tryd.underlying49 hi5 hz5 hs5 hb5 rfl (by omega) _ L3.length (bcs L3) rfl A3.out ⟨wc.heap.size, 0, none⟩ 1 1 [.int .u8 ((1 : Nat) : Int)] rfl rfl (World.news_of_block (heap_alloc_new _ _)) (fun u hu => by simp at hu; subst hu; rfl) (by omega) (by unfold maxLen; omega) (by omega) (by have := SE.out; simp; omega) (wc.heap.size + 1) (by simp) ?_))
  intro g4 c4 w4 hown hgrow hat hlt4
  obtain ⟨o4, b4⟩ := app_one (w := w0) (c := 1) O3.out E1.out (Nat.le_refl _) hown hgrow
  rw [HL4.out] at o4
  rw [HLL.out] at o4 ⊢
  have O4 := Lib.hid o4
  have E4 := Lib.hid b4
  have l4 : L4.length ≤ 81 := by rw [← HLL.out]; omega
  clear x8 x0 x1 x2 x3 x4 x5
  clear hown hgrow hat o4 b4
  obtain ⟨x8, x0, x1, x2, x3, x4, x5⟩ := HK.out.kept E4.out (by have := HZ.out; omega)
  dsimp only at x0 x1 x2 x3 x4 x5
  obtain ⟨Lm, hLm⟩ : ∃ L, shrt i = L := ⟨_, rfl⟩
  have HLm := Lib.hid hLm
  have lm : Lm.length ≤ 10 := by rw [← hLm]; exact (shrt_len i (by omega)).1
  have T5 := Lib.hid (fun w => rshort_any i w (by omega))
  have hci : (i : Int) % 18446744073709551616 = i := by omega
  rw [hLm] at T5
  have y5 : Hid (∀ c, c ∈ Lm → c < 256) := fun c hc => by rw [← hLm] at hc; exact shrt_bytes i c hc
  clear hLm
  go_wp2_with fail
  refine (T5.out _).mono ?_
  rintro e w5 ⟨v5, rfl, o5, b5⟩
  obtain ⟨p5, c5, rfl, T5⟩ := bts_of_own o5 (y5.out)
  have HT5 := Lib.hid T5
  have E5 := Lib.hid (E4.out.trans (b5.mono E4.out.size))
  have O5 := Lib.hid (ownsRow_kept O4.out fun g hg => b5.block g (O4.out.lt g hg).2)
  clear x8 x0 x1 x2 x3 x4 x5
  clear o5 b5 T5
  obtain ⟨x8, x0, x1, x2, x3, x4, x5⟩ := HK.out.kept E5.out (by have := HZ.out; omega)
  dsimp only at x0 x1 x2 x3 x4 x5
  have z5 := E5.out.size
  go_wp2_with (at_builtin; go_must (refine app_bts rfl (.tmp 24) (.tmp 29) rfl (base := w0.heap.size) (N := L4) (M := Lm) rfl rfl O5.out HT5.out (by omega) z5 ?_))
  intro v5x w5x o5x b5x z5x
  rw [← List.length_append] at o5x
  have E5x := Lib.hid (E5.out.trans b5x)
  have O5x := Lib.hid o5x
  clear x8 x0 x1 x2 x3 x4 x5
  clear o5x b5x z5x
  obtain ⟨x8, x0, x1, x2, x3, x4, x5⟩ := HK.out.kept E5x.out (by have := HZ.out; omega)
  dsimp only at x0 x1 x2 x3 x4 x5
  obtain ⟨L5, hL5⟩ : ∃ L, L4 ++ Lm = L := ⟨_, rfl⟩
  have HL5 := Lib.hid hL5
  have l5 : L5.length ≤ 130 := by rw [← hL5, List.length_append]; omega
  rw [hL5] at O5x
  clear hL5
  obtain ⟨Ln, hLn⟩ : ∃ L, shrt m = L := ⟨_, rfl⟩
  have HLn := Lib.hid hLn
  have ln : Ln.length ≤ 10 := by rw [← hLn]; exact (shrt_len m (by omega)).1
  have T6 := Lib.hid (fun w => rshort_any m w (by omega))
  have hcm : (m : Int) % 18446744073709551616 = m := by omega
  rw [hLn] at T6
  have y6 : Hid (∀ c, c ∈ Ln → c < 256) := fun c hc => by rw [← hLn] at hc; exact shrt_bytes m c hc
  clear hLn
  go_wp2_with fail
  refine (T6.out _).mono ?_
  rintro e w6 ⟨v6, rfl, o6, b6⟩
  obtain ⟨p6, c6, rfl, T6⟩ := bts_of_own o6 (y6.out)
  have HT6 := Lib.hid T6
  have E6 := Lib.hid (E5x.out.trans (b6.mono E5x.out.size))
  have O6 := Lib.hid (ownsRow_kept O5x.out fun g hg => b6.block g (O5x.out.lt g hg).2)
  clear x8 x0 x1 x2 x3 x4 x5
  clear o6 b6 T6
  obtain ⟨x8, x0, x1, x2, x3, x4, x5⟩ := HK.out.kept E6.out (by have := HZ.out; omega)
  dsimp only at x0 x1 x2 x3 x4 x5
  have z6 := E6.out.size
  go_wp2_with (at_builtin; go_must (refine app_bts rfl (.tmp 41) (.tmp 45) rfl (base := w0.heap.size) (N := L5) (M := Ln) rfl rfl O6.out HT6.out (by omega) z6 ?_))
  intro v6x w6x o6x b6x z6x
  rw [← List.length_append] at o6x
  have E6x := Lib.hid (E6.out.trans b6x)
  have O6x := Lib.hid o6x
  clear x8 x0 x1 x2 x3 x4 x5
  clear o6x b6x z6x
  obtain ⟨x8, x0, x1, x2, x3, x4, x5⟩ := HK.out.kept E6x.out (by have := HZ.out; omega)
  dsimp only at x0 x1 x2 x3 x4 x5
  go_wp2_with fail
  go_ret
  have hf : formK ⟨⟨t, n, 1, (i : Nat), k⟩, (m : Nat)⟩ = L5 ++ Ln := by rw [← HL5.out, ← HLm.out, ← HL4.out, ← HL3.out, ← HLn.out]; unfold formK mid; simp [txt]
  rw [hf]
  exact ⟨_, rfl, own_up O6x.out HW.out.size, HW.out.trans (E6x.out.mono HW.out.size)⟩
set_option maxRecDepth 100000 in
set_option maxHeartbeats 4000000 in
theorem rform_2 (t n k : ByteArray) (i : Int) (m : Nat) (w : World) (hM : May ⟨⟨t, n, 2, i, k⟩, (m : Nat)⟩) (hm : m < 4294967296) : Calls Tryd.prog 34 #[kv ⟨⟨t, n, 2, i, k⟩, (m : Nat)⟩] w (NewRow (formK ⟨⟨t, n, 2, i, k⟩, (m : Nat)⟩) w) := by
  have ht : t.size ≤ 24 := hM.t
  have hn : n.size ≤ 24 := hM.n
  have hk : k.size ≤ 24 := hM.k2 rfl
  have lt := txt_len ht
  have ln := txt_len hn
  have T1 := Lib.hid (fun w => rstr_any t (by omega) w)
  have T2 := Lib.hid (fun w => rstr_any n (by omega) w)
  obtain ⟨L3, hL3⟩ : ∃ L, (shrt t.size ++ sb t) ++ (shrt n.size ++ sb n) = L := ⟨_, rfl⟩
  have HL3 := Lib.hid hL3
  have l3 : L3.length ≤ 80 := by rw [← hL3, List.length_append]; unfold txt at ln lt; omega
  obtain ⟨L4, hL4⟩ : ∃ L, L3 ++ [2] = L := ⟨_, rfl⟩
  have HL4 := Lib.hid hL4
  have HLL : Hid (L3.length + 1 = L4.length) := by unfold Hid; rw [← hL4, List.length_append]; rfl
  obtain ⟨La, hLa⟩ : ∃ L, shrt t.size ++ sb t = L := ⟨_, rfl⟩
  obtain ⟨Lb, hLb⟩ : ∃ L, shrt n.size ++ sb n = L := ⟨_, rfl⟩
  have HLab : Hid (La ++ Lb = L3) := by unfold Hid; rw [← hLa, ← hLb]; exact hL3
  have yb : Hid (∀ c, c ∈ Lb → c < 256) := fun c hc => by rw [← hLb] at hc; exact txt_bytes n c hc
  have la : La.length ≤ 40 := by rw [← hLa]; exact lt
  have lb : Lb.length ≤ 40 := by rw [← hLb]; exact ln
  rw [hLa] at T1
  rw [hLb] at T2
  clear hL3 hL4 hLa hLb lt ln
  have HK := Lib.hid (Hk.made w ⟨⟨t, n, 2, i, k⟩, (m : Nat)⟩)
  have HW := Lib.hid ((Below.refl w.heap.size w).alloc (Nat.le_refl _) (bk ⟨⟨t, n, 2, i, k⟩, (m : Nat)⟩))
  have HZ : Hid ((w.alloc (bk ⟨⟨t, n, 2, i, k⟩, (m : Nat)⟩)).heap.size = w.heap.size + 1) := by simp [Hid]
  obtain ⟨i5, hi5, hz5, hs5, hb5⟩ := info_parts info5
  clear hM
  go_enter Tryd.func34, Tryd.ntmps34
  go_upto_region 1 with fail
  generalize World.alloc w _ = w0 at *
  obtain ⟨x8, x0, x1, x2, x3, x4, x5⟩ := HK.out
  dsimp only at x0 x1 x2 x3 x4 x5
  obtain ⟨N, hN⟩ : ∃ N, N = w0.heap.size := ⟨_, rfl⟩
  have S0 := held_at hN
  have l0 : w.heap.size < N := by have := HZ.out; omega
  have HN := Lib.hid hN
  clear hN
  refine wp_region_noPanic ?_
  refine wp_region_held_drew (S := (fun W => (∀ b o, b < N → W.cell? ⟨b, o, none⟩ = w0.cell? ⟨b, o, none⟩) ∧ Hid (Below N w0 W) ∧ Hid (N ≤ W.heap.size))) (by kernel_rfl) ?_ (fun hH => ?_)
  · exact S0
  refine wpAnyH_take (i := 0) (oi := { dst := some 4, op := Op.fieldAddr 26 (Operand.tmp 1) 0, type := 0, pos := "ref.go:134", after := #[], guard := none }) (v := ?_) rfl (by kernel_rfl) (by kernel_rfl) (by kernel_rfl) (fun _ _ _ h => h) (Or.inl ⟨by rfl, ?_⟩) (by assumption) ?_
  rotate_left
  · (intro w hSw; (try dsimp only at hSw); go_simp; try with_reducible rfl)
  try simp only [Act.put, List.setIfInBounds_toArray, List.set_cons_zero, List.set_cons_succ]
  refine wpAnyH_take (i := 1) (oi := { dst := some 5, op := Op.fieldAddr 23 (Operand.tmp 4) 0, type := 0, pos := "ref.go:134", after := #[{ on := 0, ground := Ground.data }], guard := none }) (v := ?_) rfl (by kernel_rfl) (by kernel_rfl) (by kernel_rfl) (fun _ _ _ h => h) (Or.inl ⟨by rfl, ?_⟩) (by assumption) ?_
  rotate_left
  · (intro w hSw; (try dsimp only at hSw); go_simp; try with_reducible rfl)
  try simp only [Act.put, List.setIfInBounds_toArray, List.set_cons_zero, List.set_cons_succ]
  refine wpAnyH_take (i := 2) (oi := { dst := some 6, op := Op.load 9 (Operand.tmp 5), type := 9, pos := "ref.go:134", after := #[{ on := 1, ground := Ground.data }], guard := none }) (v := ?_) rfl (by kernel_rfl) (by kernel_rfl) (by kernel_rfl) (fun _ _ _ h => h) (Or.inl ⟨by rfl, ?_⟩) (by assumption) ?_
  rotate_left
  · (intro w hSw; (try dsimp only at hSw); go_simp; try with_reducible rfl)
  try simp only [Act.put, List.setIfInBounds_toArray, List.set_cons_zero, List.set_cons_succ]
  refine wpAnyH_take (i := 4) (oi := { dst := some 8, op := Op.fieldAddr 26 (Operand.tmp 1) 0, type := 0, pos := "ref.go:134", after := #[], guard := none }) (v := ?_) rfl (by kernel_rfl) (by kernel_rfl) (by kernel_rfl) (fun _ _ _ h => h) (Or.inl ⟨by rfl, ?_⟩) (by assumption) ?_
  rotate_left
  · (intro w hSw; (try dsimp only at hSw); go_simp; try with_reducible rfl)
  try simp only [Act.put, List.setIfInBounds_toArray, List.set_cons_zero, List.set_cons_succ]
  refine wpAnyH_take (i := 5) (oi := { dst := some 9, op := Op.fieldAddr 23 (Operand.tmp 8) 1, type := 0, pos := "ref.go:134", after := #[{ on := 4, ground := Ground.data }], guard := none }) (v := ?_) rfl (by kernel_rfl) (by kernel_rfl) (by kernel_rfl) (fun _ _ _ h => h) (Or.inl ⟨by rfl, ?_⟩) (by assumption) ?_
  rotate_left
  · (intro w hSw; (try dsimp only at hSw); go_simp; try with_reducible rfl)
  try simp only [Act.put, List.setIfInBounds_toArray, List.set_cons_zero, List.set_cons_succ]
  refine wpAnyH_take (i := 6) (oi := { dst := some 10, op := Op.load 9 (Operand.tmp 9), type := 9, pos := "ref.go:134", after := #[{ on := 5, ground := Ground.data }], guard := none }) (v := ?_) rfl (by kernel_rfl) (by kernel_rfl) (by kernel_rfl) (fun _ _ _ h => h) (Or.inl ⟨by rfl, ?_⟩) (by assumption) ?_
  rotate_left
  · (intro w hSw; (try dsimp only at hSw); go_simp; try with_reducible rfl)
  try simp only [Act.put, List.setIfInBounds_toArray, List.set_cons_zero, List.set_cons_succ]
  refine wpAnyH_ready (rs := [3]) (by kernel_rfl) (by simp) ?_
  refine AllReadyH.cons (o := { dst := some 7, op := Op.call { callee := Callee.value (Operand.func 56), args := #[Operand.tmp 6], argTypes := #[9] }, type := 49, pos := "ref.go:134", after := #[{ on := 2, ground := Ground.data }], guard := none }) rfl (fun K hK => ?_) AllReadyH.nil
  go_simp
  refine (T1.out _).mono ?_
  rintro e W_0 ⟨va, rfl, oa, bq⟩
  refine hK.out _ _ ?_ (fun hH' => ?_)
  · exact held_next (by assumption) hH
  have OA := Lib.hid oa
  clear oa
  clear hK K hH
  have hH := hH'
  clear hH'
  try simp only [Act.put, List.setIfInBounds_toArray, List.set_cons_zero, List.set_cons_succ]
  refine wpAnyH_ready (rs := [7]) (by kernel_rfl) (by simp) ?_
  refine AllReadyH.cons (o := { dst := some 11, op := Op.call { callee := Callee.value (Operand.func 56), args := #[Operand.tmp 10], argTypes := #[9] }, type := 49, pos := "ref.go:134", after := #[{ on := 6, ground := Ground.data }, { on := 3, ground := Ground.chain }], guard := none }) rfl (fun K hK => ?_) AllReadyH.nil
  go_simp
  refine (T2.out _).mono ?_
  rintro e W_1 ⟨vb, rfl, ob, bq⟩
  refine hK.out _ _ ?_ (fun hH' => ?_)
  · exact held_next (by assumption) hH
  have OB := Lib.hid ob
  have BB := Lib.hid bq
  have OA2 := Lib.hid (ownsRow_kept OA.out fun g hg => bq.block g (OA.out.lt g hg).2)
  clear ob
  clear hK K hH
  have hH := hH'
  clear hH'
  try simp only [Act.put, List.setIfInBounds_toArray, List.set_cons_zero, List.set_cons_succ]
  refine wpAnyH_ready (rs := [8]) (by kernel_rfl) (by simp) ?_
  refine AllReadyH.cons (o := { dst := some 12, op := Op.call { callee := Callee.builtin Builtin.append, args := #[Operand.tmp 7, Operand.tmp 11], argTypes := #[49, 49] }, type := 49, pos := "ref.go:134", after := #[{ on := 3, ground := Ground.data }, { on := 7, ground := Ground.data }, { on := 7, ground := Ground.chain }], guard := none }) rfl (fun K hK => ?_) AllReadyH.nil
  obtain ⟨pb, cb, rfl, TB⟩ := bts_of_own OB.out yb.out
  have HTB := Lib.hid TB
  have SB := Lib.hid BB.out.size
  clear TB
  refine step_app_bts rfl (.tmp 7) (.tmp 11) rfl (base := w0.drew.heap.size) (N := La) (M := Lb) rfl rfl OA2.out HTB.out (by omega) (by have := hH.2.2.out; rw [HN.out] at this; exact this) ?_
  intro vc wc oc bc zc
  have OC := Lib.hid oc
  refine hK.out _ _ ?_ (fun hH' => ?_)
  · exact held_next2 bc (Nat.le_of_eq HN.out) hH
  clear hK K hH
  have hH := hH'
  clear hH'
  try simp only [Act.put, List.setIfInBounds_toArray, List.set_cons_zero, List.set_cons_succ]
  refine wpAnyH_take (i := 9) (oi := { dst := some 3, op := Op.assign (Operand.tmp 12), type := 49, pos := "ref.go:134", after := #[{ on := 8, ground := Ground.data }, { on := 8, ground := Ground.chain }, { on := 0, ground := Ground.phase }, { on := 1, ground := Ground.phase }, { on := 2, ground := Ground.phase }, { on := 3, ground := Ground.phase }, { on := 4, ground := Ground.phase }, { on := 5, ground := Ground.phase }, { on := 6, ground := Ground.phase }, { on := 7, ground := Ground.phase }, { on := 8, ground := Ground.phase }], guard := none }) (v := ?_) rfl (by kernel_rfl) (by kernel_rfl) (by kernel_rfl) (fun _ _ _ h => h) (Or.inl ⟨by rfl, ?_⟩) (by assumption) ?_
  rotate_left
  · (intro w hSw; (try dsimp only at hSw); go_simp; try with_reducible rfl)
  try simp only [Act.put, List.setIfInBounds_toArray, List.set_cons_zero, List.set_cons_succ]
  refine wpAnyH_done (by kernel_rfl) ?_ _
  refine NoPanic.normal ?_
  have E1 := Lib.hid (show Below w0.heap.size w0 wc from hH.2.1.out.mono (Nat.le_of_eq HN.out.symm))
  have O3 : Hid (wc.ownsRow w0.heap.size 5 1 vc L3.length (bcs L3)) := by have := OC.out; rw [HLab.out] at this; exact this
  have SE := Lib.hid E1.out.size
  clear S0 hH oc bc zc OC OA OA2 OB l0 x8 x0 x1 x2 x3 x4 x5
  obtain ⟨x8, x0, x1, x2, x3, x4, x5⟩ := HK.out.kept E1.out (by have := HZ.out; omega)
  dsimp only at x0 x1 x2 x3 x4 x5
  have A3 : Hid ((wc.alloc (.cells #[.int .u8 ((2 : Nat) : Int)] 5)).ownsRow w0.heap.size 5 1 vc L3.length (bcs L3)) := O3.out.alloc _
  go_wp2_with (at_builtin; go_must (refine wpList_append_lies _ rfl (.tmp 13) (.tmp 18) 49 rfl w0.heap.size 5 i5 _ 1 1 Tryd.underlying49 hi5 hz5 hs5 hb5 rfl (by omega) _ L3.length (bcs L3) rfl A3.out ⟨wc.heap.size, 0, none⟩ 1 1 [.int .u8 ((2 : Nat) : Int)] rfl rfl (World.news_of_block (heap_alloc_new _ _)) (fun u hu => by simp at hu; subst hu; rfl) (by omega) (by unfold maxLen; omega) (by omega) (by have := SE.out; simp; omega) (wc.heap.size + 1) (by simp) ?_))
  intro g4 c4 w4 hown hgrow hat hlt4
  obtain ⟨o4, b4⟩ := app_one (w := w0) (c := 2) O3.out E1.out (Nat.le_refl _) hown hgrow
  rw [HL4.out] at o4
  rw [HLL.out] at o4 ⊢
  have O4 := Lib.hid o4
  have E4 := Lib.hid b4
  have l4 : L4.length ≤ 81 := by rw [← HLL.out]; omega
  clear x8 x0 x1 x2 x3 x4 x5
  clear hown hgrow hat o4 b4
  obtain ⟨x8, x0, x1, x2, x3, x4, x5⟩ := HK.out.kept E4.out (by have := HZ.out; omega)
  dsimp only at x0 x1 x2 x3 x4 x5
  obtain ⟨Lm, hLm⟩ : ∃ L, shrt k.size ++ sb k = L := ⟨_, rfl⟩
  have HLm := Lib.hid hLm
  have lm : Lm.length ≤ 40 := by rw [← hLm]; exact txt_len hk
  have T5 := Lib.hid (fun w => rstr_any k (by omega) w)
  rw [hLm] at T5
  have y5 : Hid (∀ c, c ∈ Lm → c < 256) := fun c hc => by rw [← hLm] at hc; exact txt_bytes k c hc
  clear hLm
  go_wp2_with fail
  refine (T5.out _).mono ?_
  rintro e w5 ⟨v5, rfl, o5, b5⟩
  obtain ⟨p5, c5, rfl, T5⟩ := bts_of_own o5 (y5.out)
  have HT5 := Lib.hid T5
  have E5 := Lib.hid (E4.out.trans (b5.mono E4.out.size))
  have O5 := Lib.hid (ownsRow_kept O4.out fun g hg => b5.block g (O4.out.lt g hg).2)
  clear x8 x0 x1 x2 x3 x4 x5
  clear o5 b5 T5
  obtain ⟨x8, x0, x1, x2, x3, x4, x5⟩ := HK.out.kept E5.out (by have := HZ.out; omega)
  dsimp only at x0 x1 x2 x3 x4 x5
  have z5 := E5.out.size
  go_wp2_with (at_builtin; go_must (refine app_bts rfl (.tmp 35) (.tmp 39) rfl (base := w0.heap.size) (N := L4) (M := Lm) rfl rfl O5.out HT5.out (by omega) z5 ?_))
  intro v5x w5x o5x b5x z5x
  rw [← List.length_append] at o5x
  have E5x := Lib.hid (E5.out.trans b5x)
  have O5x := Lib.hid o5x
  clear x8 x0 x1 x2 x3 x4 x5
  clear o5x b5x z5x
  obtain ⟨x8, x0, x1, x2, x3, x4, x5⟩ := HK.out.kept E5x.out (by have := HZ.out; omega)
  dsimp only at x0 x1 x2 x3 x4 x5
  obtain ⟨L5, hL5⟩ : ∃ L, L4 ++ Lm = L := ⟨_, rfl⟩
  have HL5 := Lib.hid hL5
  have l5 : L5.length ≤ 130 := by rw [← hL5, List.length_append]; omega
  rw [hL5] at O5x
  clear hL5
  obtain ⟨Ln, hLn⟩ : ∃ L, shrt m = L := ⟨_, rfl⟩
  have HLn := Lib.hid hLn
  have ln : Ln.length ≤ 10 := by rw [← hLn]; exact (shrt_len m (by omega)).1
  have T6 := Lib.hid (fun w => rshort_any m w (by omega))
  have hcm : (m : Int) % 18446744073709551616 = m := by omega
  rw [hLn] at T6
  have y6 : Hid (∀ c, c ∈ Ln → c < 256) := fun c hc => by rw [← hLn] at hc; exact shrt_bytes m c hc
  clear hLn
  go_wp2_with fail
  refine (T6.out _).mono ?_
  rintro e w6 ⟨v6, rfl, o6, b6⟩
  obtain ⟨p6, c6, rfl, T6⟩ := bts_of_own o6 (y6.out)
  have HT6 := Lib.hid T6
  have E6 := Lib.hid (E5x.out.trans (b6.mono E5x.out.size))
  have O6 := Lib.hid (ownsRow_kept O5x.out fun g hg => b6.block g (O5x.out.lt g hg).2)
  clear x8 x0 x1 x2 x3 x4 x5
  clear o6 b6 T6
  obtain ⟨x8, x0, x1, x2, x3, x4, x5⟩ := HK.out.kept E6.out (by have := HZ.out; omega)
  dsimp only at x0 x1 x2 x3 x4 x5
  have z6 := E6.out.size
  go_wp2_with (at_builtin; go_must (refine app_bts rfl (.tmp 41) (.tmp 45) rfl (base := w0.heap.size) (N := L5) (M := Ln) rfl rfl O6.out HT6.out (by omega) z6 ?_))
  intro v6x w6x o6x b6x z6x
  rw [← List.length_append] at o6x
  have E6x := Lib.hid (E6.out.trans b6x)
  have O6x := Lib.hid o6x
  clear x8 x0 x1 x2 x3 x4 x5
  clear o6x b6x z6x
  obtain ⟨x8, x0, x1, x2, x3, x4, x5⟩ := HK.out.kept E6x.out (by have := HZ.out; omega)
  dsimp only at x0 x1 x2 x3 x4 x5
  go_wp2_with fail
  go_ret
  have hf : formK ⟨⟨t, n, 2, i, k⟩, (m : Nat)⟩ = L5 ++ Ln := by rw [← HL5.out, ← HLm.out, ← HL4.out, ← HL3.out, ← HLn.out]; unfold formK mid; simp [txt]
  rw [hf]
  exact ⟨_, rfl, own_up O6x.out HW.out.size, HW.out.trans (E6x.out.mono HW.out.size)⟩
theorem rform_any (k : Obt) (w : World) (hk : Okk k) (hM : May k) : Calls Tryd.prog 34 #[kv k] w (NewRow (formK k) w) := by
  obtain ⟨⟨t, n, kd, i, kk⟩, N⟩ := k
  obtain ⟨m, rfl⟩ : ∃ m : Nat, N = m := ⟨N.toNat, by have := hk.N0; dsimp only at this; omega⟩
  have hm : m < 4294967296 := by have := hk.N1; dsimp only at this; omega
  rcases hM.kd with h | h | h
  · dsimp only at h; subst h; exact rform_0 t n kk i m w hM hm
  · dsimp only at h; subst h
    have h1 := hM.i1 rfl
    dsimp only at h1
    obtain ⟨j, rfl⟩ : ∃ j : Nat, i = j := ⟨i.toNat, by omega⟩
    exact rform_1 t n kk j m w hM hm
  · dsimp only at h; subst h; exact rform_2 t n kk i m w hM hm
end Go.Proofs.YtakoghdkllfhlaaDoor
