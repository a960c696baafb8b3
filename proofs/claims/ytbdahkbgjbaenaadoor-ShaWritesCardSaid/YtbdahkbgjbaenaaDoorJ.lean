/- Contract: a Writer's Sum: its walk. -/
import Derived.Test.YtbdahkbgjbaenaaDoorI
namespace Go.Proofs.YtbdahkbgjbaenaaDoor
open Go.RowKit

/-- what is held of memory while a Writer tells its fingerprint -/
structure Dg (B : Nat) (w W : World) : Prop where
  res : Row W B 27 .u8 32 fun _ => 0
  bel : Below B w W
  tab : Tab W
  lt : B + 2 ≤ W.heap.size
theorem Dg.kp {B : Nat} {w W W' : World} (h : Dg B w W) (k : Kp (B + 1) W W') : Dg B w W' :=
  ⟨h.res.kp k (by omega), k.below h.bel (by have := h.lt; omega) (by omega), h.tab.kp k (by omega), by have := h.lt; have := k.size; omega⟩
theorem Ws.kp {w w' : World} {n m : Nat} {L : List Int} (h : Ws w n L) (k : Kp m w w') (hn : n ≠ m) : Ws w' n L := by
  obtain ⟨H, p, a, b⟩ := h; exact ⟨H, p, a.same (k.block n a.lt hn), b⟩
theorem Wr.below {w w' : World} {n : Nat} {L : List Int} (h : Wr w n L) (k : Below w.heap.size w w') : Wr w' n L := by
  obtain ⟨H, p, a, b⟩ := h; exact ⟨H, p, a.same (k.block n a.lt), b⟩
theorem Ws.below {w w' : World} {n : Nat} {L : List Int} (h : Ws w n L) (k : Below w.heap.size w w') : Ws w' n L := by
  obtain ⟨H, p, a, b⟩ := h; exact ⟨H, p, a.same (k.block n a.lt), b⟩
theorem Wr.taken {w : World} {n : Nat} {L : List Int} (h : Wr w n L) : w.cell? ⟨n, 72, none⟩ = some (.int .u64 L.length) := by obtain ⟨H, p, a, b⟩ := h; exact a.taken
/-- the fresh copy -/
theorem wr_nil (w : World) (n : Nat) (h : w.heap[n]? = some (.cells (WC (fun _ => 0) (fun _ => 0) 0) 58 (0, 0))) : Wr w n [] :=
  ⟨_, _, ⟨h, fun _ _ => by omega, fun j hj => by simp at hj⟩, fun h => absurd h (by simp)⟩
theorem put8_any (x : Int) (w : World) : Calls Tryd.prog 30 #[.slice none 0 0, .int .u64 x, .int .i64 8] w fun e w' => e = .returned (.slice (some ⟨w.heap.size, 0, none⟩) 8 8) ∧ Row w' w.heap.size 5 .u8 8 (formAt x 8) ∧ Below w.heap.size w w' :=
  put_any x 8 w (by omega) (by omega)
theorem put4_any (x : Int) (w : World) : Calls Tryd.prog 30 #[.slice none 0 0, .int .u64 x, .int .i64 4] w fun e w' => e = .returned (.slice (some ⟨w.heap.size, 0, none⟩) 4 4) ∧ Row w' w.heap.size 5 .u8 4 (formAt x 4) ∧ Below w.heap.size w w' :=
  put_any x 4 w (by omega) (by omega)
/-- the words of what took the whole -/
theorem Ws.words {w : World} {n : Nat} {L : List Int} (h : Ws w n (padded L)) : ∃ p, w.heap[n]? = some (.cells (WC (digSt L).at p (padded L).length) 58 (0, 0)) := by
  obtain ⟨H, p, a, b⟩ := h
  refine ⟨p, ?_⟩
  rw [a.heap]
  refine congrArg (fun c => some (Obj.cells c 58 (0, 0))) (eq_WC (WC_size _ _ _) fun j hj => ?_)
  rw [WC_get _ _ _ _ hj]
  unfold wc
  by_cases h8 : j < 8
  · rw [if_pos h8, if_pos h8, b j h8]; rfl
  · rw [if_neg h8, if_neg h8]

theorem zero58 : ∀ w, (zeroValue 58).run Tryd.prog w = .ok (.agg (WC (fun _ => 0) (fun _ => 0) 0)) w :=
  (zero_of_info (n := 73) (show (Tryd.prog.info? 58).map (fun i => (i.zero, i.size)) = some (some (.agg (WC (fun _ => 0) (fun _ => 0) 0)), 73) by kernel_rfl)).1
/-- what Put of four leaves -/
structure Q4 (wr w3 : World) (x : Int) : Prop where
  new : Row w3 wr.heap.size 5 .u8 4 (formAt x 4)
  bel : Below wr.heap.size wr w3
theorem Q4.row {wr w3 : World} {x : Int} (h : Q4 wr w3 x) {g : Nat} {T : TypeId} {k : IntKind} {n : Nat} {F : Nat → Int} (r : Row wr g T k n F) : Row w3 g T k n F := r.below h.bel r.lt
theorem Q4.src {wr w3 : World} {x : Int} (h : Q4 wr w3 x) : ∀ j v, ((List.range 4).map fun j => Value.int .u8 (formAt x 4 j))[j]? = some v → w3.cell? ((⟨wr.heap.size, 0, none⟩ : Addr).add j) = some v := by
  intro j v hv
  have hj : j < 4 := by
    have := List.getElem?_eq_some_iff.1 hv
    obtain ⟨h, _⟩ := this
    simpa using h
  rw [List.getElem?_map, List.getElem?_range hj] at hv
  have e : (⟨wr.heap.size, 0, none⟩ : Addr).add j = ⟨wr.heap.size, j, none⟩ := by unfold Addr.add; split <;> simp_all
  rw [e, h.new.cell j hj]
  exact hv
theorem put4_of (x : Int) (wr W : World) (h : W.heap = wr.heap) (ho : W.os = wr.os := by rfl) (ht : W.tape = wr.tape := by rfl) (hp : W.output = wr.output := by rfl) :
    Calls Tryd.prog 30 #[.slice none 0 0, .int .u64 x, .int .i64 4] W fun e w' => e = .returned (.slice (some ⟨wr.heap.size, 0, none⟩) 4 4) ∧ Q4 wr w' x := by
  refine (put4_any x W).mono fun e w' ⟨h1, h2, h3⟩ => ?_
  rw [h] at h1 h2
  exact ⟨h1, h2, ⟨h3.os.trans ho, h3.tape.trans ht, h3.output.trans hp, by rw [← h]; exact h3.size, fun k hk => by rw [← h]; exact h3.block k (by rw [h]; exact hk)⟩⟩
theorem pad_x (x : Int) (t : Nat) (w : World) (hx : x = t) (ht : t < 1152921504606846976) : Calls Tryd.prog 31 #[.int .u64 x] w fun e w' =>
    e = .returned (.slice (some ⟨w.heap.size, 0, none⟩) (1 + zerosOf t) (1 + zerosOf t)) ∧ Row w' w.heap.size 5 .u8 (1 + zerosOf t) (fun j => if j = 0 then 128 else 0) ∧ Below w.heap.size w w' := by
  subst hx; exact padding_any t w ht
set_option maxRecDepth 100000 in
set_option maxHeartbeats 4000000 in
theorem wsum_any (q : Option Addr) (L : List Int) (w : World) (hq : (q = none ∧ L = []) ∨ ∃ n, q = some ⟨n, 0, none⟩ ∧ Wr w n L) (hlen : L.length < 576460752303423488) (hT : Tab w) :
    Calls Tryd.prog 16 #[.pointer q] w fun e w' => e = .returned (.agg (mk .u8 32 (dig L))) ∧ Below w.heap.size w w' := by
  have b0 : Below w.heap.size w ((w.alloc (.cells (mk .u8 32 fun _ => 0) 27)).alloc (.cells (WC (fun _ => 0) (fun _ => 0) 0) 58)) := ((Below.refl _ _).alloc (Nat.le_refl _) _).alloc (by simp) _
  have D0 : Dg w.heap.size w ((w.alloc (.cells (mk .u8 32 fun _ => 0) 27)).alloc (.cells (WC (fun _ => 0) (fun _ => 0) 0) 58)) :=
    ⟨(Row.made w _ _ _ _).alloc _, b0, hT.below b0 hT.1, by simp⟩
  have L0 : ((w.alloc (.cells (mk .u8 32 fun _ => 0) 27)).alloc (.cells (WC (fun _ => 0) (fun _ => 0) 0) 58)).heap[w.heap.size + 1]? = some (.cells (WC (fun _ => 0) (fun _ => 0) 0) 58 (0, 0)) := heap_alloc2_new w _ _
  have HD := Lib.hid D0
  have HL0 := Lib.hid L0
  have z58 := zero58
  clear D0 L0
  rcases hq with ⟨rfl, hL⟩ | ⟨n, rfl, hw⟩
  · have c72 : _ = some (Value.int .u64 0) := (wr_nil _ _ HL0.out).taken
    have HW : Hid (Wr ((w.alloc (.cells (mk .u8 32 fun _ => 0) 27)).alloc (.cells (WC (fun _ => 0) (fun _ => 0) 0) 58)) (w.heap.size + 1) L) := by rw [hL]; exact wr_nil _ _ HL0.out
    have XL : Hid ((0 : Int) = (L.length : Int)) := by rw [hL]; rfl
    have YL : Hid ((0 : Int) = 8 * (L.length : Int)) := by rw [hL]; rfl
    clear HL0 b0 hT hL
    rw [Z27] at HD c72 HW
    go_enter Tryd.func16, Tryd.ntmps16
    go_wp2_with fail
    clear c72 z58
    generalize World.alloc (World.alloc _ _) _ = W2 at *
    refine (put8_any 0 _).mono ?_
    rintro e W3 ⟨rfl, r3, b3⟩
    have D3 := Lib.hid (HD.out.kp (Kp.of_below b3))
    have HW3 := Lib.hid (HW.out.below b3)
    have c72 := HW3.out.taken
    rw [← XL.out] at c72
    have R3 := Lib.hid r3
    have N3 := Lib.hid (show w.heap.size + 2 ≤ W2.heap.size from HD.out.lt)
    have E3 : Hid (Below W2.heap.size W2 W3) := b3
    clear HD HW r3 b3
    go_wp2_with fail
    refine (pad_x 0 L.length _ (by first | rfl | exact XL.out) (by omega)).mono ?_
    clear c72
    rintro e W4 ⟨rfl, r4, b4⟩
    have D4 := Lib.hid (D3.out.kp (Kp.of_below b4))
    have HW4 := Lib.hid (HW3.out.below b4)
    have R34 := Lib.hid (R3.out.below b4 R3.out.lt)
    have N4 := Lib.hid (show w.heap.size + 2 ≤ W3.heap.size from D3.out.lt)
    have PW := write_any (w.heap.size + 1) L (padL L.length) (some ⟨W3.heap.size, 0, none⟩) (1 + zerosOf L.length) W4 HW4.out (padL_byte _) (by rw [padL_len]; have : zerosOf L.length < 64 := Nat.mod_lt _ (by omega); omega) D4.out.tab (by omega)
      (Sl_row r4 (by have := N4.out; omega) (padL_len _) (fun i hi => (padL_get _ i hi).symm)) (by rw [padL_len]; exact Nat.le_refl _) (by unfold maxLen; have : zerosOf L.length < 64 := Nat.mod_lt _ (by omega); omega)
    rw [padL_len] at PW
    clear D3 HW3 R3 r4 b4 N4
    go_wp2_with fail
    refine PW.mono ?_
    clear PW
    rintro e W5 ⟨rfl, s5, k5⟩
    have D5 := Lib.hid (D4.out.kp k5)
    have PW := write_any (w.heap.size + 1) (L ++ padL L.length) (formL (8 * L.length) 8) (some ⟨W2.heap.size, 0, none⟩) 8 W5 s5.wr (formL_byte _ _) (by rw [formL_len, List.length_append, padL_len]; have : zerosOf L.length < 64 := Nat.mod_lt _ (by omega); omega) D5.out.tab (by omega)
      (Sl_row (R34.out.kp k5 (by have := N3.out; omega)) (by have := N3.out; omega) (formL_len _ _) (fun i hi => by rw [formL_get _ _ _ hi, ← (show 0 = 8 * (L.length : Int) by first | rfl | exact YL.out)])) (by rw [formL_len]; exact Nat.le_refl _) (by unfold maxLen; omega)
    rw [formL_len] at PW
    clear D4 HW4 R34 N3 E3 s5 k5
    go_wp2_with fail
    refine PW.mono ?_
    clear PW
    rintro e W6 ⟨rfl, s6, k6⟩
    have D6 := Lib.hid (D5.out.kp k6)
    obtain ⟨p, h6⟩ := Ws.words (L := L) s6
    have n6 := Lib.hid D6.out.lt
    have h7 : (W6.alloc (.cells (mk .u8 32 fun _ => 0) 27)).heap[w.heap.size + 1]? = some (.cells (WC (digSt L).at p (padded L).length) 58 (0, 0)) := by
      rw [Below.heap_alloc _ _ _ (by have := n6.out; omega)]; exact h6
    have R7 := Lib.hid (Row.made W6 27 .u8 32 fun _ => 0)
    have T7 := Lib.hid (D6.out.res.alloc (.cells (mk .u8 32 fun _ => 0) 27))
    have B7 := Lib.hid (D6.out.bel.alloc (by have := n6.out; omega) (.cells (mk .u8 32 fun _ => 0) 27))
    rw [Z27] at h7 R7 T7 B7
    clear D5 D6 s6 k6 h6
    go_wp2_with (refine wpList_load_at rfl 55 (.tmp 23) rfl (w.heap.size + 1) 0 rfl 58 _ (mk .u32 8 (digSt L).at) _ h7 (WC_loadw _ _ _) Tryd.underlying55 rfl (info55 _) ?_)
    clear h7
    generalize World.alloc _ _ = W7 at *
    have S0 := Lib.hid (show ∀ k : Nat, k < 8 → ∀ W, (Instr.index 55 (.agg (mk .u32 8 (digSt L).at)) (.int .i64 k)).run Tryd.prog W = .ok (.int .u32 ((digSt L).at k)) W from fun k hk W => idxW _ k hk W)
    have SO := Lib.hid (show ∀ k : Nat, isW ((digSt L).at k) from fun k => at_isW (after_ok _ _) k)
    try go_frame
    go_loopw [25] (fun i wr => ∃ k : Nat, k ≤ 8 ∧ i = .int .i64 k ∧ Hid (Row wr W6.heap.size 27 .u8 32 fun j => if j < 4 * k then dig L j else 0) ∧ Hid (Row wr w.heap.size 27 .u8 32 fun _ => 0) ∧ Hid (Below w.heap.size w wr)) (fun i _ => 8 - (intOf i).toNat)
    case atStart => exact ⟨0, Nat.zero_le _, rfl, R7.out.congr (fun j _ => by simp), T7.out, B7.out⟩
    case round =>
      clear R7 T7 B7
      obtain ⟨k, hk, rfl, R8, T8, B8⟩ := hrel
      by_cases hlt : k < 8
      · have ik := S0.out k hlt
        have ok := SO.out k
        obtain ⟨x, hx⟩ : ∃ x, (digSt L).at k = x := ⟨_, rfl⟩
        rw [hx] at ik ok
        have HX := Lib.hid hx
        have x1 := ok.1
        have x2 := ok.2
        clear hx ok
        have hsl := slice27l W6.heap.size (4 * k) (4 * (k : Int)) .i64 (by omega) (by omega)
        have i4 : IntKind.i64.wrap (4 * (k : Int)) = 4 * (k : Int) := IntWalk.i64_in _ (by omega)
        have u4 : IntKind.u64.wrap x = x := by rw [show IntKind.u64.wrap x = x % 18446744073709551616 by simp [IntKind.wrap, IntKind.bits, IntKind.signed]]; omega
        have P4 : ∀ W : World, W.heap = wr.heap → W.os = wr.os → W.tape = wr.tape → W.output = wr.output → Calls Tryd.prog 30 #[.slice none 0 0, .int .u64 x, .int .i64 4] W fun e w' => e = .returned (.slice (some ⟨wr.heap.size, 0, none⟩) 4 4) ∧ Q4 wr w' x := fun W h1 h2 h3 h4 => put4_of x wr W h1 h2 h3 h4
        have RH := Lib.hid (fun w3 (h : Q4 wr w3 x) => h.row R8.out)
        go_wp2
        go_region_law (first
          | (refine step_copy_to rfl (.tmp 31) (.tmp 34) 22 22 rfl 5 Tryd.underlying22 size5 W6.heap.size (4 * k) (32 - 4 * k) (32 - 4 * k) ⟨wr.heap.size, 0, none⟩ 4 4 rfl rfl _ 27 (RH.out _ q3.out) ((List.range 4).map fun j => Value.int .u8 (formAt x 4 j)) (show 4 = min 4 (32 - 4 * k) by omega) q3.out.src (by simp [mk_size]; omega) (by intro v hv; simp at hv; obtain ⟨_, _, rfl⟩ := hv; rfl) 4 rfl _ (mk_laid _ _ _ _ _ _ (by omega)) ?_; intro w4 hw4; have HW4 := Lib.hid hw4; clear hw4)
          | (go_simp; go_at_call 30; refine (P4 wr.drew rfl rfl rfl rfl).mono ?_; rintro e w3 ⟨rfl, q3⟩; have q3 := Lib.hid q3))
        go_wp2_with fail
        go_roundw
        case rel => exact ⟨k + 1, by omega, by go_num, by
          unfold Hid
          rw [HW4.out]
          refine (Row.setRow (RH.out _ q3.out) .u8 32 _).congr fun j hj => ?_
          unfold laidIn
          by_cases h1 : 4 * k ≤ j ∧ j < 4 * k + 4
          · rw [if_pos h1, if_pos (by omega), ← HX.out]
            unfold dig
            rw [show j / 4 = k by omega, show j % 4 = j - 4 * k by omega]
          · rw [if_neg h1]
            show (if j < 4 * k then dig L j else 0) = _
            by_cases h2 : j < 4 * k
            · rw [if_pos h2, if_pos (by omega)]
            · rw [if_neg h2, if_neg (by omega)], by
          unfold Hid Row
          rw [HW4.out, setRow_other _ _ _ _ (by have := n6.out; omega)]
          exact q3.out.row T8.out, by
          unfold Hid
          rw [HW4.out]
          exact below_setRow (B8.out.trans (q3.out.bel.mono B8.out.size)) (by have := n6.out; omega) _⟩
        case measure => simp [intOf]; omega
      · have S1 := R8.out.congr (G := dig L) (fun j hj => by rw [if_pos (by omega)])
        have S2 := T8.out
        clear R8 T8
        go_wp2_with (first
          | (refine wpList_load_at rfl 27 (.tmp 5) rfl W6.heap.size 0 rfl 27 _ (mk .u8 32 (dig L)) _ S1 (fun j _ => by rw [Nat.zero_add]) Tryd.underlying27 rfl (info27 _) ?_)
          | (refine wpList_store_row rfl 27 (.tmp 2) (.tmp 37) rfl w.heap.size rfl (mk .u8 32 (dig L)) rfl 27 _ S2 (by simp [mk_size]) (info27 _) (mk_one _ _ _) ?_))
        exact bodyPost_ret (v := .agg (mk .u8 32 (dig L))) (results_cell_row rfl _ _ w.heap.size 27 _ (0, 0) _ rfl (S2.setRow _ _ _) Tryd.underlying27 rfl (info27 _)) rfl ⟨rfl, below_setRow B8.out (Nat.le_refl _) _⟩
  · obtain ⟨H, p0, hf, hr⟩ := hw
    have hn := hf.lt
    have h1 : ((w.alloc (.cells (mk .u8 32 fun _ => 0) 27)).alloc (.cells (WC (fun _ => 0) (fun _ => 0) 0) 58)).heap[n]? = some (.cells (WC H p0 L.length) 58 (0, 0)) := (b0.block n hn).trans hf.heap
    have h2 := HL0.out
    have HW : Hid (Wr (((w.alloc (.cells (mk .u8 32 fun _ => 0) 27)).alloc (.cells (WC (fun _ => 0) (fun _ => 0) 0) 58)).setRow (w.heap.size + 1) (WC H p0 L.length)) (w.heap.size + 1) L) := ⟨H, p0, ⟨setRow_heap _ _ _ _ _ _ h2, hf.byte, hf.part⟩, hr⟩
    have HD : Hid (Dg w.heap.size w (((w.alloc (.cells (mk .u8 32 fun _ => 0) 27)).alloc (.cells (WC (fun _ => 0) (fun _ => 0) 0) 58)).setRow (w.heap.size + 1) (WC H p0 L.length))) := HD.out.kp (Kp.setRow _ _ _)
    have c72 := HW.out.taken
    have XL : Hid ((L.length : Int) = (L.length : Int)) := rfl
    have YL : Hid (8 * (L.length : Int) = 8 * (L.length : Int)) := rfl
    clear HL0 b0 hT hf hr hn
    rw [Z27] at HD c72 HW h1 h2
    go_enter Tryd.func16, Tryd.ntmps16
    go_wp2_with (first
      | (refine wpList_load_at rfl 58 (.tmp 11) rfl n 0 rfl 58 _ (WC H p0 L.length) _ h1 (fun j _ => by rw [Nat.zero_add]) Tryd.underlying58 rfl (info58 _ _ _) ?_)
      | (refine wpList_store_row rfl 58 (.tmp 3) (.tmp 12) rfl (w.heap.size + 1) rfl (WC H p0 L.length) rfl 58 _ h2 (by simp [WC_size]) (info58 _ _ _) (WC_one _ _ _) ?_))
    clear c72 z58 h1 h2
    generalize World.setRow (World.alloc (World.alloc _ _) _) _ _ = W2 at *
    refine (put8_any (8 * (L.length : Int)) _).mono ?_
    rintro e W3 ⟨rfl, r3, b3⟩
    have D3 := Lib.hid (HD.out.kp (Kp.of_below b3))
    have HW3 := Lib.hid (HW.out.below b3)
    have c72 := HW3.out.taken
    skip
    have R3 := Lib.hid r3
    have N3 := Lib.hid (show w.heap.size + 2 ≤ W2.heap.size from HD.out.lt)
    have E3 : Hid (Below W2.heap.size W2 W3) := b3
    clear HD HW r3 b3
    go_wp2_with fail
    refine (pad_x (L.length : Int) L.length _ (by first | rfl | exact XL.out) (by omega)).mono ?_
    clear c72
    rintro e W4 ⟨rfl, r4, b4⟩
    have D4 := Lib.hid (D3.out.kp (Kp.of_below b4))
    have HW4 := Lib.hid (HW3.out.below b4)
    have R34 := Lib.hid (R3.out.below b4 R3.out.lt)
    have N4 := Lib.hid (show w.heap.size + 2 ≤ W3.heap.size from D3.out.lt)
    have PW := write_any (w.heap.size + 1) L (padL L.length) (some ⟨W3.heap.size, 0, none⟩) (1 + zerosOf L.length) W4 HW4.out (padL_byte _) (by rw [padL_len]; have : zerosOf L.length < 64 := Nat.mod_lt _ (by omega); omega) D4.out.tab (by omega)
      (Sl_row r4 (by have := N4.out; omega) (padL_len _) (fun i hi => (padL_get _ i hi).symm)) (by rw [padL_len]; exact Nat.le_refl _) (by unfold maxLen; have : zerosOf L.length < 64 := Nat.mod_lt _ (by omega); omega)
    rw [padL_len] at PW
    clear D3 HW3 R3 r4 b4 N4
    go_wp2_with fail
    refine PW.mono ?_
    clear PW
    rintro e W5 ⟨rfl, s5, k5⟩
    have D5 := Lib.hid (D4.out.kp k5)
    have PW := write_any (w.heap.size + 1) (L ++ padL L.length) (formL (8 * L.length) 8) (some ⟨W2.heap.size, 0, none⟩) 8 W5 s5.wr (formL_byte _ _) (by rw [formL_len, List.length_append, padL_len]; have : zerosOf L.length < 64 := Nat.mod_lt _ (by omega); omega) D5.out.tab (by omega)
      (Sl_row (R34.out.kp k5 (by have := N3.out; omega)) (by have := N3.out; omega) (formL_len _ _) (fun i hi => by rw [formL_get _ _ _ hi, ← (show (8 * (L.length : Int)) = 8 * (L.length : Int) by first | rfl | exact YL.out)])) (by rw [formL_len]; exact Nat.le_refl _) (by unfold maxLen; omega)
    rw [formL_len] at PW
    clear D4 HW4 R34 N3 E3 s5 k5
    go_wp2_with fail
    refine PW.mono ?_
    clear PW
    rintro e W6 ⟨rfl, s6, k6⟩
    have D6 := Lib.hid (D5.out.kp k6)
    obtain ⟨p, h6⟩ := Ws.words (L := L) s6
    have n6 := Lib.hid D6.out.lt
    have h7 : (W6.alloc (.cells (mk .u8 32 fun _ => 0) 27)).heap[w.heap.size + 1]? = some (.cells (WC (digSt L).at p (padded L).length) 58 (0, 0)) := by
      rw [Below.heap_alloc _ _ _ (by have := n6.out; omega)]; exact h6
    have R7 := Lib.hid (Row.made W6 27 .u8 32 fun _ => 0)
    have T7 := Lib.hid (D6.out.res.alloc (.cells (mk .u8 32 fun _ => 0) 27))
    have B7 := Lib.hid (D6.out.bel.alloc (by have := n6.out; omega) (.cells (mk .u8 32 fun _ => 0) 27))
    rw [Z27] at h7 R7 T7 B7
    clear D5 D6 s6 k6 h6
    go_wp2_with (refine wpList_load_at rfl 55 (.tmp 23) rfl (w.heap.size + 1) 0 rfl 58 _ (mk .u32 8 (digSt L).at) _ h7 (WC_loadw _ _ _) Tryd.underlying55 rfl (info55 _) ?_)
    clear h7
    generalize World.alloc _ _ = W7 at *
    have S0 := Lib.hid (show ∀ k : Nat, k < 8 → ∀ W, (Instr.index 55 (.agg (mk .u32 8 (digSt L).at)) (.int .i64 k)).run Tryd.prog W = .ok (.int .u32 ((digSt L).at k)) W from fun k hk W => idxW _ k hk W)
    have SO := Lib.hid (show ∀ k : Nat, isW ((digSt L).at k) from fun k => at_isW (after_ok _ _) k)
    try go_frame
    go_loopw [25] (fun i wr => ∃ k : Nat, k ≤ 8 ∧ i = .int .i64 k ∧ Hid (Row wr W6.heap.size 27 .u8 32 fun j => if j < 4 * k then dig L j else 0) ∧ Hid (Row wr w.heap.size 27 .u8 32 fun _ => 0) ∧ Hid (Below w.heap.size w wr)) (fun i _ => 8 - (intOf i).toNat)
    case atStart => exact ⟨0, Nat.zero_le _, rfl, R7.out.congr (fun j _ => by simp), T7.out, B7.out⟩
    case round =>
      clear R7 T7 B7
      obtain ⟨k, hk, rfl, R8, T8, B8⟩ := hrel
      by_cases hlt : k < 8
      · have ik := S0.out k hlt
        have ok := SO.out k
        obtain ⟨x, hx⟩ : ∃ x, (digSt L).at k = x := ⟨_, rfl⟩
        rw [hx] at ik ok
        have HX := Lib.hid hx
        have x1 := ok.1
        have x2 := ok.2
        clear hx ok
        have hsl := slice27l W6.heap.size (4 * k) (4 * (k : Int)) .i64 (by omega) (by omega)
        have i4 : IntKind.i64.wrap (4 * (k : Int)) = 4 * (k : Int) := IntWalk.i64_in _ (by omega)
        have u4 : IntKind.u64.wrap x = x := by rw [show IntKind.u64.wrap x = x % 18446744073709551616 by simp [IntKind.wrap, IntKind.bits, IntKind.signed]]; omega
        have P4 : ∀ W : World, W.heap = wr.heap → W.os = wr.os → W.tape = wr.tape → W.output = wr.output → Calls Tryd.prog 30 #[.slice none 0 0, .int .u64 x, .int .i64 4] W fun e w' => e = .returned (.slice (some ⟨wr.heap.size, 0, none⟩) 4 4) ∧ Q4 wr w' x := fun W h1 h2 h3 h4 => put4_of x wr W h1 h2 h3 h4
        have RH := Lib.hid (fun w3 (h : Q4 wr w3 x) => h.row R8.out)
        go_wp2
        go_region_law (first
          | (refine step_copy_to rfl (.tmp 31) (.tmp 34) 22 22 rfl 5 Tryd.underlying22 size5 W6.heap.size (4 * k) (32 - 4 * k) (32 - 4 * k) ⟨wr.heap.size, 0, none⟩ 4 4 rfl rfl _ 27 (RH.out _ q3.out) ((List.range 4).map fun j => Value.int .u8 (formAt x 4 j)) (show 4 = min 4 (32 - 4 * k) by omega) q3.out.src (by simp [mk_size]; omega) (by intro v hv; simp at hv; obtain ⟨_, _, rfl⟩ := hv; rfl) 4 rfl _ (mk_laid _ _ _ _ _ _ (by omega)) ?_; intro w4 hw4; have HW4 := Lib.hid hw4; clear hw4)
          | (go_simp; go_at_call 30; refine (P4 wr.drew rfl rfl rfl rfl).mono ?_; rintro e w3 ⟨rfl, q3⟩; have q3 := Lib.hid q3))
        go_wp2_with fail
        go_roundw
        case rel => exact ⟨k + 1, by omega, by go_num, by
          unfold Hid
          rw [HW4.out]
          refine (Row.setRow (RH.out _ q3.out) .u8 32 _).congr fun j hj => ?_
          unfold laidIn
          by_cases h1 : 4 * k ≤ j ∧ j < 4 * k + 4
          · rw [if_pos h1, if_pos (by omega), ← HX.out]
            unfold dig
            rw [show j / 4 = k by omega, show j % 4 = j - 4 * k by omega]
          · rw [if_neg h1]
            show (if j < 4 * k then dig L j else 0) = _
            by_cases h2 : j < 4 * k
            · rw [if_pos h2, if_pos (by omega)]
            · rw [if_neg h2, if_neg (by omega)], by
          unfold Hid Row
          rw [HW4.out, setRow_other _ _ _ _ (by have := n6.out; omega)]
          exact q3.out.row T8.out, by
          unfold Hid
          rw [HW4.out]
          exact below_setRow (B8.out.trans (q3.out.bel.mono B8.out.size)) (by have := n6.out; omega) _⟩
        case measure => simp [intOf]; omega
      · have S1 := R8.out.congr (G := dig L) (fun j hj => by rw [if_pos (by omega)])
        have S2 := T8.out
        clear R8 T8
        go_wp2_with (first
          | (refine wpList_load_at rfl 27 (.tmp 5) rfl W6.heap.size 0 rfl 27 _ (mk .u8 32 (dig L)) _ S1 (fun j _ => by rw [Nat.zero_add]) Tryd.underlying27 rfl (info27 _) ?_)
          | (refine wpList_store_row rfl 27 (.tmp 2) (.tmp 37) rfl w.heap.size rfl (mk .u8 32 (dig L)) rfl 27 _ S2 (by simp [mk_size]) (info27 _) (mk_one _ _ _) ?_))
        exact bodyPost_ret (v := .agg (mk .u8 32 (dig L))) (results_cell_row rfl _ _ w.heap.size 27 _ (0, 0) _ rfl (S2.setRow _ _ _) Tryd.underlying27 rfl (info27 _)) rfl ⟨rfl, below_setRow B8.out (Nat.le_refl _) _⟩
end Go.Proofs.YtbdahkbgjbaenaaDoor
