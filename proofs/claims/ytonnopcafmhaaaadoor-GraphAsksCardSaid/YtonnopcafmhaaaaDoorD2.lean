/- Contracts: the reference's Order. -/
import Derived.Test.YtonnopcafmhaaaaDoorD1
namespace Go.Proofs.YtonnopcafmhaaaaDoor
open Go.RowKit

/-- what of a graph's memory the walks read, in any later world -/
structure RGw (B g n : Nat) (A : Nat → Nat → Bool) (w : World) (sp : Option Addr) (cap : Nat) : Prop where
  c0 : ∀ W, Below B w W → W.cell? ⟨g, 0, none⟩ = some (.int .i64 (n : Int))
  c1 : ∀ W, Below B w W → W.cell? ⟨g, 1, none⟩ = some (.slice sp n cap)
  rows : ∀ W, Below B w W → ∀ i, i < n → ∃ r q, sp = some ⟨r, 0, none⟩ ∧ W.cell? ⟨r, i, none⟩ = some (rv n q) ∧ Bl W q n (A i)
theorem RG.open {w : World} {g n : Nat} {A : Nat → Nat → Bool} (h : RG w g n A) : ∃ sp cap, RGw w.heap.size g n A w sp cap := by
  obtain ⟨sp, cap, h1, h2⟩ := h.c1
  have hg := h.lt
  refine ⟨sp, cap, ⟨fun W b => (b.cell (p := ⟨g, 0, none⟩) hg).trans h.c0, fun W b => (b.cell (p := ⟨g, 1, none⟩) hg).trans h1, fun W b i hi => ?_⟩⟩
  obtain ⟨r, q, e, h3, h4, h5⟩ := h2 i hi
  exact ⟨r, q, e, (b.cell (p := ⟨r, i, none⟩) h3).trans h4, below_row b h5 (World.rowIs.lt h5)⟩
/-- the least next one of those from p on -/
def Nx (A : Nat → Nat → Bool) (N : Nat) (d : Nat → Bool) (p : Nat) (y : Int) : Prop :=
  (y = -1 ∧ ∀ j, p ≤ j → j < N → ready A N d j = false) ∨ ∃ x : Nat, y = x ∧ p ≤ x ∧ x < N ∧ ready A N d x = true ∧ ∀ j, p ≤ j → j < x → ready A N d j = false
theorem Nx.start (A : Nat → Nat → Bool) (N : Nat) (d : Nat → Bool) : Nx A N d N (-1) := .inl ⟨rfl, fun j h1 h2 => by omega⟩
theorem Nx.yes {A : Nat → Nat → Bool} {N s : Nat} {d : Nat → Bool} (hs : s < N) (hr : ready A N d s = true) : Nx A N d s (s : Int) := .inr ⟨s, rfl, Nat.le_refl _, hs, hr, fun j h1 h2 => by omega⟩
theorem Nx.no {A : Nat → Nat → Bool} {N s : Nat} {d : Nat → Bool} {y : Int} (h : Nx A N d (s + 1) y) (hr : ready A N d s = false) : Nx A N d s y := by
  rcases h with ⟨h1, h2⟩ | ⟨x, h1, h2, h3, h4, h5⟩
  · exact .inl ⟨h1, fun j hj hN => by
      by_cases e : j = s
      · subst e; exact hr
      · exact h2 j (by omega) hN⟩
  · exact .inr ⟨x, h1, by omega, h3, h4, fun j hj hx => by
      by_cases e : j = s
      · subst e; exact hr
      · exact h5 j (by omega) hx⟩
theorem Nx.next {A : Nat → Nat → Bool} {N : Nat} {d : Nat → Bool} {y : Int} (h : Nx A N d 0 y) : (y = -1 ∧ nextM A N d = none) ∨ ∃ x : Nat, y = x ∧ x < N ∧ nextM A N d = some x := by
  rcases h with ⟨h1, h2⟩ | ⟨x, h1, h2, h3, h4, h5⟩
  · exact .inl ⟨h1, next_not fun j hj => h2 j (Nat.zero_le _) hj⟩
  · exact .inr ⟨x, h1, h3, next_is h3 h4 fun j hj => h5 j (Nat.zero_le _) hj⟩
/-- next so far -/
def rdy (A : Nat → Nat → Bool) (d : Nat → Bool) (i k : Nat) : Bool := !d i && (List.range k).all fun q => !A i q || d q
theorem rdy_end (A : Nat → Nat → Bool) (N : Nat) (d : Nat → Bool) (i : Nat) : rdy A d i N = ready A N d i := rfl
theorem rdy_0 (A : Nat → Nat → Bool) (d : Nat → Bool) (i : Nat) : rdy A d i 0 = !d i := by simp [rdy]
theorem rdy_step (A : Nat → Nat → Bool) (d : Nat → Bool) (i k : Nat) : rdy A d i (k + 1) = (rdy A d i k && (!A i k || d k)) := by
  unfold rdy
  rw [List.range_succ, List.all_append, ← Bool.and_assoc]; simp
/-- where the reference's Order stands -/
def Ot (A : Nat → Nat → Bool) (N t : Nat) (d : Nat → Bool) (L : List Nat) : Prop :=
  L ++ ordM A N (N - t) d = oL A N ∧ doneM A N (N - t) d = doneM A N N (fun _ => false) ∧ L.length ≤ t
theorem Ot.start (A : Nat → Nat → Bool) (N : Nat) : Ot A N 0 (fun _ => false) [] := ⟨rfl, rfl, Nat.le_refl _⟩
theorem Ot.yes {A : Nat → Nat → Bool} {N t x : Nat} {d : Nat → Bool} {L : List Nat} (h : Ot A N t d L) (ht : t < N) (hx : nextM A N d = some x) : Ot A N (t + 1) (upd d x) (L ++ [x]) := by
  obtain ⟨h1, h2, h3⟩ := h
  rw [show N - t = (N - (t + 1)) + 1 by omega] at h1 h2
  rw [(ord_go hx _).1] at h1
  rw [(ord_go hx _).2] at h2
  exact ⟨by rw [List.append_assoc]; exact h1, h2, by rw [List.length_append]; simp; omega⟩
theorem Ot.no {A : Nat → Nat → Bool} {N t : Nat} {d : Nat → Bool} {L : List Nat} (h : Ot A N t d L) (hx : nextM A N d = none) : Ot A N (t + 1) d L := by
  obtain ⟨h1, h2, h3⟩ := h
  rw [(ord_stop hx _).1] at h1
  rw [(ord_stop hx _).2] at h2
  exact ⟨by rw [(ord_stop hx _).1]; exact h1, by rw [(ord_stop hx _).2]; exact h2, by omega⟩
theorem Ot.done {A : Nat → Nat → Bool} {N : Nat} {d : Nat → Bool} {L : List Nat} (h : Ot A N N d L) : L = oL A N ∧ d = doneM A N N (fun _ => false) := by
  obtain ⟨h1, h2, -⟩ := h
  rw [Nat.sub_self] at h1 h2
  exact ⟨by rw [← h1]; show L = L ++ []; rw [List.append_nil], h2⟩
/-- what it holds of memory: what is done, the order so far -/
def RO (B n : Nat) (w0 : World) (d : Nat → Bool) (v : Value) (L : List Nat) (W : World) : Prop := Bl W B n d ∧ W.ownsRow (B + 1) 3 1 v L.length (iv (nl L)) ∧ Below B w0 W
theorem lstN_yes {S : Nat → Bool} {n : Nat} (h : S n = true) : lstN S (n + 1) = lstN S n ++ [n] := by
  unfold lstN; rw [List.range_succ, List.filter_append]; simp [h]
theorem lstN_no {S : Nat → Bool} {n : Nat} (h : S n = false) : lstN S (n + 1) = lstN S n := by
  unfold lstN; rw [List.range_succ, List.filter_append]; simp [h]
theorem lst_stuck {A : Nat → Nat → Bool} {N : Nat} (hN : N ≤ 128) : lst (stuckS A N) 128 = nl (lstN (stuckS A N) N) := by
  have h := lst_skip (S := stuckS A N) (n := N) (128 - N) fun j _ => by unfold stuckS; rw [decide_eq_false (by omega)]; rfl
  rw [show N + (128 - N) = 128 by omega] at h
  rw [h]; rfl
set_option maxRecDepth 20000 in
set_option maxHeartbeats 8000000 in
theorem rorder_any {w : World} {g n : Nat} {A : Nat → Nat → Bool} (h : RG w g n A) :
    Calls Tryd.prog 25 #[.pointer (some ⟨g, 0, none⟩)] w fun e w' => ∃ v1 v2, e = .returned (.tuple #[v1, v2]) ∧ Is w' w.heap.size v1 (nl (oL A n)) ∧ Is w' w.heap.size v2 (lst (stuckS A n) 128) ∧ Below w.heap.size w w' := by
  obtain ⟨i3, hi3, hz0, hz1, hz2⟩ := info_parts info3
  have hn := h.le
  obtain ⟨sp, cap, HG⟩ := h.open
  have HG := Lib.hid HG
  obtain ⟨B, hB⟩ : ∃ k, w.heap.size = k := ⟨_, rfl⟩
  rw [hB] at HG
  have HB := Lib.hid hB
  have hmk := run_make_row' (P := Tryd.prog) 55 4 (.bool false) 1 Tryd.underlying55 info4 rfl .i64 .i64 n (by omega) (by omega)
  have HMK := Lib.hid (World.rowIs_made w (.bool false) n 4)
  have HBM : Hid (Below B w (w.alloc (.cells (madeCells #[.bool false] n) 4))) := (Below.refl _ _).alloc (by omega) _
  rw [hB] at HMK
  have k0 := HG.out.c0 w (Below.refl _ _)
  clear h
  go_enter Tryd.func25, Tryd.ntmps25
  go_wp2
  clear hB
  go_loopg [4, 7] n (fun k v c wr => ∃ (t : Nat) (d : Nat → Bool) (L : List Nat), t ≤ n ∧ k = n - t ∧ c = .int .i64 t ∧ Hid (Ot A n t d L) ∧ Hid (RO B n w d v L wr))
  case atStart => exact ⟨0, fun _ => false, [], by omega, by omega, rfl, Ot.start A n, HMK.out, World.ownsRow_nil _ _ _ _, HBM.out⟩
  case round =>
    clear HMK HBM k0
    obtain ⟨t, d, L, ht, rfl, rfl, HO, HR⟩ := hrel
    have hb0 := HG.out.c0 _ HR.out.2.2
    by_cases htl : t < n
    · have t0 : (0 : Int) ≤ t := by omega
      have tn : (t : Int) < n := by omega
      have hs1 : IntKind.i64.wrap ((n : Int) - 1) = (n : Int) - 1 := IntWalk.i64_in _ ⟨by omega, by omega⟩
      go_wp2
      clear hs1
      go_loopg [8, 9] n (fun k y c w2 => ∃ z yv : Int, k ≤ n ∧ c = .int .i64 z ∧ y = .int .i64 yv ∧ Hid (z = (k : Int) - 1) ∧ Hid (Nx A n d k yv) ∧ wr = w2)
      case atStart => exact ⟨_, _, by omega, rfl, rfl, rfl, Nx.start A n d, rfl⟩
      case round =>
        obtain ⟨z, yv, hp, rfl, rfl, HZ, HN, rfl⟩ := hrel
        cases gk with
        | succ s =>
          have hz : z = (s : Int) := by have := HZ.out; omega
          subst hz
          have cd := HR.out.1.cell (i := s) (by omega)
          have s0 : (0 : Int) ≤ s := by omega
          have sn : (s : Int) < n := by omega
          clear HZ
          go_wp2
          go_loopg [10, 11] n (fun k b c w2 => ∃ (q : Nat) (bv : Bool), q ≤ n ∧ k = n - q ∧ c = .int .i64 q ∧ b = .bool bv ∧ Hid (bv = rdy A d s q) ∧ wr = w2)
          case atStart => exact ⟨0, !d s, by omega, by omega, rfl, rfl, by unfold Hid; rw [rdy_0], rfl⟩
          case round =>
            obtain ⟨q, bv, hq, rfl, rfl, rfl, HBV, rfl⟩ := hrel
            by_cases hqn : q < n
            · obtain ⟨r, qb, rfl, k1, k2⟩ := HG.out.rows _ HR.out.2.2 s (by omega)
              have k3 := HG.out.c1 _ HR.out.2.2
              have ca := World.rowIs.cell k2 hqn
              have cq := HR.out.1.cell hqn
              have q0 : (0 : Int) ≤ q := by omega
              have qn : (q : Int) < n := by omega
              have HST := rdy_step A d s q
              rw [← HBV.out] at HST
              have HST := Lib.hid HST
              unfold rv at k1
              clear k2 HBV
              cases ha : A s q with
              | false =>
                rw [ha] at ca HST
                clear ha
                go_wp2
                go_roundg (n - (q + 1))
                case rel => exact ⟨q + 1, bv, by omega, rfl, by go_num, rfl, by rw [Bool.not_false, Bool.true_or, Bool.and_true] at HST; exact HST.out.symm, rfl⟩
                case measure => omega
              | true =>
                rw [ha] at ca HST
                clear ha
                cases hdq : d q with
                | true =>
                  rw [hdq] at cq HST
                  clear hdq
                  go_wp2
                  go_roundg (n - (q + 1))
                  case rel => exact ⟨q + 1, bv, by omega, rfl, by go_num, rfl, by rw [Bool.or_true, Bool.and_true] at HST; exact HST.out.symm, rfl⟩
                  case measure => omega
                | false =>
                  rw [hdq] at cq HST
                  clear hdq
                  go_wp2
                  go_roundg (n - (q + 1))
                  case rel => exact ⟨q + 1, false, by omega, rfl, by go_num, rfl, by rw [Bool.not_true, Bool.or_false, Bool.and_false] at HST; exact HST.out.symm, rfl⟩
                  case measure => omega
            · have hqn : q = n := by omega
              subst hqn
              have HRY : Hid (bv = ready A q d s) := HBV.out
              have hs2 : IntKind.i64.wrap ((s : Int) - 1) = (s : Int) - 1 := IntWalk.i64_in _ ⟨by omega, by omega⟩
              clear HBV
              cases bv with
              | true =>
                have HN2 : Hid (Nx A q d s (s : Int)) := Nx.yes (by omega) HRY.out.symm
                go_wp2
                go_roundg s
                case rel => exact ⟨_, _, by omega, rfl, rfl, rfl, HN2.out, rfl⟩
                case measure => omega
              | false =>
                have HN2 : Hid (Nx A q d s yv) := HN.out.no HRY.out.symm
                go_wp2
                go_roundg s
                case rel => exact ⟨_, _, by omega, rfl, rfl, rfl, HN2.out, rfl⟩
                case measure => omega
        | zero =>
          have hz : z = -1 := by have := HZ.out; omega
          subst hz
          have HNN := Lib.hid HN.out.next
          clear HZ HN
          rcases HNN.out with ⟨rfl, hno⟩ | ⟨x, rfl, hxn, hyes⟩
          · have HO2 := Lib.hid (HO.out.no hno)
            clear hno HNN HO
            go_wp2
            go_roundg (n - (t + 1))
            case rel => exact ⟨t + 1, d, L, by omega, rfl, by go_num, HO2.out, HR.out⟩
            case measure => omega
          · have HO2 := Lib.hid (HO.out.yes htl hyes)
            have cx := HR.out.1.cell hxn
            have fx := HR.out.1.frozen x
            have x0 : (0 : Int) ≤ x := by omega
            have xn : (x : Int) < n := by omega
            have hlt3 := HO.out.2.2
            have HL3 := Lib.hid hlt3
            have hsz := World.rowIs.lt HR.out.1
            have HR2 : Hid (RO B n w (upd d x) u4 L (wr.setCell ⟨B, x, none⟩ (.bool true))) := by
              refine ⟨(HR.out.1.set x (.bool true)).congr fun k _ => ?_, owns_exc HR.out.2.1 (exc_set wr B x (.bool true) 0) (fun e => by have := (HR.out.2.1.lt B e).1; omega), HR.out.2.2.trans ((exc_set wr B x (.bool true) 0).below1 (by have := HR.out.2.2.size; have := HB.out; omega) (Nat.le_refl _))⟩
              unfold upd
              by_cases e : k = x
              · rw [if_pos e, if_pos e]
              · rw [if_neg e, if_neg e]
            have HB1 : Hid (B + 1 ≤ (wr.setCell ⟨B, x, none⟩ (.bool true)).heap.size) := by unfold Hid; have := World.rowIs.lt HR2.out.1; omega
            have HOW := Lib.hid (HR2.out.2.1.alloc (.cells #[.int .i64 (x : Int)] 3))
            have HLX : Hid (L.length ≤ 128) := by unfold Hid; omega
            clear hyes HNN HO HR hlt3 hsz
            go_wp2_with (at_builtin; go_must (refine wpList_append_own _ rfl (.tmp 72) (.tmp 74) 23 rfl (B + 1) 3 i3 (.int .i64 0) 1 8 Tryd.underlying23 hi3 hz0 hz1 hz2 rfl (by decide) _ L.length _ rfl HOW.out ⟨wr.heap.size, 0, none⟩ 1 1 [.int .i64 (x : Int)] rfl rfl (by have := cell_one_new (wr.setCell ⟨B, x, none⟩ (.bool true)) (.int .i64 (x : Int)) 3; simpa [World.setCell] using this) (by intro u hu; simp at hu; subst hu; rfl) (by have := HLX.out; unfold maxLen; omega) (by have := HLX.out; omega) (by have := HB1.out; simp at this ⊢; omega) ?_))
            intro v7 w7 o7 g7 _
            have HR7 : Hid (RO B n w (upd d x) v7 (L ++ [x]) w7) := by
              have hne : ∀ k, k < B + 1 → w7.heap[k]? = ((wr.setCell ⟨B, x, none⟩ (.bool true)).alloc (.cells #[.int .i64 (x : Int)] 3)).heap[k]? := fun k hk => g7.block k (by have := HB1.out; simp at this ⊢; omega) (fun e => by have := (HOW.out.lt k e.symm).1; omega)
              refine ⟨World.rowIs.of_block (World.rowIs.alloc HR2.out.1 (.cells #[.int .i64 (x : Int)] 3)) (hne B (by omega)), ?_, (HR2.out.2.2.alloc (by have := HB1.out; omega) _).grown g7 (by have := HB1.out; simp at this ⊢; omega) (fun k hk => by have := (HOW.out.lt k hk).1; omega)⟩
              rw [nl_snoc, iv_snoc, List.length_append]
              exact o7
            clear o7 g7 HR2 HOW HB1 cx fx
            go_wp2_with fail
            go_roundg (n - (t + 1))
            case rel => exact ⟨t + 1, _, _, by omega, rfl, by go_num, HO2.out, HR7.out⟩
            case measure => omega
    · have htn : t = n := by omega
      subst htn
      obtain ⟨wA, hwA⟩ : ∃ x, x = wr := ⟨_, rfl⟩
      subst hwA
      obtain ⟨hL, hD⟩ := HO.out.done
      have HD := Lib.hid hD
      obtain ⟨p1, c1, rfl, i1, i2, i4, i5⟩ := owns_form1 HR.out.2.1
      have HI1 : Hid (Is wA w.heap.size (.slice p1 L.length c1) (nl (oL A t))) := by
        have h1 : Ow wA (B + 1) (.slice p1 L.length c1) (nl L) := by
          show World.ownsRow _ _ _ _ _ (nl L).length _
          rw [nl_len]; exact HR.out.2.1
        have h2 := h1.is.mono (B' := w.heap.size) (by have := HB.out; omega)
        rw [← hL]; exact h2
      have HLO := Lib.hid hL
      clear hL hD HO i1 i2 i4 i5
      obtain ⟨H, hH⟩ : ∃ k, wA.heap.size = k := ⟨_, rfl⟩
      have HH := Lib.hid hH
      have hBH : B < H := by have := World.rowIs.lt HR.out.1; omega
      clear hH
      generalize hll : L.length = ll at *
      clear hll
      go_wp2
      go_loopg [5, 12] t (fun k v c w2 => ∃ s : Nat, s ≤ t ∧ k = t - s ∧ c = .int .i64 s ∧ Hid (w2.ownsRow H 3 1 v (lstN (stuckS A t) s).length (iv (nl (lstN (stuckS A t) s)))) ∧ Hid (Below H wA w2))
      case atStart => exact ⟨0, by omega, by omega, rfl, World.ownsRow_nil _ _ _ _, Below.refl _ _⟩
      case round =>
        obtain ⟨s, hs, rfl, rfl, HO, HW⟩ := hrel
        have HWW : Hid (Below B w wr) := HR.out.2.2.trans (HW.out.mono (Nat.le_of_lt hBH))
        have k0 := HG.out.c0 _ HWW.out
        have hsz : Hid (H ≤ wr.heap.size) := by unfold Hid; exact Nat.le_trans (Nat.le_of_eq HH.out.symm) HW.out.size
        by_cases hst : s < t
        · have cd := (below_row HW.out HR.out.1 hBH).cell (i := s) hst
          have s0 : (0 : Int) ≤ s := by omega
          have sn : (s : Int) < t := by omega
          have hDs : d s = doneM A t t (fun _ => false) s := by rw [← HD.out]
          cases hd : d s with
          | true =>
            have hS : stuckS A t s = false := by unfold stuckS; rw [← hDs, hd]; simp
            have HO2 := HO
            rw [← lstN_no hS] at HO2
            rw [hd] at cd
            clear hS hDs hd HO
            go_wp2
            go_roundg (t - (s + 1))
            case rel => exact ⟨s + 1, by omega, rfl, by go_num, HO2.out, HW.out⟩
            case measure => omega
          | false =>
            have hS : stuckS A t s = true := by unfold stuckS; rw [← hDs, hd, decide_eq_true hst]; rfl
            have HYS := Lib.hid (lstN_yes hS)
            have HLX : Hid ((lstN (stuckS A t) s).length ≤ 128) := by
              unfold Hid
              rw [lstN_len]
              exact Nat.le_trans (cnt_le _ _) (by omega)
            have HOW := Lib.hid (HO.out.alloc (.cells #[.int .i64 (s : Int)] 3))
            rw [hd] at cd
            generalize hLs : lstN (stuckS A t) s = Ls at *
            clear hS hDs hd hLs
            go_wp2_with (at_builtin; go_must (refine wpList_append_own _ rfl (.tmp 89) (.tmp 91) 23 rfl H 3 i3 (.int .i64 0) 1 8 Tryd.underlying23 hi3 hz0 hz1 hz2 rfl (by decide) _ Ls.length _ rfl HOW.out ⟨wr.heap.size, 0, none⟩ 1 1 [.int .i64 (s : Int)] rfl rfl (cell_one_new _ _ _) (by intro u hu; simp at hu; subst hu; rfl) (by have := HLX.out; unfold maxLen; omega) (by have := HLX.out; omega) (by have := hsz.out; simp; omega) ?_))
            intro v7 w7 o7 g7 _
            have HO7 : Hid (w7.ownsRow H 3 1 v7 (lstN (stuckS A t) (s + 1)).length (iv (nl (lstN (stuckS A t) (s + 1))))) := by
              unfold Hid
              rw [HYS.out, nl_snoc, iv_snoc, List.length_append]
              exact o7
            have HW7 : Hid (Below H wA w7) := (HW.out.alloc hsz.out _).grown g7 (by have := hsz.out; simp; omega) (fun k hk => (HOW.out.lt k hk).1)
            clear o7 g7 HO HOW hsz HW cd HWW k0
            go_wp2_with fail
            go_roundg (t - (s + 1))
            case rel => exact ⟨s + 1, by omega, rfl, by go_num, HO7.out, HW7.out⟩
            case measure => omega
        · have hst : s = t := by omega
          subst hst
          obtain ⟨p2, c2, rfl, -, -, -, -⟩ := owns_form1 HO.out
          have HI2 : Hid (Is wr w.heap.size (.slice p2 (lstN (stuckS A s) s).length c2) (lst (stuckS A s) 128)) := by
            have h1 : Ow wr H (.slice p2 (lstN (stuckS A s) s).length c2) (nl (lstN (stuckS A s) s)) := by
              show World.ownsRow _ _ _ _ _ (nl _).length _
              rw [nl_len]; exact HO.out
            rw [lst_stuck hn]
            exact h1.is.mono (B' := w.heap.size) (by have := HB.out; omega)
          have HI12 := Lib.hid (HI1.out.below (HW.out.mono (Nat.le_of_eq HH.out)))
          have HE : Hid (Below w.heap.size w wr) := by unfold Hid; rw [HB.out]; exact HWW.out
          clear HO HW HWW hsz
          go_wp2
          exact bodyPost_ret (results_tmp2 rfl _ _ _) rfl ⟨.slice p1 ll c1, .slice p2 (lstN (stuckS A s) s).length c2, rfl, HI12.out, HI2.out, HE.out⟩
end Go.Proofs.YtonnopcafmhaaaaDoor
