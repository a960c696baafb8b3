/- Contracts: Unhex, of the program and of the reference. -/
import Derived.Test.YtbdahkbgjbaenaaDoorT
namespace Go.Proofs.YtbdahkbgjbaenaaDoor
open Go.RowKit

/-- a text's byte -/
def sb (s : ByteArray) (j : Nat) : Int := if h : j < s.size then (s[j].toNat : Int) else 0
theorem sb_bd (s : ByteArray) (j : Nat) : 0 ≤ sb s j ∧ sb s j < 256 := by
  unfold sb; split
  · rename_i h; have := s[j].toNat_lt; omega
  · omega
theorem idx_sb (s : ByteArray) (j : Nat) (x : Int) (hx : x = j) (h : j < s.size) (W : World) : (Instr.index 9 (.string s) (.int .i64 x)).run Tryd.prog W = .ok (.int .u8 (sb s j)) W := by
  subst hx
  have e : s[j]? = some s[j] := by simp [h]
  unfold sb
  rw [dif_pos h]
  simp [Instr.index, run_underlying Tryd.underlying9, e, asIntOf, Sem.run_pure]
def uxF (s : ByteArray) (j : Nat) : Int := dgv (sb s (2 * j)) * 16 + dgv (sb s (2 * j + 1))
theorem or8 (x y : Int) (h1 : 0 ≤ x ∧ x < 16) (h3 : 0 ≤ y ∧ y < 16) : bits .or .u8 (x * 16) y = x * 16 + y := by
  have hL : y.toNat < 2 ^ 4 := by omega
  have o := Nat.shiftLeft_add_eq_or_of_lt hL x.toNat
  rw [Nat.shiftLeft_eq] at o
  show IntKind.u8.wrap ((BitVec.ofInt 8 (x * 16) ||| BitVec.ofInt 8 y).toNat : Int) = _
  have e1 : (BitVec.ofInt 8 (x * 16)).toNat = x.toNat * 2 ^ 4 := by rw [BitVec.toNat_ofInt]; omega
  have e2 : (BitVec.ofInt 8 y).toNat = y.toNat := by rw [BitVec.toNat_ofInt]; omega
  rw [BitVec.toNat_or, e1, e2, ← o]
  simp [IntKind.wrap, IntKind.bits, IntKind.signed]
  omega
theorem results_cell_tmp {fn : Func} {p q : Tmp} {ty : TypeId} (h : fn.results = #[.cell p ty, .tmp q]) (tmps : Array Value) (w : World) (g : Nat) (cs : Array Value) (v : Value)
    (hp : tmps.getD p undef = .pointer (some ⟨g, 0, none⟩)) (hq : tmps.getD q undef = v)
    (hl : (loadVar ty ⟨g, 0, none⟩).run Tryd.prog w = .ok (.agg cs) w) :
    (results fn tmps).run Tryd.prog w = .ok (.tuple #[.agg cs, v]) w := by
  have hp' : tmps[p]?.getD undef = .pointer (some ⟨g, 0, none⟩) := by simpa using hp
  have hq' : tmps[q]?.getD undef = v := by simpa using hq
  simp [results, h, hp', hq', asAddr, hl]
/-- what is held of memory while a text is read -/
structure Ux (w W : World) (F : Nat → Int) : Prop where
  res : Row W w.heap.size 27 IntKind.u8 32 (fun _ => 0)
  row : Row W (w.heap.size + 1) 27 .u8 32 F
  bel : Below w.heap.size w W
theorem Ux.set {w W : World} {F : Nat → Int} (h : Ux w W F) (j : Nat) (v : Int) : Ux w (W.setCell ⟨w.heap.size + 1, j, none⟩ (.int .u8 v)) (upd F j v) :=
  ⟨Row.set_other h.res _ _ (by simp), Row.set h.row j v, Below.setCell h.bel (by simp) _⟩
theorem ux_start (w : World) : Ux w ((w.alloc (.cells (mk .u8 32 fun _ => 0) 27)).alloc (.cells (mk .u8 32 fun _ => 0) 27)) fun _ => 0 :=
  ⟨(Row.made w _ _ _ _).alloc _, heap_alloc2_new w _ _, ((Below.refl _ _).alloc (Nat.le_refl _) _).alloc (by simp) _⟩
def good (s : ByteArray) (i : Nat) : Prop := dgo (sb s (2 * i)) = true ∧ dgo (sb s (2 * i + 1)) = true

theorem unhex_short (s : ByteArray) (w : World) (h : s.size ≠ 64) : Calls Tryd.prog 18 #[.string s] w fun e w' => e = .returned (.tuple #[.agg (mk .u8 32 fun _ => 0), .int .i64 4]) ∧ Below w.heap.size w w' := by
  have U := ux_start w
  have S2 := U.res
  have UH := Lib.hid U
  have h' : ((s.size : Int) != 64) = true := by rw [bne_iff_ne]; omega
  unfold Row at S2
  rw [Z27] at S2 UH
  clear U
  go_enter Tryd.func18, Tryd.ntmps18
  go_wp2_with (refine wpList_store_row rfl 27 (.tmp 2) (.tmp 13) rfl w.heap.size rfl (mk .u8 32 fun _ => 0) (congrArg Value.agg Z27.symm) 27 _ S2 (by simp [mk_size]) (info27 _) (mk_one _ _ _) ?_)
  exact bodyPost_ret (v := .tuple #[.agg (mk .u8 32 fun _ => 0), .int .i64 4]) (results_cell_tmp rfl _ _ w.heap.size _ _ rfl rfl (run_loadVar_row _ _ 27 27 _ (0, 0) _ (UH.out.res.setRow _ _ _) Tryd.underlying27 rfl (info27 _))) rfl ⟨rfl, below_setRow UH.out.bel (Nat.le_refl _) _⟩
set_option maxHeartbeats 2000000 in
theorem unhex_any (s : ByteArray) (w : World) (hs : s.size = 64) (bad : Nat) (hb : bad ≤ 32) (hg : ∀ i, i < bad → good s i) (hbad : bad < 32 → ¬ good s bad) (RF : Nat → Int) (re : Int) (r1 : bad < 32 → RF = (fun _ => 0) ∧ re = 4) (r2 : ¬ bad < 32 → RF = uxF s ∧ re = 0) :
    Calls Tryd.prog 18 #[.string s] w fun e w' => e = .returned (.tuple #[.agg (mk .u8 32 RF), .int .i64 re]) ∧ Below w.heap.size w w' := by
  have UH := Lib.hid (ux_start w)
  have HG := Lib.hid hg
  have R1 := Lib.hid r1
  have R2 := Lib.hid r2
  clear r1 r2
  have HBAD := Lib.hid hbad
  have HI := Lib.hid (fun (j : Nat) (h : j < 64) (x : Int) (hx : x = j) W => idx_sb s j x hx (by omega) W)
  have h' : ((s.size : Int) != 64) = false := by rw [bne_eq_false_iff_eq]; omega
  rw [Z27] at UH
  clear hg hbad hs
  go_enter Tryd.func18, Tryd.ntmps18
  go_wp2_with fail
  generalize World.alloc (World.alloc _ _) _ = W2 at *
  go_loopw [14] (fun i wr => ∃ (k : Nat) (F : Nat → Int), k ≤ bad ∧ i = .int .i64 k ∧ Hid (Ux w wr F) ∧ Hid (∀ j, j < k → F j = uxF s j)) (fun i _ => 32 - (intOf i).toNat)
  case atStart => exact ⟨0, _, Nat.zero_le _, rfl, UH.out, fun j hj => by omega⟩
  case round =>
    clear UH h'
    obtain ⟨k, F, hk, rfl, UH, HF⟩ := hrel
    by_cases hlt : k < 32
    · have ix1 := HI.out (2 * k) (by omega) (2 * (k : Int)) (by omega)
      have ix2 := HI.out (2 * k + 1) (by omega) (2 * (k : Int) + 1) (by omega)
      have bx := sb_bd s (2 * k)
      have by' := sb_bd s (2 * k + 1)
      have E := Lib.hid (show uxF s k = dgv (sb s (2 * k)) * 16 + dgv (sb s (2 * k + 1)) from rfl)
      have GD := Lib.hid (show good s k = (dgo (sb s (2 * k)) = true ∧ dgo (sb s (2 * k + 1)) = true) from rfl)
      generalize sb s (2 * k) = x at *
      generalize sb s (2 * k + 1) = y at *
      have O := Lib.hid (or8 (dgv x) (dgv y) (dgv_bd x) (dgv_bd y))
      have v1 := (dgv_bd x).1
      have v2 := (dgv_bd x).2
      have u1 := (dgv_bd y).1
      have u2 := (dgv_bd y).2
      by_cases hgood : dgo x = true ∧ dgo y = true
      · obtain ⟨p1, p2⟩ := hgood
        have hkb : k < bad := by
          rcases Nat.lt_or_ge k bad with h | h
          · exact h
          · have hkk : k = bad := by omega
            exact absurd (by rw [← hkk, GD.out]; exact ⟨p1, p2⟩) (HBAD.out (by omega))
        have ck := UH.out.row.cell k (by omega)
        have fk := UH.out.row.free k
        go_wp2_with fail
        refine (digit_any _ _ bx.1 bx.2).mono ?_
        rintro e w' ⟨rfl, rfl⟩
        go_wp2_with fail
        refine (digit_any _ _ by'.1 by'.2).mono ?_
        rintro e w' ⟨rfl, rfl⟩
        go_wp2
        go_roundw
        case rel => exact ⟨k + 1, upd F k (dgv x * 16 + dgv y), by omega, by go_num, by rw [O.out]; exact UH.out.set k _, fun j hj => by
          by_cases e : j = k
          · subst e; rw [upd_same, E.out]
          · rw [upd_other _ _ _ _ e]; exact HF.out j (by omega)⟩
        case measure => simp [intOf]; omega
      · have hkb : k = bad := by
          rcases Nat.lt_or_ge k bad with h | h
          · have := HG.out k h; rw [GD.out] at this; exact absurd this hgood
          · omega
        subst hkb
        have S2 := UH.out.res
        have RR := Lib.hid (R1.out (by omega))
        unfold Row at S2
        have hgg := Lib.hid hgood
        clear hgood
        cases hp1 : dgo x
        · go_wp2_with fail
          refine (digit_any _ _ bx.1 bx.2).mono ?_
          rintro e w' ⟨rfl, rfl⟩
          go_wp2_with fail
          refine (digit_any _ _ by'.1 by'.2).mono ?_
          rintro e w' ⟨rfl, rfl⟩
          go_wp2_with (refine wpList_store_row rfl 27 (.tmp 2) (.tmp 40) rfl w.heap.size rfl (mk .u8 32 fun _ => 0) (congrArg Value.agg Z27.symm) 27 _ S2 (by simp [mk_size]) (info27 _) (mk_one _ _ _) ?_)
          exact bodyPost_ret (v := .tuple #[.agg (mk .u8 32 fun _ => 0), .int .i64 4]) (results_cell_tmp rfl _ _ w.heap.size _ _ rfl rfl (run_loadVar_row _ _ 27 27 _ (0, 0) _ (UH.out.res.setRow _ _ _) Tryd.underlying27 rfl (info27 _))) rfl ⟨by rw [RR.out.1, RR.out.2], below_setRow UH.out.bel (Nat.le_refl _) _⟩
        · have hp2 : dgo y = false := by
            cases h : dgo y
            · rfl
            · exact absurd ⟨hp1, h⟩ hgg.out
          go_wp2_with fail
          refine (digit_any _ _ bx.1 bx.2).mono ?_
          rintro e w' ⟨rfl, rfl⟩
          go_wp2_with fail
          refine (digit_any _ _ by'.1 by'.2).mono ?_
          rintro e w' ⟨rfl, rfl⟩
          go_wp2_with (refine wpList_store_row rfl 27 (.tmp 2) (.tmp 40) rfl w.heap.size rfl (mk .u8 32 fun _ => 0) (congrArg Value.agg Z27.symm) 27 _ S2 (by simp [mk_size]) (info27 _) (mk_one _ _ _) ?_)
          exact bodyPost_ret (v := .tuple #[.agg (mk .u8 32 fun _ => 0), .int .i64 4]) (results_cell_tmp rfl _ _ w.heap.size _ _ rfl rfl (run_loadVar_row _ _ 27 27 _ (0, 0) _ (UH.out.res.setRow _ _ _) Tryd.underlying27 rfl (info27 _))) rfl ⟨by rw [RR.out.1, RR.out.2], below_setRow UH.out.bel (Nat.le_refl _) _⟩
    · have hkb : ¬ bad < 32 := by omega
      have RR := Lib.hid (R2.out hkb)
      have S1 := UH.out.row.congr (G := uxF s) (fun j hj => HF.out j (by omega))
      have S2 := UH.out.res
      go_wp2_with (first
        | (refine wpList_load_at rfl 27 (.tmp 4) rfl (w.heap.size + 1) 0 rfl 27 _ (mk .u8 32 (uxF s)) _ S1 (fun j _ => by rw [Nat.zero_add]) Tryd.underlying27 rfl (info27 _) ?_)
        | (refine wpList_store_row rfl 27 (.tmp 2) (.tmp 48) rfl w.heap.size rfl (mk .u8 32 (uxF s)) rfl 27 _ S2 (by simp [mk_size]) (info27 _) (mk_one _ _ _) ?_))
      exact bodyPost_ret (v := .tuple #[.agg (mk .u8 32 (uxF s)), .int .i64 0]) (results_cell_tmp rfl _ _ w.heap.size _ _ rfl rfl (run_loadVar_row _ _ 27 27 _ (0, 0) _ (UH.out.res.setRow _ _ _) Tryd.underlying27 rfl (info27 _))) rfl ⟨by rw [RR.out.1, RR.out.2], below_setRow UH.out.bel (Nat.le_refl _) _⟩

theorem runhex_short (s : ByteArray) (w : World) (h : s.size ≠ 64) : Calls Tryd.prog 19 #[.string s] w fun e w' => e = .returned (.tuple #[.agg (mk .u8 32 fun _ => 0), .int .i64 4]) ∧ Below w.heap.size w w' := by
  have U := ux_start w
  have S2 := U.res
  have UH := Lib.hid U
  have h' : ((s.size : Int) != 64) = true := by rw [bne_iff_ne]; omega
  unfold Row at S2
  rw [Z27] at S2 UH
  clear U
  go_enter Tryd.func19, Tryd.ntmps19
  go_wp2_with (refine wpList_store_row rfl 27 (.tmp 2) (.tmp 13) rfl w.heap.size rfl (mk .u8 32 fun _ => 0) (congrArg Value.agg Z27.symm) 27 _ S2 (by simp [mk_size]) (info27 _) (mk_one _ _ _) ?_)
  exact bodyPost_ret (v := .tuple #[.agg (mk .u8 32 fun _ => 0), .int .i64 4]) (results_cell_tmp rfl _ _ w.heap.size _ _ rfl rfl (run_loadVar_row _ _ 27 27 _ (0, 0) _ (UH.out.res.setRow _ _ _) Tryd.underlying27 rfl (info27 _))) rfl ⟨rfl, below_setRow UH.out.bel (Nat.le_refl _) _⟩
set_option maxHeartbeats 2000000 in
theorem runhex_any (s : ByteArray) (w : World) (hs : s.size = 64) (bad : Nat) (hb : bad ≤ 32) (hg : ∀ i, i < bad → good s i) (hbad : bad < 32 → ¬ good s bad) (RF : Nat → Int) (re : Int) (r1 : bad < 32 → RF = (fun _ => 0) ∧ re = 4) (r2 : ¬ bad < 32 → RF = uxF s ∧ re = 0) :
    Calls Tryd.prog 19 #[.string s] w fun e w' => e = .returned (.tuple #[.agg (mk .u8 32 RF), .int .i64 re]) ∧ Below w.heap.size w w' := by
  have UH := Lib.hid (ux_start w)
  have HG := Lib.hid hg
  have R1 := Lib.hid r1
  have R2 := Lib.hid r2
  clear r1 r2
  have HBAD := Lib.hid hbad
  have HI := Lib.hid (fun (j : Nat) (h : j < 64) (x : Int) (hx : x = j) W => idx_sb s j x hx (by omega) W)
  have h' : ((s.size : Int) != 64) = false := by rw [bne_eq_false_iff_eq]; omega
  rw [Z27] at UH
  clear hg hbad hs
  go_enter Tryd.func19, Tryd.ntmps19
  go_wp2_with fail
  generalize World.alloc (World.alloc _ _) _ = W2 at *
  go_loopw [5] (fun i wr => ∃ (k : Nat) (F : Nat → Int), k ≤ bad ∧ i = .int .i64 k ∧ Hid (Ux w wr F) ∧ Hid (∀ j, j < k → F j = uxF s j)) (fun i _ => 32 - (intOf i).toNat)
  case atStart => exact ⟨0, _, Nat.zero_le _, rfl, UH.out, fun j hj => by omega⟩
  case round =>
    clear UH h'
    obtain ⟨k, F, hk, rfl, UH, HF⟩ := hrel
    by_cases hlt : k < 32
    · have ix1 := HI.out (2 * k) (by omega) (2 * (k : Int)) (by omega)
      have ix2 := HI.out (2 * k + 1) (by omega) (2 * (k : Int) + 1) (by omega)
      have bx := sb_bd s (2 * k)
      have by' := sb_bd s (2 * k + 1)
      have E := Lib.hid (show uxF s k = dgv (sb s (2 * k)) * 16 + dgv (sb s (2 * k + 1)) from rfl)
      have GD := Lib.hid (show good s k = (dgo (sb s (2 * k)) = true ∧ dgo (sb s (2 * k + 1)) = true) from rfl)
      generalize sb s (2 * k) = x at *
      generalize sb s (2 * k + 1) = y at *
      have O := Lib.hid (or8 (dgv x) (dgv y) (dgv_bd x) (dgv_bd y))
      have v1 := (dgv_bd x).1
      have v2 := (dgv_bd x).2
      have u1 := (dgv_bd y).1
      have u2 := (dgv_bd y).2
      by_cases hgood : dgo x = true ∧ dgo y = true
      · obtain ⟨p1, p2⟩ := hgood
        have hkb : k < bad := by
          rcases Nat.lt_or_ge k bad with h | h
          · exact h
          · have hkk : k = bad := by omega
            exact absurd (by rw [← hkk, GD.out]; exact ⟨p1, p2⟩) (HBAD.out (by omega))
        have ck := UH.out.row.cell k (by omega)
        have fk := UH.out.row.free k
        go_wp2_with fail
        refine (rdigit_any _ _ bx.1 bx.2).mono ?_
        rintro e w' ⟨rfl, rfl⟩
        go_wp2_with fail
        refine (rdigit_any _ _ by'.1 by'.2).mono ?_
        rintro e w' ⟨rfl, rfl⟩
        go_wp2
        go_roundw
        case rel => exact ⟨k + 1, upd F k (dgv x * 16 + dgv y), by omega, by go_num, by exact UH.out.set k _, fun j hj => by
          by_cases e : j = k
          · subst e; rw [upd_same, E.out]
          · rw [upd_other _ _ _ _ e]; exact HF.out j (by omega)⟩
        case measure => simp [intOf]; omega
      · have hkb : k = bad := by
          rcases Nat.lt_or_ge k bad with h | h
          · have := HG.out k h; rw [GD.out] at this; exact absurd this hgood
          · omega
        subst hkb
        have S2 := UH.out.res
        have RR := Lib.hid (R1.out (by omega))
        unfold Row at S2
        have hgg := Lib.hid hgood
        clear hgood
        cases hp1 : dgo x
        · go_wp2_with fail
          refine (rdigit_any _ _ bx.1 bx.2).mono ?_
          rintro e w' ⟨rfl, rfl⟩
          go_wp2_with fail
          refine (rdigit_any _ _ by'.1 by'.2).mono ?_
          rintro e w' ⟨rfl, rfl⟩
          go_wp2_with (refine wpList_store_row rfl 27 (.tmp 2) (.tmp 41) rfl w.heap.size rfl (mk .u8 32 fun _ => 0) (congrArg Value.agg Z27.symm) 27 _ S2 (by simp [mk_size]) (info27 _) (mk_one _ _ _) ?_)
          exact bodyPost_ret (v := .tuple #[.agg (mk .u8 32 fun _ => 0), .int .i64 4]) (results_cell_tmp rfl _ _ w.heap.size _ _ rfl rfl (run_loadVar_row _ _ 27 27 _ (0, 0) _ (UH.out.res.setRow _ _ _) Tryd.underlying27 rfl (info27 _))) rfl ⟨by rw [RR.out.1, RR.out.2], below_setRow UH.out.bel (Nat.le_refl _) _⟩
        · have hp2 : dgo y = false := by
            cases h : dgo y
            · rfl
            · exact absurd ⟨hp1, h⟩ hgg.out
          go_wp2_with fail
          refine (rdigit_any _ _ bx.1 bx.2).mono ?_
          rintro e w' ⟨rfl, rfl⟩
          go_wp2_with fail
          refine (rdigit_any _ _ by'.1 by'.2).mono ?_
          rintro e w' ⟨rfl, rfl⟩
          go_wp2_with (refine wpList_store_row rfl 27 (.tmp 2) (.tmp 41) rfl w.heap.size rfl (mk .u8 32 fun _ => 0) (congrArg Value.agg Z27.symm) 27 _ S2 (by simp [mk_size]) (info27 _) (mk_one _ _ _) ?_)
          exact bodyPost_ret (v := .tuple #[.agg (mk .u8 32 fun _ => 0), .int .i64 4]) (results_cell_tmp rfl _ _ w.heap.size _ _ rfl rfl (run_loadVar_row _ _ 27 27 _ (0, 0) _ (UH.out.res.setRow _ _ _) Tryd.underlying27 rfl (info27 _))) rfl ⟨by rw [RR.out.1, RR.out.2], below_setRow UH.out.bel (Nat.le_refl _) _⟩
    · have hkb : ¬ bad < 32 := by omega
      have RR := Lib.hid (R2.out hkb)
      have S1 := UH.out.row.congr (G := uxF s) (fun j hj => HF.out j (by omega))
      have S2 := UH.out.res
      go_wp2_with (first
        | (refine wpList_load_at rfl 27 (.tmp 4) rfl (w.heap.size + 1) 0 rfl 27 _ (mk .u8 32 (uxF s)) _ S1 (fun j _ => by rw [Nat.zero_add]) Tryd.underlying27 rfl (info27 _) ?_)
        | (refine wpList_store_row rfl 27 (.tmp 2) (.tmp 48) rfl w.heap.size rfl (mk .u8 32 (uxF s)) rfl 27 _ S2 (by simp [mk_size]) (info27 _) (mk_one _ _ _) ?_))
      exact bodyPost_ret (v := .tuple #[.agg (mk .u8 32 (uxF s)), .int .i64 0]) (results_cell_tmp rfl _ _ w.heap.size _ _ rfl rfl (run_loadVar_row _ _ 27 27 _ (0, 0) _ (UH.out.res.setRow _ _ _) Tryd.underlying27 rfl (info27 _))) rfl ⟨by rw [RR.out.1, RR.out.2], below_setRow UH.out.bel (Nat.le_refl _) _⟩
end Go.Proofs.YtbdahkbgjbaenaaDoor
