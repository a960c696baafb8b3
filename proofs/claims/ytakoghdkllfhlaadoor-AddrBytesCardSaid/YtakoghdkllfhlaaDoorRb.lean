/- Bytes in memory; GetShort, both. -/
import Derived.Test.YtakoghdkllfhlaaDoorRa
import Derived.Lib.EndianBits
import Derived.OwnWalk
namespace Go.Proofs.YtakoghdkllfhlaaDoor
open Go.RowKit Go.Lib

/-- a row of cells, of size z each, at o; P: the blocks that it may go through -/
def RowP (P : Nat → Prop) (w : World) (o : Option Addr) (cap len z : Nat) (c : Nat → Nat → Value) : Prop :=
  len ≤ cap ∧ cap ≤ maxLen ∧ (o = none → cap = 0) ∧ (0 < len → ∃ b off, o = some ⟨b, off, none⟩ ∧ P b ∧ ∀ j, j < len → ∀ m, m < z → w.cell? ⟨b, off + j * z + m, none⟩ = some (c j m))
/-- all blocks below n -/
abbrev Row (n : Nat) (w : World) (o : Option Addr) (cap len z : Nat) (c : Nat → Nat → Value) : Prop := RowP (fun b => b < n) w o cap len z c
theorem RowP.keptP {P P' : Nat → Prop} {w w' : World} {o : Option Addr} {cap len z : Nat} {c : Nat → Nat → Value} (h : RowP P w o cap len z c) (b : ∀ k, P k → P' k ∧ w'.heap[k]? = w.heap[k]?) : RowP P' w' o cap len z c := by
  obtain ⟨h1, h2, h3, h4⟩ := h
  refine ⟨h1, h2, h3, fun hl => ?_⟩
  obtain ⟨b', off, rfl, hb, hc⟩ := h4 hl
  exact ⟨b', off, rfl, (b _ hb).1, fun j hj m hm => (World.cell?_of_block (w := w) (b _ hb).2).trans (hc j hj m hm)⟩
theorem RowP.below {n : Nat} {w w' : World} {o : Option Addr} {cap len z : Nat} {c : Nat → Nat → Value} (h : Row n w o cap len z c) (b : Below n w w') : Row n w' o cap len z c := h.keptP fun k hk => ⟨hk, b.block k hk⟩
theorem RowP.mono {P P' : Nat → Prop} {w : World} {o : Option Addr} {cap len z : Nat} {c : Nat → Nat → Value} (h : RowP P w o cap len z c) (b : ∀ k, P k → P' k) : RowP P' w o cap len z c := h.keptP fun k hk => ⟨b k hk, rfl⟩
theorem RowP.el1 {P : Nat → Prop} {w : World} {o : Option Addr} {cap len : Nat} {c : Nat → Nat → Value} (h : RowP P w o cap len 1 c) {j : Nat} (hj : j < len) : ∃ b off, o = some ⟨b, off, none⟩ ∧ P b ∧ w.cell? ⟨b, off + j, none⟩ = some (c j 0) := by
  obtain ⟨_, _, _, h4⟩ := h
  obtain ⟨b, off, e, hb, hc⟩ := h4 (by omega)
  have := hc j hj 0 (by omega)
  exact ⟨b, off, e, hb, by simpa using this⟩

/-- bytes as cells -/
abbrev bf (M : List Nat) : Nat → Nat → Value := fun j _ => .int .u8 ((M.getD j 0 : Nat) : Int)
/-- a row of bytes below n -/
structure Bts (n : Nat) (w : World) (o : Option Addr) (cap : Nat) (M : List Nat) : Prop where
  row : Row n w o cap M.length 1 (bf M)
  b : ∀ c, c ∈ M → c < 256
  sp : ∀ a, o = some a → a.spot = none
theorem Bts.kept {n : Nat} {w w' : World} {o : Option Addr} {cap : Nat} {M : List Nat} (h : Bts n w o cap M) (b : Below n w w') : Bts n w' o cap M := ⟨h.row.below b, h.b, h.sp⟩
theorem Bts.at {n : Nat} {w : World} {o : Option Addr} {cap : Nat} {M : List Nat} (h : Bts n w o cap M) {j : Nat} (hj : j < M.length) : ∃ b off, o = some ⟨b, off, none⟩ ∧ b < n ∧ w.cell? ⟨b, off + j, none⟩ = some (.int .u8 ((M.getD j 0 : Nat) : Int)) := h.row.el1 hj
theorem Bts.lt {n : Nat} {w : World} {o : Option Addr} {cap : Nat} {M : List Nat} (h : Bts n w o cap M) (j : Nat) : M.getD j 0 < 256 := by
  rw [List.getD_eq_getElem?_getD]
  cases hq : M[j]? with
  | none => simp
  | some c => exact h.b c (List.mem_of_getElem? hq)
/-- what comes of a short form, as an answer -/
def gsV (r : Except Nat (Nat × Nat)) : Ending := match r with
  | .ok (n, k) => .returned (.tuple #[.int .u64 n, .int .i64 k, .int .i64 0])
  | .error e => .returned (.tuple #[.int .u64 0, .int .i64 0, .int .i64 e])
/-- behind i bytes that told acc -/
def lift (i acc : Nat) (r : Except Nat (Nat × Nat)) : Except Nat (Nat × Nat) := match r with
  | .ok (n, k) => .ok (acc + 128 ^ i * n, i + k)
  | .error e => .error e
/-- at a round's head -/
structure GsR (M : List Nat) (i acc : Nat) : Prop where
  i9 : i ≤ 9
  le : i ≤ M.length
  bd : acc < 128 ^ i
  eq : gs 0 M = lift i acc (gs i (M.drop i))
theorem GsR.start (M : List Nat) : GsR M 0 0 := ⟨by omega, by omega, by omega, by
  unfold lift; rw [List.drop_zero]; cases gs 0 M with
  | error e => rfl
  | ok p => obtain ⟨n, k⟩ := p; simp⟩
theorem GsR.short {M : List Nat} {i acc : Nat} (h : GsR M i acc) (hl : i = M.length) : gs 0 M = .error 2 := by
  rw [h.eq, List.drop_eq_nil_of_le (by omega)]; rfl
theorem drop_cons {M : List Nat} {i : Nat} (h : i < M.length) : M.drop i = M.getD i 0 :: M.drop (i + 1) := by
  rw [List.drop_eq_getElem_cons h, List.getD_eq_getElem?_getD, List.getElem?_eq_getElem h]; rfl
theorem GsR.bad {M : List Nat} {i acc c : Nat} (h : GsR M i acc) (hl : i < M.length) (hc : M.getD i 0 = c) (h9 : i = 9 ∧ 1 < c) : gs 0 M = .error 4 := by
  rw [h.eq, drop_cons hl, hc, gs, if_pos h9]; rfl
theorem GsR.zero {M : List Nat} {i acc c : Nat} (h : GsR M i acc) (hl : i < M.length) (hc : M.getD i 0 = c) (h9 : c = 0 ∧ 0 < i) : gs 0 M = .error 4 := by
  rw [h.eq, drop_cons hl, hc, gs, if_neg (by omega), if_pos (by omega), if_pos h9]; rfl
theorem GsR.done {M : List Nat} {i acc c : Nat} (h : GsR M i acc) (hl : i < M.length) (hc : M.getD i 0 = c) (h9 : ¬ (i = 9 ∧ 1 < c)) (h1 : c < 128) (h0 : ¬ (c = 0 ∧ 0 < i)) : gs 0 M = .ok (acc + 128 ^ i * c, i + 1) := by
  rw [h.eq, drop_cons hl, hc, gs, if_neg h9, if_pos h1, if_neg h0]; rfl
theorem GsR.next {M : List Nat} {i acc c : Nat} (h : GsR M i acc) (hl : i < M.length) (hc : M.getD i 0 = c) (hb : c < 256) (h9 : ¬ (i = 9 ∧ 1 < c)) (h1 : ¬ c < 128) : GsR M (i + 1) (acc + 128 ^ i * (c - 128)) := by
  have := h.i9
  refine ⟨by omega, by omega, ?_, ?_⟩
  · have := h.bd
    have h2 : 128 ^ i * (c - 128) ≤ 128 ^ i * 127 := Nat.mul_le_mul_left _ (by omega)
    rw [Nat.pow_succ]; omega
  · rw [h.eq, drop_cons hl, hc, gs, if_neg h9, if_neg h1]
    cases gs (i + 1) (M.drop (i + 1)) with
    | error e => rfl
    | ok p =>
      obtain ⟨n, k⟩ := p
      have e1 : acc + 128 ^ i * (c - 128 + 128 * n) = acc + 128 ^ i * (c - 128) + 128 ^ (i + 1) * n := by rw [Nat.mul_add, Nat.pow_succ, Nat.mul_assoc, Nat.add_assoc]
      show Except.ok (acc + 128 ^ i * (c - 128 + 128 * n), i + (k + 1)) = Except.ok (acc + 128 ^ i * (c - 128) + 128 ^ (i + 1) * n, i + 1 + k)
      rw [e1, show i + (k + 1) = i + 1 + k by omega]
theorem u8_and127 (c : Nat) (h : c < 256) : bits .and .u8 (c : Int) 127 = ((c % 128 : Nat) : Int) := by
  have := bits_mask .u8 8 (by decide) wraps_u8 7 (by decide) (c : Int) (by omega) (by omega)
  have e : (2 : Int) ^ 7 - 1 = 127 := by decide
  rw [e] at this
  rw [this]; omega
theorem pow128 (j : Nat) : 128 ^ j = 2 ^ (7 * j) := by rw [Nat.pow_mul]
theorem pow128_64 {j c : Nat} (hj : j ≤ 9) (h9 : ¬ (j = 9 ∧ 1 < c)) (hc : c < 128) : 128 ^ j * c < 2 ^ 64 := by
  have h : j = 9 ∨ j ≤ 8 := by omega
  rcases h with rfl | h
  · have : 128 ^ 9 * c ≤ 128 ^ 9 * 1 := Nat.mul_le_mul_left _ (by omega)
    have e : (128 : Nat) ^ 9 * 1 < 2 ^ 64 := by decide
    omega
  · have h1 : 128 ^ j ≤ 128 ^ 8 := Nat.pow_le_pow_right (by decide) h
    have h2 : 128 ^ j * c ≤ 128 ^ 8 * 127 := Nat.mul_le_mul h1 (by omega)
    have e : (128 : Nat) ^ 8 * 127 < 2 ^ 64 := by decide
    omega
theorem step_or {j acc c : Nat} (hj : j ≤ 9) (hb : c < 256) (h9 : ¬ (j = 9 ∧ 1 < c)) (ha : acc < 128 ^ j) :
    bits .or .u64 (acc : Int) (IntKind.u64.wrap (IntKind.u64.wrap (bits .and .u8 (c : Int) 127) * 2 ^ (7 * j))) = ((acc + 128 ^ j * (c % 128) : Nat) : Int) := by
  have h1 := pow128_64 (c := c % 128) hj (by omega) (by omega)
  have h3 : 128 ^ j ≤ 128 ^ 9 := Nat.pow_le_pow_right (by decide) hj
  have e9 : (128 : Nat) ^ 9 < 2 ^ 64 := by decide
  have e10 : (128 : Nat) ^ 9 = 9223372036854775808 := by decide
  rw [u8_and127 c hb, wraps_u64 ((c % 128 : Nat) : Int) (by omega) (by omega)]
  have e : ((c % 128 : Nat) : Int) * 2 ^ (7 * j) = ((128 ^ j * (c % 128) : Nat) : Int) := by
    rw [pow128, Int.natCast_mul, Int.natCast_pow, Int.mul_comm]; rfl
  have h4 : ((128 ^ j * (c % 128) : Nat) : Int) < 2 ^ 64 := by exact_mod_cast h1
  rw [e, wraps_u64 _ (by omega) h4]
  have h5 : (acc : Int) < 2 ^ 64 := by have : acc < 2 ^ 64 := by omega
                                       exact_mod_cast this
  have h6 : (acc : Int) < 2 ^ (7 * j) := by rw [pow128] at ha; exact_mod_cast ha
  have h7 : ((128 ^ j * (c % 128) : Nat) : Int) % 2 ^ (7 * j) = 0 := by
    have : 128 ^ j * (c % 128) % 2 ^ (7 * j) = 0 := by rw [pow128]; exact Nat.mul_mod_right _ _
    exact_mod_cast this
  rw [bits_join_low .u64 64 (by decide) wraps_u64 (7 * j) _ _ (Int.natCast_nonneg _) h6 h5 (Int.natCast_nonneg _) h7 h4]
  exact (Int.natCast_add _ _).symm
theorem ret_gs {M : List Nat} {n k : Nat} {x y : Int} (h : gs 0 M = .ok (n, k)) (hx : x = n) (hy : y = k) : Ending.returned (.tuple #[.int .u64 x, .int .i64 y, .int .i64 0]) = gsV (gs 0 M) := by
  rw [h, hx, hy]; rfl
theorem rstep {j acc c : Nat} (hj : j ≤ 9) (h9 : ¬ (j = 9 ∧ 1 < c)) (ha : acc < 128 ^ j) :
    IntKind.u64.wrap ((acc : Int) + IntKind.u64.wrap (((c % 128 : Nat) : Int) * ((128 ^ j : Nat) : Int))) = ((acc + 128 ^ j * (c % 128) : Nat) : Int) := by
  have h1 := pow128_64 (c := c % 128) hj (by omega) (by omega)
  have h3 : 128 ^ j ≤ 128 ^ 9 := Nat.pow_le_pow_right (by decide) hj
  have e10 : (128 : Nat) ^ 9 = 9223372036854775808 := by decide
  have e : ((c % 128 : Nat) : Int) * ((128 ^ j : Nat) : Int) = ((128 ^ j * (c % 128) : Nat) : Int) := by rw [Int.natCast_mul, Int.mul_comm]
  have h4 : ((128 ^ j * (c % 128) : Nat) : Int) < 2 ^ 64 := by exact_mod_cast h1
  rw [e, wraps_u64 _ (by omega) h4]
  have h5 : acc + 128 ^ j * (c % 128) < 2 ^ 64 := by
    have h : j = 9 ∨ j ≤ 8 := by omega
    rcases h with rfl | h
    · have h6 : 128 ^ 9 * (c % 128) ≤ 128 ^ 9 * 1 := Nat.mul_le_mul_left _ (by omega)
      omega
    · have h7 : 128 ^ j ≤ 128 ^ 8 := Nat.pow_le_pow_right (by decide) h
      have h8 : 128 ^ j * (c % 128) ≤ 128 ^ 8 * 127 := Nat.mul_le_mul h7 (by omega)
      have e8 : (128 : Nat) ^ 8 = 72057594037927936 := by decide
      omega
  have h6 : ((acc + 128 ^ j * (c % 128) : Nat) : Int) < 2 ^ 64 := by exact_mod_cast h5
  rw [← Int.natCast_add, wraps_u64 _ (by omega) h6]
theorem unext {j : Nat} (hj : j ≤ 8) : IntKind.u64.wrap (((128 ^ j : Nat) : Int) * 128) = ((128 ^ (j + 1) : Nat) : Int) := by
  have h7 : 128 ^ j ≤ 128 ^ 8 := Nat.pow_le_pow_right (by decide) hj
  have e8 : (128 : Nat) ^ 8 = 72057594037927936 := by decide
  have e : ((128 ^ j : Nat) : Int) * 128 = ((128 ^ (j + 1) : Nat) : Int) := by rw [Nat.pow_succ, Int.natCast_mul]; rfl
  have h6 : 128 ^ (j + 1) < 2 ^ 64 := by rw [Nat.pow_succ]; omega
  have h8 : ((128 ^ (j + 1) : Nat) : Int) < 2 ^ 64 := by exact_mod_cast h6
  rw [e, wraps_u64 _ (Int.natCast_nonneg _) h8]
theorem fin_gs {M : List Nat} {w W : World} {r : Except Nat (Nat × Nat)} (E : gs 0 M = r) (HW : ∃ q', W = w.drewN q') : gsV r = gsV (gs 0 M) ∧ ∃ m, W = w.drewN m := by
  obtain ⟨q', e'⟩ := HW
  rw [E]; exact ⟨rfl, q', e'⟩
theorem fin_ok {M : List Nat} {w W : World} {n k : Nat} {x y : Int} (E : gs 0 M = .ok (n, k)) (hx : x = n) (hy : y = k) (HW : ∃ q', W = w.drewN q') : Ending.returned (.tuple #[.int .u64 x, .int .i64 y, .int .i64 0]) = gsV (gs 0 M) ∧ ∃ m, W = w.drewN m := by
  rw [hx, hy]; exact fin_gs E HW
set_option maxHeartbeats 1000000 in
theorem getShort_any {n : Nat} {o : Option Addr} {cap : Nat} {M : List Nat} {w : World} (B : Bts n w o cap M) :
    Calls Tryd.prog 82 #[.slice o M.length cap] w fun e w' => e = gsV (gs 0 M) ∧ ∃ m, w' = w.drewN m := by
  have HB := Lib.hid B
  have l1 := B.row.1
  have l2 := B.row.2.1
  unfold maxLen at l2
  clear B
  go_enter Tryd.func82, Tryd.ntmps82
  go_wp2_with fail
  go_loopw [2, 7] (fun s i wr => ∃ (j acc q : Nat), j ≤ 9 ∧ i = .int .i64 j ∧ s = .int .u64 acc ∧ wr = w.drewN q ∧ Hid (GsR M j acc)) (fun _ i _ => 10 - (intOf i).toNat)
  case atStart => exact ⟨0, 0, 0, by omega, rfl, rfl, rfl, GsR.start M⟩
  case round =>
    obtain ⟨j, acc, q, hj, rfl, rfl, rfl, R⟩ := hrel
    have hle := R.out.le
    by_cases hlt : j < M.length
    · have hb := HB.out.lt j
      obtain ⟨b, off, e1, hbn, c0⟩ := HB.out.at hlt
      obtain ⟨c, hc⟩ : ∃ c, M.getD j 0 = c := ⟨_, rfl⟩
      rw [hc] at c0 hb
      have c1 : (w.drewN q).cell? ⟨b, off + j, none⟩ = some (.int .u8 (c : Int)) := c0
      have HC := Lib.hid hc
      have HW := Lib.hid (show ∃ q', w.drewN q = w.drewN q' from ⟨q, rfl⟩)
      subst e1
      clear c0 hc
      generalize w.drewN q = W at *
      by_cases h9 : j = 9 ∧ 1 < c
      · have E := Lib.hid (R.out.bad hlt HC.out h9)
        obtain ⟨rfl, h1⟩ := h9
        go_wp2_with fail
        go_ret3
        exact fin_gs E.out HW.out
      · by_cases h1 : c < 128
        · by_cases h0 : c = 0 ∧ 0 < j
          · have E := Lib.hid (R.out.zero hlt HC.out h0)
            obtain ⟨rfl, h0⟩ := h0
            go_wp2_with fail
            all_goals
              go_ret3
              exact fin_gs E.out HW.out
          · have E := Lib.hid (R.out.done hlt HC.out h9 h1 h0)
            have O := Lib.hid (step_or hj hb h9 R.out.bd)
            by_cases h99 : j = 9
            · subst h99
              obtain rfl : c = 1 := by omega
              clear h9 h0
              go_wp2_with fail
              go_ret3
              exact fin_ok E.out O.out (by omega) HW.out
            · have h9b : (j == 9) = false := by rw [beq_eq_false_iff_ne]; exact h99
              by_cases hc0 : c = 0
              · subst hc0
                obtain rfl : j = 0 := by omega
                clear h9 h0
                have c2 : W.cell? ⟨b, off, none⟩ = some (.int .u8 ((0 : Nat) : Int)) := c1
                go_wp2_with fail
                go_ret3
                exact fin_ok E.out (O.out.trans (by rw [Nat.mod_eq_of_lt h1])) (by omega) HW.out
              · clear h9 h0
                go_wp2_with fail
                go_ret3
                exact fin_ok E.out (O.out.trans (by rw [Nat.mod_eq_of_lt h1])) (by omega) HW.out
        · have N := Lib.hid (R.out.next hlt HC.out hb h9 h1)
          by_cases h99 : j = 9
          · omega
          · have h9b : (j == 9) = false := by rw [beq_eq_false_iff_ne]; exact h99
            have O := Lib.hid (step_or hj hb h9 R.out.bd)
            clear h9
            go_wp2_with fail
            go_roundw
            case rel =>
              obtain ⟨q', e'⟩ := HW.out
              exact ⟨j + 1, _, q', by omega, by go_num, congrArg _ (O.out.trans (by rw [show c % 128 = c - 128 by omega])), e', N⟩
            case measure => simp [intOf]; omega
    · have he : j = M.length := by omega
      have E := Lib.hid (R.out.short he)
      have HW := Lib.hid (show ∃ q', w.drewN q = w.drewN q' from ⟨q, rfl⟩)
      generalize w.drewN q = W at *
      go_wp2_with fail
      go_ret3
      exact fin_gs E.out HW.out
set_option maxRecDepth 100000 in
set_option maxHeartbeats 1000000 in
theorem rgetShort_any {n : Nat} {o : Option Addr} {cap : Nat} {M : List Nat} {w : World} (B : Bts n w o cap M) :
    Calls Tryd.prog 61 #[.slice o M.length cap] w fun e w' => e = gsV (gs 0 M) ∧ ∃ m, w' = w.drewN m := by
  have HB := Lib.hid B
  have l1 := B.row.1
  have l2 := B.row.2.1
  unfold maxLen at l2
  clear B
  go_enter Tryd.func61, Tryd.ntmps61
  go_wp2_with fail
  go_loopw [5, 6, 7] (fun s u i wr => ∃ (j acc q : Nat) (un : Int), j ≤ 9 ∧ i = .int .i64 j ∧ s = .int .u64 acc ∧ u = .int .u64 un ∧ wr = w.drewN q ∧ Hid (un = ((128 ^ j : Nat) : Int)) ∧ Hid (GsR M j acc)) (fun _ _ i _ => 10 - (intOf i).toNat)
  case atStart => exact ⟨0, 0, 0, 1, by omega, rfl, rfl, rfl, rfl, rfl, GsR.start M⟩
  case round =>
    obtain ⟨j, acc, q, un, hj, rfl, rfl, rfl, rfl, U, R⟩ := hrel
    have hle := R.out.le
    have HW := Lib.hid (show ∃ q', w.drewN q = w.drewN q' from ⟨q, rfl⟩)
    by_cases hlt : j < M.length
    · have hb := HB.out.lt j
      obtain ⟨b, off, e1, hbn, c0⟩ := HB.out.at hlt
      obtain ⟨c, hc⟩ : ∃ c, M.getD j 0 = c := ⟨_, rfl⟩
      rw [hc] at c0 hb
      have c1 : (w.drewN q).cell? ⟨b, off + j, none⟩ = some (.int .u8 (c : Int)) := c0
      have HC := Lib.hid hc
      subst e1
      clear c0 hc
      generalize w.drewN q = W at *
      have hlt' : (j : Int) < (M.length : Int) := by omega
      by_cases h9 : j = 9 ∧ 1 < c
      · have E := Lib.hid (R.out.bad hlt HC.out h9)
        obtain ⟨rfl, h1⟩ := h9
        go_wp2_with fail
        all_goals
          go_ret3
          exact fin_gs E.out HW.out
      · by_cases h1 : c < 128
        · by_cases h0 : c = 0 ∧ 0 < j
          · have E := Lib.hid (R.out.zero hlt HC.out h0)
            obtain ⟨rfl, h0⟩ := h0
            go_wp2_with fail
            all_goals
              go_ret3
              exact fin_gs E.out HW.out
          · have E := Lib.hid (R.out.done hlt HC.out h9 h1 h0)
            have O := Lib.hid (rstep hj h9 R.out.bd)
            by_cases h99 : j = 9
            · subst h99
              obtain rfl : c = 1 := by omega
              rw [show (((1 % 128 : Nat) : Int)) = 1 from rfl, Int.one_mul] at O
              clear h9 h0
              go_wp2_with fail
              all_goals
                go_ret3
                exact fin_ok E.out (by rw [U.out]; exact O.out) (by omega) HW.out
            · have h9b : (j == 9) = false := by rw [beq_eq_false_iff_ne]; exact h99
              by_cases hc0 : c = 0
              · subst hc0
                obtain rfl : j = 0 := by omega
                have c2 : W.cell? ⟨b, off, none⟩ = some (.int .u8 ((0 : Nat) : Int)) := c1
                clear h9 h0
                go_wp2_with fail
                all_goals
                  go_ret3
                  exact fin_ok E.out (by have := R.out.bd; obtain rfl : acc = 0 := by simpa using this
                                         rfl) (by omega) HW.out
              · have O2 : Hid (IntKind.u64.wrap ((acc : Int) + IntKind.u64.wrap ((c : Int) % 128 * un)) = ((acc + 128 ^ j * (c % 128) : Nat) : Int)) := by
                  rw [U.out]; have e : ((c % 128 : Nat) : Int) = (c : Int) % 128 := by omega
                  rw [← e]; exact O.out
                clear h9 h0
                go_wp2_with fail
                all_goals
                  go_ret3
                  exact fin_ok E.out (O2.out.trans (by rw [Nat.mod_eq_of_lt h1])) (by omega) HW.out
        · have N := Lib.hid (R.out.next hlt HC.out hb h9 h1)
          by_cases h99 : j = 9
          · omega
          · have h9b : (j == 9) = false := by rw [beq_eq_false_iff_ne]; exact h99
            have O := Lib.hid (rstep hj h9 R.out.bd)
            have U2 : Hid (IntKind.u64.wrap (un * 128) = ((128 ^ (j + 1) : Nat) : Int)) := by rw [U.out]; exact unext (j := j) (by omega)
            have O2 : Hid (IntKind.u64.wrap ((acc : Int) + IntKind.u64.wrap ((c : Int) % 128 * un)) = ((acc + 128 ^ j * (c % 128) : Nat) : Int)) := by
              rw [U.out]; have e : ((c % 128 : Nat) : Int) = (c : Int) % 128 := by omega
              rw [← e]; exact O.out
            clear h9
            go_wp2_with fail
            all_goals
              go_roundw
              case rel => exact ⟨j + 1, acc + 128 ^ j * (c - 128), HW.out.choose, ((128 ^ (j + 1) : Nat) : Int), by omega, by go_num, congrArg _ (O2.out.trans (by rw [show c % 128 = c - 128 by omega])), congrArg _ U2.out, HW.out.choose_spec, rfl, N⟩
              case measure => simp [intOf]; omega
    · have he : j = M.length := by omega
      have E := Lib.hid (R.out.short he)
      subst he
      generalize w.drewN q = W at *
      go_wp2_with fail
      all_goals
        go_ret3
        exact fin_gs E.out HW.out
end Go.Proofs.YtakoghdkllfhlaaDoor
