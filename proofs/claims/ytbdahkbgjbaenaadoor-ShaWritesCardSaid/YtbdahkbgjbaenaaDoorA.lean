/- Plain mathematics of SHA-256 on integers. No Go in sight. -/
import Derived.WalkKit
namespace Go.Proofs.YtbdahkbgjbaenaaDoor
open Go.RowKit

/-- a word turned right by n bits -/
def rr (x : Int) (n : Nat) : Int := x / 2 ^ n + x % 2 ^ n * 2 ^ (32 - n)
structure St where
  a : Int
  b : Int
  c : Int
  d : Int
  e : Int
  f : Int
  g : Int
  h : Int
def St.at (s : St) : Nat → Int
  | 0 => s.a | 1 => s.b | 2 => s.c | 3 => s.d | 4 => s.e | 5 => s.f | 6 => s.g | 7 => s.h | _ => 0
def u32 (x : Int) : Int := IntKind.u32.wrap x
def isW (x : Int) : Prop := 0 ≤ x ∧ x < 4294967296
structure St.ok (s : St) : Prop where
  a : isW s.a
  b : isW s.b
  c : isW s.c
  d : isW s.d
  e : isW s.e
  f : isW s.f
  g : isW s.g
  h : isW s.h
def ch (e f g : Int) : Int := bits .xor .u32 (bits .and .u32 e f) (bits .and .u32 (4294967295 - e) g)
def maj (a b c : Int) : Int := bits .xor .u32 (bits .xor .u32 (bits .and .u32 a b) (bits .and .u32 a c)) (bits .and .u32 b c)
def sg1 (e : Int) : Int := bits .xor .u32 (bits .xor .u32 (rr e 6) (rr e 11)) (rr e 25)
def sg0 (a : Int) : Int := bits .xor .u32 (bits .xor .u32 (rr a 2) (rr a 13)) (rr a 22)
def near (x : Int) : Int := bits .xor .u32 (bits .xor .u32 (rr x 7) (rr x 18)) (x / 8)
def far (x : Int) : Int := bits .xor .u32 (bits .xor .u32 (rr x 17) (rr x 19)) (x / 1024)
def mixOf (s : St) (k w : Int) : Int := (s.h + sg1 s.e + ch s.e s.f s.g + k + w) % 4294967296
def rd (s : St) (k w : Int) : St :=
  ⟨(mixOf s k w + sg0 s.a + maj s.a s.b s.c) % 4294967296, s.a, s.b, s.c, (s.d + mixOf s k w) % 4294967296, s.e, s.f, s.g⟩
def rds (K W : Nat → Int) (s : St) : Nat → St
  | 0 => s
  | i + 1 => rd (rds K W s i) (K i) (W i)
/-- the words of a block, spread out: 'm' its own sixteen -/
def sch (m : Nat → Int) (i : Nat) : Int :=
  if h : i < 16 then m i else (sch m (i - 16) + near (sch m (i - 15)) + sch m (i - 7) + far (sch m (i - 2))) % 4294967296
termination_by i
def Kt : List Int := [1116352408, 1899447441, 3049323471, 3921009573, 961987163, 1508970993, 2453635748, 2870763221, 3624381080, 310598401, 607225278, 1426881987, 1925078388, 2162078206, 2614888103, 3248222580, 3835390401, 4022224774, 264347078, 604807628, 770255983, 1249150122, 1555081692, 1996064986, 2554220882, 2821834349, 2952996808, 3210313671, 3336571891, 3584528711, 113926993, 338241895, 666307205, 773529912, 1294757372, 1396182291, 1695183700, 1986661051, 2177026350, 2456956037, 2730485921, 2820302411, 3259730800, 3345764771, 3516065817, 3600352804, 4094571909, 275423344, 430227734, 506948616, 659060556, 883997877, 958139571, 1322822218, 1537002063, 1747873779, 1955562222, 2024104815, 2227730452, 2361852424, 2428436474, 2756734187, 3204031479, 3329325298]
def Kf (i : Nat) : Int := Kt.getD i 0
/-- sixteen words out of 64 bytes -/
def wordOf (p : Nat → Int) (i : Nat) : Int := p (4 * i) * 16777216 + p (4 * i + 1) * 65536 + p (4 * i + 2) * 256 + p (4 * i + 3)
def St.add (s t : St) : St := ⟨(s.a + t.a) % 4294967296, (s.b + t.b) % 4294967296, (s.c + t.c) % 4294967296, (s.d + t.d) % 4294967296, (s.e + t.e) % 4294967296, (s.f + t.f) % 4294967296, (s.g + t.g) % 4294967296, (s.h + t.h) % 4294967296⟩
/-- what a block makes of the words -/
def press (s : St) (p : Nat → Int) : St := s.add (rds Kf (sch (wordOf p)) s 64)
def st0 : St := ⟨1779033703, 3144134277, 1013904242, 2773480762, 1359893119, 2600822924, 528734635, 1541459225⟩
/-- behind n blocks of the bytes L -/
def after (L : List Int) : Nat → St
  | 0 => st0
  | n + 1 => press (after L n) (fun j => L.getD (64 * n + j) 0)
/-- a number's form of n bytes: byte i of it -/
def formAt (x : Int) (n i : Nat) : Int := x / 2 ^ (8 * (n - 1 - i)) % 256
def formL (x : Int) (n : Nat) : List Int := (List.range n).map (formAt x n)
def zerosOf (n : Nat) : Nat := (119 - n % 64) % 64
def padded (L : List Int) : List Int := L ++ (128 :: List.replicate (zerosOf L.length) 0) ++ formL (8 * L.length) 8
def digSt (L : List Int) : St := after (padded L) ((padded L).length / 64)
/-- byte i of the fingerprint -/
def dig (L : List Int) (i : Nat) : Int := formAt ((digSt L).at (i / 4)) 4 (i % 4)

theorem wrap_u32_eq (x : Int) : IntKind.u32.wrap x = x % 4294967296 := by simp [IntKind.wrap, IntKind.bits, IntKind.signed]
theorem bits_isW (op : BinOp) (x y : Int) : isW (bits op .u32 x y) := by unfold bits isW; rw [wrap_u32_eq]; omega
theorem mod_isW (x : Int) : isW (x % 4294967296) := by unfold isW; omega
theorem rr_isW (x : Int) (n : Nat) (hn : n ≤ 32) (h : isW x) : isW (rr x n) := by
  unfold isW rr at *
  have e : (2 : Int) ^ n * 2 ^ (32 - n) = 4294967296 := by rw [← Int.pow_add, show n + (32 - n) = 32 by omega]; rfl
  have p1 : (0 : Int) < 2 ^ n := Int.pow_pos (by decide)
  have p2 : (0 : Int) < 2 ^ (32 - n) := Int.pow_pos (by decide)
  generalize (2 : Int) ^ n = P at *
  generalize (2 : Int) ^ (32 - n) = Q at *
  have d1 : x / P < Q := Int.ediv_lt_of_lt_mul p1 (by rw [Int.mul_comm, e]; exact h.2)
  have d0 : 0 ≤ x / P := Int.ediv_nonneg h.1 (Int.le_of_lt p1)
  have m0 : 0 ≤ x % P := Int.emod_nonneg _ (by omega)
  have m1 : x % P < P := Int.emod_lt_of_pos _ p1
  have q0 : 0 ≤ x % P * Q := Int.mul_nonneg m0 (Int.le_of_lt p2)
  have q1 : x % P * Q ≤ (P - 1) * Q := Int.mul_le_mul_of_nonneg_right (by omega) (Int.le_of_lt p2)
  rw [Int.sub_mul, e] at q1
  omega
theorem ofInt_toNat32 (x : Int) (h : isW x) : (BitVec.ofInt 32 x).toNat = x.toNat := by
  unfold isW at h; rw [BitVec.toNat_ofInt]; omega
/-- 'or' of the two parts is the turned word -/
theorem or_rr (x : Int) (n : Nat) (hn : n ≤ 32) (h : isW x) : bits .or .u32 (x / 2 ^ n) (IntKind.u32.wrap (x * 2 ^ (32 - n))) = rr x n := by
  have hr := rr_isW x n hn h
  unfold rr at *
  obtain ⟨X, rfl⟩ := Int.eq_ofNat_of_zero_le h.1
  have e : 2 ^ n * 2 ^ (32 - n) = 4294967296 := by rw [← Nat.pow_add, show n + (32 - n) = 32 by omega]
  have hq : ((X : Int) * 2 ^ (32 - n)) % 4294967296 = ((X % 2 ^ n * 2 ^ (32 - n) : Nat) : Int) := by
    have : ((X : Int) * 2 ^ (32 - n)) % 4294967296 = ((X * 2 ^ (32 - n) % 4294967296 : Nat) : Int) := by simp
    rw [this, ← e, Nat.mul_mod_mul_right]
  have hd : (X : Int) / 2 ^ n = ((X / 2 ^ n : Nat) : Int) := by simp
  have hm : (X : Int) % 2 ^ n * 2 ^ (32 - n) = ((X % 2 ^ n * 2 ^ (32 - n) : Nat) : Int) := by simp
  rw [hd, hm] at hr
  rw [wrap_u32_eq, hq, hd, hm]
  have lt : X / 2 ^ n < 2 ^ (32 - n) := by
    apply Nat.div_lt_of_lt_mul
    rw [e]; have := h.2; omega
  have o := Nat.shiftLeft_add_eq_or_of_lt lt (X % 2 ^ n)
  rw [Nat.shiftLeft_eq] at o
  clear hq hd hm lt h
  generalize X / 2 ^ n = U at *
  generalize X % 2 ^ n * 2 ^ (32 - n) = V at *
  show IntKind.u32.wrap ((BitVec.ofInt 32 (U : Int) ||| BitVec.ofInt 32 (V : Int)).toNat : Int) = _
  have w1 : isW (U : Int) := by unfold isW at *; omega
  have w2 : isW (V : Int) := by unfold isW at *; omega
  rw [BitVec.toNat_or, ofInt_toNat32 _ w1, ofInt_toNat32 _ w2, Int.toNat_natCast, Int.toNat_natCast]
  rw [Nat.or_comm, ← o, wrap_u32_eq]
  unfold isW at hr
  omega
/-- one step of the plain turning -/
theorem rr_succ (x : Int) (k : Nat) (hk : k < 32) : rr x (k + 1) = rr x k / 2 + rr x k % 2 * 2147483648 := by
  unfold rr
  have e : (2 : Int) ^ k * 2 ^ (31 - k) = 2147483648 := by rw [← Int.pow_add, show k + (31 - k) = 31 by omega]; decide
  have e2 : (2 : Int) ^ (32 - k) = 2 * 2 ^ (31 - k) := by rw [show 32 - k = (31 - k) + 1 by omega, Int.pow_succ, Int.mul_comm]
  rw [show 32 - (k + 1) = 31 - k by omega, e2, Int.pow_succ]
  have p1 : (0 : Int) < 2 ^ k := Int.pow_pos (by decide)
  have p2 : (0 : Int) < 2 ^ (31 - k) := Int.pow_pos (by decide)
  generalize (2 : Int) ^ k = P at *
  generalize (2 : Int) ^ (31 - k) = M at *
  have a1 : x / (P * 2) = x / P / 2 := by rw [Int.ediv_ediv_of_nonneg (Int.le_of_lt p1)]
  have a2 : x % (P * 2) = x % P + P * (x / P % 2) := by
    have i1 := Int.mul_ediv_add_emod x P
    have i2 := Int.mul_ediv_add_emod (x / P) 2
    have i3 := Int.mul_ediv_add_emod x (P * 2)
    rw [a1] at i3
    have : P * (2 * (x / P / 2) + x / P % 2) + x % P = P * 2 * (x / P / 2) + x % (P * 2) := by rw [i2, i1, i3]
    rw [Int.mul_add, ← Int.mul_assoc] at this
    omega
  rw [a1, a2, Int.add_mul, Int.mul_assoc P, Int.mul_comm (x / P % 2) M, ← Int.mul_assoc, e]
  have : x % P * (2 * M) = 2 * (x % P * M) := by rw [← Int.mul_assoc, Int.mul_comm _ 2, Int.mul_assoc]
  rw [this]
  omega
theorem rr_zero (x : Int) : rr x 0 = x := by unfold rr; simp
theorem near_isW (x : Int) : isW (near x) := bits_isW _ _ _
theorem far_isW (x : Int) : isW (far x) := bits_isW _ _ _
theorem rd_ok {s : St} (h : s.ok) (k w : Int) : (rd s k w).ok := ⟨mod_isW _, h.a, h.b, h.c, mod_isW _, h.e, h.f, h.g⟩
theorem rds_ok {s : St} (h : s.ok) (K W : Nat → Int) (n : Nat) : (rds K W s n).ok := by
  induction n with
  | zero => exact h
  | succ n ih => exact rd_ok ih _ _
theorem add_ok (s t : St) : (s.add t).ok := ⟨mod_isW _, mod_isW _, mod_isW _, mod_isW _, mod_isW _, mod_isW _, mod_isW _, mod_isW _⟩
theorem st0_ok : st0.ok := by constructor <;> (unfold isW; decide)
theorem after_ok (L : List Int) (n : Nat) : (after L n).ok := by
  cases n with
  | zero => exact st0_ok
  | succ n => exact add_ok _ _
theorem sch_lo (m : Nat → Int) (i : Nat) (h : i < 16) : sch m i = m i := by rw [sch]; simp [h]
theorem sch_hi (m : Nat → Int) (i : Nat) (h : 16 ≤ i) : sch m i = (sch m (i - 16) + near (sch m (i - 15)) + sch m (i - 7) + far (sch m (i - 2))) % 4294967296 := by
  rw [sch]; simp [Nat.not_lt.2 h]
theorem sch_isW (m : Nat → Int) (hm : ∀ i, i < 16 → isW (m i)) (i : Nat) : isW (sch m i) := by
  by_cases h : i < 16
  · rw [sch_lo m i h]; exact hm i h
  · rw [sch_hi m i (by omega)]; exact mod_isW _
theorem Kt_isW : ∀ x ∈ Kt, isW x := by unfold isW; decide
theorem Kf_isW (i : Nat) : isW (Kf i) := by
  unfold Kf
  rw [List.getD_eq_getElem?_getD]
  cases h : Kt[i]? with
  | none => unfold isW; simp
  | some x => exact Kt_isW x (List.mem_of_getElem? h)
theorem at_isW {s : St} (h : s.ok) (i : Nat) : isW (s.at i) := by
  unfold St.at
  split
  · exact h.a
  · exact h.b
  · exact h.c
  · exact h.d
  · exact h.e
  · exact h.f
  · exact h.g
  · exact h.h
  · unfold isW; omega
theorem add_at (s t : St) (i : Nat) (h : i < 8) : (s.add t).at i = (s.at i + t.at i) % 4294967296 := by
  have : i = 0 ∨ i = 1 ∨ i = 2 ∨ i = 3 ∨ i = 4 ∨ i = 5 ∨ i = 6 ∨ i = 7 := by omega
  rcases this with rfl | rfl | rfl | rfl | rfl | rfl | rfl | rfl <;> rfl
theorem press_congr (s : St) (p q : Nat → Int) (h : ∀ j, j < 64 → p j = q j) : press s p = press s q := by
  have hw : ∀ i, i < 16 → wordOf p i = wordOf q i := fun i hi => by unfold wordOf; rw [h _ (by omega), h _ (by omega), h _ (by omega), h _ (by omega)]
  have hs : ∀ n i, i ≤ n → sch (wordOf p) i = sch (wordOf q) i := by
    intro n
    induction n with
    | zero => intro i hi; rw [sch_lo _ i (by omega), sch_lo _ i (by omega), hw i (by omega)]
    | succ n ih =>
      intro i hi
      by_cases h16 : i < 16
      · rw [sch_lo _ i h16, sch_lo _ i h16, hw i h16]
      · rw [sch_hi _ i (by omega), sch_hi _ i (by omega), ih _ (by omega), ih _ (by omega), ih _ (by omega), ih _ (by omega)]
  have hr : ∀ n, rds Kf (sch (wordOf p)) s n = rds Kf (sch (wordOf q)) s n := by
    intro n
    induction n with
    | zero => rfl
    | succ n ih => rw [rds, rds, ih, hs n n (Nat.le_refl _)]
  unfold press; rw [hr]
theorem after_congr (L M : List Int) (n : Nat) (h : ∀ j, j < 64 * n → L.getD j 0 = M.getD j 0) : after L n = after M n := by
  induction n with
  | zero => rfl
  | succ n ih => rw [after, after, ih (fun j hj => h j (by omega)), press_congr _ _ _ (fun j hj => h _ (by omega))]
end Go.Proofs.YtbdahkbgjbaenaaDoor
