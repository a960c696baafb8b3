/- The reference's order. -/
import Derived.Test.YtfgkkccgecnchaaLr
import Derived.Test.YtfgkkccgecnchaaRr
import Derived.Deep.Cut
import Derived.Deep.DeepCutAuto
import Derived.Deep.CutBlock
import Derived.Deep.RegionHeld3
namespace Go.Proofs.Ytfgkkccgecnchaa
open Go.RowKit

theorem ret_i4 {a b : Int} (h : a = b) : Ending.returned (.int .i64 a) = .returned (.int .i64 b) := by rw [h]
/-- what the reference holds of two values of one kind, ahead of their elements -/
def Fin (A : Val) (R : Int) (L M : Bool) : Prop := (A.k = 4 ∨ A.k = 5 → L = false ∧ M = false) ∧ (A.k ≠ 4 → A.k ≠ 5 → R = if L = true then -1 else if M = true then 1 else 0)
theorem EV.held {w W : World} {b p N : Nat} {X : Val} {oL oK : Option Addr} {cL cK : Nat} (h : EV w b p X oL oK cL cK) (k : ∀ b o, b < N → W.cell? ⟨b, o, none⟩ = w.cell? ⟨b, o, none⟩) (hb : b < N) : EV W b p X oL oK cL cK :=
  ⟨(k _ _ hb).trans h.c0, (k _ _ hb).trans h.c1, (k _ _ hb).trans h.c2, (k _ _ hb).trans h.c3, (k _ _ hb).trans h.c4, (k _ _ hb).trans h.c5, (k _ _ hb).trans h.c6, (k _ _ hb).trans h.c7⟩
theorem fin_i {A B : Val} (hk : A.k = B.k) (h1 : A.k = 1 ∨ A.k = 2) : Fin A (ord A B) (decide (A.i < B.i)) (decide (B.i < A.i)) := by
  refine ⟨fun h => by omega, fun _ _ => ?_⟩
  rw [ord_eq, if_neg (show ¬ (A.k ≠ B.k) from fun h => h hk), if_pos h1]
  unfold cmpI; simp
theorem fin_s {A B : Val} (hk : A.k = B.k) (h3 : A.k = 3) : Fin A (ord A B) (blt A.s B.s) (!Op.bytesLess A.s.toList B.s.toList && !A.s.toList == B.s.toList) := by
  refine ⟨fun h => by omega, fun _ _ => ?_⟩
  rw [ord_eq, if_neg (show ¬ (A.k ≠ B.k) from fun h => h hk), if_neg (by omega), if_pos h3]
  unfold cmpS
  by_cases h1 : blt A.s B.s = true
  · rw [if_pos h1, if_pos h1]
  · rw [if_neg h1, if_neg h1]
    have h1' : Op.bytesLess A.s.toList B.s.toList = false := by simpa [blt] using h1
    by_cases h2 : A.s = B.s
    · rw [if_pos h2, h2]; simp
    · have h3 : (A.s.toList == B.s.toList) = false := (str_ne h2).1
      rw [if_neg h2, h1', h3]; simp
theorem fin_t {A B : Val} (hk : A.k = B.k) (h6 : A.k = 6) (oa : Typ.okB A.tk A.to = true) (ob : Typ.okB B.tk B.to = true) : Fin A (ord A B) (decide (8 * A.tk + A.to < 8 * B.tk + B.to)) (decide (8 * B.tk + B.to < 8 * A.tk + A.to)) := by
  refine ⟨fun h => by omega, fun _ _ => ?_⟩
  rw [ord_eq, if_neg (show ¬ (A.k ≠ B.k) from fun h => h hk), if_neg (by omega), if_neg (by omega), if_neg (by omega), if_pos h6]
  unfold cmpI Typ.code; simp [oa, ob]
theorem fin_o {A B : Val} (hk : A.k = B.k) (h : A.k = 0 ∨ A.k = 4 ∨ A.k = 5) : Fin A (ord A B) false false := by
  refine ⟨fun _ => ⟨rfl, rfl⟩, fun _ _ => ?_⟩
  rw [ord_eq, if_neg (show ¬ (A.k ≠ B.k) from fun h => h hk), if_neg (by omega), if_neg (by omega), if_neg (by omega), if_neg (by omega)]; rfl
theorem fin_end {A B : Val} {R : Int} {L M : Bool} (hk : A.k = B.k) (hF : Fin A R L M) {j : Nat} (hj : j = min (cnt A) (cnt B)) (hR : A.k = 4 ∨ A.k = 5 → ordR A B j = R) : R = if L = true ∨ cnt A < cnt B then -1 else if M = true ∨ cnt B < cnt A then 1 else 0 := by
  by_cases h : A.k = 4 ∨ A.k = 5
  · obtain ⟨rfl, rfl⟩ := hF.1 h
    rw [← hR h, ordR_end hj]
    unfold cmpI
    simp only [Bool.false_eq_true, false_or, Int.ofNat_lt]
  · have a : cnt A = 0 := cnt_flat (by omega) (by omega)
    have b : cnt B = 0 := cnt_flat (by omega) (by omega)
    have := hF.2 (by omega) (by omega)
    rw [this, a, b]; simp
theorem ord_R0 {A B : Val} (hk : A.k = B.k) (h : A.k = 4 ∨ A.k = 5) : ordR A B 0 = ord A B := by
  rw [ord_eq, if_neg (show ¬ (A.k ≠ B.k) from fun h => h hk), if_neg (by omega), if_neg (by omega), if_pos h]; rfl
set_option maxRecDepth 100000 in
set_option maxHeartbeats 8000000 in
theorem rord_any (N : Nat) : ∀ (n : Nat) (A B : Val) (a b : Value) (w : World) (m m' : Nat), okT m A = true → okT m' B = true → sz A + sz B ≤ N → Lies n w A a → Lies n w B b → n ≤ w.heap.size → Calls Try.prog 64 #[a, b] w fun e w' => e = .returned (.int .i64 (ord A B)) ∧ Below w.heap.size w w' := by
  induction N with
  | zero => intro n A B a b w m m' _ _ hs; have := sz_pos A; omega
  | succ N ih =>
    intro n A B a b w m m' hA hB hs ha hb hn
    obtain ⟨okA, chA⟩ := okT_ok hA
    obtain ⟨okB', chB⟩ := okT_ok hB
    obtain ⟨oL, oK, cL, cK, c, rfl, O⟩ := ha.inv
    obtain ⟨oL', oK', cL', cK', c', rfl, O'⟩ := hb.inv
    obtain ⟨R, hR⟩ : ∃ R, R = ord A B := ⟨_, rfl⟩
    rw [← hR]
    have HR := Lib.hid hR
    have IH := Lib.hid ih
    have HOK := Lib.hid (And.intro okA (And.intro okB' (And.intro chA chB)))
    have hcA := cnt_le A
    have hcB := cnt_le B
    have lA := O.L.2.1
    have lA1 := O.L.1
    have lB := O'.L.2.1
    have lB1 := O'.L.1
    have lK := O.K.2.1
    have lK1 := O.K.1
    have lK2 := O'.K.2.1
    have lK3 := O'.K.1
    unfold maxLen at lA lB lK lK2
    have HP := Lib.hid (lie8 w A B oL oK oL' oK' cL cK cL' cK')
    have HW := Lib.hid (below22 w (bx A oL oK cL cK) (bx B oL' oK' cL' cK'))
    have HZ : Hid (((w.alloc (bx A oL oK cL cK)).alloc (bx B oL' oK' cL' cK')).heap.size = w.heap.size + 2) := by simp [Hid]
    have H := Lib.hid (And.intro (O.kept (HW.out.mono hn)) (O'.kept (HW.out.mono hn)))
    clear ha hb ih O O' hR okA okB' chA chB hA hB
    go_enter Try.func64, Try.ntmps64
    go_upto_region 1 with fail
    generalize (w.alloc _).alloc _ = w0 at *
    obtain ⟨x8, x0, x1, x2, x3, x4, x5, x6, x7⟩ := HP.out.1
    obtain ⟨y8, y0, y1, y2, y3, y4, y5, y6, y7⟩ := HP.out.2
    have hz := HZ.out
    by_cases ek : A.k = B.k
    · have gk : (A.k != B.k) = false := by simp [ek]
      have HK := Lib.hid ek
      have k0 := ok1_i HOK.out.1
      clear ek
      go_upto_block 0 with fail
      go_cut [5, 6, 7, 8] (fun s5 s6 _ _ wx => ∃ L M : Bool, s5 = .bool L ∧ s6 = .bool M ∧ Hid (Fin A R L M) ∧ Hid (Below w0.heap.size w0 wx))
      case first =>
        obtain h | h | h | h | h | h | h := k0
        · have HF : Hid (Fin A R false false) := by unfold Hid; rw [HR.out]; exact fin_o HK.out (by omega)
          have g1 : (A.k == 1) = false := by simp [h]
          have g2 : (A.k == 2) = false := by simp [h]
          have g3 : (A.k == 3) = false := by simp [h]
          have g6 : (A.k == 6) = false := by simp [h]
          clear h
          have BV := Lib.hid (Below.refl w0.heap.size w0)
          go_wp2_with fail
          go_meet
          exact ⟨false, false, rfl, rfl, HF, BV⟩
        · have HF : Hid (Fin A R (decide (A.i < B.i)) (decide (B.i < A.i))) := by unfold Hid; rw [HR.out]; exact fin_i HK.out (by omega)
          have g1 : (A.k == 1) = true := by simp [h]
          have g2 : (A.k == 2) = false := by simp [h]
          have g3 : (A.k == 3) = false := by simp [h]
          have g6 : (A.k == 6) = false := by simp [h]
          clear h
          have BV := Lib.hid (Below.refl w0.heap.size w0)
          go_wp2_with fail
          go_meet
          exact ⟨(decide (A.i < B.i)), (decide (B.i < A.i)), rfl, rfl, HF, BV⟩
        · have HF : Hid (Fin A R (decide (A.i < B.i)) (decide (B.i < A.i))) := by unfold Hid; rw [HR.out]; exact fin_i HK.out (by omega)
          have g1 : (A.k == 1) = false := by simp [h]
          have g2 : (A.k == 2) = true := by simp [h]
          have g3 : (A.k == 3) = false := by simp [h]
          have g6 : (A.k == 6) = false := by simp [h]
          clear h
          have BV := Lib.hid (Below.refl w0.heap.size w0)
          go_wp2_with fail
          go_meet
          exact ⟨(decide (A.i < B.i)), (decide (B.i < A.i)), rfl, rfl, HF, BV⟩
        · have HF : Hid (Fin A R (blt A.s B.s) (!Op.bytesLess A.s.toList B.s.toList && !A.s.toList == B.s.toList)) := by unfold Hid; rw [HR.out]; exact fin_s HK.out h
          have g1 : (A.k == 1) = false := by simp [h]
          have g2 : (A.k == 2) = false := by simp [h]
          have g3 : (A.k == 3) = true := by simp [h]
          have g6 : (A.k == 6) = false := by simp [h]
          clear h
          have BV := Lib.hid (Below.refl w0.heap.size w0)
          go_wp2_with fail
          go_meet
          exact ⟨(blt A.s B.s), (!Op.bytesLess A.s.toList B.s.toList && !A.s.toList == B.s.toList), rfl, rfl, HF, BV⟩
        · have HF : Hid (Fin A R false false) := by unfold Hid; rw [HR.out]; exact fin_o HK.out (by omega)
          have g1 : (A.k == 1) = false := by simp [h]
          have g2 : (A.k == 2) = false := by simp [h]
          have g3 : (A.k == 3) = false := by simp [h]
          have g6 : (A.k == 6) = false := by simp [h]
          clear h
          have BV := Lib.hid (Below.refl w0.heap.size w0)
          go_wp2_with fail
          go_meet
          exact ⟨false, false, rfl, rfl, HF, BV⟩
        · have HF : Hid (Fin A R false false) := by unfold Hid; rw [HR.out]; exact fin_o HK.out (by omega)
          have g1 : (A.k == 1) = false := by simp [h]
          have g2 : (A.k == 2) = false := by simp [h]
          have g3 : (A.k == 3) = false := by simp [h]
          have g6 : (A.k == 6) = false := by simp [h]
          clear h
          have BV := Lib.hid (Below.refl w0.heap.size w0)
          go_wp2_with fail
          go_meet
          exact ⟨false, false, rfl, rfl, HF, BV⟩
        · have tA := (ok1_facts HOK.out.1).2.2.2.2.2.2.1 h
          have tB := (ok1_facts HOK.out.2.1).2.2.2.2.2.2.1 (by have := HK.out; omega)
          have HF : Hid (Fin A R (decide (8 * A.tk + A.to < 8 * B.tk + B.to)) (decide (8 * B.tk + B.to < 8 * A.tk + A.to))) := by unfold Hid; rw [HR.out]; exact fin_t HK.out h tA tB
          have jA := (Typ.ok_iff _ _).1 tA
          have jB := (Typ.ok_iff _ _).1 tB
          have k1 : 0 ≤ A.tk ∧ A.tk ≤ 5 := by omega
          have k2 : 0 ≤ A.to ∧ A.to ≤ 3 := by omega
          have k3 : 0 ≤ B.tk ∧ B.tk ≤ 5 := by omega
          have k4 : 0 ≤ B.to ∧ B.to ≤ 3 := by omega
          obtain ⟨k1, k5⟩ := k1
          obtain ⟨k2, k6⟩ := k2
          obtain ⟨k3, k7⟩ := k3
          obtain ⟨k4, k8⟩ := k4
          clear jA jB tA tB
          have g1 : (A.k == 1) = false := by simp [h]
          have g2 : (A.k == 2) = false := by simp [h]
          have g3 : (A.k == 3) = false := by simp [h]
          have g6 : (A.k == 6) = true := by simp [h]
          clear h
          have BW := Lib.hid (Below.refl w0.heap.size w0)
          go_upto_region 15 with fail
          obtain ⟨Nz, hNz⟩ : ∃ N, N = w0.heap.size := ⟨_, rfl⟩
          have S0 := held_at hNz
          have l0z : w.heap.size < Nz := by have := BW.out.size; have := HZ.out; omega
          have l1z : w.heap.size + 1 < Nz := by have := BW.out.size; have := HZ.out; omega
          have HNz := Lib.hid hNz
          clear hNz
          have LWz : Hid (∀ W, ((∀ b o, b < Nz → W.cell? ⟨b, o, none⟩ = w0.cell? ⟨b, o, none⟩) ∧ Hid (Below Nz w0 W) ∧ Hid (Nz ≤ W.heap.size)) → Below w0.heap.size w0 W) := fun W h => BW.out.trans (h.2.1.out.mono (by rw [HNz.out]; exact BW.out.size))
          refine wp_region_noPanic ?_
          refine wp_region_held_drew (S := (fun W => (∀ b o, b < Nz → W.cell? ⟨b, o, none⟩ = w0.cell? ⟨b, o, none⟩) ∧ Hid (Below Nz w0 W) ∧ Hid (Nz ≤ W.heap.size))) (by kernel_rfl) ?_ (fun hH => ?_)
          · exact S0
          refine wpAnyH_take (i := 0) (oi := { dst := some 50, op := Op.fieldAddr 27 (Operand.tmp 2) 5, type := 0, pos := "ref.go:206", after := #[], guard := none }) (v := ?_) rfl (by kernel_rfl) (by kernel_rfl) (by kernel_rfl) (fun _ _ _ h => h) (Or.inl ⟨by rfl, ?_⟩) (by assumption) ?_
          rotate_left
          · (intro w hSw; (try dsimp only at hSw); go_simp; try with_reducible rfl)
          try simp only [Act.put, List.setIfInBounds_toArray, List.set_cons_zero, List.set_cons_succ]
          refine wpAnyH_take (i := 1) (oi := { dst := some 51, op := Op.fieldAddr 25 (Operand.tmp 50) 0, type := 0, pos := "ref.go:206", after := #[{ on := 0, ground := Ground.data }], guard := none }) (v := ?_) rfl (by kernel_rfl) (by kernel_rfl) (by kernel_rfl) (fun _ _ _ h => h) (Or.inl ⟨by rfl, ?_⟩) (by assumption) ?_
          rotate_left
          · (intro w hSw; (try dsimp only at hSw); go_simp; try with_reducible rfl)
          try simp only [Act.put, List.setIfInBounds_toArray, List.set_cons_zero, List.set_cons_succ]
          refine wpAnyH_take (i := 2) (oi := { dst := some 52, op := Op.load 3 (Operand.tmp 51), type := 3, pos := "ref.go:206", after := #[{ on := 1, ground := Ground.data }], guard := none }) (v := ?_) rfl (by kernel_rfl) (by kernel_rfl) (by kernel_rfl) (fun _ _ _ h => h) (Or.inl ⟨by rfl, ?_⟩) (by assumption) ?_
          rotate_left
          · (intro w hSw; (try dsimp only at hSw); go_simp; try with_reducible rfl)
          try simp only [Act.put, List.setIfInBounds_toArray, List.set_cons_zero, List.set_cons_succ]
          refine wpAnyH_take (i := 3) (oi := { dst := some 53, op := Op.binOp BinOp.mul 3 (Operand.const (Value.int IntKind.i64 8)) (Operand.tmp 52) 3, type := 3, pos := "ref.go:206", after := #[{ on := 2, ground := Ground.data }], guard := none }) (v := ?_) rfl (by kernel_rfl) (by kernel_rfl) (by kernel_rfl) (fun _ _ _ h => h) (Or.inl ⟨by rfl, ?_⟩) (by assumption) ?_
          rotate_left
          · (intro w hSw; (try dsimp only at hSw); go_simp; try with_reducible rfl)
          try simp only [Act.put, List.setIfInBounds_toArray, List.set_cons_zero, List.set_cons_succ]
          refine wpAnyH_take (i := 4) (oi := { dst := some 54, op := Op.fieldAddr 27 (Operand.tmp 2) 5, type := 0, pos := "ref.go:206", after := #[], guard := none }) (v := ?_) rfl (by kernel_rfl) (by kernel_rfl) (by kernel_rfl) (fun _ _ _ h => h) (Or.inl ⟨by rfl, ?_⟩) (by assumption) ?_
          rotate_left
          · (intro w hSw; (try dsimp only at hSw); go_simp; try with_reducible rfl)
          try simp only [Act.put, List.setIfInBounds_toArray, List.set_cons_zero, List.set_cons_succ]
          refine wpAnyH_take (i := 5) (oi := { dst := some 55, op := Op.fieldAddr 25 (Operand.tmp 54) 1, type := 0, pos := "ref.go:206", after := #[{ on := 4, ground := Ground.data }], guard := none }) (v := ?_) rfl (by kernel_rfl) (by kernel_rfl) (by kernel_rfl) (fun _ _ _ h => h) (Or.inl ⟨by rfl, ?_⟩) (by assumption) ?_
          rotate_left
          · (intro w hSw; (try dsimp only at hSw); go_simp; try with_reducible rfl)
          try simp only [Act.put, List.setIfInBounds_toArray, List.set_cons_zero, List.set_cons_succ]
          refine wpAnyH_take (i := 6) (oi := { dst := some 56, op := Op.load 3 (Operand.tmp 55), type := 3, pos := "ref.go:206", after := #[{ on := 5, ground := Ground.data }], guard := none }) (v := ?_) rfl (by kernel_rfl) (by kernel_rfl) (by kernel_rfl) (fun _ _ _ h => h) (Or.inl ⟨by rfl, ?_⟩) (by assumption) ?_
          rotate_left
          · (intro w hSw; (try dsimp only at hSw); go_simp; try with_reducible rfl)
          try simp only [Act.put, List.setIfInBounds_toArray, List.set_cons_zero, List.set_cons_succ]
          refine wpAnyH_take (i := 7) (oi := { dst := some 57, op := Op.binOp BinOp.add 3 (Operand.tmp 53) (Operand.tmp 56) 3, type := 3, pos := "ref.go:206", after := #[{ on := 3, ground := Ground.data }, { on := 6, ground := Ground.data }], guard := none }) (v := ?_) rfl (by kernel_rfl) (by kernel_rfl) (by kernel_rfl) (fun _ _ _ h => h) (Or.inl ⟨by rfl, ?_⟩) (by assumption) ?_
          rotate_left
          · (intro w hSw; (try dsimp only at hSw); go_simp; try with_reducible rfl)
          try simp only [Act.put, List.setIfInBounds_toArray, List.set_cons_zero, List.set_cons_succ]
          refine wpAnyH_take (i := 8) (oi := { dst := some 58, op := Op.fieldAddr 27 (Operand.tmp 3) 5, type := 0, pos := "ref.go:206", after := #[{ on := 16, ground := Ground.gcOnly Departure.lateStores }], guard := none }) (v := ?_) rfl (by kernel_rfl) (by kernel_rfl) (by kernel_rfl) (fun _ _ _ h => h) (Or.inl ⟨by rfl, ?_⟩) (by assumption) ?_
          rotate_left
          · (intro w hSw; (try dsimp only at hSw); go_simp; try with_reducible rfl)
          try simp only [Act.put, List.setIfInBounds_toArray, List.set_cons_zero, List.set_cons_succ]
          refine wpAnyH_take (i := 9) (oi := { dst := some 59, op := Op.fieldAddr 25 (Operand.tmp 58) 0, type := 0, pos := "ref.go:206", after := #[{ on := 8, ground := Ground.data }, { on := 16, ground := Ground.gcOnly Departure.lateStores }], guard := none }) (v := ?_) rfl (by kernel_rfl) (by kernel_rfl) (by kernel_rfl) (fun _ _ _ h => h) (Or.inl ⟨by rfl, ?_⟩) (by assumption) ?_
          rotate_left
          · (intro w hSw; (try dsimp only at hSw); go_simp; try with_reducible rfl)
          try simp only [Act.put, List.setIfInBounds_toArray, List.set_cons_zero, List.set_cons_succ]
          refine wpAnyH_take (i := 10) (oi := { dst := some 60, op := Op.load 3 (Operand.tmp 59), type := 3, pos := "ref.go:206", after := #[{ on := 9, ground := Ground.data }, { on := 16, ground := Ground.gcOnly Departure.lateStores }], guard := none }) (v := ?_) rfl (by kernel_rfl) (by kernel_rfl) (by kernel_rfl) (fun _ _ _ h => h) (Or.inl ⟨by rfl, ?_⟩) (by assumption) ?_
          rotate_left
          · (intro w hSw; (try dsimp only at hSw); go_simp; try with_reducible rfl)
          try simp only [Act.put, List.setIfInBounds_toArray, List.set_cons_zero, List.set_cons_succ]
          refine wpAnyH_take (i := 11) (oi := { dst := some 61, op := Op.binOp BinOp.mul 3 (Operand.const (Value.int IntKind.i64 8)) (Operand.tmp 60) 3, type := 3, pos := "ref.go:206", after := #[{ on := 10, ground := Ground.data }, { on := 16, ground := Ground.gcOnly Departure.lateStores }], guard := none }) (v := ?_) rfl (by kernel_rfl) (by kernel_rfl) (by kernel_rfl) (fun _ _ _ h => h) (Or.inl ⟨by rfl, ?_⟩) (by assumption) ?_
          rotate_left
          · (intro w hSw; (try dsimp only at hSw); go_simp; try with_reducible rfl)
          try simp only [Act.put, List.setIfInBounds_toArray, List.set_cons_zero, List.set_cons_succ]
          refine wpAnyH_take (i := 12) (oi := { dst := some 62, op := Op.fieldAddr 27 (Operand.tmp 3) 5, type := 0, pos := "ref.go:206", after := #[{ on := 16, ground := Ground.gcOnly Departure.lateStores }], guard := none }) (v := ?_) rfl (by kernel_rfl) (by kernel_rfl) (by kernel_rfl) (fun _ _ _ h => h) (Or.inl ⟨by rfl, ?_⟩) (by assumption) ?_
          rotate_left
          · (intro w hSw; (try dsimp only at hSw); go_simp; try with_reducible rfl)
          try simp only [Act.put, List.setIfInBounds_toArray, List.set_cons_zero, List.set_cons_succ]
          refine wpAnyH_take (i := 13) (oi := { dst := some 63, op := Op.fieldAddr 25 (Operand.tmp 62) 1, type := 0, pos := "ref.go:206", after := #[{ on := 12, ground := Ground.data }, { on := 16, ground := Ground.gcOnly Departure.lateStores }], guard := none }) (v := ?_) rfl (by kernel_rfl) (by kernel_rfl) (by kernel_rfl) (fun _ _ _ h => h) (Or.inl ⟨by rfl, ?_⟩) (by assumption) ?_
          rotate_left
          · (intro w hSw; (try dsimp only at hSw); go_simp; try with_reducible rfl)
          try simp only [Act.put, List.setIfInBounds_toArray, List.set_cons_zero, List.set_cons_succ]
          refine wpAnyH_take (i := 14) (oi := { dst := some 64, op := Op.load 3 (Operand.tmp 63), type := 3, pos := "ref.go:206", after := #[{ on := 13, ground := Ground.data }, { on := 16, ground := Ground.gcOnly Departure.lateStores }], guard := none }) (v := ?_) rfl (by kernel_rfl) (by kernel_rfl) (by kernel_rfl) (fun _ _ _ h => h) (Or.inl ⟨by rfl, ?_⟩) (by assumption) ?_
          rotate_left
          · (intro w hSw; (try dsimp only at hSw); go_simp; try with_reducible rfl)
          try simp only [Act.put, List.setIfInBounds_toArray, List.set_cons_zero, List.set_cons_succ]
          refine wpAnyH_take (i := 15) (oi := { dst := some 65, op := Op.binOp BinOp.add 3 (Operand.tmp 61) (Operand.tmp 64) 3, type := 3, pos := "ref.go:206", after := #[{ on := 11, ground := Ground.data }, { on := 14, ground := Ground.data }, { on := 16, ground := Ground.gcOnly Departure.lateStores }], guard := none }) (v := ?_) rfl (by kernel_rfl) (by kernel_rfl) (by kernel_rfl) (fun _ _ _ h => h) (Or.inl ⟨by rfl, ?_⟩) (by assumption) ?_
          rotate_left
          · (intro w hSw; (try dsimp only at hSw); go_simp; try with_reducible rfl)
          try simp only [Act.put, List.setIfInBounds_toArray, List.set_cons_zero, List.set_cons_succ]
          refine wpAnyH_take (i := 16) (oi := { dst := some 7, op := Op.assign (Operand.tmp 57), type := 3, pos := "ref.go:206", after := #[{ on := 7, ground := Ground.data }, { on := 0, ground := Ground.phase }, { on := 1, ground := Ground.phase }, { on := 2, ground := Ground.phase }, { on := 3, ground := Ground.phase }, { on := 4, ground := Ground.phase }, { on := 5, ground := Ground.phase }, { on := 6, ground := Ground.phase }, { on := 7, ground := Ground.phase }, { on := 8, ground := Ground.textOnly Departure.lateStores }, { on := 9, ground := Ground.textOnly Departure.lateStores }, { on := 10, ground := Ground.textOnly Departure.lateStores }, { on := 11, ground := Ground.textOnly Departure.lateStores }, { on := 12, ground := Ground.textOnly Departure.lateStores }, { on := 13, ground := Ground.textOnly Departure.lateStores }, { on := 14, ground := Ground.textOnly Departure.lateStores }, { on := 15, ground := Ground.textOnly Departure.lateStores }], guard := none }) (v := ?_) rfl (by kernel_rfl) (by kernel_rfl) (by kernel_rfl) (fun _ _ _ h => h) (Or.inl ⟨by rfl, ?_⟩) (by assumption) ?_
          rotate_left
          · (intro w hSw; (try dsimp only at hSw); go_simp; try with_reducible rfl)
          try simp only [Act.put, List.setIfInBounds_toArray, List.set_cons_zero, List.set_cons_succ]
          refine wpAnyH_take (i := 17) (oi := { dst := some 8, op := Op.assign (Operand.tmp 65), type := 3, pos := "ref.go:206", after := #[{ on := 15, ground := Ground.data }, { on := 16, ground := Ground.chain }, { on := 0, ground := Ground.phase }, { on := 1, ground := Ground.phase }, { on := 2, ground := Ground.phase }, { on := 3, ground := Ground.phase }, { on := 4, ground := Ground.phase }, { on := 5, ground := Ground.phase }, { on := 6, ground := Ground.phase }, { on := 7, ground := Ground.phase }, { on := 8, ground := Ground.phase }, { on := 9, ground := Ground.phase }, { on := 10, ground := Ground.phase }, { on := 11, ground := Ground.phase }, { on := 12, ground := Ground.phase }, { on := 13, ground := Ground.phase }, { on := 14, ground := Ground.phase }, { on := 15, ground := Ground.phase }, { on := 16, ground := Ground.phase }], guard := none }) (v := ?_) rfl (by kernel_rfl) (by kernel_rfl) (by kernel_rfl) (fun _ _ _ h => h) (Or.inl ⟨by rfl, ?_⟩) (by assumption) ?_
          rotate_left
          · (intro w hSw; (try dsimp only at hSw); go_simp; try with_reducible rfl)
          try simp only [Act.put, List.setIfInBounds_toArray, List.set_cons_zero, List.set_cons_succ]
          refine wpAnyH_done (by kernel_rfl) ?_ _
          refine NoPanic.normal ?_
          have BV := Lib.hid (LWz.out _ hH)
          clear S0 hH LWz HNz l0z l1z
          go_wp2_with fail
          go_meet
          exact ⟨(decide (8 * A.tk + A.to < 8 * B.tk + B.to)), (decide (8 * B.tk + B.to < 8 * A.tk + A.to)), rfl, rfl, HF, BV⟩
      case rest =>
        obtain ⟨L, M, rfl, rfl, HF, HB0⟩ := hcut
        clear x8 x0 x1 x2 x3 x4 x5 x6 x7 y8 y0 y1 y2 y3 y4 y5 y6 y7 gk k0
        go_wp2_with fail
        go_loopw [9] (fun i wr => ∃ j : Nat, j ≤ cnt A ∧ j ≤ cnt B ∧ i = .int .i64 j ∧ Hid (A.k = 4 ∨ A.k = 5 → ordR A B j = R) ∧ Hid (Below w0.heap.size w0 wr)) (fun i _ => cnt A - (intOf i).toNat)
        case atStart => exact ⟨0, Nat.zero_le _, Nat.zero_le _, rfl, (fun h => by rw [HR.out]; exact ord_R0 HK.out h), HB0.out⟩
        case round =>
          obtain ⟨j, hj, hjb, rfl, hok, hbr⟩ := hrel
          obtain ⟨x8, x0, x1, x2, x3, x4, x5, x6, x7⟩ := HP.out.1.kept hbr.out (by have := HZ.out; omega)
          obtain ⟨y8, y0, y1, y2, y3, y4, y5, y6, y7⟩ := HP.out.2.kept hbr.out (by have := HZ.out; omega)
          go_wp2_with fail
          refine (len_any (H.out.1.kept (hbr.out.mono (by have := HZ.out; omega))).lies).mono ?_
          rintro e w2 ⟨rfl, b2⟩
          have B2a := Lib.hid (hbr.out.trans (b2.mono hbr.out.size))
          clear b2 x8 x0 x1 x2 x3 x4 x5 x6 x7 y8 y0 y1 y2 y3 y4 y5 y6 y7
          by_cases hlt : j < cnt A
          · skip
            obtain ⟨x8, x0, x1, x2, x3, x4, x5, x6, x7⟩ := HP.out.1.kept B2a.out (by have := HZ.out; omega)
            obtain ⟨y8, y0, y1, y2, y3, y4, y5, y6, y7⟩ := HP.out.2.kept B2a.out (by have := HZ.out; omega)
            go_wp2_with fail
            refine (len_any (H.out.2.kept (B2a.out.mono (by have := HZ.out; omega))).lies).mono ?_
            rintro e w3 ⟨rfl, b2⟩
            have B2 := Lib.hid (B2a.out.trans (b2.mono B2a.out.size))
            clear b2 x8 x0 x1 x2 x3 x4 x5 x6 x7 y8 y0 y1 y2 y3 y4 y5 y6 y7
            by_cases hjB : j < cnt B
            · have H45 : Hid (A.k = 4 ∨ A.k = 5) := by
                unfold Hid
                refine Decidable.byContradiction fun h => ?_
                rw [cnt_flat (by omega) (by omega)] at hlt; omega
              have HRj : Hid (ordR A B j = R) := hok.out H45.out
              clear hok
              obtain ⟨x8, x0, x1, x2, x3, x4, x5, x6, x7⟩ := HP.out.1.kept B2.out (by have := HZ.out; omega)
              obtain ⟨y8, y0, y1, y2, y3, y4, y5, y6, y7⟩ := HP.out.2.kept B2.out (by have := HZ.out; omega)
              have hO := H.out.1.kept (B2.out.mono (show n ≤ w0.heap.size by have := HZ.out; omega))
              have hO' := H.out.2.kept (B2.out.mono (show n ≤ w0.heap.size by have := HZ.out; omega))
              obtain ⟨X, hX⟩ : ∃ X, A.l[j]? = some X := ⟨_, List.getElem?_eq_getElem (by omega)⟩
              obtain ⟨Y, hY⟩ : ∃ Y, B.l[j]? = some Y := ⟨_, List.getElem?_eq_getElem (by omega)⟩
              have hlA : j < A.l.length := by omega
              have hlB : j < B.l.length := by omega
              obtain ⟨b1, off, oL4, oK4, cL4, cK4, c4, e1, hb1, ⟨u0, u1, u2, u3, u4, u5, u6, u7⟩, OX⟩ := hO.L.elv hlA (hO.el j X hX)
              obtain ⟨b2, off', oL5, oK5, cL5, cK5, c5, e2, hb2, ⟨v0, v1, v2, v3, v4, v5, v6, v7⟩, OY⟩ := hO'.L.elv hlB (hO'.el j Y hY)
              have hm1 := sz_mem (List.mem_of_getElem? hX)
              have hm2 := sz_mem (List.mem_of_getElem? hY)
              have HXY := Lib.hid (And.intro (els_some hX hlt) (els_some hY hjB))
              obtain ⟨mx, hmx⟩ := HOK.out.2.2.1 X (List.mem_of_getElem? hX)
              obtain ⟨my, hmy⟩ := HOK.out.2.2.2 Y (List.mem_of_getElem? hY)
              have OXY := Lib.hid (And.intro OX (And.intro OY (And.intro hmx hmy)))
              have HKR := Lib.hid (And.intro hO.K hO'.K)
              subst e1 e2
              clear hX hY OX OY hO hO' hmx hmy
              have HAT : Hid (R = if A.k = 5 ∧ kk A.ks j ≠ kk B.ks j then cmpS (kk A.ks j) (kk B.ks j) else if ord X Y ≠ 0 then ord X Y else ordR A B (j + 1)) := by unfold Hid; rw [← HRj.out]; exact ordR_at HXY.out.1 HXY.out.2
              by_cases h5 : A.k = 5
              · have f5 := (ok1_facts HOK.out.1).2.2.2.2.2.2.2.2.2.2 h5
                have f6 := (ok1_facts HOK.out.2.1).2.2.2.2.2.2.2.2.2.2 (by have := HK.out; omega)
                have kA : j < A.ks.length := by omega
                have kB : j < B.ks.length := by omega
                obtain ⟨b3, off3, e3, hb3, p0⟩ := HKR.out.1.key kA
                obtain ⟨b4, off4, e4, hb4, p1⟩ := HKR.out.2.key kB
                subst e3 e4
                have g5 : (A.k == 5) = true := by simp [h5]
                have H5 := Lib.hid h5
                clear h5 f5 f6
                by_cases he : kk A.ks j = kk B.ks j
                · obtain ⟨g1, g2⟩ := str_eq he
                  have HQ : Hid (R = if ord X Y ≠ 0 then ord X Y else ordR A B (j + 1)) := by unfold Hid; rw [HAT.out, if_neg (fun h => h.2 he)]
                  clear he
                  go_upto_region 21 with fail
                  obtain ⟨Nr, hNr⟩ : ∃ N, N = w3.heap.size := ⟨_, rfl⟩
                  have S0 := held_at hNr
                  have l0r : w.heap.size < Nr := by have := B2.out.size; have := HZ.out; omega
                  have l1r : w.heap.size + 1 < Nr := by have := B2.out.size; have := HZ.out; omega
                  have l2 : b1 < Nr := by have := B2.out.size; have := HZ.out; omega
                  have l3 : b2 < Nr := by have := B2.out.size; have := HZ.out; omega
                  have l4 : b3 < Nr := by have := B2.out.size; have := HZ.out; omega
                  have l5 : b4 < Nr := by have := B2.out.size; have := HZ.out; omega
                  have HNr := Lib.hid hNr
                  clear hNr
                  have LWr : Hid (∀ W, ((∀ b o, b < Nr → W.cell? ⟨b, o, none⟩ = w3.cell? ⟨b, o, none⟩) ∧ Hid (Below Nr w3 W) ∧ Hid (Nr ≤ W.heap.size)) → Below w0.heap.size w0 W) := fun W h => B2.out.trans (h.2.1.out.mono (by rw [HNr.out]; exact B2.out.size))
                  refine wp_region_noPanic ?_
                  refine wp_region_held_drew (S := (fun W => (∀ b o, b < Nr → W.cell? ⟨b, o, none⟩ = w3.cell? ⟨b, o, none⟩) ∧ Hid (Below Nr w3 W) ∧ Hid (Nr ≤ W.heap.size))) (by kernel_rfl) ?_ (fun hH => ?_)
                  · exact S0
                  refine wpAnyH_take (i := 0) (oi := { dst := some 84, op := Op.fieldAddr 27 (Operand.tmp 2) 0, type := 0, pos := "ref.go:211", after := #[], guard := none }) (v := ?_) rfl (by kernel_rfl) (by kernel_rfl) (by kernel_rfl) (fun _ _ _ h => h) (Or.inl ⟨by rfl, ?_⟩) (by assumption) ?_
                  rotate_left
                  · (intro w hSw; (try dsimp only at hSw); go_simp; try with_reducible rfl)
                  try simp only [Act.put, List.setIfInBounds_toArray, List.set_cons_zero, List.set_cons_succ]
                  refine wpAnyH_take (i := 1) (oi := { dst := some 85, op := Op.load 3 (Operand.tmp 84), type := 3, pos := "ref.go:211", after := #[{ on := 0, ground := Ground.data }], guard := none }) (v := ?_) rfl (by kernel_rfl) (by kernel_rfl) (by kernel_rfl) (fun _ _ _ h => h) (Or.inl ⟨by rfl, ?_⟩) (by assumption) ?_
                  rotate_left
                  · (intro w hSw; (try dsimp only at hSw); go_simp; try with_reducible rfl)
                  try simp only [Act.put, List.setIfInBounds_toArray, List.set_cons_zero, List.set_cons_succ]
                  refine wpAnyH_take (i := 2) (oi := { dst := some 86, op := Op.binOp BinOp.eql 3 (Operand.tmp 85) (Operand.const (Value.int IntKind.i64 5)) 3, type := 4, pos := "ref.go:211", after := #[{ on := 1, ground := Ground.data }], guard := none }) (v := ?_) rfl (by kernel_rfl) (by kernel_rfl) (by kernel_rfl) (fun _ _ _ h => h) (Or.inl ⟨by rfl, ?_⟩) (by assumption) ?_
                  rotate_left
                  · (intro w hSw; (try dsimp only at hSw); go_simp; try with_reducible rfl)
                  try simp only [Act.put, List.setIfInBounds_toArray, List.set_cons_zero, List.set_cons_succ]
                  refine wpAnyH_take (i := 3) (oi := { dst := some 87, op := Op.move (Operand.tmp 86), type := 4, pos := "ref.go:211", after := #[{ on := 2, ground := Ground.data }], guard := none }) (v := ?_) rfl (by kernel_rfl) (by kernel_rfl) (by kernel_rfl) (fun _ _ _ h => h) (Or.inl ⟨by rfl, ?_⟩) (by assumption) ?_
                  rotate_left
                  · (intro w hSw; (try dsimp only at hSw); go_simp; try with_reducible rfl)
                  try simp only [Act.put, List.setIfInBounds_toArray, List.set_cons_zero, List.set_cons_succ]
                  refine wpAnyH_take (i := 4) (oi := { dst := some 88, op := Op.fieldAddr 27 (Operand.tmp 2) 4, type := 0, pos := "ref.go:211", after := #[{ on := 3, ground := Ground.guard }], guard := some (3, true) }) (v := ?_) rfl (by kernel_rfl) (by kernel_rfl) (by kernel_rfl) (fun _ _ _ h => h) (Or.inl ⟨by rfl, ?_⟩) (by assumption) ?_
                  rotate_left
                  · (intro w hSw; (try dsimp only at hSw); go_simp; try with_reducible rfl)
                  try simp only [Act.put, List.setIfInBounds_toArray, List.set_cons_zero, List.set_cons_succ]
                  refine wpAnyH_take (i := 5) (oi := { dst := some 89, op := Op.load 23 (Operand.tmp 88), type := 23, pos := "ref.go:211", after := #[{ on := 4, ground := Ground.data }, { on := 3, ground := Ground.guard }], guard := some (3, true) }) (v := ?_) rfl (by kernel_rfl) (by kernel_rfl) (by kernel_rfl) (fun _ _ _ h => h) (Or.inl ⟨by rfl, ?_⟩) (by assumption) ?_
                  rotate_left
                  · (intro w hSw; (try dsimp only at hSw); go_simp; try with_reducible rfl)
                  try simp only [Act.put, List.setIfInBounds_toArray, List.set_cons_zero, List.set_cons_succ]
                  refine wpAnyH_take (i := 6) (oi := { dst := some 90, op := Op.move (Operand.tmp 9), type := 3, pos := "ref.go:211", after := #[{ on := 3, ground := Ground.guard }], guard := some (3, true) }) (v := ?_) rfl (by kernel_rfl) (by kernel_rfl) (by kernel_rfl) (fun _ _ _ h => h) (Or.inl ⟨by rfl, ?_⟩) (by assumption) ?_
                  rotate_left
                  · (intro w hSw; (try dsimp only at hSw); go_simp; try with_reducible rfl)
                  try simp only [Act.put, List.setIfInBounds_toArray, List.set_cons_zero, List.set_cons_succ]
                  refine wpAnyH_take (i := 7) (oi := { dst := some 91, op := Op.indexAddr 23 (Operand.tmp 89) (Operand.tmp 90), type := 0, pos := "ref.go:211", after := #[{ on := 5, ground := Ground.data }, { on := 6, ground := Ground.data }, { on := 3, ground := Ground.guard }], guard := some (3, true) }) (v := ?_) rfl (by kernel_rfl) (by kernel_rfl) (by kernel_rfl) (fun _ _ _ h => h) (Or.inl ⟨by rfl, ?_⟩) (by assumption) ?_
                  rotate_left
                  · (intro w hSw; (try dsimp only at hSw); go_simp; try with_reducible rfl)
                  try simp only [Act.put, List.setIfInBounds_toArray, List.set_cons_zero, List.set_cons_succ]
                  refine wpAnyH_take (i := 8) (oi := { dst := some 92, op := Op.load 9 (Operand.tmp 91), type := 9, pos := "ref.go:211", after := #[{ on := 7, ground := Ground.data }, { on := 3, ground := Ground.guard }], guard := some (3, true) }) (v := ?_) rfl (by kernel_rfl) (by kernel_rfl) (by kernel_rfl) (fun _ _ _ h => h) (Or.inl ⟨by rfl, ?_⟩) (by assumption) ?_
                  rotate_left
                  · (intro w hSw; (try dsimp only at hSw); go_simp; try with_reducible rfl)
                  try simp only [Act.put, List.setIfInBounds_toArray, List.set_cons_zero, List.set_cons_succ]
                  refine wpAnyH_take (i := 9) (oi := { dst := some 93, op := Op.fieldAddr 27 (Operand.tmp 3) 4, type := 0, pos := "ref.go:211", after := #[{ on := 3, ground := Ground.guard }], guard := some (3, true) }) (v := ?_) rfl (by kernel_rfl) (by kernel_rfl) (by kernel_rfl) (fun _ _ _ h => h) (Or.inl ⟨by rfl, ?_⟩) (by assumption) ?_
                  rotate_left
                  · (intro w hSw; (try dsimp only at hSw); go_simp; try with_reducible rfl)
                  try simp only [Act.put, List.setIfInBounds_toArray, List.set_cons_zero, List.set_cons_succ]
                  refine wpAnyH_take (i := 10) (oi := { dst := some 94, op := Op.load 23 (Operand.tmp 93), type := 23, pos := "ref.go:211", after := #[{ on := 9, ground := Ground.data }, { on := 3, ground := Ground.guard }], guard := some (3, true) }) (v := ?_) rfl (by kernel_rfl) (by kernel_rfl) (by kernel_rfl) (fun _ _ _ h => h) (Or.inl ⟨by rfl, ?_⟩) (by assumption) ?_
                  rotate_left
                  · (intro w hSw; (try dsimp only at hSw); go_simp; try with_reducible rfl)
                  try simp only [Act.put, List.setIfInBounds_toArray, List.set_cons_zero, List.set_cons_succ]
                  refine wpAnyH_take (i := 11) (oi := { dst := some 95, op := Op.move (Operand.tmp 9), type := 3, pos := "ref.go:211", after := #[{ on := 3, ground := Ground.guard }], guard := some (3, true) }) (v := ?_) rfl (by kernel_rfl) (by kernel_rfl) (by kernel_rfl) (fun _ _ _ h => h) (Or.inl ⟨by rfl, ?_⟩) (by assumption) ?_
                  rotate_left
                  · (intro w hSw; (try dsimp only at hSw); go_simp; try with_reducible rfl)
                  try simp only [Act.put, List.setIfInBounds_toArray, List.set_cons_zero, List.set_cons_succ]
                  refine wpAnyH_take (i := 12) (oi := { dst := some 96, op := Op.indexAddr 23 (Operand.tmp 94) (Operand.tmp 95), type := 0, pos := "ref.go:211", after := #[{ on := 10, ground := Ground.data }, { on := 11, ground := Ground.data }, { on := 3, ground := Ground.guard }], guard := some (3, true) }) (v := ?_) rfl (by kernel_rfl) (by kernel_rfl) (by kernel_rfl) (fun _ _ _ h => h) (Or.inl ⟨by rfl, ?_⟩) (by assumption) ?_
                  rotate_left
                  · (intro w hSw; (try dsimp only at hSw); go_simp; try with_reducible rfl)
                  try simp only [Act.put, List.setIfInBounds_toArray, List.set_cons_zero, List.set_cons_succ]
                  refine wpAnyH_take (i := 13) (oi := { dst := some 97, op := Op.load 9 (Operand.tmp 96), type := 9, pos := "ref.go:211", after := #[{ on := 12, ground := Ground.data }, { on := 3, ground := Ground.guard }], guard := some (3, true) }) (v := ?_) rfl (by kernel_rfl) (by kernel_rfl) (by kernel_rfl) (fun _ _ _ h => h) (Or.inl ⟨by rfl, ?_⟩) (by assumption) ?_
                  rotate_left
                  · (intro w hSw; (try dsimp only at hSw); go_simp; try with_reducible rfl)
                  try simp only [Act.put, List.setIfInBounds_toArray, List.set_cons_zero, List.set_cons_succ]
                  refine wpAnyH_take (i := 14) (oi := { dst := some 98, op := Op.binOp BinOp.neq 9 (Operand.tmp 92) (Operand.tmp 97) 9, type := 4, pos := "ref.go:211", after := #[{ on := 8, ground := Ground.data }, { on := 13, ground := Ground.data }, { on := 3, ground := Ground.guard }], guard := some (3, true) }) (v := ?_) rfl (by kernel_rfl) (by kernel_rfl) (by kernel_rfl) (fun _ _ _ h => h) (Or.inl ⟨by rfl, ?_⟩) (by assumption) ?_
                  rotate_left
                  · (intro w hSw; (try dsimp only at hSw); go_simp; try with_reducible rfl)
                  try simp only [Act.put, List.setIfInBounds_toArray, List.set_cons_zero, List.set_cons_succ]
                  refine wpAnyH_take (i := 15) (oi := { dst := some 99, op := Op.pick (Operand.tmp 87) (Operand.tmp 98) (Operand.const (Value.bool false)), type := 4, pos := "ref.go:211", after := #[{ on := 3, ground := Ground.data }, { on := 14, ground := Ground.data }], guard := none }) (v := ?_) rfl (by kernel_rfl) (by kernel_rfl) (by kernel_rfl) (fun _ _ _ h => h) (Or.inl ⟨by rfl, ?_⟩) (by assumption) ?_
                  rotate_left
                  · (intro w hSw; (try dsimp only at hSw); go_simp; try with_reducible rfl)
                  try simp only [Act.put, List.setIfInBounds_toArray, List.set_cons_zero, List.set_cons_succ]
                  refine wpAnyH_done (by kernel_rfl) ?_ _
                  refine NoPanic.normal ?_
                  have B5 := Lib.hid (LWr.out _ hH)
                  have HB5 : Hid (Below n w3 w3.drew) := hH.2.1.out.mono (by have := HNr.out; have := B2.out.size; have := HZ.out; omega)
                  have E1 := EV.held (w := w3) ⟨u0, u1, u2, u3, u4, u5, u6, u7⟩ hH.1 l2
                  have E2 := EV.held (w := w3) ⟨v0, v1, v2, v3, v4, v5, v6, v7⟩ hH.1 l3
                  have p0' := (hH.1 _ _ l4).trans p0
                  have p1' := (hH.1 _ _ l5).trans p1
                  clear p0 p1 l4 l5
                  clear u0 u1 u2 u3 u4 u5 u6 u7 v0 v1 v2 v3 v4 v5 v6 v7 x8 x0 x1 x2 x3 x4 x5 x6 x7 y8 y0 y1 y2 y3 y4 y5 y6 y7 S0 hH LWr HNr l0r l1r l2 l3
                  generalize w3.drew = W5 at *
                  obtain ⟨u0, u1, u2, u3, u4, u5, u6, u7⟩ := E1
                  obtain ⟨v0, v1, v2, v3, v4, v5, v6, v7⟩ := E2
                  obtain ⟨x8, x0, x1, x2, x3, x4, x5, x6, x7⟩ := HP.out.1.kept B5.out (by have := HZ.out; omega)
                  obtain ⟨y8, y0, y1, y2, y3, y4, y5, y6, y7⟩ := HP.out.2.kept B5.out (by have := HZ.out; omega)
                  obtain ⟨r, hr⟩ : ∃ r, r = ord X Y := ⟨_, rfl⟩
                  rw [← hr] at HQ
                  have HRX := Lib.hid hr
                  clear hr
                  go_upto_region 25 with fail
                  obtain ⟨Nt, hNt⟩ : ∃ N, N = W5.heap.size := ⟨_, rfl⟩
                  have S0 := held_at hNt
                  have l0t : w.heap.size < Nt := by have := B5.out.size; have := HZ.out; omega
                  have l1t : w.heap.size + 1 < Nt := by have := B5.out.size; have := HZ.out; omega
                  have l2 : b1 < Nt := by have := B5.out.size; have := HZ.out; omega
                  have l3 : b2 < Nt := by have := B5.out.size; have := HZ.out; omega
                  have HNt := Lib.hid hNt
                  clear hNt
                  have LWt : Hid (∀ W, ((∀ b o, b < Nt → W.cell? ⟨b, o, none⟩ = W5.cell? ⟨b, o, none⟩) ∧ Hid (Below Nt W5 W) ∧ Hid (Nt ≤ W.heap.size)) → Below w0.heap.size w0 W) := fun W h => B5.out.trans (h.2.1.out.mono (by rw [HNt.out]; exact B5.out.size))
                  have CXt : Hid (∀ W, ((∀ b o, b < Nt → W.cell? ⟨b, o, none⟩ = W5.cell? ⟨b, o, none⟩) ∧ Hid (Below Nt W5 W) ∧ Hid (Nt ≤ W.heap.size)) → Calls Try.prog 64 #[vv X.k X.i X.s (.slice oL4 X.l.length cL4) (.slice oK4 X.ks.length cK4) X.tk X.to X.x, vv Y.k Y.i Y.s (.slice oL5 Y.l.length cL5) (.slice oK5 Y.ks.length cK5) Y.tk Y.to Y.x] W fun e w' => e = .returned (.int .i64 r) ∧ Below W.heap.size W w') := fun W h => by
                    rw [HRX.out]
                    have hk : Below n w3 W := HB5.out.trans (h.2.1.out.mono (by have := HNt.out; have := B5.out.size; have := HZ.out; omega))
                    exact IH.out n X Y _ _ W mx my OXY.out.2.2.1 OXY.out.2.2.2 (by omega) (OXY.out.1.kept hk).lies (OXY.out.2.1.kept hk).lies (by have := (LWt.out W h).size; have := HZ.out; omega)
                  refine wp_region_noPanic ?_
                  refine wp_region_held_drew (S := (fun W => (∀ b o, b < Nt → W.cell? ⟨b, o, none⟩ = W5.cell? ⟨b, o, none⟩) ∧ Hid (Below Nt W5 W) ∧ Hid (Nt ≤ W.heap.size))) (by kernel_rfl) ?_ (fun hH => ?_)
                  · exact S0
                  refine wpAnyH_take (i := 0) (oi := { dst := some 111, op := Op.fieldAddr 27 (Operand.tmp 2) 3, type := 0, pos := "ref.go:217", after := #[], guard := none }) (v := ?_) rfl (by kernel_rfl) (by kernel_rfl) (by kernel_rfl) (fun _ _ _ h => h) (Or.inl ⟨by rfl, ?_⟩) (by assumption) ?_
                  rotate_left
                  · (intro w hSw; (try dsimp only at hSw); go_simp; try with_reducible rfl)
                  try simp only [Act.put, List.setIfInBounds_toArray, List.set_cons_zero, List.set_cons_succ]
                  refine wpAnyH_take (i := 1) (oi := { dst := some 112, op := Op.load 22 (Operand.tmp 111), type := 22, pos := "ref.go:217", after := #[{ on := 0, ground := Ground.data }], guard := none }) (v := ?_) rfl (by kernel_rfl) (by kernel_rfl) (by kernel_rfl) (fun _ _ _ h => h) (Or.inl ⟨by rfl, ?_⟩) (by assumption) ?_
                  rotate_left
                  · (intro w hSw; (try dsimp only at hSw); go_simp; try with_reducible rfl)
                  try simp only [Act.put, List.setIfInBounds_toArray, List.set_cons_zero, List.set_cons_succ]
                  refine wpAnyH_take (i := 2) (oi := { dst := some 113, op := Op.move (Operand.tmp 9), type := 3, pos := "ref.go:217", after := #[], guard := none }) (v := ?_) rfl (by kernel_rfl) (by kernel_rfl) (by kernel_rfl) (fun _ _ _ h => h) (Or.inl ⟨by rfl, ?_⟩) (by assumption) ?_
                  rotate_left
                  · (intro w hSw; (try dsimp only at hSw); go_simp; try with_reducible rfl)
                  try simp only [Act.put, List.setIfInBounds_toArray, List.set_cons_zero, List.set_cons_succ]
                  refine wpAnyH_take (i := 3) (oi := { dst := some 114, op := Op.indexAddr 22 (Operand.tmp 112) (Operand.tmp 113), type := 0, pos := "ref.go:217", after := #[{ on := 1, ground := Ground.data }, { on := 2, ground := Ground.data }], guard := none }) (v := ?_) rfl (by kernel_rfl) (by kernel_rfl) (by kernel_rfl) (fun _ _ _ h => h) (Or.inl ⟨by rfl, ?_⟩) (by assumption) ?_
                  rotate_left
                  · (intro w hSw; (try dsimp only at hSw); go_simp; try with_reducible rfl)
                  try simp only [Act.put, List.setIfInBounds_toArray, List.set_cons_zero, List.set_cons_succ]
                  refine wpAnyH_take (i := 4) (oi := { dst := some 115, op := Op.load 27 (Operand.tmp 114), type := 27, pos := "ref.go:217", after := #[{ on := 3, ground := Ground.data }], guard := none }) (v := ?_) rfl (by kernel_rfl) (by kernel_rfl) (by kernel_rfl) (fun _ _ _ h => h) (Or.inl ⟨by rfl, ?_⟩) (by assumption) ?_
                  rotate_left
                  · (intro w hSw; (try dsimp only at hSw); go_simp; try with_reducible rfl)
                  try simp only [Act.put, List.setIfInBounds_toArray, List.set_cons_zero, List.set_cons_succ]
                  refine wpAnyH_take (i := 5) (oi := { dst := some 116, op := Op.fieldAddr 27 (Operand.tmp 3) 3, type := 0, pos := "ref.go:217", after := #[], guard := none }) (v := ?_) rfl (by kernel_rfl) (by kernel_rfl) (by kernel_rfl) (fun _ _ _ h => h) (Or.inl ⟨by rfl, ?_⟩) (by assumption) ?_
                  rotate_left
                  · (intro w hSw; (try dsimp only at hSw); go_simp; try with_reducible rfl)
                  try simp only [Act.put, List.setIfInBounds_toArray, List.set_cons_zero, List.set_cons_succ]
                  refine wpAnyH_take (i := 6) (oi := { dst := some 117, op := Op.load 22 (Operand.tmp 116), type := 22, pos := "ref.go:217", after := #[{ on := 5, ground := Ground.data }], guard := none }) (v := ?_) rfl (by kernel_rfl) (by kernel_rfl) (by kernel_rfl) (fun _ _ _ h => h) (Or.inl ⟨by rfl, ?_⟩) (by assumption) ?_
                  rotate_left
                  · (intro w hSw; (try dsimp only at hSw); go_simp; try with_reducible rfl)
                  try simp only [Act.put, List.setIfInBounds_toArray, List.set_cons_zero, List.set_cons_succ]
                  refine wpAnyH_take (i := 7) (oi := { dst := some 118, op := Op.move (Operand.tmp 9), type := 3, pos := "ref.go:217", after := #[], guard := none }) (v := ?_) rfl (by kernel_rfl) (by kernel_rfl) (by kernel_rfl) (fun _ _ _ h => h) (Or.inl ⟨by rfl, ?_⟩) (by assumption) ?_
                  rotate_left
                  · (intro w hSw; (try dsimp only at hSw); go_simp; try with_reducible rfl)
                  try simp only [Act.put, List.setIfInBounds_toArray, List.set_cons_zero, List.set_cons_succ]
                  refine wpAnyH_take (i := 8) (oi := { dst := some 119, op := Op.indexAddr 22 (Operand.tmp 117) (Operand.tmp 118), type := 0, pos := "ref.go:217", after := #[{ on := 6, ground := Ground.data }, { on := 7, ground := Ground.data }], guard := none }) (v := ?_) rfl (by kernel_rfl) (by kernel_rfl) (by kernel_rfl) (fun _ _ _ h => h) (Or.inl ⟨by rfl, ?_⟩) (by assumption) ?_
                  rotate_left
                  · (intro w hSw; (try dsimp only at hSw); go_simp; try with_reducible rfl)
                  try simp only [Act.put, List.setIfInBounds_toArray, List.set_cons_zero, List.set_cons_succ]
                  refine wpAnyH_take (i := 9) (oi := { dst := some 120, op := Op.load 27 (Operand.tmp 119), type := 27, pos := "ref.go:217", after := #[{ on := 8, ground := Ground.data }], guard := none }) (v := ?_) rfl (by kernel_rfl) (by kernel_rfl) (by kernel_rfl) (fun _ _ _ h => h) (Or.inl ⟨by rfl, ?_⟩) (by assumption) ?_
                  rotate_left
                  · (intro w hSw; (try dsimp only at hSw); go_simp; try with_reducible rfl)
                  try simp only [Act.put, List.setIfInBounds_toArray, List.set_cons_zero, List.set_cons_succ]
                  refine wpAnyH_ready (rs := [10]) (by kernel_rfl) (by simp) ?_
                  refine AllReadyH.cons (o := { dst := some 121, op := Op.call { callee := Callee.value (Operand.func 64), args := #[Operand.tmp 115, Operand.tmp 120], argTypes := #[27, 27] }, type := 3, pos := "ref.go:217", after := #[{ on := 4, ground := Ground.data }, { on := 9, ground := Ground.data }], guard := none }) rfl (fun K hK => ?_) AllReadyH.nil
                  go_simp
                  refine (CXt.out _ hH).mono ?_
                  rintro e W_0 ⟨rfl, b⟩
                  refine hK.out _ _ ?_ (fun hH' => ?_)
                  · exact held_next (by assumption) hH
                  clear hK K hH
                  have hH := hH'
                  clear hH'
                  try simp only [Act.put, List.setIfInBounds_toArray, List.set_cons_zero, List.set_cons_succ]
                  refine wpAnyH_take (i := 11) (oi := { dst := some 10, op := Op.assign (Operand.tmp 121), type := 3, pos := "ref.go:217", after := #[{ on := 10, ground := Ground.data }, { on := 10, ground := Ground.chain }, { on := 0, ground := Ground.phase }, { on := 1, ground := Ground.phase }, { on := 2, ground := Ground.phase }, { on := 3, ground := Ground.phase }, { on := 4, ground := Ground.phase }, { on := 5, ground := Ground.phase }, { on := 6, ground := Ground.phase }, { on := 7, ground := Ground.phase }, { on := 8, ground := Ground.phase }, { on := 9, ground := Ground.phase }, { on := 10, ground := Ground.phase }], guard := none }) (v := ?_) rfl (by kernel_rfl) (by kernel_rfl) (by kernel_rfl) (fun _ _ _ h => h) (Or.inl ⟨by rfl, ?_⟩) (by assumption) ?_
                  rotate_left
                  · (intro w hSw; (try dsimp only at hSw); go_simp; try with_reducible rfl)
                  try simp only [Act.put, List.setIfInBounds_toArray, List.set_cons_zero, List.set_cons_succ]
                  refine wpAnyH_done (by kernel_rfl) ?_ _
                  refine NoPanic.normal ?_
                  have B6 := Lib.hid (LWt.out _ hH)
                  clear S0 hH LWt HNt l0t l1t l2 l3 CXt
                  by_cases hr0 : r = 0
                  · have HY : Hid (ordR A B (j + 1) = R) := by unfold Hid; rw [HQ.out, if_neg (fun h => h hr0)]
                    have gr : (r != 0) = false := by simpa using hr0
                    clear hr0
                    go_wp2_with fail
                    go_roundw
                    case rel =>
                      first
                      | exact ⟨j + 1, by omega, by omega, by go_num, (fun _ => HY.out), B6⟩
                      | exact ⟨j + 1, by omega, by omega, by go_num, Lib.hid (fun _ => HY.out), B6⟩
                      | ((repeat apply Exists.intro); refine ⟨?_, rfl⟩; exact ⟨j + 1, by omega, by omega, by go_num, Lib.hid (fun _ => HY.out), B6⟩)
                    case measure => simp [intOf]; omega
                  · have HY : Hid (R = r) := by unfold Hid; rw [HQ.out, if_pos hr0]
                    have gr : (r != 0) = true := by simpa using hr0
                    clear hr0
                    go_wp2_with fail
                    go_ret
                    exact ⟨ret_i4 HY.out.symm, HW.out.trans (B6.out.mono HW.out.size)⟩
                · obtain ⟨g1, g2⟩ := str_ne he
                  have HQ : Hid (R = cmpS (kk A.ks j) (kk B.ks j)) := by unfold Hid; rw [HAT.out, if_pos ⟨H5.out, he⟩]
                  by_cases hl : blt (kk A.ks j) (kk B.ks j) = true
                  · skip
                    have HY : Hid (R = -1) := by unfold Hid; rw [HQ.out]; unfold cmpS; rw [if_pos hl]
                    have g3 : Op.bytesLess (kk A.ks j).toList (kk B.ks j).toList = true := by simpa [blt] using hl
                    clear he hl
                    go_upto_region 21 with fail
                    obtain ⟨Nr, hNr⟩ : ∃ N, N = w3.heap.size := ⟨_, rfl⟩
                    have S0 := held_at hNr
                    have l0r : w.heap.size < Nr := by have := B2.out.size; have := HZ.out; omega
                    have l1r : w.heap.size + 1 < Nr := by have := B2.out.size; have := HZ.out; omega
                    have l2 : b1 < Nr := by have := B2.out.size; have := HZ.out; omega
                    have l3 : b2 < Nr := by have := B2.out.size; have := HZ.out; omega
                    have l4 : b3 < Nr := by have := B2.out.size; have := HZ.out; omega
                    have l5 : b4 < Nr := by have := B2.out.size; have := HZ.out; omega
                    have HNr := Lib.hid hNr
                    clear hNr
                    have LWr : Hid (∀ W, ((∀ b o, b < Nr → W.cell? ⟨b, o, none⟩ = w3.cell? ⟨b, o, none⟩) ∧ Hid (Below Nr w3 W) ∧ Hid (Nr ≤ W.heap.size)) → Below w0.heap.size w0 W) := fun W h => B2.out.trans (h.2.1.out.mono (by rw [HNr.out]; exact B2.out.size))
                    refine wp_region_noPanic ?_
                    refine wp_region_held_drew (S := (fun W => (∀ b o, b < Nr → W.cell? ⟨b, o, none⟩ = w3.cell? ⟨b, o, none⟩) ∧ Hid (Below Nr w3 W) ∧ Hid (Nr ≤ W.heap.size))) (by kernel_rfl) ?_ (fun hH => ?_)
                    · exact S0
                    refine wpAnyH_take (i := 0) (oi := { dst := some 84, op := Op.fieldAddr 27 (Operand.tmp 2) 0, type := 0, pos := "ref.go:211", after := #[], guard := none }) (v := ?_) rfl (by kernel_rfl) (by kernel_rfl) (by kernel_rfl) (fun _ _ _ h => h) (Or.inl ⟨by rfl, ?_⟩) (by assumption) ?_
                    rotate_left
                    · (intro w hSw; (try dsimp only at hSw); go_simp; try with_reducible rfl)
                    try simp only [Act.put, List.setIfInBounds_toArray, List.set_cons_zero, List.set_cons_succ]
                    refine wpAnyH_take (i := 1) (oi := { dst := some 85, op := Op.load 3 (Operand.tmp 84), type := 3, pos := "ref.go:211", after := #[{ on := 0, ground := Ground.data }], guard := none }) (v := ?_) rfl (by kernel_rfl) (by kernel_rfl) (by kernel_rfl) (fun _ _ _ h => h) (Or.inl ⟨by rfl, ?_⟩) (by assumption) ?_
                    rotate_left
                    · (intro w hSw; (try dsimp only at hSw); go_simp; try with_reducible rfl)
                    try simp only [Act.put, List.setIfInBounds_toArray, List.set_cons_zero, List.set_cons_succ]
                    refine wpAnyH_take (i := 2) (oi := { dst := some 86, op := Op.binOp BinOp.eql 3 (Operand.tmp 85) (Operand.const (Value.int IntKind.i64 5)) 3, type := 4, pos := "ref.go:211", after := #[{ on := 1, ground := Ground.data }], guard := none }) (v := ?_) rfl (by kernel_rfl) (by kernel_rfl) (by kernel_rfl) (fun _ _ _ h => h) (Or.inl ⟨by rfl, ?_⟩) (by assumption) ?_
                    rotate_left
                    · (intro w hSw; (try dsimp only at hSw); go_simp; try with_reducible rfl)
                    try simp only [Act.put, List.setIfInBounds_toArray, List.set_cons_zero, List.set_cons_succ]
                    refine wpAnyH_take (i := 3) (oi := { dst := some 87, op := Op.move (Operand.tmp 86), type := 4, pos := "ref.go:211", after := #[{ on := 2, ground := Ground.data }], guard := none }) (v := ?_) rfl (by kernel_rfl) (by kernel_rfl) (by kernel_rfl) (fun _ _ _ h => h) (Or.inl ⟨by rfl, ?_⟩) (by assumption) ?_
                    rotate_left
                    · (intro w hSw; (try dsimp only at hSw); go_simp; try with_reducible rfl)
                    try simp only [Act.put, List.setIfInBounds_toArray, List.set_cons_zero, List.set_cons_succ]
                    refine wpAnyH_take (i := 4) (oi := { dst := some 88, op := Op.fieldAddr 27 (Operand.tmp 2) 4, type := 0, pos := "ref.go:211", after := #[{ on := 3, ground := Ground.guard }], guard := some (3, true) }) (v := ?_) rfl (by kernel_rfl) (by kernel_rfl) (by kernel_rfl) (fun _ _ _ h => h) (Or.inl ⟨by rfl, ?_⟩) (by assumption) ?_
                    rotate_left
                    · (intro w hSw; (try dsimp only at hSw); go_simp; try with_reducible rfl)
                    try simp only [Act.put, List.setIfInBounds_toArray, List.set_cons_zero, List.set_cons_succ]
                    refine wpAnyH_take (i := 5) (oi := { dst := some 89, op := Op.load 23 (Operand.tmp 88), type := 23, pos := "ref.go:211", after := #[{ on := 4, ground := Ground.data }, { on := 3, ground := Ground.guard }], guard := some (3, true) }) (v := ?_) rfl (by kernel_rfl) (by kernel_rfl) (by kernel_rfl) (fun _ _ _ h => h) (Or.inl ⟨by rfl, ?_⟩) (by assumption) ?_
                    rotate_left
                    · (intro w hSw; (try dsimp only at hSw); go_simp; try with_reducible rfl)
                    try simp only [Act.put, List.setIfInBounds_toArray, List.set_cons_zero, List.set_cons_succ]
                    refine wpAnyH_take (i := 6) (oi := { dst := some 90, op := Op.move (Operand.tmp 9), type := 3, pos := "ref.go:211", after := #[{ on := 3, ground := Ground.guard }], guard := some (3, true) }) (v := ?_) rfl (by kernel_rfl) (by kernel_rfl) (by kernel_rfl) (fun _ _ _ h => h) (Or.inl ⟨by rfl, ?_⟩) (by assumption) ?_
                    rotate_left
                    · (intro w hSw; (try dsimp only at hSw); go_simp; try with_reducible rfl)
                    try simp only [Act.put, List.setIfInBounds_toArray, List.set_cons_zero, List.set_cons_succ]
                    refine wpAnyH_take (i := 7) (oi := { dst := some 91, op := Op.indexAddr 23 (Operand.tmp 89) (Operand.tmp 90), type := 0, pos := "ref.go:211", after := #[{ on := 5, ground := Ground.data }, { on := 6, ground := Ground.data }, { on := 3, ground := Ground.guard }], guard := some (3, true) }) (v := ?_) rfl (by kernel_rfl) (by kernel_rfl) (by kernel_rfl) (fun _ _ _ h => h) (Or.inl ⟨by rfl, ?_⟩) (by assumption) ?_
                    rotate_left
                    · (intro w hSw; (try dsimp only at hSw); go_simp; try with_reducible rfl)
                    try simp only [Act.put, List.setIfInBounds_toArray, List.set_cons_zero, List.set_cons_succ]
                    refine wpAnyH_take (i := 8) (oi := { dst := some 92, op := Op.load 9 (Operand.tmp 91), type := 9, pos := "ref.go:211", after := #[{ on := 7, ground := Ground.data }, { on := 3, ground := Ground.guard }], guard := some (3, true) }) (v := ?_) rfl (by kernel_rfl) (by kernel_rfl) (by kernel_rfl) (fun _ _ _ h => h) (Or.inl ⟨by rfl, ?_⟩) (by assumption) ?_
                    rotate_left
                    · (intro w hSw; (try dsimp only at hSw); go_simp; try with_reducible rfl)
                    try simp only [Act.put, List.setIfInBounds_toArray, List.set_cons_zero, List.set_cons_succ]
                    refine wpAnyH_take (i := 9) (oi := { dst := some 93, op := Op.fieldAddr 27 (Operand.tmp 3) 4, type := 0, pos := "ref.go:211", after := #[{ on := 3, ground := Ground.guard }], guard := some (3, true) }) (v := ?_) rfl (by kernel_rfl) (by kernel_rfl) (by kernel_rfl) (fun _ _ _ h => h) (Or.inl ⟨by rfl, ?_⟩) (by assumption) ?_
                    rotate_left
                    · (intro w hSw; (try dsimp only at hSw); go_simp; try with_reducible rfl)
                    try simp only [Act.put, List.setIfInBounds_toArray, List.set_cons_zero, List.set_cons_succ]
                    refine wpAnyH_take (i := 10) (oi := { dst := some 94, op := Op.load 23 (Operand.tmp 93), type := 23, pos := "ref.go:211", after := #[{ on := 9, ground := Ground.data }, { on := 3, ground := Ground.guard }], guard := some (3, true) }) (v := ?_) rfl (by kernel_rfl) (by kernel_rfl) (by kernel_rfl) (fun _ _ _ h => h) (Or.inl ⟨by rfl, ?_⟩) (by assumption) ?_
                    rotate_left
                    · (intro w hSw; (try dsimp only at hSw); go_simp; try with_reducible rfl)
                    try simp only [Act.put, List.setIfInBounds_toArray, List.set_cons_zero, List.set_cons_succ]
                    refine wpAnyH_take (i := 11) (oi := { dst := some 95, op := Op.move (Operand.tmp 9), type := 3, pos := "ref.go:211", after := #[{ on := 3, ground := Ground.guard }], guard := some (3, true) }) (v := ?_) rfl (by kernel_rfl) (by kernel_rfl) (by kernel_rfl) (fun _ _ _ h => h) (Or.inl ⟨by rfl, ?_⟩) (by assumption) ?_
                    rotate_left
                    · (intro w hSw; (try dsimp only at hSw); go_simp; try with_reducible rfl)
                    try simp only [Act.put, List.setIfInBounds_toArray, List.set_cons_zero, List.set_cons_succ]
                    refine wpAnyH_take (i := 12) (oi := { dst := some 96, op := Op.indexAddr 23 (Operand.tmp 94) (Operand.tmp 95), type := 0, pos := "ref.go:211", after := #[{ on := 10, ground := Ground.data }, { on := 11, ground := Ground.data }, { on := 3, ground := Ground.guard }], guard := some (3, true) }) (v := ?_) rfl (by kernel_rfl) (by kernel_rfl) (by kernel_rfl) (fun _ _ _ h => h) (Or.inl ⟨by rfl, ?_⟩) (by assumption) ?_
                    rotate_left
                    · (intro w hSw; (try dsimp only at hSw); go_simp; try with_reducible rfl)
                    try simp only [Act.put, List.setIfInBounds_toArray, List.set_cons_zero, List.set_cons_succ]
                    refine wpAnyH_take (i := 13) (oi := { dst := some 97, op := Op.load 9 (Operand.tmp 96), type := 9, pos := "ref.go:211", after := #[{ on := 12, ground := Ground.data }, { on := 3, ground := Ground.guard }], guard := some (3, true) }) (v := ?_) rfl (by kernel_rfl) (by kernel_rfl) (by kernel_rfl) (fun _ _ _ h => h) (Or.inl ⟨by rfl, ?_⟩) (by assumption) ?_
                    rotate_left
                    · (intro w hSw; (try dsimp only at hSw); go_simp; try with_reducible rfl)
                    try simp only [Act.put, List.setIfInBounds_toArray, List.set_cons_zero, List.set_cons_succ]
                    refine wpAnyH_take (i := 14) (oi := { dst := some 98, op := Op.binOp BinOp.neq 9 (Operand.tmp 92) (Operand.tmp 97) 9, type := 4, pos := "ref.go:211", after := #[{ on := 8, ground := Ground.data }, { on := 13, ground := Ground.data }, { on := 3, ground := Ground.guard }], guard := some (3, true) }) (v := ?_) rfl (by kernel_rfl) (by kernel_rfl) (by kernel_rfl) (fun _ _ _ h => h) (Or.inl ⟨by rfl, ?_⟩) (by assumption) ?_
                    rotate_left
                    · (intro w hSw; (try dsimp only at hSw); go_simp; try with_reducible rfl)
                    try simp only [Act.put, List.setIfInBounds_toArray, List.set_cons_zero, List.set_cons_succ]
                    refine wpAnyH_take (i := 15) (oi := { dst := some 99, op := Op.pick (Operand.tmp 87) (Operand.tmp 98) (Operand.const (Value.bool false)), type := 4, pos := "ref.go:211", after := #[{ on := 3, ground := Ground.data }, { on := 14, ground := Ground.data }], guard := none }) (v := ?_) rfl (by kernel_rfl) (by kernel_rfl) (by kernel_rfl) (fun _ _ _ h => h) (Or.inl ⟨by rfl, ?_⟩) (by assumption) ?_
                    rotate_left
                    · (intro w hSw; (try dsimp only at hSw); go_simp; try with_reducible rfl)
                    try simp only [Act.put, List.setIfInBounds_toArray, List.set_cons_zero, List.set_cons_succ]
                    refine wpAnyH_done (by kernel_rfl) ?_ _
                    refine NoPanic.normal ?_
                    have B5 := Lib.hid (LWr.out _ hH)
                    have HB5 : Hid (Below n w3 w3.drew) := hH.2.1.out.mono (by have := HNr.out; have := B2.out.size; have := HZ.out; omega)
                    have E1 := EV.held (w := w3) ⟨u0, u1, u2, u3, u4, u5, u6, u7⟩ hH.1 l2
                    have E2 := EV.held (w := w3) ⟨v0, v1, v2, v3, v4, v5, v6, v7⟩ hH.1 l3
                    have p0' := (hH.1 _ _ l4).trans p0
                    have p1' := (hH.1 _ _ l5).trans p1
                    clear p0 p1 l4 l5
                    clear u0 u1 u2 u3 u4 u5 u6 u7 v0 v1 v2 v3 v4 v5 v6 v7 x8 x0 x1 x2 x3 x4 x5 x6 x7 y8 y0 y1 y2 y3 y4 y5 y6 y7 S0 hH LWr HNr l0r l1r l2 l3
                    generalize w3.drew = W5 at *
                    obtain ⟨u0, u1, u2, u3, u4, u5, u6, u7⟩ := E1
                    obtain ⟨v0, v1, v2, v3, v4, v5, v6, v7⟩ := E2
                    obtain ⟨x8, x0, x1, x2, x3, x4, x5, x6, x7⟩ := HP.out.1.kept B5.out (by have := HZ.out; omega)
                    obtain ⟨y8, y0, y1, y2, y3, y4, y5, y6, y7⟩ := HP.out.2.kept B5.out (by have := HZ.out; omega)
                    go_upto_region 22 with fail
                    obtain ⟨Ns, hNs⟩ : ∃ N, N = W5.heap.size := ⟨_, rfl⟩
                    have S0 := held_at hNs
                    have l0s : w.heap.size < Ns := by have := B5.out.size; have := HZ.out; omega
                    have l1s : w.heap.size + 1 < Ns := by have := B5.out.size; have := HZ.out; omega
                    have l2 : b1 < Ns := by have := B5.out.size; have := HZ.out; omega
                    have l3 : b2 < Ns := by have := B5.out.size; have := HZ.out; omega
                    have l4 : b3 < Ns := by have := B5.out.size; have := HZ.out; omega
                    have l5 : b4 < Ns := by have := B5.out.size; have := HZ.out; omega
                    have HNs := Lib.hid hNs
                    clear hNs
                    have LWs : Hid (∀ W, ((∀ b o, b < Ns → W.cell? ⟨b, o, none⟩ = W5.cell? ⟨b, o, none⟩) ∧ Hid (Below Ns W5 W) ∧ Hid (Ns ≤ W.heap.size)) → Below w0.heap.size w0 W) := fun W h => B5.out.trans (h.2.1.out.mono (by rw [HNs.out]; exact B5.out.size))
                    refine wp_region_noPanic ?_
                    refine wp_region_held_drew (S := (fun W => (∀ b o, b < Ns → W.cell? ⟨b, o, none⟩ = W5.cell? ⟨b, o, none⟩) ∧ Hid (Below Ns W5 W) ∧ Hid (Ns ≤ W.heap.size))) (by kernel_rfl) ?_ (fun hH => ?_)
                    · exact S0
                    refine wpAnyH_take (i := 0) (oi := { dst := some 100, op := Op.fieldAddr 27 (Operand.tmp 2) 4, type := 0, pos := "ref.go:212", after := #[], guard := none }) (v := ?_) rfl (by kernel_rfl) (by kernel_rfl) (by kernel_rfl) (fun _ _ _ h => h) (Or.inl ⟨by rfl, ?_⟩) (by assumption) ?_
                    rotate_left
                    · (intro w hSw; (try dsimp only at hSw); go_simp; try with_reducible rfl)
                    try simp only [Act.put, List.setIfInBounds_toArray, List.set_cons_zero, List.set_cons_succ]
                    refine wpAnyH_take (i := 1) (oi := { dst := some 101, op := Op.load 23 (Operand.tmp 100), type := 23, pos := "ref.go:212", after := #[{ on := 0, ground := Ground.data }], guard := none }) (v := ?_) rfl (by kernel_rfl) (by kernel_rfl) (by kernel_rfl) (fun _ _ _ h => h) (Or.inl ⟨by rfl, ?_⟩) (by assumption) ?_
                    rotate_left
                    · (intro w hSw; (try dsimp only at hSw); go_simp; try with_reducible rfl)
                    try simp only [Act.put, List.setIfInBounds_toArray, List.set_cons_zero, List.set_cons_succ]
                    refine wpAnyH_take (i := 2) (oi := { dst := some 102, op := Op.move (Operand.tmp 9), type := 3, pos := "ref.go:212", after := #[], guard := none }) (v := ?_) rfl (by kernel_rfl) (by kernel_rfl) (by kernel_rfl) (fun _ _ _ h => h) (Or.inl ⟨by rfl, ?_⟩) (by assumption) ?_
                    rotate_left
                    · (intro w hSw; (try dsimp only at hSw); go_simp; try with_reducible rfl)
                    try simp only [Act.put, List.setIfInBounds_toArray, List.set_cons_zero, List.set_cons_succ]
                    refine wpAnyH_take (i := 3) (oi := { dst := some 103, op := Op.indexAddr 23 (Operand.tmp 101) (Operand.tmp 102), type := 0, pos := "ref.go:212", after := #[{ on := 1, ground := Ground.data }, { on := 2, ground := Ground.data }], guard := none }) (v := ?_) rfl (by kernel_rfl) (by kernel_rfl) (by kernel_rfl) (fun _ _ _ h => h) (Or.inl ⟨by rfl, ?_⟩) (by assumption) ?_
                    rotate_left
                    · (intro w hSw; (try dsimp only at hSw); go_simp; try with_reducible rfl)
                    try simp only [Act.put, List.setIfInBounds_toArray, List.set_cons_zero, List.set_cons_succ]
                    refine wpAnyH_take (i := 4) (oi := { dst := some 104, op := Op.load 9 (Operand.tmp 103), type := 9, pos := "ref.go:212", after := #[{ on := 3, ground := Ground.data }], guard := none }) (v := ?_) rfl (by kernel_rfl) (by kernel_rfl) (by kernel_rfl) (fun _ _ _ h => h) (Or.inl ⟨by rfl, ?_⟩) (by assumption) ?_
                    rotate_left
                    · (intro w hSw; (try dsimp only at hSw); go_simp; try with_reducible rfl)
                    try simp only [Act.put, List.setIfInBounds_toArray, List.set_cons_zero, List.set_cons_succ]
                    refine wpAnyH_take (i := 5) (oi := { dst := some 105, op := Op.fieldAddr 27 (Operand.tmp 3) 4, type := 0, pos := "ref.go:212", after := #[], guard := none }) (v := ?_) rfl (by kernel_rfl) (by kernel_rfl) (by kernel_rfl) (fun _ _ _ h => h) (Or.inl ⟨by rfl, ?_⟩) (by assumption) ?_
                    rotate_left
                    · (intro w hSw; (try dsimp only at hSw); go_simp; try with_reducible rfl)
                    try simp only [Act.put, List.setIfInBounds_toArray, List.set_cons_zero, List.set_cons_succ]
                    refine wpAnyH_take (i := 6) (oi := { dst := some 106, op := Op.load 23 (Operand.tmp 105), type := 23, pos := "ref.go:212", after := #[{ on := 5, ground := Ground.data }], guard := none }) (v := ?_) rfl (by kernel_rfl) (by kernel_rfl) (by kernel_rfl) (fun _ _ _ h => h) (Or.inl ⟨by rfl, ?_⟩) (by assumption) ?_
                    rotate_left
                    · (intro w hSw; (try dsimp only at hSw); go_simp; try with_reducible rfl)
                    try simp only [Act.put, List.setIfInBounds_toArray, List.set_cons_zero, List.set_cons_succ]
                    refine wpAnyH_take (i := 7) (oi := { dst := some 107, op := Op.move (Operand.tmp 9), type := 3, pos := "ref.go:212", after := #[], guard := none }) (v := ?_) rfl (by kernel_rfl) (by kernel_rfl) (by kernel_rfl) (fun _ _ _ h => h) (Or.inl ⟨by rfl, ?_⟩) (by assumption) ?_
                    rotate_left
                    · (intro w hSw; (try dsimp only at hSw); go_simp; try with_reducible rfl)
                    try simp only [Act.put, List.setIfInBounds_toArray, List.set_cons_zero, List.set_cons_succ]
                    refine wpAnyH_take (i := 8) (oi := { dst := some 108, op := Op.indexAddr 23 (Operand.tmp 106) (Operand.tmp 107), type := 0, pos := "ref.go:212", after := #[{ on := 6, ground := Ground.data }, { on := 7, ground := Ground.data }], guard := none }) (v := ?_) rfl (by kernel_rfl) (by kernel_rfl) (by kernel_rfl) (fun _ _ _ h => h) (Or.inl ⟨by rfl, ?_⟩) (by assumption) ?_
                    rotate_left
                    · (intro w hSw; (try dsimp only at hSw); go_simp; try with_reducible rfl)
                    try simp only [Act.put, List.setIfInBounds_toArray, List.set_cons_zero, List.set_cons_succ]
                    refine wpAnyH_take (i := 9) (oi := { dst := some 109, op := Op.load 9 (Operand.tmp 108), type := 9, pos := "ref.go:212", after := #[{ on := 8, ground := Ground.data }], guard := none }) (v := ?_) rfl (by kernel_rfl) (by kernel_rfl) (by kernel_rfl) (fun _ _ _ h => h) (Or.inl ⟨by rfl, ?_⟩) (by assumption) ?_
                    rotate_left
                    · (intro w hSw; (try dsimp only at hSw); go_simp; try with_reducible rfl)
                    try simp only [Act.put, List.setIfInBounds_toArray, List.set_cons_zero, List.set_cons_succ]
                    refine wpAnyH_take (i := 10) (oi := { dst := some 110, op := Op.binOp BinOp.lss 9 (Operand.tmp 104) (Operand.tmp 109) 9, type := 4, pos := "ref.go:212", after := #[{ on := 4, ground := Ground.data }, { on := 9, ground := Ground.data }], guard := none }) (v := ?_) rfl (by kernel_rfl) (by kernel_rfl) (by kernel_rfl) (fun _ _ _ h => h) (Or.inl ⟨by rfl, ?_⟩) (by assumption) ?_
                    rotate_left
                    · (intro w hSw; (try dsimp only at hSw); go_simp; try with_reducible rfl)
                    try simp only [Act.put, List.setIfInBounds_toArray, List.set_cons_zero, List.set_cons_succ]
                    refine wpAnyH_done (by kernel_rfl) ?_ _
                    refine NoPanic.normal ?_
                    have B6 := Lib.hid (LWs.out _ hH)
                    go_wp2_with fail
                    go_ret
                    exact ⟨ret_i4 HY.out.symm, HW.out.trans (B6.out.mono HW.out.size)⟩
                  · skip
                    have HY : Hid (R = 1) := by unfold Hid; rw [HQ.out]; unfold cmpS; rw [if_neg hl, if_neg he]
                    have g3 : Op.bytesLess (kk A.ks j).toList (kk B.ks j).toList = false := by simpa [blt] using hl
                    clear he hl
                    go_upto_region 21 with fail
                    obtain ⟨Nr, hNr⟩ : ∃ N, N = w3.heap.size := ⟨_, rfl⟩
                    have S0 := held_at hNr
                    have l0r : w.heap.size < Nr := by have := B2.out.size; have := HZ.out; omega
                    have l1r : w.heap.size + 1 < Nr := by have := B2.out.size; have := HZ.out; omega
                    have l2 : b1 < Nr := by have := B2.out.size; have := HZ.out; omega
                    have l3 : b2 < Nr := by have := B2.out.size; have := HZ.out; omega
                    have l4 : b3 < Nr := by have := B2.out.size; have := HZ.out; omega
                    have l5 : b4 < Nr := by have := B2.out.size; have := HZ.out; omega
                    have HNr := Lib.hid hNr
                    clear hNr
                    have LWr : Hid (∀ W, ((∀ b o, b < Nr → W.cell? ⟨b, o, none⟩ = w3.cell? ⟨b, o, none⟩) ∧ Hid (Below Nr w3 W) ∧ Hid (Nr ≤ W.heap.size)) → Below w0.heap.size w0 W) := fun W h => B2.out.trans (h.2.1.out.mono (by rw [HNr.out]; exact B2.out.size))
                    refine wp_region_noPanic ?_
                    refine wp_region_held_drew (S := (fun W => (∀ b o, b < Nr → W.cell? ⟨b, o, none⟩ = w3.cell? ⟨b, o, none⟩) ∧ Hid (Below Nr w3 W) ∧ Hid (Nr ≤ W.heap.size))) (by kernel_rfl) ?_ (fun hH => ?_)
                    · exact S0
                    refine wpAnyH_take (i := 0) (oi := { dst := some 84, op := Op.fieldAddr 27 (Operand.tmp 2) 0, type := 0, pos := "ref.go:211", after := #[], guard := none }) (v := ?_) rfl (by kernel_rfl) (by kernel_rfl) (by kernel_rfl) (fun _ _ _ h => h) (Or.inl ⟨by rfl, ?_⟩) (by assumption) ?_
                    rotate_left
                    · (intro w hSw; (try dsimp only at hSw); go_simp; try with_reducible rfl)
                    try simp only [Act.put, List.setIfInBounds_toArray, List.set_cons_zero, List.set_cons_succ]
                    refine wpAnyH_take (i := 1) (oi := { dst := some 85, op := Op.load 3 (Operand.tmp 84), type := 3, pos := "ref.go:211", after := #[{ on := 0, ground := Ground.data }], guard := none }) (v := ?_) rfl (by kernel_rfl) (by kernel_rfl) (by kernel_rfl) (fun _ _ _ h => h) (Or.inl ⟨by rfl, ?_⟩) (by assumption) ?_
                    rotate_left
                    · (intro w hSw; (try dsimp only at hSw); go_simp; try with_reducible rfl)
                    try simp only [Act.put, List.setIfInBounds_toArray, List.set_cons_zero, List.set_cons_succ]
                    refine wpAnyH_take (i := 2) (oi := { dst := some 86, op := Op.binOp BinOp.eql 3 (Operand.tmp 85) (Operand.const (Value.int IntKind.i64 5)) 3, type := 4, pos := "ref.go:211", after := #[{ on := 1, ground := Ground.data }], guard := none }) (v := ?_) rfl (by kernel_rfl) (by kernel_rfl) (by kernel_rfl) (fun _ _ _ h => h) (Or.inl ⟨by rfl, ?_⟩) (by assumption) ?_
                    rotate_left
                    · (intro w hSw; (try dsimp only at hSw); go_simp; try with_reducible rfl)
                    try simp only [Act.put, List.setIfInBounds_toArray, List.set_cons_zero, List.set_cons_succ]
                    refine wpAnyH_take (i := 3) (oi := { dst := some 87, op := Op.move (Operand.tmp 86), type := 4, pos := "ref.go:211", after := #[{ on := 2, ground := Ground.data }], guard := none }) (v := ?_) rfl (by kernel_rfl) (by kernel_rfl) (by kernel_rfl) (fun _ _ _ h => h) (Or.inl ⟨by rfl, ?_⟩) (by assumption) ?_
                    rotate_left
                    · (intro w hSw; (try dsimp only at hSw); go_simp; try with_reducible rfl)
                    try simp only [Act.put, List.setIfInBounds_toArray, List.set_cons_zero, List.set_cons_succ]
                    refine wpAnyH_take (i := 4) (oi := { dst := some 88, op := Op.fieldAddr 27 (Operand.tmp 2) 4, type := 0, pos := "ref.go:211", after := #[{ on := 3, ground := Ground.guard }], guard := some (3, true) }) (v := ?_) rfl (by kernel_rfl) (by kernel_rfl) (by kernel_rfl) (fun _ _ _ h => h) (Or.inl ⟨by rfl, ?_⟩) (by assumption) ?_
                    rotate_left
                    · (intro w hSw; (try dsimp only at hSw); go_simp; try with_reducible rfl)
                    try simp only [Act.put, List.setIfInBounds_toArray, List.set_cons_zero, List.set_cons_succ]
                    refine wpAnyH_take (i := 5) (oi := { dst := some 89, op := Op.load 23 (Operand.tmp 88), type := 23, pos := "ref.go:211", after := #[{ on := 4, ground := Ground.data }, { on := 3, ground := Ground.guard }], guard := some (3, true) }) (v := ?_) rfl (by kernel_rfl) (by kernel_rfl) (by kernel_rfl) (fun _ _ _ h => h) (Or.inl ⟨by rfl, ?_⟩) (by assumption) ?_
                    rotate_left
                    · (intro w hSw; (try dsimp only at hSw); go_simp; try with_reducible rfl)
                    try simp only [Act.put, List.setIfInBounds_toArray, List.set_cons_zero, List.set_cons_succ]
                    refine wpAnyH_take (i := 6) (oi := { dst := some 90, op := Op.move (Operand.tmp 9), type := 3, pos := "ref.go:211", after := #[{ on := 3, ground := Ground.guard }], guard := some (3, true) }) (v := ?_) rfl (by kernel_rfl) (by kernel_rfl) (by kernel_rfl) (fun _ _ _ h => h) (Or.inl ⟨by rfl, ?_⟩) (by assumption) ?_
                    rotate_left
                    · (intro w hSw; (try dsimp only at hSw); go_simp; try with_reducible rfl)
                    try simp only [Act.put, List.setIfInBounds_toArray, List.set_cons_zero, List.set_cons_succ]
                    refine wpAnyH_take (i := 7) (oi := { dst := some 91, op := Op.indexAddr 23 (Operand.tmp 89) (Operand.tmp 90), type := 0, pos := "ref.go:211", after := #[{ on := 5, ground := Ground.data }, { on := 6, ground := Ground.data }, { on := 3, ground := Ground.guard }], guard := some (3, true) }) (v := ?_) rfl (by kernel_rfl) (by kernel_rfl) (by kernel_rfl) (fun _ _ _ h => h) (Or.inl ⟨by rfl, ?_⟩) (by assumption) ?_
                    rotate_left
                    · (intro w hSw; (try dsimp only at hSw); go_simp; try with_reducible rfl)
                    try simp only [Act.put, List.setIfInBounds_toArray, List.set_cons_zero, List.set_cons_succ]
                    refine wpAnyH_take (i := 8) (oi := { dst := some 92, op := Op.load 9 (Operand.tmp 91), type := 9, pos := "ref.go:211", after := #[{ on := 7, ground := Ground.data }, { on := 3, ground := Ground.guard }], guard := some (3, true) }) (v := ?_) rfl (by kernel_rfl) (by kernel_rfl) (by kernel_rfl) (fun _ _ _ h => h) (Or.inl ⟨by rfl, ?_⟩) (by assumption) ?_
                    rotate_left
                    · (intro w hSw; (try dsimp only at hSw); go_simp; try with_reducible rfl)
                    try simp only [Act.put, List.setIfInBounds_toArray, List.set_cons_zero, List.set_cons_succ]
                    refine wpAnyH_take (i := 9) (oi := { dst := some 93, op := Op.fieldAddr 27 (Operand.tmp 3) 4, type := 0, pos := "ref.go:211", after := #[{ on := 3, ground := Ground.guard }], guard := some (3, true) }) (v := ?_) rfl (by kernel_rfl) (by kernel_rfl) (by kernel_rfl) (fun _ _ _ h => h) (Or.inl ⟨by rfl, ?_⟩) (by assumption) ?_
                    rotate_left
                    · (intro w hSw; (try dsimp only at hSw); go_simp; try with_reducible rfl)
                    try simp only [Act.put, List.setIfInBounds_toArray, List.set_cons_zero, List.set_cons_succ]
                    refine wpAnyH_take (i := 10) (oi := { dst := some 94, op := Op.load 23 (Operand.tmp 93), type := 23, pos := "ref.go:211", after := #[{ on := 9, ground := Ground.data }, { on := 3, ground := Ground.guard }], guard := some (3, true) }) (v := ?_) rfl (by kernel_rfl) (by kernel_rfl) (by kernel_rfl) (fun _ _ _ h => h) (Or.inl ⟨by rfl, ?_⟩) (by assumption) ?_
                    rotate_left
                    · (intro w hSw; (try dsimp only at hSw); go_simp; try with_reducible rfl)
                    try simp only [Act.put, List.setIfInBounds_toArray, List.set_cons_zero, List.set_cons_succ]
                    refine wpAnyH_take (i := 11) (oi := { dst := some 95, op := Op.move (Operand.tmp 9), type := 3, pos := "ref.go:211", after := #[{ on := 3, ground := Ground.guard }], guard := some (3, true) }) (v := ?_) rfl (by kernel_rfl) (by kernel_rfl) (by kernel_rfl) (fun _ _ _ h => h) (Or.inl ⟨by rfl, ?_⟩) (by assumption) ?_
                    rotate_left
                    · (intro w hSw; (try dsimp only at hSw); go_simp; try with_reducible rfl)
                    try simp only [Act.put, List.setIfInBounds_toArray, List.set_cons_zero, List.set_cons_succ]
                    refine wpAnyH_take (i := 12) (oi := { dst := some 96, op := Op.indexAddr 23 (Operand.tmp 94) (Operand.tmp 95), type := 0, pos := "ref.go:211", after := #[{ on := 10, ground := Ground.data }, { on := 11, ground := Ground.data }, { on := 3, ground := Ground.guard }], guard := some (3, true) }) (v := ?_) rfl (by kernel_rfl) (by kernel_rfl) (by kernel_rfl) (fun _ _ _ h => h) (Or.inl ⟨by rfl, ?_⟩) (by assumption) ?_
                    rotate_left
                    · (intro w hSw; (try dsimp only at hSw); go_simp; try with_reducible rfl)
                    try simp only [Act.put, List.setIfInBounds_toArray, List.set_cons_zero, List.set_cons_succ]
                    refine wpAnyH_take (i := 13) (oi := { dst := some 97, op := Op.load 9 (Operand.tmp 96), type := 9, pos := "ref.go:211", after := #[{ on := 12, ground := Ground.data }, { on := 3, ground := Ground.guard }], guard := some (3, true) }) (v := ?_) rfl (by kernel_rfl) (by kernel_rfl) (by kernel_rfl) (fun _ _ _ h => h) (Or.inl ⟨by rfl, ?_⟩) (by assumption) ?_
                    rotate_left
                    · (intro w hSw; (try dsimp only at hSw); go_simp; try with_reducible rfl)
                    try simp only [Act.put, List.setIfInBounds_toArray, List.set_cons_zero, List.set_cons_succ]
                    refine wpAnyH_take (i := 14) (oi := { dst := some 98, op := Op.binOp BinOp.neq 9 (Operand.tmp 92) (Operand.tmp 97) 9, type := 4, pos := "ref.go:211", after := #[{ on := 8, ground := Ground.data }, { on := 13, ground := Ground.data }, { on := 3, ground := Ground.guard }], guard := some (3, true) }) (v := ?_) rfl (by kernel_rfl) (by kernel_rfl) (by kernel_rfl) (fun _ _ _ h => h) (Or.inl ⟨by rfl, ?_⟩) (by assumption) ?_
                    rotate_left
                    · (intro w hSw; (try dsimp only at hSw); go_simp; try with_reducible rfl)
                    try simp only [Act.put, List.setIfInBounds_toArray, List.set_cons_zero, List.set_cons_succ]
                    refine wpAnyH_take (i := 15) (oi := { dst := some 99, op := Op.pick (Operand.tmp 87) (Operand.tmp 98) (Operand.const (Value.bool false)), type := 4, pos := "ref.go:211", after := #[{ on := 3, ground := Ground.data }, { on := 14, ground := Ground.data }], guard := none }) (v := ?_) rfl (by kernel_rfl) (by kernel_rfl) (by kernel_rfl) (fun _ _ _ h => h) (Or.inl ⟨by rfl, ?_⟩) (by assumption) ?_
                    rotate_left
                    · (intro w hSw; (try dsimp only at hSw); go_simp; try with_reducible rfl)
                    try simp only [Act.put, List.setIfInBounds_toArray, List.set_cons_zero, List.set_cons_succ]
                    refine wpAnyH_done (by kernel_rfl) ?_ _
                    refine NoPanic.normal ?_
                    have B5 := Lib.hid (LWr.out _ hH)
                    have HB5 : Hid (Below n w3 w3.drew) := hH.2.1.out.mono (by have := HNr.out; have := B2.out.size; have := HZ.out; omega)
                    have E1 := EV.held (w := w3) ⟨u0, u1, u2, u3, u4, u5, u6, u7⟩ hH.1 l2
                    have E2 := EV.held (w := w3) ⟨v0, v1, v2, v3, v4, v5, v6, v7⟩ hH.1 l3
                    have p0' := (hH.1 _ _ l4).trans p0
                    have p1' := (hH.1 _ _ l5).trans p1
                    clear p0 p1 l4 l5
                    clear u0 u1 u2 u3 u4 u5 u6 u7 v0 v1 v2 v3 v4 v5 v6 v7 x8 x0 x1 x2 x3 x4 x5 x6 x7 y8 y0 y1 y2 y3 y4 y5 y6 y7 S0 hH LWr HNr l0r l1r l2 l3
                    generalize w3.drew = W5 at *
                    obtain ⟨u0, u1, u2, u3, u4, u5, u6, u7⟩ := E1
                    obtain ⟨v0, v1, v2, v3, v4, v5, v6, v7⟩ := E2
                    obtain ⟨x8, x0, x1, x2, x3, x4, x5, x6, x7⟩ := HP.out.1.kept B5.out (by have := HZ.out; omega)
                    obtain ⟨y8, y0, y1, y2, y3, y4, y5, y6, y7⟩ := HP.out.2.kept B5.out (by have := HZ.out; omega)
                    go_upto_region 22 with fail
                    obtain ⟨Ns, hNs⟩ : ∃ N, N = W5.heap.size := ⟨_, rfl⟩
                    have S0 := held_at hNs
                    have l0s : w.heap.size < Ns := by have := B5.out.size; have := HZ.out; omega
                    have l1s : w.heap.size + 1 < Ns := by have := B5.out.size; have := HZ.out; omega
                    have l2 : b1 < Ns := by have := B5.out.size; have := HZ.out; omega
                    have l3 : b2 < Ns := by have := B5.out.size; have := HZ.out; omega
                    have l4 : b3 < Ns := by have := B5.out.size; have := HZ.out; omega
                    have l5 : b4 < Ns := by have := B5.out.size; have := HZ.out; omega
                    have HNs := Lib.hid hNs
                    clear hNs
                    have LWs : Hid (∀ W, ((∀ b o, b < Ns → W.cell? ⟨b, o, none⟩ = W5.cell? ⟨b, o, none⟩) ∧ Hid (Below Ns W5 W) ∧ Hid (Ns ≤ W.heap.size)) → Below w0.heap.size w0 W) := fun W h => B5.out.trans (h.2.1.out.mono (by rw [HNs.out]; exact B5.out.size))
                    refine wp_region_noPanic ?_
                    refine wp_region_held_drew (S := (fun W => (∀ b o, b < Ns → W.cell? ⟨b, o, none⟩ = W5.cell? ⟨b, o, none⟩) ∧ Hid (Below Ns W5 W) ∧ Hid (Ns ≤ W.heap.size))) (by kernel_rfl) ?_ (fun hH => ?_)
                    · exact S0
                    refine wpAnyH_take (i := 0) (oi := { dst := some 100, op := Op.fieldAddr 27 (Operand.tmp 2) 4, type := 0, pos := "ref.go:212", after := #[], guard := none }) (v := ?_) rfl (by kernel_rfl) (by kernel_rfl) (by kernel_rfl) (fun _ _ _ h => h) (Or.inl ⟨by rfl, ?_⟩) (by assumption) ?_
                    rotate_left
                    · (intro w hSw; (try dsimp only at hSw); go_simp; try with_reducible rfl)
                    try simp only [Act.put, List.setIfInBounds_toArray, List.set_cons_zero, List.set_cons_succ]
                    refine wpAnyH_take (i := 1) (oi := { dst := some 101, op := Op.load 23 (Operand.tmp 100), type := 23, pos := "ref.go:212", after := #[{ on := 0, ground := Ground.data }], guard := none }) (v := ?_) rfl (by kernel_rfl) (by kernel_rfl) (by kernel_rfl) (fun _ _ _ h => h) (Or.inl ⟨by rfl, ?_⟩) (by assumption) ?_
                    rotate_left
                    · (intro w hSw; (try dsimp only at hSw); go_simp; try with_reducible rfl)
                    try simp only [Act.put, List.setIfInBounds_toArray, List.set_cons_zero, List.set_cons_succ]
                    refine wpAnyH_take (i := 2) (oi := { dst := some 102, op := Op.move (Operand.tmp 9), type := 3, pos := "ref.go:212", after := #[], guard := none }) (v := ?_) rfl (by kernel_rfl) (by kernel_rfl) (by kernel_rfl) (fun _ _ _ h => h) (Or.inl ⟨by rfl, ?_⟩) (by assumption) ?_
                    rotate_left
                    · (intro w hSw; (try dsimp only at hSw); go_simp; try with_reducible rfl)
                    try simp only [Act.put, List.setIfInBounds_toArray, List.set_cons_zero, List.set_cons_succ]
                    refine wpAnyH_take (i := 3) (oi := { dst := some 103, op := Op.indexAddr 23 (Operand.tmp 101) (Operand.tmp 102), type := 0, pos := "ref.go:212", after := #[{ on := 1, ground := Ground.data }, { on := 2, ground := Ground.data }], guard := none }) (v := ?_) rfl (by kernel_rfl) (by kernel_rfl) (by kernel_rfl) (fun _ _ _ h => h) (Or.inl ⟨by rfl, ?_⟩) (by assumption) ?_
                    rotate_left
                    · (intro w hSw; (try dsimp only at hSw); go_simp; try with_reducible rfl)
                    try simp only [Act.put, List.setIfInBounds_toArray, List.set_cons_zero, List.set_cons_succ]
                    refine wpAnyH_take (i := 4) (oi := { dst := some 104, op := Op.load 9 (Operand.tmp 103), type := 9, pos := "ref.go:212", after := #[{ on := 3, ground := Ground.data }], guard := none }) (v := ?_) rfl (by kernel_rfl) (by kernel_rfl) (by kernel_rfl) (fun _ _ _ h => h) (Or.inl ⟨by rfl, ?_⟩) (by assumption) ?_
                    rotate_left
                    · (intro w hSw; (try dsimp only at hSw); go_simp; try with_reducible rfl)
                    try simp only [Act.put, List.setIfInBounds_toArray, List.set_cons_zero, List.set_cons_succ]
                    refine wpAnyH_take (i := 5) (oi := { dst := some 105, op := Op.fieldAddr 27 (Operand.tmp 3) 4, type := 0, pos := "ref.go:212", after := #[], guard := none }) (v := ?_) rfl (by kernel_rfl) (by kernel_rfl) (by kernel_rfl) (fun _ _ _ h => h) (Or.inl ⟨by rfl, ?_⟩) (by assumption) ?_
                    rotate_left
                    · (intro w hSw; (try dsimp only at hSw); go_simp; try with_reducible rfl)
                    try simp only [Act.put, List.setIfInBounds_toArray, List.set_cons_zero, List.set_cons_succ]
                    refine wpAnyH_take (i := 6) (oi := { dst := some 106, op := Op.load 23 (Operand.tmp 105), type := 23, pos := "ref.go:212", after := #[{ on := 5, ground := Ground.data }], guard := none }) (v := ?_) rfl (by kernel_rfl) (by kernel_rfl) (by kernel_rfl) (fun _ _ _ h => h) (Or.inl ⟨by rfl, ?_⟩) (by assumption) ?_
                    rotate_left
                    · (intro w hSw; (try dsimp only at hSw); go_simp; try with_reducible rfl)
                    try simp only [Act.put, List.setIfInBounds_toArray, List.set_cons_zero, List.set_cons_succ]
                    refine wpAnyH_take (i := 7) (oi := { dst := some 107, op := Op.move (Operand.tmp 9), type := 3, pos := "ref.go:212", after := #[], guard := none }) (v := ?_) rfl (by kernel_rfl) (by kernel_rfl) (by kernel_rfl) (fun _ _ _ h => h) (Or.inl ⟨by rfl, ?_⟩) (by assumption) ?_
                    rotate_left
                    · (intro w hSw; (try dsimp only at hSw); go_simp; try with_reducible rfl)
                    try simp only [Act.put, List.setIfInBounds_toArray, List.set_cons_zero, List.set_cons_succ]
                    refine wpAnyH_take (i := 8) (oi := { dst := some 108, op := Op.indexAddr 23 (Operand.tmp 106) (Operand.tmp 107), type := 0, pos := "ref.go:212", after := #[{ on := 6, ground := Ground.data }, { on := 7, ground := Ground.data }], guard := none }) (v := ?_) rfl (by kernel_rfl) (by kernel_rfl) (by kernel_rfl) (fun _ _ _ h => h) (Or.inl ⟨by rfl, ?_⟩) (by assumption) ?_
                    rotate_left
                    · (intro w hSw; (try dsimp only at hSw); go_simp; try with_reducible rfl)
                    try simp only [Act.put, List.setIfInBounds_toArray, List.set_cons_zero, List.set_cons_succ]
                    refine wpAnyH_take (i := 9) (oi := { dst := some 109, op := Op.load 9 (Operand.tmp 108), type := 9, pos := "ref.go:212", after := #[{ on := 8, ground := Ground.data }], guard := none }) (v := ?_) rfl (by kernel_rfl) (by kernel_rfl) (by kernel_rfl) (fun _ _ _ h => h) (Or.inl ⟨by rfl, ?_⟩) (by assumption) ?_
                    rotate_left
                    · (intro w hSw; (try dsimp only at hSw); go_simp; try with_reducible rfl)
                    try simp only [Act.put, List.setIfInBounds_toArray, List.set_cons_zero, List.set_cons_succ]
                    refine wpAnyH_take (i := 10) (oi := { dst := some 110, op := Op.binOp BinOp.lss 9 (Operand.tmp 104) (Operand.tmp 109) 9, type := 4, pos := "ref.go:212", after := #[{ on := 4, ground := Ground.data }, { on := 9, ground := Ground.data }], guard := none }) (v := ?_) rfl (by kernel_rfl) (by kernel_rfl) (by kernel_rfl) (fun _ _ _ h => h) (Or.inl ⟨by rfl, ?_⟩) (by assumption) ?_
                    rotate_left
                    · (intro w hSw; (try dsimp only at hSw); go_simp; try with_reducible rfl)
                    try simp only [Act.put, List.setIfInBounds_toArray, List.set_cons_zero, List.set_cons_succ]
                    refine wpAnyH_done (by kernel_rfl) ?_ _
                    refine NoPanic.normal ?_
                    have B6 := Lib.hid (LWs.out _ hH)
                    go_wp2_with fail
                    go_ret
                    exact ⟨ret_i4 HY.out.symm, HW.out.trans (B6.out.mono HW.out.size)⟩
              · have g5 : (A.k == 5) = false := by rw [beq_eq_false_iff_ne]; exact h5
                have HQ : Hid (R = if ord X Y ≠ 0 then ord X Y else ordR A B (j + 1)) := by unfold Hid; rw [HAT.out, if_neg (fun h => h5 h.1)]
                have H5 := Lib.hid h5
                clear h5
                go_upto_region 21 with fail
                obtain ⟨Nr, hNr⟩ : ∃ N, N = w3.heap.size := ⟨_, rfl⟩
                have S0 := held_at hNr
                have l0r : w.heap.size < Nr := by have := B2.out.size; have := HZ.out; omega
                have l1r : w.heap.size + 1 < Nr := by have := B2.out.size; have := HZ.out; omega
                have l2 : b1 < Nr := by have := B2.out.size; have := HZ.out; omega
                have l3 : b2 < Nr := by have := B2.out.size; have := HZ.out; omega
                have HNr := Lib.hid hNr
                clear hNr
                have LWr : Hid (∀ W, ((∀ b o, b < Nr → W.cell? ⟨b, o, none⟩ = w3.cell? ⟨b, o, none⟩) ∧ Hid (Below Nr w3 W) ∧ Hid (Nr ≤ W.heap.size)) → Below w0.heap.size w0 W) := fun W h => B2.out.trans (h.2.1.out.mono (by rw [HNr.out]; exact B2.out.size))
                refine wp_region_noPanic ?_
                refine wp_region_held_drew (S := (fun W => (∀ b o, b < Nr → W.cell? ⟨b, o, none⟩ = w3.cell? ⟨b, o, none⟩) ∧ Hid (Below Nr w3 W) ∧ Hid (Nr ≤ W.heap.size))) (by kernel_rfl) ?_ (fun hH => ?_)
                · exact S0
                refine wpAnyH_take (i := 0) (oi := { dst := some 84, op := Op.fieldAddr 27 (Operand.tmp 2) 0, type := 0, pos := "ref.go:211", after := #[], guard := none }) (v := ?_) rfl (by kernel_rfl) (by kernel_rfl) (by kernel_rfl) (fun _ _ _ h => h) (Or.inl ⟨by rfl, ?_⟩) (by assumption) ?_
                rotate_left
                · (intro w hSw; (try dsimp only at hSw); go_simp; try with_reducible rfl)
                try simp only [Act.put, List.setIfInBounds_toArray, List.set_cons_zero, List.set_cons_succ]
                refine wpAnyH_take (i := 1) (oi := { dst := some 85, op := Op.load 3 (Operand.tmp 84), type := 3, pos := "ref.go:211", after := #[{ on := 0, ground := Ground.data }], guard := none }) (v := ?_) rfl (by kernel_rfl) (by kernel_rfl) (by kernel_rfl) (fun _ _ _ h => h) (Or.inl ⟨by rfl, ?_⟩) (by assumption) ?_
                rotate_left
                · (intro w hSw; (try dsimp only at hSw); go_simp; try with_reducible rfl)
                try simp only [Act.put, List.setIfInBounds_toArray, List.set_cons_zero, List.set_cons_succ]
                refine wpAnyH_take (i := 2) (oi := { dst := some 86, op := Op.binOp BinOp.eql 3 (Operand.tmp 85) (Operand.const (Value.int IntKind.i64 5)) 3, type := 4, pos := "ref.go:211", after := #[{ on := 1, ground := Ground.data }], guard := none }) (v := ?_) rfl (by kernel_rfl) (by kernel_rfl) (by kernel_rfl) (fun _ _ _ h => h) (Or.inl ⟨by rfl, ?_⟩) (by assumption) ?_
                rotate_left
                · (intro w hSw; (try dsimp only at hSw); go_simp; try with_reducible rfl)
                try simp only [Act.put, List.setIfInBounds_toArray, List.set_cons_zero, List.set_cons_succ]
                refine wpAnyH_take (i := 3) (oi := { dst := some 87, op := Op.move (Operand.tmp 86), type := 4, pos := "ref.go:211", after := #[{ on := 2, ground := Ground.data }], guard := none }) (v := ?_) rfl (by kernel_rfl) (by kernel_rfl) (by kernel_rfl) (fun _ _ _ h => h) (Or.inl ⟨by rfl, ?_⟩) (by assumption) ?_
                rotate_left
                · (intro w hSw; (try dsimp only at hSw); go_simp; try with_reducible rfl)
                try simp only [Act.put, List.setIfInBounds_toArray, List.set_cons_zero, List.set_cons_succ]
                refine wpAnyH_take (i := 4) (oi := { dst := some 88, op := Op.fieldAddr 27 (Operand.tmp 2) 4, type := 0, pos := "ref.go:211", after := #[{ on := 3, ground := Ground.guard }], guard := some (3, true) }) (v := undef) rfl (by kernel_rfl) (by kernel_rfl) (by kernel_rfl) (fun _ _ _ h => h) (Or.inr ⟨by rfl, rfl⟩) (by assumption) ?_
                try simp only [Act.put, List.setIfInBounds_toArray, List.set_cons_zero, List.set_cons_succ]
                refine wpAnyH_take (i := 5) (oi := { dst := some 89, op := Op.load 23 (Operand.tmp 88), type := 23, pos := "ref.go:211", after := #[{ on := 4, ground := Ground.data }, { on := 3, ground := Ground.guard }], guard := some (3, true) }) (v := undef) rfl (by kernel_rfl) (by kernel_rfl) (by kernel_rfl) (fun _ _ _ h => h) (Or.inr ⟨by rfl, rfl⟩) (by assumption) ?_
                try simp only [Act.put, List.setIfInBounds_toArray, List.set_cons_zero, List.set_cons_succ]
                refine wpAnyH_take (i := 6) (oi := { dst := some 90, op := Op.move (Operand.tmp 9), type := 3, pos := "ref.go:211", after := #[{ on := 3, ground := Ground.guard }], guard := some (3, true) }) (v := undef) rfl (by kernel_rfl) (by kernel_rfl) (by kernel_rfl) (fun _ _ _ h => h) (Or.inr ⟨by rfl, rfl⟩) (by assumption) ?_
                try simp only [Act.put, List.setIfInBounds_toArray, List.set_cons_zero, List.set_cons_succ]
                refine wpAnyH_take (i := 7) (oi := { dst := some 91, op := Op.indexAddr 23 (Operand.tmp 89) (Operand.tmp 90), type := 0, pos := "ref.go:211", after := #[{ on := 5, ground := Ground.data }, { on := 6, ground := Ground.data }, { on := 3, ground := Ground.guard }], guard := some (3, true) }) (v := undef) rfl (by kernel_rfl) (by kernel_rfl) (by kernel_rfl) (fun _ _ _ h => h) (Or.inr ⟨by rfl, rfl⟩) (by assumption) ?_
                try simp only [Act.put, List.setIfInBounds_toArray, List.set_cons_zero, List.set_cons_succ]
                refine wpAnyH_take (i := 8) (oi := { dst := some 92, op := Op.load 9 (Operand.tmp 91), type := 9, pos := "ref.go:211", after := #[{ on := 7, ground := Ground.data }, { on := 3, ground := Ground.guard }], guard := some (3, true) }) (v := undef) rfl (by kernel_rfl) (by kernel_rfl) (by kernel_rfl) (fun _ _ _ h => h) (Or.inr ⟨by rfl, rfl⟩) (by assumption) ?_
                try simp only [Act.put, List.setIfInBounds_toArray, List.set_cons_zero, List.set_cons_succ]
                refine wpAnyH_take (i := 9) (oi := { dst := some 93, op := Op.fieldAddr 27 (Operand.tmp 3) 4, type := 0, pos := "ref.go:211", after := #[{ on := 3, ground := Ground.guard }], guard := some (3, true) }) (v := undef) rfl (by kernel_rfl) (by kernel_rfl) (by kernel_rfl) (fun _ _ _ h => h) (Or.inr ⟨by rfl, rfl⟩) (by assumption) ?_
                try simp only [Act.put, List.setIfInBounds_toArray, List.set_cons_zero, List.set_cons_succ]
                refine wpAnyH_take (i := 10) (oi := { dst := some 94, op := Op.load 23 (Operand.tmp 93), type := 23, pos := "ref.go:211", after := #[{ on := 9, ground := Ground.data }, { on := 3, ground := Ground.guard }], guard := some (3, true) }) (v := undef) rfl (by kernel_rfl) (by kernel_rfl) (by kernel_rfl) (fun _ _ _ h => h) (Or.inr ⟨by rfl, rfl⟩) (by assumption) ?_
                try simp only [Act.put, List.setIfInBounds_toArray, List.set_cons_zero, List.set_cons_succ]
                refine wpAnyH_take (i := 11) (oi := { dst := some 95, op := Op.move (Operand.tmp 9), type := 3, pos := "ref.go:211", after := #[{ on := 3, ground := Ground.guard }], guard := some (3, true) }) (v := undef) rfl (by kernel_rfl) (by kernel_rfl) (by kernel_rfl) (fun _ _ _ h => h) (Or.inr ⟨by rfl, rfl⟩) (by assumption) ?_
                try simp only [Act.put, List.setIfInBounds_toArray, List.set_cons_zero, List.set_cons_succ]
                refine wpAnyH_take (i := 12) (oi := { dst := some 96, op := Op.indexAddr 23 (Operand.tmp 94) (Operand.tmp 95), type := 0, pos := "ref.go:211", after := #[{ on := 10, ground := Ground.data }, { on := 11, ground := Ground.data }, { on := 3, ground := Ground.guard }], guard := some (3, true) }) (v := undef) rfl (by kernel_rfl) (by kernel_rfl) (by kernel_rfl) (fun _ _ _ h => h) (Or.inr ⟨by rfl, rfl⟩) (by assumption) ?_
                try simp only [Act.put, List.setIfInBounds_toArray, List.set_cons_zero, List.set_cons_succ]
                refine wpAnyH_take (i := 13) (oi := { dst := some 97, op := Op.load 9 (Operand.tmp 96), type := 9, pos := "ref.go:211", after := #[{ on := 12, ground := Ground.data }, { on := 3, ground := Ground.guard }], guard := some (3, true) }) (v := undef) rfl (by kernel_rfl) (by kernel_rfl) (by kernel_rfl) (fun _ _ _ h => h) (Or.inr ⟨by rfl, rfl⟩) (by assumption) ?_
                try simp only [Act.put, List.setIfInBounds_toArray, List.set_cons_zero, List.set_cons_succ]
                refine wpAnyH_take (i := 14) (oi := { dst := some 98, op := Op.binOp BinOp.neq 9 (Operand.tmp 92) (Operand.tmp 97) 9, type := 4, pos := "ref.go:211", after := #[{ on := 8, ground := Ground.data }, { on := 13, ground := Ground.data }, { on := 3, ground := Ground.guard }], guard := some (3, true) }) (v := undef) rfl (by kernel_rfl) (by kernel_rfl) (by kernel_rfl) (fun _ _ _ h => h) (Or.inr ⟨by rfl, rfl⟩) (by assumption) ?_
                try simp only [Act.put, List.setIfInBounds_toArray, List.set_cons_zero, List.set_cons_succ]
                refine wpAnyH_take (i := 15) (oi := { dst := some 99, op := Op.pick (Operand.tmp 87) (Operand.tmp 98) (Operand.const (Value.bool false)), type := 4, pos := "ref.go:211", after := #[{ on := 3, ground := Ground.data }, { on := 14, ground := Ground.data }], guard := none }) (v := ?_) rfl (by kernel_rfl) (by kernel_rfl) (by kernel_rfl) (fun _ _ _ h => h) (Or.inl ⟨by rfl, ?_⟩) (by assumption) ?_
                rotate_left
                · (intro w hSw; (try dsimp only at hSw); go_simp; try with_reducible rfl)
                try simp only [Act.put, List.setIfInBounds_toArray, List.set_cons_zero, List.set_cons_succ]
                refine wpAnyH_done (by kernel_rfl) ?_ _
                refine NoPanic.normal ?_
                have B5 := Lib.hid (LWr.out _ hH)
                have HB5 : Hid (Below n w3 w3.drew) := hH.2.1.out.mono (by have := HNr.out; have := B2.out.size; have := HZ.out; omega)
                have E1 := EV.held (w := w3) ⟨u0, u1, u2, u3, u4, u5, u6, u7⟩ hH.1 l2
                have E2 := EV.held (w := w3) ⟨v0, v1, v2, v3, v4, v5, v6, v7⟩ hH.1 l3
                clear u0 u1 u2 u3 u4 u5 u6 u7 v0 v1 v2 v3 v4 v5 v6 v7 x8 x0 x1 x2 x3 x4 x5 x6 x7 y8 y0 y1 y2 y3 y4 y5 y6 y7 S0 hH LWr HNr l0r l1r l2 l3
                generalize w3.drew = W5 at *
                obtain ⟨u0, u1, u2, u3, u4, u5, u6, u7⟩ := E1
                obtain ⟨v0, v1, v2, v3, v4, v5, v6, v7⟩ := E2
                obtain ⟨x8, x0, x1, x2, x3, x4, x5, x6, x7⟩ := HP.out.1.kept B5.out (by have := HZ.out; omega)
                obtain ⟨y8, y0, y1, y2, y3, y4, y5, y6, y7⟩ := HP.out.2.kept B5.out (by have := HZ.out; omega)
                obtain ⟨r, hr⟩ : ∃ r, r = ord X Y := ⟨_, rfl⟩
                rw [← hr] at HQ
                have HRX := Lib.hid hr
                clear hr
                go_upto_region 25 with fail
                obtain ⟨Nt, hNt⟩ : ∃ N, N = W5.heap.size := ⟨_, rfl⟩
                have S0 := held_at hNt
                have l0t : w.heap.size < Nt := by have := B5.out.size; have := HZ.out; omega
                have l1t : w.heap.size + 1 < Nt := by have := B5.out.size; have := HZ.out; omega
                have l2 : b1 < Nt := by have := B5.out.size; have := HZ.out; omega
                have l3 : b2 < Nt := by have := B5.out.size; have := HZ.out; omega
                have HNt := Lib.hid hNt
                clear hNt
                have LWt : Hid (∀ W, ((∀ b o, b < Nt → W.cell? ⟨b, o, none⟩ = W5.cell? ⟨b, o, none⟩) ∧ Hid (Below Nt W5 W) ∧ Hid (Nt ≤ W.heap.size)) → Below w0.heap.size w0 W) := fun W h => B5.out.trans (h.2.1.out.mono (by rw [HNt.out]; exact B5.out.size))
                have CXt : Hid (∀ W, ((∀ b o, b < Nt → W.cell? ⟨b, o, none⟩ = W5.cell? ⟨b, o, none⟩) ∧ Hid (Below Nt W5 W) ∧ Hid (Nt ≤ W.heap.size)) → Calls Try.prog 64 #[vv X.k X.i X.s (.slice oL4 X.l.length cL4) (.slice oK4 X.ks.length cK4) X.tk X.to X.x, vv Y.k Y.i Y.s (.slice oL5 Y.l.length cL5) (.slice oK5 Y.ks.length cK5) Y.tk Y.to Y.x] W fun e w' => e = .returned (.int .i64 r) ∧ Below W.heap.size W w') := fun W h => by
                  rw [HRX.out]
                  have hk : Below n w3 W := HB5.out.trans (h.2.1.out.mono (by have := HNt.out; have := B5.out.size; have := HZ.out; omega))
                  exact IH.out n X Y _ _ W mx my OXY.out.2.2.1 OXY.out.2.2.2 (by omega) (OXY.out.1.kept hk).lies (OXY.out.2.1.kept hk).lies (by have := (LWt.out W h).size; have := HZ.out; omega)
                refine wp_region_noPanic ?_
                refine wp_region_held_drew (S := (fun W => (∀ b o, b < Nt → W.cell? ⟨b, o, none⟩ = W5.cell? ⟨b, o, none⟩) ∧ Hid (Below Nt W5 W) ∧ Hid (Nt ≤ W.heap.size))) (by kernel_rfl) ?_ (fun hH => ?_)
                · exact S0
                refine wpAnyH_take (i := 0) (oi := { dst := some 111, op := Op.fieldAddr 27 (Operand.tmp 2) 3, type := 0, pos := "ref.go:217", after := #[], guard := none }) (v := ?_) rfl (by kernel_rfl) (by kernel_rfl) (by kernel_rfl) (fun _ _ _ h => h) (Or.inl ⟨by rfl, ?_⟩) (by assumption) ?_
                rotate_left
                · (intro w hSw; (try dsimp only at hSw); go_simp; try with_reducible rfl)
                try simp only [Act.put, List.setIfInBounds_toArray, List.set_cons_zero, List.set_cons_succ]
                refine wpAnyH_take (i := 1) (oi := { dst := some 112, op := Op.load 22 (Operand.tmp 111), type := 22, pos := "ref.go:217", after := #[{ on := 0, ground := Ground.data }], guard := none }) (v := ?_) rfl (by kernel_rfl) (by kernel_rfl) (by kernel_rfl) (fun _ _ _ h => h) (Or.inl ⟨by rfl, ?_⟩) (by assumption) ?_
                rotate_left
                · (intro w hSw; (try dsimp only at hSw); go_simp; try with_reducible rfl)
                try simp only [Act.put, List.setIfInBounds_toArray, List.set_cons_zero, List.set_cons_succ]
                refine wpAnyH_take (i := 2) (oi := { dst := some 113, op := Op.move (Operand.tmp 9), type := 3, pos := "ref.go:217", after := #[], guard := none }) (v := ?_) rfl (by kernel_rfl) (by kernel_rfl) (by kernel_rfl) (fun _ _ _ h => h) (Or.inl ⟨by rfl, ?_⟩) (by assumption) ?_
                rotate_left
                · (intro w hSw; (try dsimp only at hSw); go_simp; try with_reducible rfl)
                try simp only [Act.put, List.setIfInBounds_toArray, List.set_cons_zero, List.set_cons_succ]
                refine wpAnyH_take (i := 3) (oi := { dst := some 114, op := Op.indexAddr 22 (Operand.tmp 112) (Operand.tmp 113), type := 0, pos := "ref.go:217", after := #[{ on := 1, ground := Ground.data }, { on := 2, ground := Ground.data }], guard := none }) (v := ?_) rfl (by kernel_rfl) (by kernel_rfl) (by kernel_rfl) (fun _ _ _ h => h) (Or.inl ⟨by rfl, ?_⟩) (by assumption) ?_
                rotate_left
                · (intro w hSw; (try dsimp only at hSw); go_simp; try with_reducible rfl)
                try simp only [Act.put, List.setIfInBounds_toArray, List.set_cons_zero, List.set_cons_succ]
                refine wpAnyH_take (i := 4) (oi := { dst := some 115, op := Op.load 27 (Operand.tmp 114), type := 27, pos := "ref.go:217", after := #[{ on := 3, ground := Ground.data }], guard := none }) (v := ?_) rfl (by kernel_rfl) (by kernel_rfl) (by kernel_rfl) (fun _ _ _ h => h) (Or.inl ⟨by rfl, ?_⟩) (by assumption) ?_
                rotate_left
                · (intro w hSw; (try dsimp only at hSw); go_simp; try with_reducible rfl)
                try simp only [Act.put, List.setIfInBounds_toArray, List.set_cons_zero, List.set_cons_succ]
                refine wpAnyH_take (i := 5) (oi := { dst := some 116, op := Op.fieldAddr 27 (Operand.tmp 3) 3, type := 0, pos := "ref.go:217", after := #[], guard := none }) (v := ?_) rfl (by kernel_rfl) (by kernel_rfl) (by kernel_rfl) (fun _ _ _ h => h) (Or.inl ⟨by rfl, ?_⟩) (by assumption) ?_
                rotate_left
                · (intro w hSw; (try dsimp only at hSw); go_simp; try with_reducible rfl)
                try simp only [Act.put, List.setIfInBounds_toArray, List.set_cons_zero, List.set_cons_succ]
                refine wpAnyH_take (i := 6) (oi := { dst := some 117, op := Op.load 22 (Operand.tmp 116), type := 22, pos := "ref.go:217", after := #[{ on := 5, ground := Ground.data }], guard := none }) (v := ?_) rfl (by kernel_rfl) (by kernel_rfl) (by kernel_rfl) (fun _ _ _ h => h) (Or.inl ⟨by rfl, ?_⟩) (by assumption) ?_
                rotate_left
                · (intro w hSw; (try dsimp only at hSw); go_simp; try with_reducible rfl)
                try simp only [Act.put, List.setIfInBounds_toArray, List.set_cons_zero, List.set_cons_succ]
                refine wpAnyH_take (i := 7) (oi := { dst := some 118, op := Op.move (Operand.tmp 9), type := 3, pos := "ref.go:217", after := #[], guard := none }) (v := ?_) rfl (by kernel_rfl) (by kernel_rfl) (by kernel_rfl) (fun _ _ _ h => h) (Or.inl ⟨by rfl, ?_⟩) (by assumption) ?_
                rotate_left
                · (intro w hSw; (try dsimp only at hSw); go_simp; try with_reducible rfl)
                try simp only [Act.put, List.setIfInBounds_toArray, List.set_cons_zero, List.set_cons_succ]
                refine wpAnyH_take (i := 8) (oi := { dst := some 119, op := Op.indexAddr 22 (Operand.tmp 117) (Operand.tmp 118), type := 0, pos := "ref.go:217", after := #[{ on := 6, ground := Ground.data }, { on := 7, ground := Ground.data }], guard := none }) (v := ?_) rfl (by kernel_rfl) (by kernel_rfl) (by kernel_rfl) (fun _ _ _ h => h) (Or.inl ⟨by rfl, ?_⟩) (by assumption) ?_
                rotate_left
                · (intro w hSw; (try dsimp only at hSw); go_simp; try with_reducible rfl)
                try simp only [Act.put, List.setIfInBounds_toArray, List.set_cons_zero, List.set_cons_succ]
                refine wpAnyH_take (i := 9) (oi := { dst := some 120, op := Op.load 27 (Operand.tmp 119), type := 27, pos := "ref.go:217", after := #[{ on := 8, ground := Ground.data }], guard := none }) (v := ?_) rfl (by kernel_rfl) (by kernel_rfl) (by kernel_rfl) (fun _ _ _ h => h) (Or.inl ⟨by rfl, ?_⟩) (by assumption) ?_
                rotate_left
                · (intro w hSw; (try dsimp only at hSw); go_simp; try with_reducible rfl)
                try simp only [Act.put, List.setIfInBounds_toArray, List.set_cons_zero, List.set_cons_succ]
                refine wpAnyH_ready (rs := [10]) (by kernel_rfl) (by simp) ?_
                refine AllReadyH.cons (o := { dst := some 121, op := Op.call { callee := Callee.value (Operand.func 64), args := #[Operand.tmp 115, Operand.tmp 120], argTypes := #[27, 27] }, type := 3, pos := "ref.go:217", after := #[{ on := 4, ground := Ground.data }, { on := 9, ground := Ground.data }], guard := none }) rfl (fun K hK => ?_) AllReadyH.nil
                go_simp
                refine (CXt.out _ hH).mono ?_
                rintro e W_0 ⟨rfl, b⟩
                refine hK.out _ _ ?_ (fun hH' => ?_)
                · exact held_next (by assumption) hH
                clear hK K hH
                have hH := hH'
                clear hH'
                try simp only [Act.put, List.setIfInBounds_toArray, List.set_cons_zero, List.set_cons_succ]
                refine wpAnyH_take (i := 11) (oi := { dst := some 10, op := Op.assign (Operand.tmp 121), type := 3, pos := "ref.go:217", after := #[{ on := 10, ground := Ground.data }, { on := 10, ground := Ground.chain }, { on := 0, ground := Ground.phase }, { on := 1, ground := Ground.phase }, { on := 2, ground := Ground.phase }, { on := 3, ground := Ground.phase }, { on := 4, ground := Ground.phase }, { on := 5, ground := Ground.phase }, { on := 6, ground := Ground.phase }, { on := 7, ground := Ground.phase }, { on := 8, ground := Ground.phase }, { on := 9, ground := Ground.phase }, { on := 10, ground := Ground.phase }], guard := none }) (v := ?_) rfl (by kernel_rfl) (by kernel_rfl) (by kernel_rfl) (fun _ _ _ h => h) (Or.inl ⟨by rfl, ?_⟩) (by assumption) ?_
                rotate_left
                · (intro w hSw; (try dsimp only at hSw); go_simp; try with_reducible rfl)
                try simp only [Act.put, List.setIfInBounds_toArray, List.set_cons_zero, List.set_cons_succ]
                refine wpAnyH_done (by kernel_rfl) ?_ _
                refine NoPanic.normal ?_
                have B6 := Lib.hid (LWt.out _ hH)
                clear S0 hH LWt HNt l0t l1t l2 l3 CXt
                by_cases hr0 : r = 0
                · have HY : Hid (ordR A B (j + 1) = R) := by unfold Hid; rw [HQ.out, if_neg (fun h => h hr0)]
                  have gr : (r != 0) = false := by simpa using hr0
                  clear hr0
                  go_wp2_with fail
                  go_roundw
                  case rel =>
                    first
                    | exact ⟨j + 1, by omega, by omega, by go_num, (fun _ => HY.out), B6⟩
                    | exact ⟨j + 1, by omega, by omega, by go_num, Lib.hid (fun _ => HY.out), B6⟩
                    | ((repeat apply Exists.intro); refine ⟨?_, rfl⟩; exact ⟨j + 1, by omega, by omega, by go_num, Lib.hid (fun _ => HY.out), B6⟩)
                  case measure => simp [intOf]; omega
                · have HY : Hid (R = r) := by unfold Hid; rw [HQ.out, if_pos hr0]
                  have gr : (r != 0) = true := by simpa using hr0
                  clear hr0
                  go_wp2_with fail
                  go_ret
                  exact ⟨ret_i4 HY.out.symm, HW.out.trans (B6.out.mono HW.out.size)⟩
            · have HEND := Lib.hid (fin_end HK.out HF.out (j := j) (by omega) hok.out)
              clear hok HF
              cases L with
              | true =>
                obtain ⟨x8, x0, x1, x2, x3, x4, x5, x6, x7⟩ := HP.out.1.kept B2.out (by have := HZ.out; omega)
                obtain ⟨y8, y0, y1, y2, y3, y4, y5, y6, y7⟩ := HP.out.2.kept B2.out (by have := HZ.out; omega)
                go_upto_region 28 with fail
                obtain ⟨Np, hNp⟩ : ∃ N, N = w3.heap.size := ⟨_, rfl⟩
                have S0 := held_at hNp
                have l0p : w.heap.size < Np := by have := B2.out.size; have := HZ.out; omega
                have l1p : w.heap.size + 1 < Np := by have := B2.out.size; have := HZ.out; omega
                have HNp := Lib.hid hNp
                clear hNp
                have LWp : Hid (∀ W, ((∀ b o, b < Np → W.cell? ⟨b, o, none⟩ = w3.cell? ⟨b, o, none⟩) ∧ Hid (Below Np w3 W) ∧ Hid (Np ≤ W.heap.size)) → Below w0.heap.size w0 W) := fun W h => B2.out.trans (h.2.1.out.mono (by rw [HNp.out]; exact B2.out.size))
                refine wp_region_noPanic ?_
                refine wp_region_held_drew (S := (fun W => (∀ b o, b < Np → W.cell? ⟨b, o, none⟩ = w3.cell? ⟨b, o, none⟩) ∧ Hid (Below Np w3 W) ∧ Hid (Np ≤ W.heap.size))) (by kernel_rfl) ?_ (fun hH => ?_)
                · exact S0
                refine wpAnyH_take (i := 0) (oi := { dst := some 125, op := Op.move (Operand.tmp 5), type := 4, pos := "ref.go:221", after := #[], guard := none }) (v := ?_) rfl (by kernel_rfl) (by kernel_rfl) (by kernel_rfl) (fun _ _ _ h => h) (Or.inl ⟨by rfl, ?_⟩) (by assumption) ?_
                rotate_left
                · (intro w hSw; (try dsimp only at hSw); go_simp; try with_reducible rfl)
                try simp only [Act.put, List.setIfInBounds_toArray, List.set_cons_zero, List.set_cons_succ]
                refine wpAnyH_take (i := 1) (oi := { dst := some 126, op := Op.move (Operand.tmp 125), type := 4, pos := "ref.go:221", after := #[{ on := 0, ground := Ground.data }], guard := none }) (v := ?_) rfl (by kernel_rfl) (by kernel_rfl) (by kernel_rfl) (fun _ _ _ h => h) (Or.inl ⟨by rfl, ?_⟩) (by assumption) ?_
                rotate_left
                · (intro w hSw; (try dsimp only at hSw); go_simp; try with_reducible rfl)
                try simp only [Act.put, List.setIfInBounds_toArray, List.set_cons_zero, List.set_cons_succ]
                refine wpAnyH_take (i := 2) (oi := { dst := some 127, op := Op.load 27 (Operand.tmp 2), type := 27, pos := "ref.go:221", after := #[{ on := 1, ground := Ground.guard }], guard := some (1, false) }) (v := undef) rfl (by kernel_rfl) (by kernel_rfl) (by kernel_rfl) (fun _ _ _ h => h) (Or.inr ⟨by rfl, rfl⟩) (by assumption) ?_
                try simp only [Act.put, List.setIfInBounds_toArray, List.set_cons_zero, List.set_cons_succ]
                refine wpAnyH_take (i := 3) (oi := { dst := some 128, op := Op.call { callee := Callee.value (Operand.func 46), args := #[Operand.tmp 127], argTypes := #[27] }, type := 3, pos := "ref.go:221", after := #[{ on := 2, ground := Ground.data }, { on := 1, ground := Ground.chain }, { on := 1, ground := Ground.guard }], guard := some (1, false) }) (v := undef) rfl (by kernel_rfl) (by kernel_rfl) (by kernel_rfl) (fun _ _ _ h => h) (Or.inr ⟨by rfl, rfl⟩) (by assumption) ?_
                try simp only [Act.put, List.setIfInBounds_toArray, List.set_cons_zero, List.set_cons_succ]
                refine wpAnyH_take (i := 4) (oi := { dst := some 129, op := Op.load 27 (Operand.tmp 3), type := 27, pos := "ref.go:221", after := #[{ on := 1, ground := Ground.guard }], guard := some (1, false) }) (v := undef) rfl (by kernel_rfl) (by kernel_rfl) (by kernel_rfl) (fun _ _ _ h => h) (Or.inr ⟨by rfl, rfl⟩) (by assumption) ?_
                try simp only [Act.put, List.setIfInBounds_toArray, List.set_cons_zero, List.set_cons_succ]
                refine wpAnyH_take (i := 5) (oi := { dst := some 130, op := Op.call { callee := Callee.value (Operand.func 46), args := #[Operand.tmp 129], argTypes := #[27] }, type := 3, pos := "ref.go:221", after := #[{ on := 4, ground := Ground.data }, { on := 3, ground := Ground.chain }, { on := 1, ground := Ground.guard }], guard := some (1, false) }) (v := undef) rfl (by kernel_rfl) (by kernel_rfl) (by kernel_rfl) (fun _ _ _ h => h) (Or.inr ⟨by rfl, rfl⟩) (by assumption) ?_
                try simp only [Act.put, List.setIfInBounds_toArray, List.set_cons_zero, List.set_cons_succ]
                refine wpAnyH_take (i := 6) (oi := { dst := some 131, op := Op.binOp BinOp.lss 3 (Operand.tmp 128) (Operand.tmp 130) 3, type := 4, pos := "ref.go:221", after := #[{ on := 3, ground := Ground.data }, { on := 5, ground := Ground.data }, { on := 1, ground := Ground.guard }], guard := some (1, false) }) (v := undef) rfl (by kernel_rfl) (by kernel_rfl) (by kernel_rfl) (fun _ _ _ h => h) (Or.inr ⟨by rfl, rfl⟩) (by assumption) ?_
                try simp only [Act.put, List.setIfInBounds_toArray, List.set_cons_zero, List.set_cons_succ]
                refine wpAnyH_take (i := 7) (oi := { dst := some 132, op := Op.pick (Operand.tmp 126) (Operand.const (Value.bool true)) (Operand.tmp 131), type := 4, pos := "ref.go:221", after := #[{ on := 1, ground := Ground.data }, { on := 6, ground := Ground.data }], guard := none }) (v := ?_) rfl (by kernel_rfl) (by kernel_rfl) (by kernel_rfl) (fun _ _ _ h => h) (Or.inl ⟨by rfl, ?_⟩) (by assumption) ?_
                rotate_left
                · (intro w hSw; (try dsimp only at hSw); go_simp; try with_reducible rfl)
                try simp only [Act.put, List.setIfInBounds_toArray, List.set_cons_zero, List.set_cons_succ]
                refine wpAnyH_done (by kernel_rfl) ?_ _
                refine NoPanic.normal ?_
                have B7 := Lib.hid (LWp.out _ hH)
                clear S0 hH LWp HNp l0p l1p
                clear x8 x0 x1 x2 x3 x4 x5 x6 x7 y8 y0 y1 y2 y3 y4 y5 y6 y7
                have HY : Hid (R = -1) := by
                  unfold Hid
                  rw [HEND.out, if_pos (by simp)]
                go_wp2_with fail
                all_goals
                  go_ret
                  exact ⟨ret_i4 HY.out.symm, HW.out.trans (B7.out.mono HW.out.size)⟩
              | false =>
                by_cases h1 : cnt A < cnt B
                · have HL1 := Lib.hid h1
                  have gc : decide ((cnt A : Int) < (cnt B : Int)) = true := by simp; omega
                  clear h1
                  obtain ⟨x8, x0, x1, x2, x3, x4, x5, x6, x7⟩ := HP.out.1.kept B2.out (by have := HZ.out; omega)
                  obtain ⟨y8, y0, y1, y2, y3, y4, y5, y6, y7⟩ := HP.out.2.kept B2.out (by have := HZ.out; omega)
                  go_upto_region 28 with fail
                  obtain ⟨Np, hNp⟩ : ∃ N, N = w3.heap.size := ⟨_, rfl⟩
                  have S0 := held_at hNp
                  have l0p : w.heap.size < Np := by have := B2.out.size; have := HZ.out; omega
                  have l1p : w.heap.size + 1 < Np := by have := B2.out.size; have := HZ.out; omega
                  have HNp := Lib.hid hNp
                  clear hNp
                  have LWp : Hid (∀ W, ((∀ b o, b < Np → W.cell? ⟨b, o, none⟩ = w3.cell? ⟨b, o, none⟩) ∧ Hid (Below Np w3 W) ∧ Hid (Np ≤ W.heap.size)) → Below w0.heap.size w0 W) := fun W h => B2.out.trans (h.2.1.out.mono (by rw [HNp.out]; exact B2.out.size))
                  have CAp : Hid (∀ W, ((∀ b o, b < Np → W.cell? ⟨b, o, none⟩ = w3.cell? ⟨b, o, none⟩) ∧ Hid (Below Np w3 W) ∧ Hid (Np ≤ W.heap.size)) → Calls Try.prog 46 #[vv A.k A.i A.s (.slice oL A.l.length cL) (.slice oK A.ks.length cK) A.tk A.to A.x] W fun e w' => e = .returned (.int .i64 (cnt A)) ∧ Below W.heap.size W w') := fun W h => len_any (H.out.1.kept ((LWp.out W h).mono (by have := HZ.out; omega))).lies
                  have CBp : Hid (∀ W, ((∀ b o, b < Np → W.cell? ⟨b, o, none⟩ = w3.cell? ⟨b, o, none⟩) ∧ Hid (Below Np w3 W) ∧ Hid (Np ≤ W.heap.size)) → Calls Try.prog 46 #[vv B.k B.i B.s (.slice oL' B.l.length cL') (.slice oK' B.ks.length cK') B.tk B.to B.x] W fun e w' => e = .returned (.int .i64 (cnt B)) ∧ Below W.heap.size W w') := fun W h => len_any (H.out.2.kept ((LWp.out W h).mono (by have := HZ.out; omega))).lies
                  refine wp_region_noPanic ?_
                  refine wp_region_held_drew (S := (fun W => (∀ b o, b < Np → W.cell? ⟨b, o, none⟩ = w3.cell? ⟨b, o, none⟩) ∧ Hid (Below Np w3 W) ∧ Hid (Np ≤ W.heap.size))) (by kernel_rfl) ?_ (fun hH => ?_)
                  · exact S0
                  refine wpAnyH_take (i := 0) (oi := { dst := some 125, op := Op.move (Operand.tmp 5), type := 4, pos := "ref.go:221", after := #[], guard := none }) (v := ?_) rfl (by kernel_rfl) (by kernel_rfl) (by kernel_rfl) (fun _ _ _ h => h) (Or.inl ⟨by rfl, ?_⟩) (by assumption) ?_
                  rotate_left
                  · (intro w hSw; (try dsimp only at hSw); go_simp; try with_reducible rfl)
                  try simp only [Act.put, List.setIfInBounds_toArray, List.set_cons_zero, List.set_cons_succ]
                  refine wpAnyH_take (i := 1) (oi := { dst := some 126, op := Op.move (Operand.tmp 125), type := 4, pos := "ref.go:221", after := #[{ on := 0, ground := Ground.data }], guard := none }) (v := ?_) rfl (by kernel_rfl) (by kernel_rfl) (by kernel_rfl) (fun _ _ _ h => h) (Or.inl ⟨by rfl, ?_⟩) (by assumption) ?_
                  rotate_left
                  · (intro w hSw; (try dsimp only at hSw); go_simp; try with_reducible rfl)
                  try simp only [Act.put, List.setIfInBounds_toArray, List.set_cons_zero, List.set_cons_succ]
                  refine wpAnyH_take (i := 2) (oi := { dst := some 127, op := Op.load 27 (Operand.tmp 2), type := 27, pos := "ref.go:221", after := #[{ on := 1, ground := Ground.guard }], guard := some (1, false) }) (v := ?_) rfl (by kernel_rfl) (by kernel_rfl) (by kernel_rfl) (fun _ _ _ h => h) (Or.inl ⟨by rfl, ?_⟩) (by assumption) ?_
                  rotate_left
                  · (intro w hSw; (try dsimp only at hSw); go_simp; try with_reducible rfl)
                  try simp only [Act.put, List.setIfInBounds_toArray, List.set_cons_zero, List.set_cons_succ]
                  refine wpAnyH_take (i := 4) (oi := { dst := some 129, op := Op.load 27 (Operand.tmp 3), type := 27, pos := "ref.go:221", after := #[{ on := 1, ground := Ground.guard }], guard := some (1, false) }) (v := ?_) rfl (by kernel_rfl) (by kernel_rfl) (by kernel_rfl) (fun _ _ _ h => h) (Or.inl ⟨by rfl, ?_⟩) (by assumption) ?_
                  rotate_left
                  · (intro w hSw; (try dsimp only at hSw); go_simp; try with_reducible rfl)
                  try simp only [Act.put, List.setIfInBounds_toArray, List.set_cons_zero, List.set_cons_succ]
                  refine wpAnyH_ready (rs := [3]) (by kernel_rfl) (by simp) ?_
                  refine AllReadyH.cons (o := { dst := some 128, op := Op.call { callee := Callee.value (Operand.func 46), args := #[Operand.tmp 127], argTypes := #[27] }, type := 3, pos := "ref.go:221", after := #[{ on := 2, ground := Ground.data }, { on := 1, ground := Ground.chain }, { on := 1, ground := Ground.guard }], guard := some (1, false) }) rfl (fun K hK => ?_) AllReadyH.nil
                  go_simp
                  refine (CAp.out _ hH).mono ?_
                  rintro e W_0 ⟨rfl, b⟩
                  refine hK.out _ _ ?_ (fun hH' => ?_)
                  · exact held_next (by assumption) hH
                  clear hK K hH
                  have hH := hH'
                  clear hH'
                  try simp only [Act.put, List.setIfInBounds_toArray, List.set_cons_zero, List.set_cons_succ]
                  refine wpAnyH_ready (rs := [5]) (by kernel_rfl) (by simp) ?_
                  refine AllReadyH.cons (o := { dst := some 130, op := Op.call { callee := Callee.value (Operand.func 46), args := #[Operand.tmp 129], argTypes := #[27] }, type := 3, pos := "ref.go:221", after := #[{ on := 4, ground := Ground.data }, { on := 3, ground := Ground.chain }, { on := 1, ground := Ground.guard }], guard := some (1, false) }) rfl (fun K hK => ?_) AllReadyH.nil
                  go_simp
                  refine (CBp.out _ hH).mono ?_
                  rintro e W_1 ⟨rfl, b⟩
                  refine hK.out _ _ ?_ (fun hH' => ?_)
                  · exact held_next (by assumption) hH
                  clear hK K hH
                  have hH := hH'
                  clear hH'
                  try simp only [Act.put, List.setIfInBounds_toArray, List.set_cons_zero, List.set_cons_succ]
                  refine wpAnyH_take (i := 6) (oi := { dst := some 131, op := Op.binOp BinOp.lss 3 (Operand.tmp 128) (Operand.tmp 130) 3, type := 4, pos := "ref.go:221", after := #[{ on := 3, ground := Ground.data }, { on := 5, ground := Ground.data }, { on := 1, ground := Ground.guard }], guard := some (1, false) }) (v := ?_) rfl (by kernel_rfl) (by kernel_rfl) (by kernel_rfl) (fun _ _ _ h => h) (Or.inl ⟨by rfl, ?_⟩) (by assumption) ?_
                  rotate_left
                  · (intro w hSw; (try dsimp only at hSw); go_simp; try with_reducible rfl)
                  try simp only [Act.put, List.setIfInBounds_toArray, List.set_cons_zero, List.set_cons_succ]
                  refine wpAnyH_take (i := 7) (oi := { dst := some 132, op := Op.pick (Operand.tmp 126) (Operand.const (Value.bool true)) (Operand.tmp 131), type := 4, pos := "ref.go:221", after := #[{ on := 1, ground := Ground.data }, { on := 6, ground := Ground.data }], guard := none }) (v := ?_) rfl (by kernel_rfl) (by kernel_rfl) (by kernel_rfl) (fun _ _ _ h => h) (Or.inl ⟨by rfl, ?_⟩) (by assumption) ?_
                  rotate_left
                  · (intro w hSw; (try dsimp only at hSw); go_simp; try with_reducible rfl)
                  try simp only [Act.put, List.setIfInBounds_toArray, List.set_cons_zero, List.set_cons_succ]
                  refine wpAnyH_done (by kernel_rfl) ?_ _
                  refine NoPanic.normal ?_
                  have B7 := Lib.hid (LWp.out _ hH)
                  clear S0 hH LWp HNp l0p l1p
                  clear CAp CBp x8 x0 x1 x2 x3 x4 x5 x6 x7 y8 y0 y1 y2 y3 y4 y5 y6 y7
                  have HY : Hid (R = -1) := by
                    unfold Hid
                    rw [HEND.out, if_pos (.inr HL1.out)]
                  go_wp2_with fail
                  all_goals
                    go_ret
                    exact ⟨ret_i4 HY.out.symm, HW.out.trans (B7.out.mono HW.out.size)⟩
                · have HL1 := Lib.hid h1
                  have gc : decide ((cnt A : Int) < (cnt B : Int)) = false := by simp; omega
                  clear h1
                  obtain ⟨x8, x0, x1, x2, x3, x4, x5, x6, x7⟩ := HP.out.1.kept B2.out (by have := HZ.out; omega)
                  obtain ⟨y8, y0, y1, y2, y3, y4, y5, y6, y7⟩ := HP.out.2.kept B2.out (by have := HZ.out; omega)
                  go_upto_region 28 with fail
                  obtain ⟨Np, hNp⟩ : ∃ N, N = w3.heap.size := ⟨_, rfl⟩
                  have S0 := held_at hNp
                  have l0p : w.heap.size < Np := by have := B2.out.size; have := HZ.out; omega
                  have l1p : w.heap.size + 1 < Np := by have := B2.out.size; have := HZ.out; omega
                  have HNp := Lib.hid hNp
                  clear hNp
                  have LWp : Hid (∀ W, ((∀ b o, b < Np → W.cell? ⟨b, o, none⟩ = w3.cell? ⟨b, o, none⟩) ∧ Hid (Below Np w3 W) ∧ Hid (Np ≤ W.heap.size)) → Below w0.heap.size w0 W) := fun W h => B2.out.trans (h.2.1.out.mono (by rw [HNp.out]; exact B2.out.size))
                  have CAp : Hid (∀ W, ((∀ b o, b < Np → W.cell? ⟨b, o, none⟩ = w3.cell? ⟨b, o, none⟩) ∧ Hid (Below Np w3 W) ∧ Hid (Np ≤ W.heap.size)) → Calls Try.prog 46 #[vv A.k A.i A.s (.slice oL A.l.length cL) (.slice oK A.ks.length cK) A.tk A.to A.x] W fun e w' => e = .returned (.int .i64 (cnt A)) ∧ Below W.heap.size W w') := fun W h => len_any (H.out.1.kept ((LWp.out W h).mono (by have := HZ.out; omega))).lies
                  have CBp : Hid (∀ W, ((∀ b o, b < Np → W.cell? ⟨b, o, none⟩ = w3.cell? ⟨b, o, none⟩) ∧ Hid (Below Np w3 W) ∧ Hid (Np ≤ W.heap.size)) → Calls Try.prog 46 #[vv B.k B.i B.s (.slice oL' B.l.length cL') (.slice oK' B.ks.length cK') B.tk B.to B.x] W fun e w' => e = .returned (.int .i64 (cnt B)) ∧ Below W.heap.size W w') := fun W h => len_any (H.out.2.kept ((LWp.out W h).mono (by have := HZ.out; omega))).lies
                  refine wp_region_noPanic ?_
                  refine wp_region_held_drew (S := (fun W => (∀ b o, b < Np → W.cell? ⟨b, o, none⟩ = w3.cell? ⟨b, o, none⟩) ∧ Hid (Below Np w3 W) ∧ Hid (Np ≤ W.heap.size))) (by kernel_rfl) ?_ (fun hH => ?_)
                  · exact S0
                  refine wpAnyH_take (i := 0) (oi := { dst := some 125, op := Op.move (Operand.tmp 5), type := 4, pos := "ref.go:221", after := #[], guard := none }) (v := ?_) rfl (by kernel_rfl) (by kernel_rfl) (by kernel_rfl) (fun _ _ _ h => h) (Or.inl ⟨by rfl, ?_⟩) (by assumption) ?_
                  rotate_left
                  · (intro w hSw; (try dsimp only at hSw); go_simp; try with_reducible rfl)
                  try simp only [Act.put, List.setIfInBounds_toArray, List.set_cons_zero, List.set_cons_succ]
                  refine wpAnyH_take (i := 1) (oi := { dst := some 126, op := Op.move (Operand.tmp 125), type := 4, pos := "ref.go:221", after := #[{ on := 0, ground := Ground.data }], guard := none }) (v := ?_) rfl (by kernel_rfl) (by kernel_rfl) (by kernel_rfl) (fun _ _ _ h => h) (Or.inl ⟨by rfl, ?_⟩) (by assumption) ?_
                  rotate_left
                  · (intro w hSw; (try dsimp only at hSw); go_simp; try with_reducible rfl)
                  try simp only [Act.put, List.setIfInBounds_toArray, List.set_cons_zero, List.set_cons_succ]
                  refine wpAnyH_take (i := 2) (oi := { dst := some 127, op := Op.load 27 (Operand.tmp 2), type := 27, pos := "ref.go:221", after := #[{ on := 1, ground := Ground.guard }], guard := some (1, false) }) (v := ?_) rfl (by kernel_rfl) (by kernel_rfl) (by kernel_rfl) (fun _ _ _ h => h) (Or.inl ⟨by rfl, ?_⟩) (by assumption) ?_
                  rotate_left
                  · (intro w hSw; (try dsimp only at hSw); go_simp; try with_reducible rfl)
                  try simp only [Act.put, List.setIfInBounds_toArray, List.set_cons_zero, List.set_cons_succ]
                  refine wpAnyH_take (i := 4) (oi := { dst := some 129, op := Op.load 27 (Operand.tmp 3), type := 27, pos := "ref.go:221", after := #[{ on := 1, ground := Ground.guard }], guard := some (1, false) }) (v := ?_) rfl (by kernel_rfl) (by kernel_rfl) (by kernel_rfl) (fun _ _ _ h => h) (Or.inl ⟨by rfl, ?_⟩) (by assumption) ?_
                  rotate_left
                  · (intro w hSw; (try dsimp only at hSw); go_simp; try with_reducible rfl)
                  try simp only [Act.put, List.setIfInBounds_toArray, List.set_cons_zero, List.set_cons_succ]
                  refine wpAnyH_ready (rs := [3]) (by kernel_rfl) (by simp) ?_
                  refine AllReadyH.cons (o := { dst := some 128, op := Op.call { callee := Callee.value (Operand.func 46), args := #[Operand.tmp 127], argTypes := #[27] }, type := 3, pos := "ref.go:221", after := #[{ on := 2, ground := Ground.data }, { on := 1, ground := Ground.chain }, { on := 1, ground := Ground.guard }], guard := some (1, false) }) rfl (fun K hK => ?_) AllReadyH.nil
                  go_simp
                  refine (CAp.out _ hH).mono ?_
                  rintro e W_0 ⟨rfl, b⟩
                  refine hK.out _ _ ?_ (fun hH' => ?_)
                  · exact held_next (by assumption) hH
                  clear hK K hH
                  have hH := hH'
                  clear hH'
                  try simp only [Act.put, List.setIfInBounds_toArray, List.set_cons_zero, List.set_cons_succ]
                  refine wpAnyH_ready (rs := [5]) (by kernel_rfl) (by simp) ?_
                  refine AllReadyH.cons (o := { dst := some 130, op := Op.call { callee := Callee.value (Operand.func 46), args := #[Operand.tmp 129], argTypes := #[27] }, type := 3, pos := "ref.go:221", after := #[{ on := 4, ground := Ground.data }, { on := 3, ground := Ground.chain }, { on := 1, ground := Ground.guard }], guard := some (1, false) }) rfl (fun K hK => ?_) AllReadyH.nil
                  go_simp
                  refine (CBp.out _ hH).mono ?_
                  rintro e W_1 ⟨rfl, b⟩
                  refine hK.out _ _ ?_ (fun hH' => ?_)
                  · exact held_next (by assumption) hH
                  clear hK K hH
                  have hH := hH'
                  clear hH'
                  try simp only [Act.put, List.setIfInBounds_toArray, List.set_cons_zero, List.set_cons_succ]
                  refine wpAnyH_take (i := 6) (oi := { dst := some 131, op := Op.binOp BinOp.lss 3 (Operand.tmp 128) (Operand.tmp 130) 3, type := 4, pos := "ref.go:221", after := #[{ on := 3, ground := Ground.data }, { on := 5, ground := Ground.data }, { on := 1, ground := Ground.guard }], guard := some (1, false) }) (v := ?_) rfl (by kernel_rfl) (by kernel_rfl) (by kernel_rfl) (fun _ _ _ h => h) (Or.inl ⟨by rfl, ?_⟩) (by assumption) ?_
                  rotate_left
                  · (intro w hSw; (try dsimp only at hSw); go_simp; try with_reducible rfl)
                  try simp only [Act.put, List.setIfInBounds_toArray, List.set_cons_zero, List.set_cons_succ]
                  refine wpAnyH_take (i := 7) (oi := { dst := some 132, op := Op.pick (Operand.tmp 126) (Operand.const (Value.bool true)) (Operand.tmp 131), type := 4, pos := "ref.go:221", after := #[{ on := 1, ground := Ground.data }, { on := 6, ground := Ground.data }], guard := none }) (v := ?_) rfl (by kernel_rfl) (by kernel_rfl) (by kernel_rfl) (fun _ _ _ h => h) (Or.inl ⟨by rfl, ?_⟩) (by assumption) ?_
                  rotate_left
                  · (intro w hSw; (try dsimp only at hSw); go_simp; try with_reducible rfl)
                  try simp only [Act.put, List.setIfInBounds_toArray, List.set_cons_zero, List.set_cons_succ]
                  refine wpAnyH_done (by kernel_rfl) ?_ _
                  refine NoPanic.normal ?_
                  have B7 := Lib.hid (LWp.out _ hH)
                  clear S0 hH LWp HNp l0p l1p
                  clear CAp CBp x8 x0 x1 x2 x3 x4 x5 x6 x7 y8 y0 y1 y2 y3 y4 y5 y6 y7
                  cases M with
                  | true =>
                    obtain ⟨x8, x0, x1, x2, x3, x4, x5, x6, x7⟩ := HP.out.1.kept B7.out (by have := HZ.out; omega)
                    obtain ⟨y8, y0, y1, y2, y3, y4, y5, y6, y7⟩ := HP.out.2.kept B7.out (by have := HZ.out; omega)
                    go_upto_region 30 with fail
                    obtain ⟨Nq, hNq⟩ : ∃ N, N = W_1.heap.size := ⟨_, rfl⟩
                    have S0 := held_at hNq
                    have l0q : w.heap.size < Nq := by have := B7.out.size; have := HZ.out; omega
                    have l1q : w.heap.size + 1 < Nq := by have := B7.out.size; have := HZ.out; omega
                    have HNq := Lib.hid hNq
                    clear hNq
                    have LWq : Hid (∀ W, ((∀ b o, b < Nq → W.cell? ⟨b, o, none⟩ = W_1.cell? ⟨b, o, none⟩) ∧ Hid (Below Nq W_1 W) ∧ Hid (Nq ≤ W.heap.size)) → Below w0.heap.size w0 W) := fun W h => B7.out.trans (h.2.1.out.mono (by rw [HNq.out]; exact B7.out.size))
                    refine wp_region_noPanic ?_
                    refine wp_region_held_drew (S := (fun W => (∀ b o, b < Nq → W.cell? ⟨b, o, none⟩ = W_1.cell? ⟨b, o, none⟩) ∧ Hid (Below Nq W_1 W) ∧ Hid (Nq ≤ W.heap.size))) (by kernel_rfl) ?_ (fun hH => ?_)
                    · exact S0
                    refine wpAnyH_take (i := 0) (oi := { dst := some 133, op := Op.move (Operand.tmp 6), type := 4, pos := "ref.go:224", after := #[], guard := none }) (v := ?_) rfl (by kernel_rfl) (by kernel_rfl) (by kernel_rfl) (fun _ _ _ h => h) (Or.inl ⟨by rfl, ?_⟩) (by assumption) ?_
                    rotate_left
                    · (intro w hSw; (try dsimp only at hSw); go_simp; try with_reducible rfl)
                    try simp only [Act.put, List.setIfInBounds_toArray, List.set_cons_zero, List.set_cons_succ]
                    refine wpAnyH_take (i := 1) (oi := { dst := some 134, op := Op.move (Operand.tmp 133), type := 4, pos := "ref.go:224", after := #[{ on := 0, ground := Ground.data }], guard := none }) (v := ?_) rfl (by kernel_rfl) (by kernel_rfl) (by kernel_rfl) (fun _ _ _ h => h) (Or.inl ⟨by rfl, ?_⟩) (by assumption) ?_
                    rotate_left
                    · (intro w hSw; (try dsimp only at hSw); go_simp; try with_reducible rfl)
                    try simp only [Act.put, List.setIfInBounds_toArray, List.set_cons_zero, List.set_cons_succ]
                    refine wpAnyH_take (i := 2) (oi := { dst := some 135, op := Op.load 27 (Operand.tmp 2), type := 27, pos := "ref.go:224", after := #[{ on := 1, ground := Ground.guard }], guard := some (1, false) }) (v := undef) rfl (by kernel_rfl) (by kernel_rfl) (by kernel_rfl) (fun _ _ _ h => h) (Or.inr ⟨by rfl, rfl⟩) (by assumption) ?_
                    try simp only [Act.put, List.setIfInBounds_toArray, List.set_cons_zero, List.set_cons_succ]
                    refine wpAnyH_take (i := 3) (oi := { dst := some 136, op := Op.call { callee := Callee.value (Operand.func 46), args := #[Operand.tmp 135], argTypes := #[27] }, type := 3, pos := "ref.go:224", after := #[{ on := 2, ground := Ground.data }, { on := 1, ground := Ground.chain }, { on := 1, ground := Ground.guard }], guard := some (1, false) }) (v := undef) rfl (by kernel_rfl) (by kernel_rfl) (by kernel_rfl) (fun _ _ _ h => h) (Or.inr ⟨by rfl, rfl⟩) (by assumption) ?_
                    try simp only [Act.put, List.setIfInBounds_toArray, List.set_cons_zero, List.set_cons_succ]
                    refine wpAnyH_take (i := 4) (oi := { dst := some 137, op := Op.load 27 (Operand.tmp 3), type := 27, pos := "ref.go:224", after := #[{ on := 1, ground := Ground.guard }], guard := some (1, false) }) (v := undef) rfl (by kernel_rfl) (by kernel_rfl) (by kernel_rfl) (fun _ _ _ h => h) (Or.inr ⟨by rfl, rfl⟩) (by assumption) ?_
                    try simp only [Act.put, List.setIfInBounds_toArray, List.set_cons_zero, List.set_cons_succ]
                    refine wpAnyH_take (i := 5) (oi := { dst := some 138, op := Op.call { callee := Callee.value (Operand.func 46), args := #[Operand.tmp 137], argTypes := #[27] }, type := 3, pos := "ref.go:224", after := #[{ on := 4, ground := Ground.data }, { on := 3, ground := Ground.chain }, { on := 1, ground := Ground.guard }], guard := some (1, false) }) (v := undef) rfl (by kernel_rfl) (by kernel_rfl) (by kernel_rfl) (fun _ _ _ h => h) (Or.inr ⟨by rfl, rfl⟩) (by assumption) ?_
                    try simp only [Act.put, List.setIfInBounds_toArray, List.set_cons_zero, List.set_cons_succ]
                    refine wpAnyH_take (i := 6) (oi := { dst := some 139, op := Op.binOp BinOp.gtr 3 (Operand.tmp 136) (Operand.tmp 138) 3, type := 4, pos := "ref.go:224", after := #[{ on := 3, ground := Ground.data }, { on := 5, ground := Ground.data }, { on := 1, ground := Ground.guard }], guard := some (1, false) }) (v := undef) rfl (by kernel_rfl) (by kernel_rfl) (by kernel_rfl) (fun _ _ _ h => h) (Or.inr ⟨by rfl, rfl⟩) (by assumption) ?_
                    try simp only [Act.put, List.setIfInBounds_toArray, List.set_cons_zero, List.set_cons_succ]
                    refine wpAnyH_take (i := 7) (oi := { dst := some 140, op := Op.pick (Operand.tmp 134) (Operand.const (Value.bool true)) (Operand.tmp 139), type := 4, pos := "ref.go:224", after := #[{ on := 1, ground := Ground.data }, { on := 6, ground := Ground.data }], guard := none }) (v := ?_) rfl (by kernel_rfl) (by kernel_rfl) (by kernel_rfl) (fun _ _ _ h => h) (Or.inl ⟨by rfl, ?_⟩) (by assumption) ?_
                    rotate_left
                    · (intro w hSw; (try dsimp only at hSw); go_simp; try with_reducible rfl)
                    try simp only [Act.put, List.setIfInBounds_toArray, List.set_cons_zero, List.set_cons_succ]
                    refine wpAnyH_done (by kernel_rfl) ?_ _
                    refine NoPanic.normal ?_
                    have B8 := Lib.hid (LWq.out _ hH)
                    clear S0 hH LWq HNq l0q l1q
                    clear x8 x0 x1 x2 x3 x4 x5 x6 x7 y8 y0 y1 y2 y3 y4 y5 y6 y7
                    have HY : Hid (R = 1) := by
                      unfold Hid
                      rw [HEND.out, if_neg (by have := HL1.out; simp; omega), if_pos (by simp)]
                    go_wp2_with fail
                    all_goals
                      go_ret
                      exact ⟨ret_i4 HY.out.symm, HW.out.trans (B8.out.mono HW.out.size)⟩
                  | false =>
                    by_cases h2 : cnt B < cnt A
                    · have HL2 := Lib.hid h2
                      have gd : decide ((cnt B : Int) < (cnt A : Int)) = true := by simp; omega
                      clear h2
                      obtain ⟨x8, x0, x1, x2, x3, x4, x5, x6, x7⟩ := HP.out.1.kept B7.out (by have := HZ.out; omega)
                      obtain ⟨y8, y0, y1, y2, y3, y4, y5, y6, y7⟩ := HP.out.2.kept B7.out (by have := HZ.out; omega)
                      go_upto_region 30 with fail
                      obtain ⟨Nq, hNq⟩ : ∃ N, N = W_1.heap.size := ⟨_, rfl⟩
                      have S0 := held_at hNq
                      have l0q : w.heap.size < Nq := by have := B7.out.size; have := HZ.out; omega
                      have l1q : w.heap.size + 1 < Nq := by have := B7.out.size; have := HZ.out; omega
                      have HNq := Lib.hid hNq
                      clear hNq
                      have LWq : Hid (∀ W, ((∀ b o, b < Nq → W.cell? ⟨b, o, none⟩ = W_1.cell? ⟨b, o, none⟩) ∧ Hid (Below Nq W_1 W) ∧ Hid (Nq ≤ W.heap.size)) → Below w0.heap.size w0 W) := fun W h => B7.out.trans (h.2.1.out.mono (by rw [HNq.out]; exact B7.out.size))
                      have CAq : Hid (∀ W, ((∀ b o, b < Nq → W.cell? ⟨b, o, none⟩ = W_1.cell? ⟨b, o, none⟩) ∧ Hid (Below Nq W_1 W) ∧ Hid (Nq ≤ W.heap.size)) → Calls Try.prog 46 #[vv A.k A.i A.s (.slice oL A.l.length cL) (.slice oK A.ks.length cK) A.tk A.to A.x] W fun e w' => e = .returned (.int .i64 (cnt A)) ∧ Below W.heap.size W w') := fun W h => len_any (H.out.1.kept ((LWq.out W h).mono (by have := HZ.out; omega))).lies
                      have CBq : Hid (∀ W, ((∀ b o, b < Nq → W.cell? ⟨b, o, none⟩ = W_1.cell? ⟨b, o, none⟩) ∧ Hid (Below Nq W_1 W) ∧ Hid (Nq ≤ W.heap.size)) → Calls Try.prog 46 #[vv B.k B.i B.s (.slice oL' B.l.length cL') (.slice oK' B.ks.length cK') B.tk B.to B.x] W fun e w' => e = .returned (.int .i64 (cnt B)) ∧ Below W.heap.size W w') := fun W h => len_any (H.out.2.kept ((LWq.out W h).mono (by have := HZ.out; omega))).lies
                      refine wp_region_noPanic ?_
                      refine wp_region_held_drew (S := (fun W => (∀ b o, b < Nq → W.cell? ⟨b, o, none⟩ = W_1.cell? ⟨b, o, none⟩) ∧ Hid (Below Nq W_1 W) ∧ Hid (Nq ≤ W.heap.size))) (by kernel_rfl) ?_ (fun hH => ?_)
                      · exact S0
                      refine wpAnyH_take (i := 0) (oi := { dst := some 133, op := Op.move (Operand.tmp 6), type := 4, pos := "ref.go:224", after := #[], guard := none }) (v := ?_) rfl (by kernel_rfl) (by kernel_rfl) (by kernel_rfl) (fun _ _ _ h => h) (Or.inl ⟨by rfl, ?_⟩) (by assumption) ?_
                      rotate_left
                      · (intro w hSw; (try dsimp only at hSw); go_simp; try with_reducible rfl)
                      try simp only [Act.put, List.setIfInBounds_toArray, List.set_cons_zero, List.set_cons_succ]
                      refine wpAnyH_take (i := 1) (oi := { dst := some 134, op := Op.move (Operand.tmp 133), type := 4, pos := "ref.go:224", after := #[{ on := 0, ground := Ground.data }], guard := none }) (v := ?_) rfl (by kernel_rfl) (by kernel_rfl) (by kernel_rfl) (fun _ _ _ h => h) (Or.inl ⟨by rfl, ?_⟩) (by assumption) ?_
                      rotate_left
                      · (intro w hSw; (try dsimp only at hSw); go_simp; try with_reducible rfl)
                      try simp only [Act.put, List.setIfInBounds_toArray, List.set_cons_zero, List.set_cons_succ]
                      refine wpAnyH_take (i := 2) (oi := { dst := some 135, op := Op.load 27 (Operand.tmp 2), type := 27, pos := "ref.go:224", after := #[{ on := 1, ground := Ground.guard }], guard := some (1, false) }) (v := ?_) rfl (by kernel_rfl) (by kernel_rfl) (by kernel_rfl) (fun _ _ _ h => h) (Or.inl ⟨by rfl, ?_⟩) (by assumption) ?_
                      rotate_left
                      · (intro w hSw; (try dsimp only at hSw); go_simp; try with_reducible rfl)
                      try simp only [Act.put, List.setIfInBounds_toArray, List.set_cons_zero, List.set_cons_succ]
                      refine wpAnyH_take (i := 4) (oi := { dst := some 137, op := Op.load 27 (Operand.tmp 3), type := 27, pos := "ref.go:224", after := #[{ on := 1, ground := Ground.guard }], guard := some (1, false) }) (v := ?_) rfl (by kernel_rfl) (by kernel_rfl) (by kernel_rfl) (fun _ _ _ h => h) (Or.inl ⟨by rfl, ?_⟩) (by assumption) ?_
                      rotate_left
                      · (intro w hSw; (try dsimp only at hSw); go_simp; try with_reducible rfl)
                      try simp only [Act.put, List.setIfInBounds_toArray, List.set_cons_zero, List.set_cons_succ]
                      refine wpAnyH_ready (rs := [3]) (by kernel_rfl) (by simp) ?_
                      refine AllReadyH.cons (o := { dst := some 136, op := Op.call { callee := Callee.value (Operand.func 46), args := #[Operand.tmp 135], argTypes := #[27] }, type := 3, pos := "ref.go:224", after := #[{ on := 2, ground := Ground.data }, { on := 1, ground := Ground.chain }, { on := 1, ground := Ground.guard }], guard := some (1, false) }) rfl (fun K hK => ?_) AllReadyH.nil
                      go_simp
                      refine (CAq.out _ hH).mono ?_
                      rintro e W_0 ⟨rfl, b⟩
                      refine hK.out _ _ ?_ (fun hH' => ?_)
                      · exact held_next (by assumption) hH
                      clear hK K hH
                      have hH := hH'
                      clear hH'
                      try simp only [Act.put, List.setIfInBounds_toArray, List.set_cons_zero, List.set_cons_succ]
                      refine wpAnyH_ready (rs := [5]) (by kernel_rfl) (by simp) ?_
                      refine AllReadyH.cons (o := { dst := some 138, op := Op.call { callee := Callee.value (Operand.func 46), args := #[Operand.tmp 137], argTypes := #[27] }, type := 3, pos := "ref.go:224", after := #[{ on := 4, ground := Ground.data }, { on := 3, ground := Ground.chain }, { on := 1, ground := Ground.guard }], guard := some (1, false) }) rfl (fun K hK => ?_) AllReadyH.nil
                      go_simp
                      refine (CBq.out _ hH).mono ?_
                      rintro e W_1 ⟨rfl, b⟩
                      refine hK.out _ _ ?_ (fun hH' => ?_)
                      · exact held_next (by assumption) hH
                      clear hK K hH
                      have hH := hH'
                      clear hH'
                      try simp only [Act.put, List.setIfInBounds_toArray, List.set_cons_zero, List.set_cons_succ]
                      refine wpAnyH_take (i := 6) (oi := { dst := some 139, op := Op.binOp BinOp.gtr 3 (Operand.tmp 136) (Operand.tmp 138) 3, type := 4, pos := "ref.go:224", after := #[{ on := 3, ground := Ground.data }, { on := 5, ground := Ground.data }, { on := 1, ground := Ground.guard }], guard := some (1, false) }) (v := ?_) rfl (by kernel_rfl) (by kernel_rfl) (by kernel_rfl) (fun _ _ _ h => h) (Or.inl ⟨by rfl, ?_⟩) (by assumption) ?_
                      rotate_left
                      · (intro w hSw; (try dsimp only at hSw); go_simp; try with_reducible rfl)
                      try simp only [Act.put, List.setIfInBounds_toArray, List.set_cons_zero, List.set_cons_succ]
                      refine wpAnyH_take (i := 7) (oi := { dst := some 140, op := Op.pick (Operand.tmp 134) (Operand.const (Value.bool true)) (Operand.tmp 139), type := 4, pos := "ref.go:224", after := #[{ on := 1, ground := Ground.data }, { on := 6, ground := Ground.data }], guard := none }) (v := ?_) rfl (by kernel_rfl) (by kernel_rfl) (by kernel_rfl) (fun _ _ _ h => h) (Or.inl ⟨by rfl, ?_⟩) (by assumption) ?_
                      rotate_left
                      · (intro w hSw; (try dsimp only at hSw); go_simp; try with_reducible rfl)
                      try simp only [Act.put, List.setIfInBounds_toArray, List.set_cons_zero, List.set_cons_succ]
                      refine wpAnyH_done (by kernel_rfl) ?_ _
                      refine NoPanic.normal ?_
                      have B8 := Lib.hid (LWq.out _ hH)
                      clear S0 hH LWq HNq l0q l1q
                      clear CAq CBq x8 x0 x1 x2 x3 x4 x5 x6 x7 y8 y0 y1 y2 y3 y4 y5 y6 y7
                      have HY : Hid (R = 1) := by
                        unfold Hid
                        rw [HEND.out, if_neg (by have := HL1.out; simp; omega), if_pos (.inr HL2.out)]
                      go_wp2_with fail
                      all_goals
                        go_ret
                        exact ⟨ret_i4 HY.out.symm, HW.out.trans (B8.out.mono HW.out.size)⟩
                    · have HL2 := Lib.hid h2
                      have gd : decide ((cnt B : Int) < (cnt A : Int)) = false := by simp; omega
                      clear h2
                      obtain ⟨x8, x0, x1, x2, x3, x4, x5, x6, x7⟩ := HP.out.1.kept B7.out (by have := HZ.out; omega)
                      obtain ⟨y8, y0, y1, y2, y3, y4, y5, y6, y7⟩ := HP.out.2.kept B7.out (by have := HZ.out; omega)
                      go_upto_region 30 with fail
                      obtain ⟨Nq, hNq⟩ : ∃ N, N = W_1.heap.size := ⟨_, rfl⟩
                      have S0 := held_at hNq
                      have l0q : w.heap.size < Nq := by have := B7.out.size; have := HZ.out; omega
                      have l1q : w.heap.size + 1 < Nq := by have := B7.out.size; have := HZ.out; omega
                      have HNq := Lib.hid hNq
                      clear hNq
                      have LWq : Hid (∀ W, ((∀ b o, b < Nq → W.cell? ⟨b, o, none⟩ = W_1.cell? ⟨b, o, none⟩) ∧ Hid (Below Nq W_1 W) ∧ Hid (Nq ≤ W.heap.size)) → Below w0.heap.size w0 W) := fun W h => B7.out.trans (h.2.1.out.mono (by rw [HNq.out]; exact B7.out.size))
                      have CAq : Hid (∀ W, ((∀ b o, b < Nq → W.cell? ⟨b, o, none⟩ = W_1.cell? ⟨b, o, none⟩) ∧ Hid (Below Nq W_1 W) ∧ Hid (Nq ≤ W.heap.size)) → Calls Try.prog 46 #[vv A.k A.i A.s (.slice oL A.l.length cL) (.slice oK A.ks.length cK) A.tk A.to A.x] W fun e w' => e = .returned (.int .i64 (cnt A)) ∧ Below W.heap.size W w') := fun W h => len_any (H.out.1.kept ((LWq.out W h).mono (by have := HZ.out; omega))).lies
                      have CBq : Hid (∀ W, ((∀ b o, b < Nq → W.cell? ⟨b, o, none⟩ = W_1.cell? ⟨b, o, none⟩) ∧ Hid (Below Nq W_1 W) ∧ Hid (Nq ≤ W.heap.size)) → Calls Try.prog 46 #[vv B.k B.i B.s (.slice oL' B.l.length cL') (.slice oK' B.ks.length cK') B.tk B.to B.x] W fun e w' => e = .returned (.int .i64 (cnt B)) ∧ Below W.heap.size W w') := fun W h => len_any (H.out.2.kept ((LWq.out W h).mono (by have := HZ.out; omega))).lies
                      refine wp_region_noPanic ?_
                      refine wp_region_held_drew (S := (fun W => (∀ b o, b < Nq → W.cell? ⟨b, o, none⟩ = W_1.cell? ⟨b, o, none⟩) ∧ Hid (Below Nq W_1 W) ∧ Hid (Nq ≤ W.heap.size))) (by kernel_rfl) ?_ (fun hH => ?_)
                      · exact S0
                      refine wpAnyH_take (i := 0) (oi := { dst := some 133, op := Op.move (Operand.tmp 6), type := 4, pos := "ref.go:224", after := #[], guard := none }) (v := ?_) rfl (by kernel_rfl) (by kernel_rfl) (by kernel_rfl) (fun _ _ _ h => h) (Or.inl ⟨by rfl, ?_⟩) (by assumption) ?_
                      rotate_left
                      · (intro w hSw; (try dsimp only at hSw); go_simp; try with_reducible rfl)
                      try simp only [Act.put, List.setIfInBounds_toArray, List.set_cons_zero, List.set_cons_succ]
                      refine wpAnyH_take (i := 1) (oi := { dst := some 134, op := Op.move (Operand.tmp 133), type := 4, pos := "ref.go:224", after := #[{ on := 0, ground := Ground.data }], guard := none }) (v := ?_) rfl (by kernel_rfl) (by kernel_rfl) (by kernel_rfl) (fun _ _ _ h => h) (Or.inl ⟨by rfl, ?_⟩) (by assumption) ?_
                      rotate_left
                      · (intro w hSw; (try dsimp only at hSw); go_simp; try with_reducible rfl)
                      try simp only [Act.put, List.setIfInBounds_toArray, List.set_cons_zero, List.set_cons_succ]
                      refine wpAnyH_take (i := 2) (oi := { dst := some 135, op := Op.load 27 (Operand.tmp 2), type := 27, pos := "ref.go:224", after := #[{ on := 1, ground := Ground.guard }], guard := some (1, false) }) (v := ?_) rfl (by kernel_rfl) (by kernel_rfl) (by kernel_rfl) (fun _ _ _ h => h) (Or.inl ⟨by rfl, ?_⟩) (by assumption) ?_
                      rotate_left
                      · (intro w hSw; (try dsimp only at hSw); go_simp; try with_reducible rfl)
                      try simp only [Act.put, List.setIfInBounds_toArray, List.set_cons_zero, List.set_cons_succ]
                      refine wpAnyH_take (i := 4) (oi := { dst := some 137, op := Op.load 27 (Operand.tmp 3), type := 27, pos := "ref.go:224", after := #[{ on := 1, ground := Ground.guard }], guard := some (1, false) }) (v := ?_) rfl (by kernel_rfl) (by kernel_rfl) (by kernel_rfl) (fun _ _ _ h => h) (Or.inl ⟨by rfl, ?_⟩) (by assumption) ?_
                      rotate_left
                      · (intro w hSw; (try dsimp only at hSw); go_simp; try with_reducible rfl)
                      try simp only [Act.put, List.setIfInBounds_toArray, List.set_cons_zero, List.set_cons_succ]
                      refine wpAnyH_ready (rs := [3]) (by kernel_rfl) (by simp) ?_
                      refine AllReadyH.cons (o := { dst := some 136, op := Op.call { callee := Callee.value (Operand.func 46), args := #[Operand.tmp 135], argTypes := #[27] }, type := 3, pos := "ref.go:224", after := #[{ on := 2, ground := Ground.data }, { on := 1, ground := Ground.chain }, { on := 1, ground := Ground.guard }], guard := some (1, false) }) rfl (fun K hK => ?_) AllReadyH.nil
                      go_simp
                      refine (CAq.out _ hH).mono ?_
                      rintro e W_0 ⟨rfl, b⟩
                      refine hK.out _ _ ?_ (fun hH' => ?_)
                      · exact held_next (by assumption) hH
                      clear hK K hH
                      have hH := hH'
                      clear hH'
                      try simp only [Act.put, List.setIfInBounds_toArray, List.set_cons_zero, List.set_cons_succ]
                      refine wpAnyH_ready (rs := [5]) (by kernel_rfl) (by simp) ?_
                      refine AllReadyH.cons (o := { dst := some 138, op := Op.call { callee := Callee.value (Operand.func 46), args := #[Operand.tmp 137], argTypes := #[27] }, type := 3, pos := "ref.go:224", after := #[{ on := 4, ground := Ground.data }, { on := 3, ground := Ground.chain }, { on := 1, ground := Ground.guard }], guard := some (1, false) }) rfl (fun K hK => ?_) AllReadyH.nil
                      go_simp
                      refine (CBq.out _ hH).mono ?_
                      rintro e W_1 ⟨rfl, b⟩
                      refine hK.out _ _ ?_ (fun hH' => ?_)
                      · exact held_next (by assumption) hH
                      clear hK K hH
                      have hH := hH'
                      clear hH'
                      try simp only [Act.put, List.setIfInBounds_toArray, List.set_cons_zero, List.set_cons_succ]
                      refine wpAnyH_take (i := 6) (oi := { dst := some 139, op := Op.binOp BinOp.gtr 3 (Operand.tmp 136) (Operand.tmp 138) 3, type := 4, pos := "ref.go:224", after := #[{ on := 3, ground := Ground.data }, { on := 5, ground := Ground.data }, { on := 1, ground := Ground.guard }], guard := some (1, false) }) (v := ?_) rfl (by kernel_rfl) (by kernel_rfl) (by kernel_rfl) (fun _ _ _ h => h) (Or.inl ⟨by rfl, ?_⟩) (by assumption) ?_
                      rotate_left
                      · (intro w hSw; (try dsimp only at hSw); go_simp; try with_reducible rfl)
                      try simp only [Act.put, List.setIfInBounds_toArray, List.set_cons_zero, List.set_cons_succ]
                      refine wpAnyH_take (i := 7) (oi := { dst := some 140, op := Op.pick (Operand.tmp 134) (Operand.const (Value.bool true)) (Operand.tmp 139), type := 4, pos := "ref.go:224", after := #[{ on := 1, ground := Ground.data }, { on := 6, ground := Ground.data }], guard := none }) (v := ?_) rfl (by kernel_rfl) (by kernel_rfl) (by kernel_rfl) (fun _ _ _ h => h) (Or.inl ⟨by rfl, ?_⟩) (by assumption) ?_
                      rotate_left
                      · (intro w hSw; (try dsimp only at hSw); go_simp; try with_reducible rfl)
                      try simp only [Act.put, List.setIfInBounds_toArray, List.set_cons_zero, List.set_cons_succ]
                      refine wpAnyH_done (by kernel_rfl) ?_ _
                      refine NoPanic.normal ?_
                      have B8 := Lib.hid (LWq.out _ hH)
                      clear S0 hH LWq HNq l0q l1q
                      clear CAq CBq x8 x0 x1 x2 x3 x4 x5 x6 x7 y8 y0 y1 y2 y3 y4 y5 y6 y7
                      have HY : Hid (R = 0) := by
                        unfold Hid
                        rw [HEND.out, if_neg (by have := HL1.out; simp; omega), if_neg (by have := HL2.out; simp; omega)]
                      go_wp2_with fail
                      all_goals
                        go_ret
                        exact ⟨ret_i4 HY.out.symm, HW.out.trans (B8.out.mono HW.out.size)⟩
          · have HEND := Lib.hid (fin_end HK.out HF.out (j := j) (by omega) hok.out)
            clear hok HF
            cases L with
            | true =>
              obtain ⟨x8, x0, x1, x2, x3, x4, x5, x6, x7⟩ := HP.out.1.kept B2a.out (by have := HZ.out; omega)
              obtain ⟨y8, y0, y1, y2, y3, y4, y5, y6, y7⟩ := HP.out.2.kept B2a.out (by have := HZ.out; omega)
              go_upto_region 28 with fail
              obtain ⟨Np, hNp⟩ : ∃ N, N = w2.heap.size := ⟨_, rfl⟩
              have S0 := held_at hNp
              have l0p : w.heap.size < Np := by have := B2a.out.size; have := HZ.out; omega
              have l1p : w.heap.size + 1 < Np := by have := B2a.out.size; have := HZ.out; omega
              have HNp := Lib.hid hNp
              clear hNp
              have LWp : Hid (∀ W, ((∀ b o, b < Np → W.cell? ⟨b, o, none⟩ = w2.cell? ⟨b, o, none⟩) ∧ Hid (Below Np w2 W) ∧ Hid (Np ≤ W.heap.size)) → Below w0.heap.size w0 W) := fun W h => B2a.out.trans (h.2.1.out.mono (by rw [HNp.out]; exact B2a.out.size))
              refine wp_region_noPanic ?_
              refine wp_region_held_drew (S := (fun W => (∀ b o, b < Np → W.cell? ⟨b, o, none⟩ = w2.cell? ⟨b, o, none⟩) ∧ Hid (Below Np w2 W) ∧ Hid (Np ≤ W.heap.size))) (by kernel_rfl) ?_ (fun hH => ?_)
              · exact S0
              refine wpAnyH_take (i := 0) (oi := { dst := some 125, op := Op.move (Operand.tmp 5), type := 4, pos := "ref.go:221", after := #[], guard := none }) (v := ?_) rfl (by kernel_rfl) (by kernel_rfl) (by kernel_rfl) (fun _ _ _ h => h) (Or.inl ⟨by rfl, ?_⟩) (by assumption) ?_
              rotate_left
              · (intro w hSw; (try dsimp only at hSw); go_simp; try with_reducible rfl)
              try simp only [Act.put, List.setIfInBounds_toArray, List.set_cons_zero, List.set_cons_succ]
              refine wpAnyH_take (i := 1) (oi := { dst := some 126, op := Op.move (Operand.tmp 125), type := 4, pos := "ref.go:221", after := #[{ on := 0, ground := Ground.data }], guard := none }) (v := ?_) rfl (by kernel_rfl) (by kernel_rfl) (by kernel_rfl) (fun _ _ _ h => h) (Or.inl ⟨by rfl, ?_⟩) (by assumption) ?_
              rotate_left
              · (intro w hSw; (try dsimp only at hSw); go_simp; try with_reducible rfl)
              try simp only [Act.put, List.setIfInBounds_toArray, List.set_cons_zero, List.set_cons_succ]
              refine wpAnyH_take (i := 2) (oi := { dst := some 127, op := Op.load 27 (Operand.tmp 2), type := 27, pos := "ref.go:221", after := #[{ on := 1, ground := Ground.guard }], guard := some (1, false) }) (v := undef) rfl (by kernel_rfl) (by kernel_rfl) (by kernel_rfl) (fun _ _ _ h => h) (Or.inr ⟨by rfl, rfl⟩) (by assumption) ?_
              try simp only [Act.put, List.setIfInBounds_toArray, List.set_cons_zero, List.set_cons_succ]
              refine wpAnyH_take (i := 3) (oi := { dst := some 128, op := Op.call { callee := Callee.value (Operand.func 46), args := #[Operand.tmp 127], argTypes := #[27] }, type := 3, pos := "ref.go:221", after := #[{ on := 2, ground := Ground.data }, { on := 1, ground := Ground.chain }, { on := 1, ground := Ground.guard }], guard := some (1, false) }) (v := undef) rfl (by kernel_rfl) (by kernel_rfl) (by kernel_rfl) (fun _ _ _ h => h) (Or.inr ⟨by rfl, rfl⟩) (by assumption) ?_
              try simp only [Act.put, List.setIfInBounds_toArray, List.set_cons_zero, List.set_cons_succ]
              refine wpAnyH_take (i := 4) (oi := { dst := some 129, op := Op.load 27 (Operand.tmp 3), type := 27, pos := "ref.go:221", after := #[{ on := 1, ground := Ground.guard }], guard := some (1, false) }) (v := undef) rfl (by kernel_rfl) (by kernel_rfl) (by kernel_rfl) (fun _ _ _ h => h) (Or.inr ⟨by rfl, rfl⟩) (by assumption) ?_
              try simp only [Act.put, List.setIfInBounds_toArray, List.set_cons_zero, List.set_cons_succ]
              refine wpAnyH_take (i := 5) (oi := { dst := some 130, op := Op.call { callee := Callee.value (Operand.func 46), args := #[Operand.tmp 129], argTypes := #[27] }, type := 3, pos := "ref.go:221", after := #[{ on := 4, ground := Ground.data }, { on := 3, ground := Ground.chain }, { on := 1, ground := Ground.guard }], guard := some (1, false) }) (v := undef) rfl (by kernel_rfl) (by kernel_rfl) (by kernel_rfl) (fun _ _ _ h => h) (Or.inr ⟨by rfl, rfl⟩) (by assumption) ?_
              try simp only [Act.put, List.setIfInBounds_toArray, List.set_cons_zero, List.set_cons_succ]
              refine wpAnyH_take (i := 6) (oi := { dst := some 131, op := Op.binOp BinOp.lss 3 (Operand.tmp 128) (Operand.tmp 130) 3, type := 4, pos := "ref.go:221", after := #[{ on := 3, ground := Ground.data }, { on := 5, ground := Ground.data }, { on := 1, ground := Ground.guard }], guard := some (1, false) }) (v := undef) rfl (by kernel_rfl) (by kernel_rfl) (by kernel_rfl) (fun _ _ _ h => h) (Or.inr ⟨by rfl, rfl⟩) (by assumption) ?_
              try simp only [Act.put, List.setIfInBounds_toArray, List.set_cons_zero, List.set_cons_succ]
              refine wpAnyH_take (i := 7) (oi := { dst := some 132, op := Op.pick (Operand.tmp 126) (Operand.const (Value.bool true)) (Operand.tmp 131), type := 4, pos := "ref.go:221", after := #[{ on := 1, ground := Ground.data }, { on := 6, ground := Ground.data }], guard := none }) (v := ?_) rfl (by kernel_rfl) (by kernel_rfl) (by kernel_rfl) (fun _ _ _ h => h) (Or.inl ⟨by rfl, ?_⟩) (by assumption) ?_
              rotate_left
              · (intro w hSw; (try dsimp only at hSw); go_simp; try with_reducible rfl)
              try simp only [Act.put, List.setIfInBounds_toArray, List.set_cons_zero, List.set_cons_succ]
              refine wpAnyH_done (by kernel_rfl) ?_ _
              refine NoPanic.normal ?_
              have B7 := Lib.hid (LWp.out _ hH)
              clear S0 hH LWp HNp l0p l1p
              clear x8 x0 x1 x2 x3 x4 x5 x6 x7 y8 y0 y1 y2 y3 y4 y5 y6 y7
              have HY : Hid (R = -1) := by
                unfold Hid
                rw [HEND.out, if_pos (by simp)]
              go_wp2_with fail
              all_goals
                go_ret
                exact ⟨ret_i4 HY.out.symm, HW.out.trans (B7.out.mono HW.out.size)⟩
            | false =>
              by_cases h1 : cnt A < cnt B
              · have HL1 := Lib.hid h1
                have gc : decide ((cnt A : Int) < (cnt B : Int)) = true := by simp; omega
                clear h1
                obtain ⟨x8, x0, x1, x2, x3, x4, x5, x6, x7⟩ := HP.out.1.kept B2a.out (by have := HZ.out; omega)
                obtain ⟨y8, y0, y1, y2, y3, y4, y5, y6, y7⟩ := HP.out.2.kept B2a.out (by have := HZ.out; omega)
                go_upto_region 28 with fail
                obtain ⟨Np, hNp⟩ : ∃ N, N = w2.heap.size := ⟨_, rfl⟩
                have S0 := held_at hNp
                have l0p : w.heap.size < Np := by have := B2a.out.size; have := HZ.out; omega
                have l1p : w.heap.size + 1 < Np := by have := B2a.out.size; have := HZ.out; omega
                have HNp := Lib.hid hNp
                clear hNp
                have LWp : Hid (∀ W, ((∀ b o, b < Np → W.cell? ⟨b, o, none⟩ = w2.cell? ⟨b, o, none⟩) ∧ Hid (Below Np w2 W) ∧ Hid (Np ≤ W.heap.size)) → Below w0.heap.size w0 W) := fun W h => B2a.out.trans (h.2.1.out.mono (by rw [HNp.out]; exact B2a.out.size))
                have CAp : Hid (∀ W, ((∀ b o, b < Np → W.cell? ⟨b, o, none⟩ = w2.cell? ⟨b, o, none⟩) ∧ Hid (Below Np w2 W) ∧ Hid (Np ≤ W.heap.size)) → Calls Try.prog 46 #[vv A.k A.i A.s (.slice oL A.l.length cL) (.slice oK A.ks.length cK) A.tk A.to A.x] W fun e w' => e = .returned (.int .i64 (cnt A)) ∧ Below W.heap.size W w') := fun W h => len_any (H.out.1.kept ((LWp.out W h).mono (by have := HZ.out; omega))).lies
                have CBp : Hid (∀ W, ((∀ b o, b < Np → W.cell? ⟨b, o, none⟩ = w2.cell? ⟨b, o, none⟩) ∧ Hid (Below Np w2 W) ∧ Hid (Np ≤ W.heap.size)) → Calls Try.prog 46 #[vv B.k B.i B.s (.slice oL' B.l.length cL') (.slice oK' B.ks.length cK') B.tk B.to B.x] W fun e w' => e = .returned (.int .i64 (cnt B)) ∧ Below W.heap.size W w') := fun W h => len_any (H.out.2.kept ((LWp.out W h).mono (by have := HZ.out; omega))).lies
                refine wp_region_noPanic ?_
                refine wp_region_held_drew (S := (fun W => (∀ b o, b < Np → W.cell? ⟨b, o, none⟩ = w2.cell? ⟨b, o, none⟩) ∧ Hid (Below Np w2 W) ∧ Hid (Np ≤ W.heap.size))) (by kernel_rfl) ?_ (fun hH => ?_)
                · exact S0
                refine wpAnyH_take (i := 0) (oi := { dst := some 125, op := Op.move (Operand.tmp 5), type := 4, pos := "ref.go:221", after := #[], guard := none }) (v := ?_) rfl (by kernel_rfl) (by kernel_rfl) (by kernel_rfl) (fun _ _ _ h => h) (Or.inl ⟨by rfl, ?_⟩) (by assumption) ?_
                rotate_left
                · (intro w hSw; (try dsimp only at hSw); go_simp; try with_reducible rfl)
                try simp only [Act.put, List.setIfInBounds_toArray, List.set_cons_zero, List.set_cons_succ]
                refine wpAnyH_take (i := 1) (oi := { dst := some 126, op := Op.move (Operand.tmp 125), type := 4, pos := "ref.go:221", after := #[{ on := 0, ground := Ground.data }], guard := none }) (v := ?_) rfl (by kernel_rfl) (by kernel_rfl) (by kernel_rfl) (fun _ _ _ h => h) (Or.inl ⟨by rfl, ?_⟩) (by assumption) ?_
                rotate_left
                · (intro w hSw; (try dsimp only at hSw); go_simp; try with_reducible rfl)
                try simp only [Act.put, List.setIfInBounds_toArray, List.set_cons_zero, List.set_cons_succ]
                refine wpAnyH_take (i := 2) (oi := { dst := some 127, op := Op.load 27 (Operand.tmp 2), type := 27, pos := "ref.go:221", after := #[{ on := 1, ground := Ground.guard }], guard := some (1, false) }) (v := ?_) rfl (by kernel_rfl) (by kernel_rfl) (by kernel_rfl) (fun _ _ _ h => h) (Or.inl ⟨by rfl, ?_⟩) (by assumption) ?_
                rotate_left
                · (intro w hSw; (try dsimp only at hSw); go_simp; try with_reducible rfl)
                try simp only [Act.put, List.setIfInBounds_toArray, List.set_cons_zero, List.set_cons_succ]
                refine wpAnyH_take (i := 4) (oi := { dst := some 129, op := Op.load 27 (Operand.tmp 3), type := 27, pos := "ref.go:221", after := #[{ on := 1, ground := Ground.guard }], guard := some (1, false) }) (v := ?_) rfl (by kernel_rfl) (by kernel_rfl) (by kernel_rfl) (fun _ _ _ h => h) (Or.inl ⟨by rfl, ?_⟩) (by assumption) ?_
                rotate_left
                · (intro w hSw; (try dsimp only at hSw); go_simp; try with_reducible rfl)
                try simp only [Act.put, List.setIfInBounds_toArray, List.set_cons_zero, List.set_cons_succ]
                refine wpAnyH_ready (rs := [3]) (by kernel_rfl) (by simp) ?_
                refine AllReadyH.cons (o := { dst := some 128, op := Op.call { callee := Callee.value (Operand.func 46), args := #[Operand.tmp 127], argTypes := #[27] }, type := 3, pos := "ref.go:221", after := #[{ on := 2, ground := Ground.data }, { on := 1, ground := Ground.chain }, { on := 1, ground := Ground.guard }], guard := some (1, false) }) rfl (fun K hK => ?_) AllReadyH.nil
                go_simp
                refine (CAp.out _ hH).mono ?_
                rintro e W_0 ⟨rfl, b⟩
                refine hK.out _ _ ?_ (fun hH' => ?_)
                · exact held_next (by assumption) hH
                clear hK K hH
                have hH := hH'
                clear hH'
                try simp only [Act.put, List.setIfInBounds_toArray, List.set_cons_zero, List.set_cons_succ]
                refine wpAnyH_ready (rs := [5]) (by kernel_rfl) (by simp) ?_
                refine AllReadyH.cons (o := { dst := some 130, op := Op.call { callee := Callee.value (Operand.func 46), args := #[Operand.tmp 129], argTypes := #[27] }, type := 3, pos := "ref.go:221", after := #[{ on := 4, ground := Ground.data }, { on := 3, ground := Ground.chain }, { on := 1, ground := Ground.guard }], guard := some (1, false) }) rfl (fun K hK => ?_) AllReadyH.nil
                go_simp
                refine (CBp.out _ hH).mono ?_
                rintro e W_1 ⟨rfl, b⟩
                refine hK.out _ _ ?_ (fun hH' => ?_)
                · exact held_next (by assumption) hH
                clear hK K hH
                have hH := hH'
                clear hH'
                try simp only [Act.put, List.setIfInBounds_toArray, List.set_cons_zero, List.set_cons_succ]
                refine wpAnyH_take (i := 6) (oi := { dst := some 131, op := Op.binOp BinOp.lss 3 (Operand.tmp 128) (Operand.tmp 130) 3, type := 4, pos := "ref.go:221", after := #[{ on := 3, ground := Ground.data }, { on := 5, ground := Ground.data }, { on := 1, ground := Ground.guard }], guard := some (1, false) }) (v := ?_) rfl (by kernel_rfl) (by kernel_rfl) (by kernel_rfl) (fun _ _ _ h => h) (Or.inl ⟨by rfl, ?_⟩) (by assumption) ?_
                rotate_left
                · (intro w hSw; (try dsimp only at hSw); go_simp; try with_reducible rfl)
                try simp only [Act.put, List.setIfInBounds_toArray, List.set_cons_zero, List.set_cons_succ]
                refine wpAnyH_take (i := 7) (oi := { dst := some 132, op := Op.pick (Operand.tmp 126) (Operand.const (Value.bool true)) (Operand.tmp 131), type := 4, pos := "ref.go:221", after := #[{ on := 1, ground := Ground.data }, { on := 6, ground := Ground.data }], guard := none }) (v := ?_) rfl (by kernel_rfl) (by kernel_rfl) (by kernel_rfl) (fun _ _ _ h => h) (Or.inl ⟨by rfl, ?_⟩) (by assumption) ?_
                rotate_left
                · (intro w hSw; (try dsimp only at hSw); go_simp; try with_reducible rfl)
                try simp only [Act.put, List.setIfInBounds_toArray, List.set_cons_zero, List.set_cons_succ]
                refine wpAnyH_done (by kernel_rfl) ?_ _
                refine NoPanic.normal ?_
                have B7 := Lib.hid (LWp.out _ hH)
                clear S0 hH LWp HNp l0p l1p
                clear CAp CBp x8 x0 x1 x2 x3 x4 x5 x6 x7 y8 y0 y1 y2 y3 y4 y5 y6 y7
                have HY : Hid (R = -1) := by
                  unfold Hid
                  rw [HEND.out, if_pos (.inr HL1.out)]
                go_wp2_with fail
                all_goals
                  go_ret
                  exact ⟨ret_i4 HY.out.symm, HW.out.trans (B7.out.mono HW.out.size)⟩
              · have HL1 := Lib.hid h1
                have gc : decide ((cnt A : Int) < (cnt B : Int)) = false := by simp; omega
                clear h1
                obtain ⟨x8, x0, x1, x2, x3, x4, x5, x6, x7⟩ := HP.out.1.kept B2a.out (by have := HZ.out; omega)
                obtain ⟨y8, y0, y1, y2, y3, y4, y5, y6, y7⟩ := HP.out.2.kept B2a.out (by have := HZ.out; omega)
                go_upto_region 28 with fail
                obtain ⟨Np, hNp⟩ : ∃ N, N = w2.heap.size := ⟨_, rfl⟩
                have S0 := held_at hNp
                have l0p : w.heap.size < Np := by have := B2a.out.size; have := HZ.out; omega
                have l1p : w.heap.size + 1 < Np := by have := B2a.out.size; have := HZ.out; omega
                have HNp := Lib.hid hNp
                clear hNp
                have LWp : Hid (∀ W, ((∀ b o, b < Np → W.cell? ⟨b, o, none⟩ = w2.cell? ⟨b, o, none⟩) ∧ Hid (Below Np w2 W) ∧ Hid (Np ≤ W.heap.size)) → Below w0.heap.size w0 W) := fun W h => B2a.out.trans (h.2.1.out.mono (by rw [HNp.out]; exact B2a.out.size))
                have CAp : Hid (∀ W, ((∀ b o, b < Np → W.cell? ⟨b, o, none⟩ = w2.cell? ⟨b, o, none⟩) ∧ Hid (Below Np w2 W) ∧ Hid (Np ≤ W.heap.size)) → Calls Try.prog 46 #[vv A.k A.i A.s (.slice oL A.l.length cL) (.slice oK A.ks.length cK) A.tk A.to A.x] W fun e w' => e = .returned (.int .i64 (cnt A)) ∧ Below W.heap.size W w') := fun W h => len_any (H.out.1.kept ((LWp.out W h).mono (by have := HZ.out; omega))).lies
                have CBp : Hid (∀ W, ((∀ b o, b < Np → W.cell? ⟨b, o, none⟩ = w2.cell? ⟨b, o, none⟩) ∧ Hid (Below Np w2 W) ∧ Hid (Np ≤ W.heap.size)) → Calls Try.prog 46 #[vv B.k B.i B.s (.slice oL' B.l.length cL') (.slice oK' B.ks.length cK') B.tk B.to B.x] W fun e w' => e = .returned (.int .i64 (cnt B)) ∧ Below W.heap.size W w') := fun W h => len_any (H.out.2.kept ((LWp.out W h).mono (by have := HZ.out; omega))).lies
                refine wp_region_noPanic ?_
                refine wp_region_held_drew (S := (fun W => (∀ b o, b < Np → W.cell? ⟨b, o, none⟩ = w2.cell? ⟨b, o, none⟩) ∧ Hid (Below Np w2 W) ∧ Hid (Np ≤ W.heap.size))) (by kernel_rfl) ?_ (fun hH => ?_)
                · exact S0
                refine wpAnyH_take (i := 0) (oi := { dst := some 125, op := Op.move (Operand.tmp 5), type := 4, pos := "ref.go:221", after := #[], guard := none }) (v := ?_) rfl (by kernel_rfl) (by kernel_rfl) (by kernel_rfl) (fun _ _ _ h => h) (Or.inl ⟨by rfl, ?_⟩) (by assumption) ?_
                rotate_left
                · (intro w hSw; (try dsimp only at hSw); go_simp; try with_reducible rfl)
                try simp only [Act.put, List.setIfInBounds_toArray, List.set_cons_zero, List.set_cons_succ]
                refine wpAnyH_take (i := 1) (oi := { dst := some 126, op := Op.move (Operand.tmp 125), type := 4, pos := "ref.go:221", after := #[{ on := 0, ground := Ground.data }], guard := none }) (v := ?_) rfl (by kernel_rfl) (by kernel_rfl) (by kernel_rfl) (fun _ _ _ h => h) (Or.inl ⟨by rfl, ?_⟩) (by assumption) ?_
                rotate_left
                · (intro w hSw; (try dsimp only at hSw); go_simp; try with_reducible rfl)
                try simp only [Act.put, List.setIfInBounds_toArray, List.set_cons_zero, List.set_cons_succ]
                refine wpAnyH_take (i := 2) (oi := { dst := some 127, op := Op.load 27 (Operand.tmp 2), type := 27, pos := "ref.go:221", after := #[{ on := 1, ground := Ground.guard }], guard := some (1, false) }) (v := ?_) rfl (by kernel_rfl) (by kernel_rfl) (by kernel_rfl) (fun _ _ _ h => h) (Or.inl ⟨by rfl, ?_⟩) (by assumption) ?_
                rotate_left
                · (intro w hSw; (try dsimp only at hSw); go_simp; try with_reducible rfl)
                try simp only [Act.put, List.setIfInBounds_toArray, List.set_cons_zero, List.set_cons_succ]
                refine wpAnyH_take (i := 4) (oi := { dst := some 129, op := Op.load 27 (Operand.tmp 3), type := 27, pos := "ref.go:221", after := #[{ on := 1, ground := Ground.guard }], guard := some (1, false) }) (v := ?_) rfl (by kernel_rfl) (by kernel_rfl) (by kernel_rfl) (fun _ _ _ h => h) (Or.inl ⟨by rfl, ?_⟩) (by assumption) ?_
                rotate_left
                · (intro w hSw; (try dsimp only at hSw); go_simp; try with_reducible rfl)
                try simp only [Act.put, List.setIfInBounds_toArray, List.set_cons_zero, List.set_cons_succ]
                refine wpAnyH_ready (rs := [3]) (by kernel_rfl) (by simp) ?_
                refine AllReadyH.cons (o := { dst := some 128, op := Op.call { callee := Callee.value (Operand.func 46), args := #[Operand.tmp 127], argTypes := #[27] }, type := 3, pos := "ref.go:221", after := #[{ on := 2, ground := Ground.data }, { on := 1, ground := Ground.chain }, { on := 1, ground := Ground.guard }], guard := some (1, false) }) rfl (fun K hK => ?_) AllReadyH.nil
                go_simp
                refine (CAp.out _ hH).mono ?_
                rintro e W_0 ⟨rfl, b⟩
                refine hK.out _ _ ?_ (fun hH' => ?_)
                · exact held_next (by assumption) hH
                clear hK K hH
                have hH := hH'
                clear hH'
                try simp only [Act.put, List.setIfInBounds_toArray, List.set_cons_zero, List.set_cons_succ]
                refine wpAnyH_ready (rs := [5]) (by kernel_rfl) (by simp) ?_
                refine AllReadyH.cons (o := { dst := some 130, op := Op.call { callee := Callee.value (Operand.func 46), args := #[Operand.tmp 129], argTypes := #[27] }, type := 3, pos := "ref.go:221", after := #[{ on := 4, ground := Ground.data }, { on := 3, ground := Ground.chain }, { on := 1, ground := Ground.guard }], guard := some (1, false) }) rfl (fun K hK => ?_) AllReadyH.nil
                go_simp
                refine (CBp.out _ hH).mono ?_
                rintro e W_1 ⟨rfl, b⟩
                refine hK.out _ _ ?_ (fun hH' => ?_)
                · exact held_next (by assumption) hH
                clear hK K hH
                have hH := hH'
                clear hH'
                try simp only [Act.put, List.setIfInBounds_toArray, List.set_cons_zero, List.set_cons_succ]
                refine wpAnyH_take (i := 6) (oi := { dst := some 131, op := Op.binOp BinOp.lss 3 (Operand.tmp 128) (Operand.tmp 130) 3, type := 4, pos := "ref.go:221", after := #[{ on := 3, ground := Ground.data }, { on := 5, ground := Ground.data }, { on := 1, ground := Ground.guard }], guard := some (1, false) }) (v := ?_) rfl (by kernel_rfl) (by kernel_rfl) (by kernel_rfl) (fun _ _ _ h => h) (Or.inl ⟨by rfl, ?_⟩) (by assumption) ?_
                rotate_left
                · (intro w hSw; (try dsimp only at hSw); go_simp; try with_reducible rfl)
                try simp only [Act.put, List.setIfInBounds_toArray, List.set_cons_zero, List.set_cons_succ]
                refine wpAnyH_take (i := 7) (oi := { dst := some 132, op := Op.pick (Operand.tmp 126) (Operand.const (Value.bool true)) (Operand.tmp 131), type := 4, pos := "ref.go:221", after := #[{ on := 1, ground := Ground.data }, { on := 6, ground := Ground.data }], guard := none }) (v := ?_) rfl (by kernel_rfl) (by kernel_rfl) (by kernel_rfl) (fun _ _ _ h => h) (Or.inl ⟨by rfl, ?_⟩) (by assumption) ?_
                rotate_left
                · (intro w hSw; (try dsimp only at hSw); go_simp; try with_reducible rfl)
                try simp only [Act.put, List.setIfInBounds_toArray, List.set_cons_zero, List.set_cons_succ]
                refine wpAnyH_done (by kernel_rfl) ?_ _
                refine NoPanic.normal ?_
                have B7 := Lib.hid (LWp.out _ hH)
                clear S0 hH LWp HNp l0p l1p
                clear CAp CBp x8 x0 x1 x2 x3 x4 x5 x6 x7 y8 y0 y1 y2 y3 y4 y5 y6 y7
                cases M with
                | true =>
                  obtain ⟨x8, x0, x1, x2, x3, x4, x5, x6, x7⟩ := HP.out.1.kept B7.out (by have := HZ.out; omega)
                  obtain ⟨y8, y0, y1, y2, y3, y4, y5, y6, y7⟩ := HP.out.2.kept B7.out (by have := HZ.out; omega)
                  go_upto_region 30 with fail
                  obtain ⟨Nq, hNq⟩ : ∃ N, N = W_1.heap.size := ⟨_, rfl⟩
                  have S0 := held_at hNq
                  have l0q : w.heap.size < Nq := by have := B7.out.size; have := HZ.out; omega
                  have l1q : w.heap.size + 1 < Nq := by have := B7.out.size; have := HZ.out; omega
                  have HNq := Lib.hid hNq
                  clear hNq
                  have LWq : Hid (∀ W, ((∀ b o, b < Nq → W.cell? ⟨b, o, none⟩ = W_1.cell? ⟨b, o, none⟩) ∧ Hid (Below Nq W_1 W) ∧ Hid (Nq ≤ W.heap.size)) → Below w0.heap.size w0 W) := fun W h => B7.out.trans (h.2.1.out.mono (by rw [HNq.out]; exact B7.out.size))
                  refine wp_region_noPanic ?_
                  refine wp_region_held_drew (S := (fun W => (∀ b o, b < Nq → W.cell? ⟨b, o, none⟩ = W_1.cell? ⟨b, o, none⟩) ∧ Hid (Below Nq W_1 W) ∧ Hid (Nq ≤ W.heap.size))) (by kernel_rfl) ?_ (fun hH => ?_)
                  · exact S0
                  refine wpAnyH_take (i := 0) (oi := { dst := some 133, op := Op.move (Operand.tmp 6), type := 4, pos := "ref.go:224", after := #[], guard := none }) (v := ?_) rfl (by kernel_rfl) (by kernel_rfl) (by kernel_rfl) (fun _ _ _ h => h) (Or.inl ⟨by rfl, ?_⟩) (by assumption) ?_
                  rotate_left
                  · (intro w hSw; (try dsimp only at hSw); go_simp; try with_reducible rfl)
                  try simp only [Act.put, List.setIfInBounds_toArray, List.set_cons_zero, List.set_cons_succ]
                  refine wpAnyH_take (i := 1) (oi := { dst := some 134, op := Op.move (Operand.tmp 133), type := 4, pos := "ref.go:224", after := #[{ on := 0, ground := Ground.data }], guard := none }) (v := ?_) rfl (by kernel_rfl) (by kernel_rfl) (by kernel_rfl) (fun _ _ _ h => h) (Or.inl ⟨by rfl, ?_⟩) (by assumption) ?_
                  rotate_left
                  · (intro w hSw; (try dsimp only at hSw); go_simp; try with_reducible rfl)
                  try simp only [Act.put, List.setIfInBounds_toArray, List.set_cons_zero, List.set_cons_succ]
                  refine wpAnyH_take (i := 2) (oi := { dst := some 135, op := Op.load 27 (Operand.tmp 2), type := 27, pos := "ref.go:224", after := #[{ on := 1, ground := Ground.guard }], guard := some (1, false) }) (v := undef) rfl (by kernel_rfl) (by kernel_rfl) (by kernel_rfl) (fun _ _ _ h => h) (Or.inr ⟨by rfl, rfl⟩) (by assumption) ?_
                  try simp only [Act.put, List.setIfInBounds_toArray, List.set_cons_zero, List.set_cons_succ]
                  refine wpAnyH_take (i := 3) (oi := { dst := some 136, op := Op.call { callee := Callee.value (Operand.func 46), args := #[Operand.tmp 135], argTypes := #[27] }, type := 3, pos := "ref.go:224", after := #[{ on := 2, ground := Ground.data }, { on := 1, ground := Ground.chain }, { on := 1, ground := Ground.guard }], guard := some (1, false) }) (v := undef) rfl (by kernel_rfl) (by kernel_rfl) (by kernel_rfl) (fun _ _ _ h => h) (Or.inr ⟨by rfl, rfl⟩) (by assumption) ?_
                  try simp only [Act.put, List.setIfInBounds_toArray, List.set_cons_zero, List.set_cons_succ]
                  refine wpAnyH_take (i := 4) (oi := { dst := some 137, op := Op.load 27 (Operand.tmp 3), type := 27, pos := "ref.go:224", after := #[{ on := 1, ground := Ground.guard }], guard := some (1, false) }) (v := undef) rfl (by kernel_rfl) (by kernel_rfl) (by kernel_rfl) (fun _ _ _ h => h) (Or.inr ⟨by rfl, rfl⟩) (by assumption) ?_
                  try simp only [Act.put, List.setIfInBounds_toArray, List.set_cons_zero, List.set_cons_succ]
                  refine wpAnyH_take (i := 5) (oi := { dst := some 138, op := Op.call { callee := Callee.value (Operand.func 46), args := #[Operand.tmp 137], argTypes := #[27] }, type := 3, pos := "ref.go:224", after := #[{ on := 4, ground := Ground.data }, { on := 3, ground := Ground.chain }, { on := 1, ground := Ground.guard }], guard := some (1, false) }) (v := undef) rfl (by kernel_rfl) (by kernel_rfl) (by kernel_rfl) (fun _ _ _ h => h) (Or.inr ⟨by rfl, rfl⟩) (by assumption) ?_
                  try simp only [Act.put, List.setIfInBounds_toArray, List.set_cons_zero, List.set_cons_succ]
                  refine wpAnyH_take (i := 6) (oi := { dst := some 139, op := Op.binOp BinOp.gtr 3 (Operand.tmp 136) (Operand.tmp 138) 3, type := 4, pos := "ref.go:224", after := #[{ on := 3, ground := Ground.data }, { on := 5, ground := Ground.data }, { on := 1, ground := Ground.guard }], guard := some (1, false) }) (v := undef) rfl (by kernel_rfl) (by kernel_rfl) (by kernel_rfl) (fun _ _ _ h => h) (Or.inr ⟨by rfl, rfl⟩) (by assumption) ?_
                  try simp only [Act.put, List.setIfInBounds_toArray, List.set_cons_zero, List.set_cons_succ]
                  refine wpAnyH_take (i := 7) (oi := { dst := some 140, op := Op.pick (Operand.tmp 134) (Operand.const (Value.bool true)) (Operand.tmp 139), type := 4, pos := "ref.go:224", after := #[{ on := 1, ground := Ground.data }, { on := 6, ground := Ground.data }], guard := none }) (v := ?_) rfl (by kernel_rfl) (by kernel_rfl) (by kernel_rfl) (fun _ _ _ h => h) (Or.inl ⟨by rfl, ?_⟩) (by assumption) ?_
                  rotate_left
                  · (intro w hSw; (try dsimp only at hSw); go_simp; try with_reducible rfl)
                  try simp only [Act.put, List.setIfInBounds_toArray, List.set_cons_zero, List.set_cons_succ]
                  refine wpAnyH_done (by kernel_rfl) ?_ _
                  refine NoPanic.normal ?_
                  have B8 := Lib.hid (LWq.out _ hH)
                  clear S0 hH LWq HNq l0q l1q
                  clear x8 x0 x1 x2 x3 x4 x5 x6 x7 y8 y0 y1 y2 y3 y4 y5 y6 y7
                  have HY : Hid (R = 1) := by
                    unfold Hid
                    rw [HEND.out, if_neg (by have := HL1.out; simp; omega), if_pos (by simp)]
                  go_wp2_with fail
                  all_goals
                    go_ret
                    exact ⟨ret_i4 HY.out.symm, HW.out.trans (B8.out.mono HW.out.size)⟩
                | false =>
                  by_cases h2 : cnt B < cnt A
                  · have HL2 := Lib.hid h2
                    have gd : decide ((cnt B : Int) < (cnt A : Int)) = true := by simp; omega
                    clear h2
                    obtain ⟨x8, x0, x1, x2, x3, x4, x5, x6, x7⟩ := HP.out.1.kept B7.out (by have := HZ.out; omega)
                    obtain ⟨y8, y0, y1, y2, y3, y4, y5, y6, y7⟩ := HP.out.2.kept B7.out (by have := HZ.out; omega)
                    go_upto_region 30 with fail
                    obtain ⟨Nq, hNq⟩ : ∃ N, N = W_1.heap.size := ⟨_, rfl⟩
                    have S0 := held_at hNq
                    have l0q : w.heap.size < Nq := by have := B7.out.size; have := HZ.out; omega
                    have l1q : w.heap.size + 1 < Nq := by have := B7.out.size; have := HZ.out; omega
                    have HNq := Lib.hid hNq
                    clear hNq
                    have LWq : Hid (∀ W, ((∀ b o, b < Nq → W.cell? ⟨b, o, none⟩ = W_1.cell? ⟨b, o, none⟩) ∧ Hid (Below Nq W_1 W) ∧ Hid (Nq ≤ W.heap.size)) → Below w0.heap.size w0 W) := fun W h => B7.out.trans (h.2.1.out.mono (by rw [HNq.out]; exact B7.out.size))
                    have CAq : Hid (∀ W, ((∀ b o, b < Nq → W.cell? ⟨b, o, none⟩ = W_1.cell? ⟨b, o, none⟩) ∧ Hid (Below Nq W_1 W) ∧ Hid (Nq ≤ W.heap.size)) → Calls Try.prog 46 #[vv A.k A.i A.s (.slice oL A.l.length cL) (.slice oK A.ks.length cK) A.tk A.to A.x] W fun e w' => e = .returned (.int .i64 (cnt A)) ∧ Below W.heap.size W w') := fun W h => len_any (H.out.1.kept ((LWq.out W h).mono (by have := HZ.out; omega))).lies
                    have CBq : Hid (∀ W, ((∀ b o, b < Nq → W.cell? ⟨b, o, none⟩ = W_1.cell? ⟨b, o, none⟩) ∧ Hid (Below Nq W_1 W) ∧ Hid (Nq ≤ W.heap.size)) → Calls Try.prog 46 #[vv B.k B.i B.s (.slice oL' B.l.length cL') (.slice oK' B.ks.length cK') B.tk B.to B.x] W fun e w' => e = .returned (.int .i64 (cnt B)) ∧ Below W.heap.size W w') := fun W h => len_any (H.out.2.kept ((LWq.out W h).mono (by have := HZ.out; omega))).lies
                    refine wp_region_noPanic ?_
                    refine wp_region_held_drew (S := (fun W => (∀ b o, b < Nq → W.cell? ⟨b, o, none⟩ = W_1.cell? ⟨b, o, none⟩) ∧ Hid (Below Nq W_1 W) ∧ Hid (Nq ≤ W.heap.size))) (by kernel_rfl) ?_ (fun hH => ?_)
                    · exact S0
                    refine wpAnyH_take (i := 0) (oi := { dst := some 133, op := Op.move (Operand.tmp 6), type := 4, pos := "ref.go:224", after := #[], guard := none }) (v := ?_) rfl (by kernel_rfl) (by kernel_rfl) (by kernel_rfl) (fun _ _ _ h => h) (Or.inl ⟨by rfl, ?_⟩) (by assumption) ?_
                    rotate_left
                    · (intro w hSw; (try dsimp only at hSw); go_simp; try with_reducible rfl)
                    try simp only [Act.put, List.setIfInBounds_toArray, List.set_cons_zero, List.set_cons_succ]
                    refine wpAnyH_take (i := 1) (oi := { dst := some 134, op := Op.move (Operand.tmp 133), type := 4, pos := "ref.go:224", after := #[{ on := 0, ground := Ground.data }], guard := none }) (v := ?_) rfl (by kernel_rfl) (by kernel_rfl) (by kernel_rfl) (fun _ _ _ h => h) (Or.inl ⟨by rfl, ?_⟩) (by assumption) ?_
                    rotate_left
                    · (intro w hSw; (try dsimp only at hSw); go_simp; try with_reducible rfl)
                    try simp only [Act.put, List.setIfInBounds_toArray, List.set_cons_zero, List.set_cons_succ]
                    refine wpAnyH_take (i := 2) (oi := { dst := some 135, op := Op.load 27 (Operand.tmp 2), type := 27, pos := "ref.go:224", after := #[{ on := 1, ground := Ground.guard }], guard := some (1, false) }) (v := ?_) rfl (by kernel_rfl) (by kernel_rfl) (by kernel_rfl) (fun _ _ _ h => h) (Or.inl ⟨by rfl, ?_⟩) (by assumption) ?_
                    rotate_left
                    · (intro w hSw; (try dsimp only at hSw); go_simp; try with_reducible rfl)
                    try simp only [Act.put, List.setIfInBounds_toArray, List.set_cons_zero, List.set_cons_succ]
                    refine wpAnyH_take (i := 4) (oi := { dst := some 137, op := Op.load 27 (Operand.tmp 3), type := 27, pos := "ref.go:224", after := #[{ on := 1, ground := Ground.guard }], guard := some (1, false) }) (v := ?_) rfl (by kernel_rfl) (by kernel_rfl) (by kernel_rfl) (fun _ _ _ h => h) (Or.inl ⟨by rfl, ?_⟩) (by assumption) ?_
                    rotate_left
                    · (intro w hSw; (try dsimp only at hSw); go_simp; try with_reducible rfl)
                    try simp only [Act.put, List.setIfInBounds_toArray, List.set_cons_zero, List.set_cons_succ]
                    refine wpAnyH_ready (rs := [3]) (by kernel_rfl) (by simp) ?_
                    refine AllReadyH.cons (o := { dst := some 136, op := Op.call { callee := Callee.value (Operand.func 46), args := #[Operand.tmp 135], argTypes := #[27] }, type := 3, pos := "ref.go:224", after := #[{ on := 2, ground := Ground.data }, { on := 1, ground := Ground.chain }, { on := 1, ground := Ground.guard }], guard := some (1, false) }) rfl (fun K hK => ?_) AllReadyH.nil
                    go_simp
                    refine (CAq.out _ hH).mono ?_
                    rintro e W_0 ⟨rfl, b⟩
                    refine hK.out _ _ ?_ (fun hH' => ?_)
                    · exact held_next (by assumption) hH
                    clear hK K hH
                    have hH := hH'
                    clear hH'
                    try simp only [Act.put, List.setIfInBounds_toArray, List.set_cons_zero, List.set_cons_succ]
                    refine wpAnyH_ready (rs := [5]) (by kernel_rfl) (by simp) ?_
                    refine AllReadyH.cons (o := { dst := some 138, op := Op.call { callee := Callee.value (Operand.func 46), args := #[Operand.tmp 137], argTypes := #[27] }, type := 3, pos := "ref.go:224", after := #[{ on := 4, ground := Ground.data }, { on := 3, ground := Ground.chain }, { on := 1, ground := Ground.guard }], guard := some (1, false) }) rfl (fun K hK => ?_) AllReadyH.nil
                    go_simp
                    refine (CBq.out _ hH).mono ?_
                    rintro e W_1 ⟨rfl, b⟩
                    refine hK.out _ _ ?_ (fun hH' => ?_)
                    · exact held_next (by assumption) hH
                    clear hK K hH
                    have hH := hH'
                    clear hH'
                    try simp only [Act.put, List.setIfInBounds_toArray, List.set_cons_zero, List.set_cons_succ]
                    refine wpAnyH_take (i := 6) (oi := { dst := some 139, op := Op.binOp BinOp.gtr 3 (Operand.tmp 136) (Operand.tmp 138) 3, type := 4, pos := "ref.go:224", after := #[{ on := 3, ground := Ground.data }, { on := 5, ground := Ground.data }, { on := 1, ground := Ground.guard }], guard := some (1, false) }) (v := ?_) rfl (by kernel_rfl) (by kernel_rfl) (by kernel_rfl) (fun _ _ _ h => h) (Or.inl ⟨by rfl, ?_⟩) (by assumption) ?_
                    rotate_left
                    · (intro w hSw; (try dsimp only at hSw); go_simp; try with_reducible rfl)
                    try simp only [Act.put, List.setIfInBounds_toArray, List.set_cons_zero, List.set_cons_succ]
                    refine wpAnyH_take (i := 7) (oi := { dst := some 140, op := Op.pick (Operand.tmp 134) (Operand.const (Value.bool true)) (Operand.tmp 139), type := 4, pos := "ref.go:224", after := #[{ on := 1, ground := Ground.data }, { on := 6, ground := Ground.data }], guard := none }) (v := ?_) rfl (by kernel_rfl) (by kernel_rfl) (by kernel_rfl) (fun _ _ _ h => h) (Or.inl ⟨by rfl, ?_⟩) (by assumption) ?_
                    rotate_left
                    · (intro w hSw; (try dsimp only at hSw); go_simp; try with_reducible rfl)
                    try simp only [Act.put, List.setIfInBounds_toArray, List.set_cons_zero, List.set_cons_succ]
                    refine wpAnyH_done (by kernel_rfl) ?_ _
                    refine NoPanic.normal ?_
                    have B8 := Lib.hid (LWq.out _ hH)
                    clear S0 hH LWq HNq l0q l1q
                    clear CAq CBq x8 x0 x1 x2 x3 x4 x5 x6 x7 y8 y0 y1 y2 y3 y4 y5 y6 y7
                    have HY : Hid (R = 1) := by
                      unfold Hid
                      rw [HEND.out, if_neg (by have := HL1.out; simp; omega), if_pos (.inr HL2.out)]
                    go_wp2_with fail
                    all_goals
                      go_ret
                      exact ⟨ret_i4 HY.out.symm, HW.out.trans (B8.out.mono HW.out.size)⟩
                  · have HL2 := Lib.hid h2
                    have gd : decide ((cnt B : Int) < (cnt A : Int)) = false := by simp; omega
                    clear h2
                    obtain ⟨x8, x0, x1, x2, x3, x4, x5, x6, x7⟩ := HP.out.1.kept B7.out (by have := HZ.out; omega)
                    obtain ⟨y8, y0, y1, y2, y3, y4, y5, y6, y7⟩ := HP.out.2.kept B7.out (by have := HZ.out; omega)
                    go_upto_region 30 with fail
                    obtain ⟨Nq, hNq⟩ : ∃ N, N = W_1.heap.size := ⟨_, rfl⟩
                    have S0 := held_at hNq
                    have l0q : w.heap.size < Nq := by have := B7.out.size; have := HZ.out; omega
                    have l1q : w.heap.size + 1 < Nq := by have := B7.out.size; have := HZ.out; omega
                    have HNq := Lib.hid hNq
                    clear hNq
                    have LWq : Hid (∀ W, ((∀ b o, b < Nq → W.cell? ⟨b, o, none⟩ = W_1.cell? ⟨b, o, none⟩) ∧ Hid (Below Nq W_1 W) ∧ Hid (Nq ≤ W.heap.size)) → Below w0.heap.size w0 W) := fun W h => B7.out.trans (h.2.1.out.mono (by rw [HNq.out]; exact B7.out.size))
                    have CAq : Hid (∀ W, ((∀ b o, b < Nq → W.cell? ⟨b, o, none⟩ = W_1.cell? ⟨b, o, none⟩) ∧ Hid (Below Nq W_1 W) ∧ Hid (Nq ≤ W.heap.size)) → Calls Try.prog 46 #[vv A.k A.i A.s (.slice oL A.l.length cL) (.slice oK A.ks.length cK) A.tk A.to A.x] W fun e w' => e = .returned (.int .i64 (cnt A)) ∧ Below W.heap.size W w') := fun W h => len_any (H.out.1.kept ((LWq.out W h).mono (by have := HZ.out; omega))).lies
                    have CBq : Hid (∀ W, ((∀ b o, b < Nq → W.cell? ⟨b, o, none⟩ = W_1.cell? ⟨b, o, none⟩) ∧ Hid (Below Nq W_1 W) ∧ Hid (Nq ≤ W.heap.size)) → Calls Try.prog 46 #[vv B.k B.i B.s (.slice oL' B.l.length cL') (.slice oK' B.ks.length cK') B.tk B.to B.x] W fun e w' => e = .returned (.int .i64 (cnt B)) ∧ Below W.heap.size W w') := fun W h => len_any (H.out.2.kept ((LWq.out W h).mono (by have := HZ.out; omega))).lies
                    refine wp_region_noPanic ?_
                    refine wp_region_held_drew (S := (fun W => (∀ b o, b < Nq → W.cell? ⟨b, o, none⟩ = W_1.cell? ⟨b, o, none⟩) ∧ Hid (Below Nq W_1 W) ∧ Hid (Nq ≤ W.heap.size))) (by kernel_rfl) ?_ (fun hH => ?_)
                    · exact S0
                    refine wpAnyH_take (i := 0) (oi := { dst := some 133, op := Op.move (Operand.tmp 6), type := 4, pos := "ref.go:224", after := #[], guard := none }) (v := ?_) rfl (by kernel_rfl) (by kernel_rfl) (by kernel_rfl) (fun _ _ _ h => h) (Or.inl ⟨by rfl, ?_⟩) (by assumption) ?_
                    rotate_left
                    · (intro w hSw; (try dsimp only at hSw); go_simp; try with_reducible rfl)
                    try simp only [Act.put, List.setIfInBounds_toArray, List.set_cons_zero, List.set_cons_succ]
                    refine wpAnyH_take (i := 1) (oi := { dst := some 134, op := Op.move (Operand.tmp 133), type := 4, pos := "ref.go:224", after := #[{ on := 0, ground := Ground.data }], guard := none }) (v := ?_) rfl (by kernel_rfl) (by kernel_rfl) (by kernel_rfl) (fun _ _ _ h => h) (Or.inl ⟨by rfl, ?_⟩) (by assumption) ?_
                    rotate_left
                    · (intro w hSw; (try dsimp only at hSw); go_simp; try with_reducible rfl)
                    try simp only [Act.put, List.setIfInBounds_toArray, List.set_cons_zero, List.set_cons_succ]
                    refine wpAnyH_take (i := 2) (oi := { dst := some 135, op := Op.load 27 (Operand.tmp 2), type := 27, pos := "ref.go:224", after := #[{ on := 1, ground := Ground.guard }], guard := some (1, false) }) (v := ?_) rfl (by kernel_rfl) (by kernel_rfl) (by kernel_rfl) (fun _ _ _ h => h) (Or.inl ⟨by rfl, ?_⟩) (by assumption) ?_
                    rotate_left
                    · (intro w hSw; (try dsimp only at hSw); go_simp; try with_reducible rfl)
                    try simp only [Act.put, List.setIfInBounds_toArray, List.set_cons_zero, List.set_cons_succ]
                    refine wpAnyH_take (i := 4) (oi := { dst := some 137, op := Op.load 27 (Operand.tmp 3), type := 27, pos := "ref.go:224", after := #[{ on := 1, ground := Ground.guard }], guard := some (1, false) }) (v := ?_) rfl (by kernel_rfl) (by kernel_rfl) (by kernel_rfl) (fun _ _ _ h => h) (Or.inl ⟨by rfl, ?_⟩) (by assumption) ?_
                    rotate_left
                    · (intro w hSw; (try dsimp only at hSw); go_simp; try with_reducible rfl)
                    try simp only [Act.put, List.setIfInBounds_toArray, List.set_cons_zero, List.set_cons_succ]
                    refine wpAnyH_ready (rs := [3]) (by kernel_rfl) (by simp) ?_
                    refine AllReadyH.cons (o := { dst := some 136, op := Op.call { callee := Callee.value (Operand.func 46), args := #[Operand.tmp 135], argTypes := #[27] }, type := 3, pos := "ref.go:224", after := #[{ on := 2, ground := Ground.data }, { on := 1, ground := Ground.chain }, { on := 1, ground := Ground.guard }], guard := some (1, false) }) rfl (fun K hK => ?_) AllReadyH.nil
                    go_simp
                    refine (CAq.out _ hH).mono ?_
                    rintro e W_0 ⟨rfl, b⟩
                    refine hK.out _ _ ?_ (fun hH' => ?_)
                    · exact held_next (by assumption) hH
                    clear hK K hH
                    have hH := hH'
                    clear hH'
                    try simp only [Act.put, List.setIfInBounds_toArray, List.set_cons_zero, List.set_cons_succ]
                    refine wpAnyH_ready (rs := [5]) (by kernel_rfl) (by simp) ?_
                    refine AllReadyH.cons (o := { dst := some 138, op := Op.call { callee := Callee.value (Operand.func 46), args := #[Operand.tmp 137], argTypes := #[27] }, type := 3, pos := "ref.go:224", after := #[{ on := 4, ground := Ground.data }, { on := 3, ground := Ground.chain }, { on := 1, ground := Ground.guard }], guard := some (1, false) }) rfl (fun K hK => ?_) AllReadyH.nil
                    go_simp
                    refine (CBq.out _ hH).mono ?_
                    rintro e W_1 ⟨rfl, b⟩
                    refine hK.out _ _ ?_ (fun hH' => ?_)
                    · exact held_next (by assumption) hH
                    clear hK K hH
                    have hH := hH'
                    clear hH'
                    try simp only [Act.put, List.setIfInBounds_toArray, List.set_cons_zero, List.set_cons_succ]
                    refine wpAnyH_take (i := 6) (oi := { dst := some 139, op := Op.binOp BinOp.gtr 3 (Operand.tmp 136) (Operand.tmp 138) 3, type := 4, pos := "ref.go:224", after := #[{ on := 3, ground := Ground.data }, { on := 5, ground := Ground.data }, { on := 1, ground := Ground.guard }], guard := some (1, false) }) (v := ?_) rfl (by kernel_rfl) (by kernel_rfl) (by kernel_rfl) (fun _ _ _ h => h) (Or.inl ⟨by rfl, ?_⟩) (by assumption) ?_
                    rotate_left
                    · (intro w hSw; (try dsimp only at hSw); go_simp; try with_reducible rfl)
                    try simp only [Act.put, List.setIfInBounds_toArray, List.set_cons_zero, List.set_cons_succ]
                    refine wpAnyH_take (i := 7) (oi := { dst := some 140, op := Op.pick (Operand.tmp 134) (Operand.const (Value.bool true)) (Operand.tmp 139), type := 4, pos := "ref.go:224", after := #[{ on := 1, ground := Ground.data }, { on := 6, ground := Ground.data }], guard := none }) (v := ?_) rfl (by kernel_rfl) (by kernel_rfl) (by kernel_rfl) (fun _ _ _ h => h) (Or.inl ⟨by rfl, ?_⟩) (by assumption) ?_
                    rotate_left
                    · (intro w hSw; (try dsimp only at hSw); go_simp; try with_reducible rfl)
                    try simp only [Act.put, List.setIfInBounds_toArray, List.set_cons_zero, List.set_cons_succ]
                    refine wpAnyH_done (by kernel_rfl) ?_ _
                    refine NoPanic.normal ?_
                    have B8 := Lib.hid (LWq.out _ hH)
                    clear S0 hH LWq HNq l0q l1q
                    clear CAq CBq x8 x0 x1 x2 x3 x4 x5 x6 x7 y8 y0 y1 y2 y3 y4 y5 y6 y7
                    have HY : Hid (R = 0) := by
                      unfold Hid
                      rw [HEND.out, if_neg (by have := HL1.out; simp; omega), if_neg (by have := HL2.out; simp; omega)]
                    go_wp2_with fail
                    all_goals
                      go_ret
                      exact ⟨ret_i4 HY.out.symm, HW.out.trans (B8.out.mono HW.out.size)⟩
    · have gk : (A.k != B.k) = true := by simp [ek]
      have HX : Hid (R = cmpI A.k B.k) := by unfold Hid; rw [HR.out, ord_eq, if_pos ek]
      by_cases hl : A.k < B.k
      · have HY : Hid (R = -1) := by unfold Hid; rw [HX.out]; unfold cmpI; rw [if_pos hl]
        clear ek
        go_wp2_with fail
        go_ret
        exact ⟨ret_i4 HY.out.symm, HW.out⟩
      · have HY : Hid (R = 1) := by unfold Hid; rw [HX.out]; unfold cmpI; rw [if_neg hl, if_pos (by omega)]
        clear ek
        go_wp2_with fail
        go_ret
        exact ⟨ret_i4 HY.out.symm, HW.out⟩
end Go.Proofs.Ytfgkkccgecnchaa
