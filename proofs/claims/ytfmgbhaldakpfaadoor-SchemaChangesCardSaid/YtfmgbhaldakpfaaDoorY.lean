/- Fits. -/
import Derived.Test.YtfmgbhaldakpfaaDoorD
import Derived.Test.YtfmgbhaldakpfaaDoorTc
namespace Go.Proofs.YtfmgbhaldakpfaaDoor
open Go.RowKit

/-- a value fits a type -/
def fits (V : Val) (k o : Int) : Bool :=
  if k = 0 then true else if V.k = 0 then true else if V.k = 1 ∨ V.k = 2 ∨ V.k = 3 then decide (k = V.k) else
  if V.k = 4 ∨ V.k = 5 then decide (k = V.k) && (els V).attach.all (fun x => fits x.1 o 0) else if V.k = 6 then Typ.inB (V.tk, V.to) (k, o) else false
termination_by SizeOf.sizeOf V
decreasing_by exact sizeOf_mem_l (els_mem x.2)
def fitsN (V : Val) (o : Int) (j : Nat) : Bool := ((els V).take j).all (fun x => fits x o 0)
theorem fits_eq (V : Val) (k o : Int) : fits V k o = if k = 0 then true else if V.k = 0 then true else if V.k = 1 ∨ V.k = 2 ∨ V.k = 3 then decide (k = V.k) else
  if V.k = 4 ∨ V.k = 5 then decide (k = V.k) && (els V).all (fun x => fits x o 0) else if V.k = 6 then Typ.inB (V.tk, V.to) (k, o) else false := by
  rw [fits]
  have : (els V).attach.all (fun x => fits x.1 o 0) = (els V).all (fun x => fits x o 0) := by rw [Bool.eq_iff_iff]; simp
  rw [this]
theorem els_some {V : Val} {j : Nat} {X : Val} (hX : V.l[j]? = some X) (h : j < cnt V) : (els V)[j]? = some X := by
  unfold els; rw [List.getElem?_take_of_lt h]; exact hX
theorem fitsN_succ {V : Val} {o : Int} {j : Nat} {X : Val} (h : (els V)[j]? = some X) : fitsN V o (j + 1) = (fitsN V o j && fits X o 0) := by
  unfold fitsN; rw [List.take_add_one, h, List.all_append]; simp
theorem fits_no {V : Val} {o : Int} {j : Nat} {X : Val} (h : (els V)[j]? = some X) (hx : fits X o 0 = false) : (els V).all (fun x => fits x o 0) = false := by
  rw [List.all_eq_false]; exact ⟨X, List.mem_of_getElem? h, by rw [hx]; decide⟩
set_option maxRecDepth 100000 in
set_option maxHeartbeats 2000000 in
theorem elfit_any (N : Nat) (hf : ∀ (n : Nat) (V : Val) (v : Value) (w : World) (k o : Int), sz V ≤ N → Lies n w V v → n ≤ w.heap.size → Calls Tryd.prog 56 #[v, Typ.ty k o] w fun e w' => e = .returned (.bool (fits V k o)) ∧ Below w.heap.size w w') :
    ∀ (n : Nat) (V : Val) (v : Value) (w : World) (k o : Int), sz V ≤ N + 1 → Lies n w V v → n ≤ w.heap.size → Calls Tryd.prog 74 #[v, Typ.ty k o] w fun e w' => e = .returned (.bool ((els V).all fun x => fits x o 0)) ∧ Below w.heap.size w w' := by
  intro n V v w k o hs h hn
  obtain ⟨oL, oK, cL, cK, c, rfl, O⟩ := h.inv
  obtain ⟨R, hR⟩ : ∃ R, R = (els V).all fun x => fits x o 0 := ⟨_, rfl⟩
  rw [← hR]
  have HRR := Lib.hid hR
  have HF := Lib.hid hf
  have hcnt := cnt_le V
  have HW := Lib.hid (((Below.refl w.heap.size w).alloc (Nat.le_refl _) (bx V oL oK cL cK)).alloc (by simp) (.cells #[.int .i64 k, .int .i64 o] 29))
  have HZ : Hid (((w.alloc (bx V oL oK cL cK)).alloc (.cells #[.int .i64 k, .int .i64 o] 29)).heap.size = w.heap.size + 2) := by simp [Hid]
  have HT0 : Hid (((w.alloc (bx V oL oK cL cK)).alloc (.cells #[.int .i64 k, .int .i64 o] 29)).cell? ⟨w.heap.size + 1, 1, none⟩ = some (.int .i64 o)) := by simp [Hid, go_sem]
  have H := Lib.hid (O.kept (HW.out.mono hn))
  clear h O hf hR
  go_enter Tryd.func74, Tryd.ntmps74
  go_wp2_with fail
  generalize (w.alloc _).alloc _ = w0 at *
  with_reducible refine (held_any H.out (by have := HZ.out; omega)).mono ?_
  rintro e w1 ⟨oL2, oK2, cL2, cK2, rfl, rL, rK, b1⟩
  have B1 := Lib.hid b1
  have RL := Lib.hid rL
  have RM := rL.2.1
  have RC := rL.1
  unfold maxLen at RM
  have H1 := Lib.hid (H.out.kept (b1.mono (by have := HZ.out; omega)))
  have HT : Hid (w1.cell? ⟨w.heap.size + 1, 1, none⟩ = some (.int .i64 o)) := (b1.cell (p := ⟨w.heap.size + 1, 1, none⟩) (by have := HZ.out; simp; omega)).trans HT0.out
  have sz1 := b1.size
  have hz := HZ.out
  clear rL rK b1
  go_wp2_with fail
  go_loopw [16] (fun i wr => ∃ j : Nat, j ≤ cnt V ∧ i = .int .i64 j ∧ Hid (fitsN V o j = true) ∧ Hid (Below w1.heap.size w1 wr)) (fun i _ => cnt V - (intOf i).toNat)
  case atStart => exact ⟨0, by omega, rfl, rfl, Below.refl _ _⟩
  case round =>
    obtain ⟨j, hj, rfl, hok, hbr⟩ := hrel
    have HTr : wr.cell? ⟨w.heap.size + 1, 1, none⟩ = some (.int .i64 o) := (hbr.out.cell (p := ⟨w.heap.size + 1, 1, none⟩) (by simp; omega)).trans HT.out
    have hsz := hbr.out.size
    by_cases hlt : j < cnt V
    · have hlt2 : j < V.l.length := by omega
      obtain ⟨X, hX⟩ : ∃ X, V.l[j]? = some X := ⟨_, List.getElem?_eq_getElem hlt2⟩
      have BN := Lib.hid (hbr.out.mono (show n ≤ w1.heap.size by omega))
      obtain ⟨b, off, oL3, oK3, cL3, cK3, c3, e1, hb, ⟨y0, y1, y2, y3, y4, y5, y6, y7⟩, OX⟩ := (RL.out.below BN.out).elv hlt ((H1.out.kept BN.out).el j X hX)
      have hmem := sz_mem (List.mem_of_getElem? hX)
      have HX := Lib.hid (els_some hX hlt)
      have HW3 := Lib.hid ((Below.refl wr.heap.size wr).alloc (Nat.le_refl _) (bx X oL3 oK3 cL3 cK3))
      have OX2 := Lib.hid (OX.kept (HW3.out.mono (by omega)))
      have hb3 : w.heap.size + 1 < wr.heap.size := by omega
      subst e1
      clear hX OX
      go_wp2_with fail
      with_reducible refine (HF.out n X _ _ o 0 (by omega) OX2.out.lies (by simp; omega)).mono ?_
      rintro e w4 ⟨rfl, b4⟩
      have B4 := Lib.hid (hbr.out.trans ((HW3.out.trans (b4.mono (by simp))).mono hsz))
      clear b4
      cases hr : fits X o 0 with
      | false =>
        have HE := Lib.hid (fits_no HX.out hr)
        clear hr
        go_wp2_with fail
        go_ret
        exact ⟨by rw [HRR.out, HE.out]; rfl, HW.out.trans ((B1.out.trans (B4.out.mono sz1)).mono (by omega))⟩
      | true =>
        have HE : Hid (fitsN V o (j + 1) = true) := by unfold Hid; rw [fitsN_succ HX.out, hok.out, hr]; rfl
        clear hr
        go_wp2_with fail
        go_roundw
        case rel => exact ⟨j + 1, by omega, by go_num, HE, B4⟩
        case measure => simp [intOf]; omega
    · have hjl : j = cnt V := by omega
      have HE : Hid ((els V).all (fun x => fits x o 0) = true) := by have := hok.out; unfold fitsN at this; rw [List.take_of_length_le (by rw [els_len]; omega)] at this; exact this
      clear hok
      go_wp2_with fail
      go_ret
      exact ⟨by rw [HRR.out, HE.out]; rfl, HW.out.trans ((B1.out.trans (hbr.out.mono sz1)).mono (by omega))⟩
def fitsRaw (q t1 t2 k o : Int) (R : Bool) : Bool :=
  if k = 0 then true else if q = 0 then true else if q = 1 ∨ q = 2 ∨ q = 3 then decide (k = q) else
  if q = 4 ∨ q = 5 then decide (k = q) && R else if q = 6 then Typ.inB (t1, t2) (k, o) else false
theorem ret_b3 {a b : Bool} (h : a = b) : Ending.returned (.bool a) = .returned (.bool b) := by rw [h]
theorem below2 (w : World) (a b : Obj) : Below w.heap.size w ((w.alloc a).alloc b) := ((Below.refl w.heap.size w).alloc (Nat.le_refl _) a).alloc (by simp) b
set_option maxRecDepth 100000 in
set_option maxHeartbeats 2000000 in
theorem fits_any (q : Int) (i : Int) (s : ByteArray) (oL oK : Option Addr) (nL nK cL cK : Nat) (t1 t2 : Int) (x : Bool) (k o : Int) (w : World) (R : Bool) (hk : k = 0) :
    Calls Tryd.prog 56 #[vv q i s (.slice oL nL cL) (.slice oK nK cK) t1 t2 x, Typ.ty k o] w fun e w' => e = .returned (.bool (fitsRaw q t1 t2 k o R)) ∧ Below w.heap.size w w' := by
  subst hk
  go_enter Tryd.func56, Tryd.ntmps56
  go_wp2_with fail
  go_ret
  exact ⟨ret_b3 (by simp [fitsRaw]), below2 _ _ _⟩
set_option maxRecDepth 100000 in
set_option maxHeartbeats 2000000 in
theorem fits_0 (i : Int) (s : ByteArray) (oL oK : Option Addr) (nL nK cL cK : Nat) (t1 t2 : Int) (x : Bool) (k o : Int) (w : World) (R : Bool) (hk : (k == 0) = false) :
    Calls Tryd.prog 56 #[vv 0 i s (.slice oL nL cL) (.slice oK nK cK) t1 t2 x, Typ.ty k o] w fun e w' => e = .returned (.bool (fitsRaw 0 t1 t2 k o R)) ∧ Below w.heap.size w w' := by
  go_enter Tryd.func56, Tryd.ntmps56
  go_wp2_with fail
  all_goals
    go_ret
    exact ⟨ret_b3 (by simp only [beq_eq_false_iff_ne] at hk; simp [fitsRaw, hk]; try rw [Bool.eq_iff_iff]; try simp), below2 _ _ _⟩
set_option maxRecDepth 100000 in
set_option maxHeartbeats 2000000 in
theorem fits_1 (i : Int) (s : ByteArray) (oL oK : Option Addr) (nL nK cL cK : Nat) (t1 t2 : Int) (x : Bool) (k o : Int) (w : World) (R : Bool) (hk : (k == 0) = false) :
    Calls Tryd.prog 56 #[vv 1 i s (.slice oL nL cL) (.slice oK nK cK) t1 t2 x, Typ.ty k o] w fun e w' => e = .returned (.bool (fitsRaw 1 t1 t2 k o R)) ∧ Below w.heap.size w w' := by
  go_enter Tryd.func56, Tryd.ntmps56
  go_wp2_with fail
  all_goals
    go_ret
    exact ⟨ret_b3 (by simp only [beq_eq_false_iff_ne] at hk; simp [fitsRaw, hk]; try rw [Bool.eq_iff_iff]; try simp), below2 _ _ _⟩
set_option maxRecDepth 100000 in
set_option maxHeartbeats 2000000 in
theorem fits_2 (i : Int) (s : ByteArray) (oL oK : Option Addr) (nL nK cL cK : Nat) (t1 t2 : Int) (x : Bool) (k o : Int) (w : World) (R : Bool) (hk : (k == 0) = false) :
    Calls Tryd.prog 56 #[vv 2 i s (.slice oL nL cL) (.slice oK nK cK) t1 t2 x, Typ.ty k o] w fun e w' => e = .returned (.bool (fitsRaw 2 t1 t2 k o R)) ∧ Below w.heap.size w w' := by
  go_enter Tryd.func56, Tryd.ntmps56
  go_wp2_with fail
  all_goals
    go_ret
    exact ⟨ret_b3 (by simp only [beq_eq_false_iff_ne] at hk; simp [fitsRaw, hk]; try rw [Bool.eq_iff_iff]; try simp), below2 _ _ _⟩
set_option maxRecDepth 100000 in
set_option maxHeartbeats 2000000 in
theorem fits_3 (i : Int) (s : ByteArray) (oL oK : Option Addr) (nL nK cL cK : Nat) (t1 t2 : Int) (x : Bool) (k o : Int) (w : World) (R : Bool) (hk : (k == 0) = false) :
    Calls Tryd.prog 56 #[vv 3 i s (.slice oL nL cL) (.slice oK nK cK) t1 t2 x, Typ.ty k o] w fun e w' => e = .returned (.bool (fitsRaw 3 t1 t2 k o R)) ∧ Below w.heap.size w w' := by
  go_enter Tryd.func56, Tryd.ntmps56
  go_wp2_with fail
  all_goals
    go_ret
    exact ⟨ret_b3 (by simp only [beq_eq_false_iff_ne] at hk; simp [fitsRaw, hk]; try rw [Bool.eq_iff_iff]; try simp), below2 _ _ _⟩
set_option maxRecDepth 100000 in
set_option maxHeartbeats 2000000 in
theorem fits_o (q : Int) (i : Int) (s : ByteArray) (oL oK : Option Addr) (nL nK cL cK : Nat) (t1 t2 : Int) (x : Bool) (k o : Int) (w : World) (R : Bool) (hk : (k == 0) = false) (e0 : (q == 0) = false) (e1 : (q == 1) = false) (e2 : (q == 2) = false) (e3 : (q == 3) = false) (e4 : (q == 4) = false) (e5 : (q == 5) = false) (e6 : (q == 6) = false) :
    Calls Tryd.prog 56 #[vv q i s (.slice oL nL cL) (.slice oK nK cK) t1 t2 x, Typ.ty k o] w fun e w' => e = .returned (.bool (fitsRaw q t1 t2 k o R)) ∧ Below w.heap.size w w' := by
  go_enter Tryd.func56, Tryd.ntmps56
  go_wp2_with fail
  go_ret
  exact ⟨ret_b3 (by simp only [beq_eq_false_iff_ne] at *; simp [fitsRaw, *]), below2 _ _ _⟩
set_option maxRecDepth 100000 in
set_option maxHeartbeats 2000000 in
theorem fits_4 (i : Int) (s : ByteArray) (oL oK : Option Addr) (nL nK cL cK : Nat) (t1 t2 : Int) (x : Bool) (k o : Int) (w : World) (R : Bool) (hk : (k == 0) = false) (hE : ∀ w', Below w.heap.size w w' → Calls Tryd.prog 74 #[vv 4 i s (.slice oL nL cL) (.slice oK nK cK) t1 t2 x, Typ.ty k o] w' fun e w2 => e = .returned (.bool R) ∧ Below w'.heap.size w' w2) :
    Calls Tryd.prog 56 #[vv 4 i s (.slice oL nL cL) (.slice oK nK cK) t1 t2 x, Typ.ty k o] w fun e w' => e = .returned (.bool (fitsRaw 4 t1 t2 k o R)) ∧ Below w.heap.size w w' := by
  have HE := Lib.hid hE
  clear hE
  by_cases hq : k = 4
  · subst hq
    clear hk
    go_enter Tryd.func56, Tryd.ntmps56
    go_wp2_with fail
    refine (HE.out _ (below2 _ _ _)).mono ?_
    rintro e w1 ⟨rfl, b1⟩
    have B := Lib.hid ((below2 _ _ _).trans (b1.mono (by simp; omega)))
    clear b1
    cases R
    all_goals
      go_wp2_with fail
      go_ret
      exact ⟨ret_b3 (by simp [fitsRaw]), B.out⟩
  · have hq2 : (k == 4) = false := by rw [beq_eq_false_iff_ne]; exact hq
    have HQ := Lib.hid hq
    clear hq
    go_enter Tryd.func56, Tryd.ntmps56
    go_wp2_with fail
    go_ret
    exact ⟨ret_b3 (by simp only [beq_eq_false_iff_ne] at hk; simp [fitsRaw, hk, HQ.out]), below2 _ _ _⟩
set_option maxRecDepth 100000 in
set_option maxHeartbeats 2000000 in
theorem fits_5 (i : Int) (s : ByteArray) (oL oK : Option Addr) (nL nK cL cK : Nat) (t1 t2 : Int) (x : Bool) (k o : Int) (w : World) (R : Bool) (hk : (k == 0) = false) (hE : ∀ w', Below w.heap.size w w' → Calls Tryd.prog 74 #[vv 5 i s (.slice oL nL cL) (.slice oK nK cK) t1 t2 x, Typ.ty k o] w' fun e w2 => e = .returned (.bool R) ∧ Below w'.heap.size w' w2) :
    Calls Tryd.prog 56 #[vv 5 i s (.slice oL nL cL) (.slice oK nK cK) t1 t2 x, Typ.ty k o] w fun e w' => e = .returned (.bool (fitsRaw 5 t1 t2 k o R)) ∧ Below w.heap.size w w' := by
  have HE := Lib.hid hE
  clear hE
  by_cases hq : k = 5
  · subst hq
    clear hk
    go_enter Tryd.func56, Tryd.ntmps56
    go_wp2_with fail
    refine (HE.out _ (below2 _ _ _)).mono ?_
    rintro e w1 ⟨rfl, b1⟩
    have B := Lib.hid ((below2 _ _ _).trans (b1.mono (by simp; omega)))
    clear b1
    cases R
    all_goals
      go_wp2_with fail
      go_ret
      exact ⟨ret_b3 (by simp [fitsRaw]), B.out⟩
  · have hq2 : (k == 5) = false := by rw [beq_eq_false_iff_ne]; exact hq
    have HQ := Lib.hid hq
    clear hq
    go_enter Tryd.func56, Tryd.ntmps56
    go_wp2_with fail
    go_ret
    exact ⟨ret_b3 (by simp only [beq_eq_false_iff_ne] at hk; simp [fitsRaw, hk, HQ.out]), below2 _ _ _⟩
set_option maxRecDepth 100000 in
set_option maxHeartbeats 2000000 in
theorem fits_6 (i : Int) (s : ByteArray) (oL oK : Option Addr) (nL nK cL cK : Nat) (t1 t2 : Int) (x : Bool) (k o : Int) (w : World) (R : Bool) (hk : (k == 0) = false) :
    Calls Tryd.prog 56 #[vv 6 i s (.slice oL nL cL) (.slice oK nK cK) t1 t2 x, Typ.ty k o] w fun e w' => e = .returned (.bool (fitsRaw 6 t1 t2 k o R)) ∧ Below w.heap.size w w' := by
  have HT := Lib.hid (fun w => Typ.within_any t1 t2 k o w)
  go_enter Tryd.func56, Tryd.ntmps56
  go_wp2_with fail
  refine (HT.out _).mono ?_
  rintro e w1 ⟨rfl, b1⟩
  have B := Lib.hid ((below2 _ _ _).trans (b1.mono (by simp; omega)))
  clear b1
  go_wp2_with fail
  go_ret
  exact ⟨ret_b3 (by simp only [beq_eq_false_iff_ne] at hk; simp [fitsRaw, hk]), B.out⟩
theorem fits_all (N : Nat) : ∀ (n : Nat) (V : Val) (v : Value) (w : World) (k o : Int), sz V ≤ N → Lies n w V v → n ≤ w.heap.size → Calls Tryd.prog 56 #[v, Typ.ty k o] w fun e w' => e = .returned (.bool (fits V k o)) ∧ Below w.heap.size w w' := by
  induction N with
  | zero => intro n V v w k o hs; have := sz_pos V; omega
  | succ N ih =>
    intro n V v w k o hs h hn
    have hE : ∀ w', Below w.heap.size w w' → Calls Tryd.prog 74 #[v, Typ.ty k o] w' fun e w2 => e = .returned (.bool ((els V).all fun x => fits x o 0)) ∧ Below w'.heap.size w' w2 :=
      fun w' b => elfit_any N ih n V v w' k o hs (h.kept (b.mono hn)) (by have := b.size; omega)
    rw [show fits V k o = fitsRaw V.k V.tk V.to k o ((els V).all fun x => fits x o 0) from fits_eq V k o]
    obtain ⟨oL, oK, cL, cK, c, rfl, O⟩ := h.inv
    clear ih h O
    generalize (els V).all (fun x => fits x o 0) = R at *
    generalize V.k = q at *
    by_cases hk : k = 0
    · exact fits_any q _ _ _ _ _ _ _ _ _ _ _ _ _ _ _ hk
    · have hk2 : (k == 0) = false := by rw [beq_eq_false_iff_ne]; exact hk
      have kc : q = 0 ∨ q = 1 ∨ q = 2 ∨ q = 3 ∨ q = 4 ∨ q = 5 ∨ q = 6 ∨ ((q == 0) = false ∧ (q == 1) = false ∧ (q == 2) = false ∧ (q == 3) = false ∧ (q == 4) = false ∧ (q == 5) = false ∧ (q == 6) = false) := by
        simp only [beq_eq_false_iff_ne]; omega
      rcases kc with rfl | rfl | rfl | rfl | rfl | rfl | rfl | ⟨e0, e1, e2, e3, e4, e5, e6⟩
      · exact fits_0 _ _ _ _ _ _ _ _ _ _ _ _ _ _ _ hk2
      · exact fits_1 _ _ _ _ _ _ _ _ _ _ _ _ _ _ _ hk2
      · exact fits_2 _ _ _ _ _ _ _ _ _ _ _ _ _ _ _ hk2
      · exact fits_3 _ _ _ _ _ _ _ _ _ _ _ _ _ _ _ hk2
      · exact fits_4 _ _ _ _ _ _ _ _ _ _ _ _ _ _ _ hk2 hE
      · exact fits_5 _ _ _ _ _ _ _ _ _ _ _ _ _ _ _ hk2 hE
      · exact fits_6 _ _ _ _ _ _ _ _ _ _ _ _ _ _ _ hk2
      · exact fits_o q _ _ _ _ _ _ _ _ _ _ _ _ _ _ _ hk2 e0 e1 e2 e3 e4 e5 e6
end Go.Proofs.YtfmgbhaldakpfaaDoor
