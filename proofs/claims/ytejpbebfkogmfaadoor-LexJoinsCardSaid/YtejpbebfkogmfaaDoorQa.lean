/- Quote, and the reference's. -/
import Derived.Test.YtejpbebfkogmfaaDoorL
namespace Go.Proofs.YtejpbebfkogmfaaDoor
open Go.RowKit

/-- a byte, quoted -/
def escB (c : UInt8) : List UInt8 := if c = 34 then [92, 34] else if c = 92 then [92, 92] else if c = 10 then [92, 110] else if c = 9 then [92, 116] else if c = 36 then [92, 36] else [c]
def quoI (l : List UInt8) : List UInt8 := l.flatMap escB
theorem escB_len (c : UInt8) : 1 ≤ (escB c).length ∧ (escB c).length ≤ 2 := by
  unfold escB
  split
  · simp
  · split
    · simp
    · split
      · simp
      · split
        · simp
        · split <;> simp
theorem quoI_len (l : List UInt8) : (quoI l).length ≤ 2 * l.length := by
  induction l with
  | nil => simp [quoI]
  | cons c r ih =>
    have := (escB_len c).2
    simp only [quoI, List.flatMap_cons, List.length_append, List.length_cons] at ih ⊢
    omega
theorem quoI_take {s : ByteArray} {k : Nat} (h : k < s.size) : quoI ((lb s).take (k + 1)) = quoI ((lb s).take k) ++ escB s[k] := by
  rw [List.take_succ_eq_append_getElem (by rw [L_len]; exact h), lb_get h]
  simp [quoI]
theorem cat_tx (a b : List UInt8) : (tx a) ++ (tx b) = tx (a ++ b) := by
  apply ByteArray.ext
  show ((tx a) ++ (tx b)).data = _
  rw [ByteArray.data_append]
  simp
theorem one_tx {s : ByteArray} {k : Nat} (h : k < s.size) : s.extract k (k + 1) = tx [s[k]] := by
  have := extract_lb s k (k + 1)
  rw [List.drop_take, Nat.add_sub_cancel_left, drop_cons2 h] at this
  simp only [List.take_succ_cons, List.take_zero] at this
  rw [← this]
def ixM (c : Nat) : Int := Lib.indexByte [34, 92, 10, 9, 36] (UInt8.ofNat c)
theorem ixM_any (c : Nat) (w : World) : Calls Tryd.prog 18 #[.string ⟨#[34, 92, 10, 9, 36]⟩, .int .u8 c] w fun e w' => e = .returned (.int .i64 (ixM c)) ∧ w = w' :=
  (Tryd.strings_IndexByte ⟨#[34, 92, 10, 9, 36]⟩ (c : Int) w).mono fun _ _ h => ⟨h.1, h.2.symm⟩
theorem escB_cases (d : UInt8) : (d = 34 ∧ ixM d.toNat = 0 ∧ escB d = [92, 34]) ∨ (d = 92 ∧ ixM d.toNat = 1 ∧ escB d = [92, 92]) ∨ (d = 10 ∧ ixM d.toNat = 2 ∧ escB d = [92, 110]) ∨ (d = 9 ∧ ixM d.toNat = 3 ∧ escB d = [92, 116]) ∨ (d = 36 ∧ ixM d.toNat = 4 ∧ escB d = [92, 36]) ∨ (d ≠ 34 ∧ d ≠ 92 ∧ d ≠ 10 ∧ d ≠ 9 ∧ d ≠ 36 ∧ ixM d.toNat = -1 ∧ escB d = [d]) := by
  by_cases h1 : d = 34
  · exact .inl ⟨h1, by rw [h1]; decide, by rw [h1]; rfl⟩
  by_cases h2 : d = 92
  · exact .inr (.inl ⟨h2, by rw [h2]; decide, by rw [h2]; rfl⟩)
  by_cases h3 : d = 10
  · exact .inr (.inr (.inl ⟨h3, by rw [h3]; decide, by rw [h3]; rfl⟩))
  by_cases h4 : d = 9
  · exact .inr (.inr (.inr (.inl ⟨h4, by rw [h4]; decide, by rw [h4]; rfl⟩)))
  by_cases h5 : d = 36
  · exact .inr (.inr (.inr (.inr (.inl ⟨h5, by rw [h5]; decide, by rw [h5]; rfl⟩))))
  refine .inr (.inr (.inr (.inr (.inr ⟨h1, h2, h3, h4, h5, ?_, by unfold escB; rw [if_neg h1, if_neg h2, if_neg h3, if_neg h4, if_neg h5]⟩))))
  have key : (List.range 256).all (fun n => (UInt8.ofNat n == 34 || UInt8.ofNat n == 92 || UInt8.ofNat n == 10 || UInt8.ofNat n == 9 || UInt8.ofNat n == 36) || ixM n == -1) = true := by kernel_rfl
  rw [List.all_eq_true] at key
  have := key d.toNat (List.mem_range.2 (u8_lt d))
  rw [UInt8.ofNat_toNat] at this
  simp only [Bool.or_eq_true, beq_iff_eq] at this
  rcases this with ((((h | h) | h) | h) | h) | h
  · exact absurd h h1
  · exact absurd h h2
  · exact absurd h h3
  · exact absurd h h4
  · exact absurd h h5
  · exact h
/-- at the head of Quote's loop -/
structure QR (N : Nat) (w0 wr : World) (X : List UInt8) (v : Value) : Prop where
  b : Below N w0 wr
  o : wr.ownsRow N 5 1 v X.length (bcs X)
def QRel (s : ByteArray) (N : Nat) (w0 : World) (x y : Value) (wr : World) : Prop := ∃ k v, k ≤ s.size ∧ x = .int .i64 (k : Int) ∧ y = v ∧ QR N w0 wr (34 :: quoI ((lb s).take k)) v
theorem QR.more {N g cap m : Nat} {w0 wr w2 : World} {X Y : List UInt8} {v : Value} {o : Obj} (h : QR N w0 wr X v) (hN : N ≤ wr.heap.size) (hown : w2.ownsRow N 5 1 (.slice (some ⟨g, 0, none⟩) (X.length + m) cap) (X.length + m) (bcs X ++ bcs Y)) (hm : m = Y.length) (hgrow : (wr.alloc o).grownBy w2 v.ownBlock) : QR N w0 w2 (X ++ Y) (.slice (some ⟨g, 0, none⟩) (X.length + m) cap) := by
  refine ⟨(h.b.alloc hN o).trans (grown_below hgrow (by simp; omega) fun k hk => (h.o.lt k hk).1), ?_⟩
  rw [List.length_append, ← hm, bcs_app]; exact hown
set_option maxRecDepth 100000 in
set_option maxHeartbeats 4000000 in
theorem quote_any (s : ByteArray) (hs : s.size ≤ 10000) (w : World) : Calls Tryd.prog 12 #[.string s] w fun e w' => e = .returned (.string (tx (34 :: (quoI (lb s) ++ [34])))) ∧ Below w.heap.size w w' := by
  obtain ⟨i5, hi5, hz5, hs5, hb5⟩ := info_parts info5
  obtain ⟨N, hN⟩ : ∃ N, N = w.heap.size := ⟨_, rfl⟩
  obtain ⟨w0, hw0⟩ : ∃ w0, w0 = w.alloc (.cells #[.int .u8 34] 5) := ⟨_, rfl⟩
  have HQ : Hid (QR N w w0 (34 :: quoI ((lb s).take 0)) (.slice (some ⟨N, 0, none⟩) 1 1)) := by
    refine ⟨by rw [hw0]; exact below_alloc hN _, ?_⟩
    rw [List.take_zero]
    exact ⟨rfl, .inr ⟨N, 1, #[.int .u8 34], rfl, Nat.le_refl _, by rw [hw0, hN]; exact heap_alloc_new _ _, Nat.le_refl _, by decide, rfl, rfl⟩⟩
  have LQ := quoI_len (lb s)
  rw [L_len] at LQ
  have HL : Hid (∀ k, (quoI ((lb s).take k)).length ≤ 20000) := fun k => by
    have := quoI_len ((lb s).take k)
    have h2 : ((lb s).take k).length ≤ (lb s).length := List.length_take_le' _ _
    rw [L_len] at h2; omega
  have HNs : Hid (∀ u w', u = w → Below N w w' → Below u.heap.size w w') := fun u w' e h => by subst e; rw [← hN]; exact h
  go_enter Tryd.func12, Tryd.ntmps12
  go_wp2_with fail
  rw [← hw0, ← hN]
  clear hw0 hN
  go_loopw [9, 3] (fun x y wr => QRel s N w x y wr) (fun x _ _ => s.size - (intOf x).toNat)
  case atStart => exact ⟨0, _, Nat.zero_le _, rfl, rfl, HQ.out⟩
  case round =>
    obtain ⟨k, v, hk, rfl, rfl, H⟩ := hrel
    have hNr : N ≤ wr.heap.size := by obtain ⟨_, _, _, h1, h2⟩ := H.o.form (by simp); omega
    obtain ⟨X, hX⟩ : ∃ X, 34 :: quoI ((lb s).take k) = X := ⟨_, rfl⟩
    rw [hX] at H
    have hXl : X.length ≤ 20001 := by rw [← hX]; have := HL.out k; simp only [List.length_cons]; omega
    have HX := Lib.hid hX
    clear hX
    by_cases hlt : k < s.size
    · have hlt' : (k : Int) < s.size := by omega
      have HNX : Hid (∀ g cap w2 o (Y : List UInt8), escB s[k] = Y → w2.ownsRow N 5 1 (.slice (some ⟨g, 0, none⟩) (X.length + Y.length) cap) (X.length + Y.length) (bcs X ++ bcs Y) → (wr.alloc o).grownBy w2 u3.ownBlock → QR N w w2 (34 :: quoI ((lb s).take (k + 1))) (.slice (some ⟨g, 0, none⟩) (X.length + Y.length) cap)) := fun g cap w2 o Y hY h1 h2 => by
        have := H.more hNr h1 rfl h2
        rw [quoI_take hlt, hY, ← List.cons_append, HX.out]
        exact this
      rcases escB_cases s[k] with ⟨e1, e2, e3⟩ | ⟨e1, e2, e3⟩ | ⟨e1, e2, e3⟩ | ⟨e1, e2, e3⟩ | ⟨e1, e2, e3⟩ | ⟨e1, -, -, -, -, e2, e3⟩
      · have HE := Lib.hid e3
        have HI := ixM_any (s[k].toNat)
        rw [e2] at HI
        have HI := Lib.hid HI
        have O1 := Lib.hid (H.o.alloc (.cells #[.int .u8 92, .int .u8 34] 5))
        have W1 := Lib.hid (World.news_of_block (heap_alloc_new wr (.cells #[.int .u8 92, .int .u8 34] 5)))
        clear e1 e2 e3 H
        go_wp2_with fail
        refine (HI.out _).mono ?_
        rintro e w1 ⟨rfl, rfl⟩
        go_wp2_with (at_builtin; go_must (refine wpList_append_lies _ rfl (.tmp 18) (.tmp 21) 46 rfl N 5 i5 _ 1 1 Tryd.underlying46 hi5 hz5 hs5 hb5 rfl (by omega) u3 X.length (bcs X) rfl O1.out ⟨wr.heap.size, 0, none⟩ 2 2 [.int .u8 92, .int .u8 34] rfl rfl W1.out (fun u hu => by simp at hu; rcases hu with rfl | rfl <;> rfl) (by omega) (by unfold maxLen; omega) (by omega) (by simp; omega) (wr.heap.size + 1) (by simp) ?_))
        intro g cap w2 hown hgrow hat hlt2
        have HF := Lib.hid (HNX.out g cap w2 (.cells #[.int .u8 92, .int .u8 34] 5) [92, 34] HE.out hown hgrow)
        clear hown hgrow hat hlt2
        go_wp2_with fail
        go_roundw
        case rel => exact ⟨k + 1, _, by omega, by go_num, rfl, HF.out⟩
        case measure => simp [intOf]; omega
      · have HE := Lib.hid e3
        have HI := ixM_any (s[k].toNat)
        rw [e2] at HI
        have HI := Lib.hid HI
        have O1 := Lib.hid (H.o.alloc (.cells #[.int .u8 92, .int .u8 92] 5))
        have W1 := Lib.hid (World.news_of_block (heap_alloc_new wr (.cells #[.int .u8 92, .int .u8 92] 5)))
        clear e1 e2 e3 H
        go_wp2_with fail
        refine (HI.out _).mono ?_
        rintro e w1 ⟨rfl, rfl⟩
        go_wp2_with (at_builtin; go_must (refine wpList_append_lies _ rfl (.tmp 18) (.tmp 21) 46 rfl N 5 i5 _ 1 1 Tryd.underlying46 hi5 hz5 hs5 hb5 rfl (by omega) u3 X.length (bcs X) rfl O1.out ⟨wr.heap.size, 0, none⟩ 2 2 [.int .u8 92, .int .u8 92] rfl rfl W1.out (fun u hu => by simp at hu; rcases hu with rfl | rfl <;> rfl) (by omega) (by unfold maxLen; omega) (by omega) (by simp; omega) (wr.heap.size + 1) (by simp) ?_))
        intro g cap w2 hown hgrow hat hlt2
        have HF := Lib.hid (HNX.out g cap w2 (.cells #[.int .u8 92, .int .u8 92] 5) [92, 92] HE.out hown hgrow)
        clear hown hgrow hat hlt2
        go_wp2_with fail
        go_roundw
        case rel => exact ⟨k + 1, _, by omega, by go_num, rfl, HF.out⟩
        case measure => simp [intOf]; omega
      · have HE := Lib.hid e3
        have HI := ixM_any (s[k].toNat)
        rw [e2] at HI
        have HI := Lib.hid HI
        have O1 := Lib.hid (H.o.alloc (.cells #[.int .u8 92, .int .u8 110] 5))
        have W1 := Lib.hid (World.news_of_block (heap_alloc_new wr (.cells #[.int .u8 92, .int .u8 110] 5)))
        clear e1 e2 e3 H
        go_wp2_with fail
        refine (HI.out _).mono ?_
        rintro e w1 ⟨rfl, rfl⟩
        go_wp2_with (at_builtin; go_must (refine wpList_append_lies _ rfl (.tmp 18) (.tmp 21) 46 rfl N 5 i5 _ 1 1 Tryd.underlying46 hi5 hz5 hs5 hb5 rfl (by omega) u3 X.length (bcs X) rfl O1.out ⟨wr.heap.size, 0, none⟩ 2 2 [.int .u8 92, .int .u8 110] rfl rfl W1.out (fun u hu => by simp at hu; rcases hu with rfl | rfl <;> rfl) (by omega) (by unfold maxLen; omega) (by omega) (by simp; omega) (wr.heap.size + 1) (by simp) ?_))
        intro g cap w2 hown hgrow hat hlt2
        have HF := Lib.hid (HNX.out g cap w2 (.cells #[.int .u8 92, .int .u8 110] 5) [92, 110] HE.out hown hgrow)
        clear hown hgrow hat hlt2
        go_wp2_with fail
        go_roundw
        case rel => exact ⟨k + 1, _, by omega, by go_num, rfl, HF.out⟩
        case measure => simp [intOf]; omega
      · have HE := Lib.hid e3
        have HI := ixM_any (s[k].toNat)
        rw [e2] at HI
        have HI := Lib.hid HI
        have O1 := Lib.hid (H.o.alloc (.cells #[.int .u8 92, .int .u8 116] 5))
        have W1 := Lib.hid (World.news_of_block (heap_alloc_new wr (.cells #[.int .u8 92, .int .u8 116] 5)))
        clear e1 e2 e3 H
        go_wp2_with fail
        refine (HI.out _).mono ?_
        rintro e w1 ⟨rfl, rfl⟩
        go_wp2_with (at_builtin; go_must (refine wpList_append_lies _ rfl (.tmp 18) (.tmp 21) 46 rfl N 5 i5 _ 1 1 Tryd.underlying46 hi5 hz5 hs5 hb5 rfl (by omega) u3 X.length (bcs X) rfl O1.out ⟨wr.heap.size, 0, none⟩ 2 2 [.int .u8 92, .int .u8 116] rfl rfl W1.out (fun u hu => by simp at hu; rcases hu with rfl | rfl <;> rfl) (by omega) (by unfold maxLen; omega) (by omega) (by simp; omega) (wr.heap.size + 1) (by simp) ?_))
        intro g cap w2 hown hgrow hat hlt2
        have HF := Lib.hid (HNX.out g cap w2 (.cells #[.int .u8 92, .int .u8 116] 5) [92, 116] HE.out hown hgrow)
        clear hown hgrow hat hlt2
        go_wp2_with fail
        go_roundw
        case rel => exact ⟨k + 1, _, by omega, by go_num, rfl, HF.out⟩
        case measure => simp [intOf]; omega
      · have HE := Lib.hid e3
        have HI := ixM_any (s[k].toNat)
        rw [e2] at HI
        have HI := Lib.hid HI
        have O1 := Lib.hid (H.o.alloc (.cells #[.int .u8 92, .int .u8 36] 5))
        have W1 := Lib.hid (World.news_of_block (heap_alloc_new wr (.cells #[.int .u8 92, .int .u8 36] 5)))
        clear e1 e2 e3 H
        go_wp2_with fail
        refine (HI.out _).mono ?_
        rintro e w1 ⟨rfl, rfl⟩
        go_wp2_with (at_builtin; go_must (refine wpList_append_lies _ rfl (.tmp 18) (.tmp 21) 46 rfl N 5 i5 _ 1 1 Tryd.underlying46 hi5 hz5 hs5 hb5 rfl (by omega) u3 X.length (bcs X) rfl O1.out ⟨wr.heap.size, 0, none⟩ 2 2 [.int .u8 92, .int .u8 36] rfl rfl W1.out (fun u hu => by simp at hu; rcases hu with rfl | rfl <;> rfl) (by omega) (by unfold maxLen; omega) (by omega) (by simp; omega) (wr.heap.size + 1) (by simp) ?_))
        intro g cap w2 hown hgrow hat hlt2
        have HF := Lib.hid (HNX.out g cap w2 (.cells #[.int .u8 92, .int .u8 36] 5) [92, 36] HE.out hown hgrow)
        clear hown hgrow hat hlt2
        go_wp2_with fail
        go_roundw
        case rel => exact ⟨k + 1, _, by omega, by go_num, rfl, HF.out⟩
        case measure => simp [intOf]; omega
      · have HE := Lib.hid e3
        have HI := ixM_any (s[k].toNat)
        rw [e2] at HI
        have HI := Lib.hid HI
        have O1 := Lib.hid (H.o.alloc (.cells #[.int .u8 (s[k].toNat : Int)] 5))
        have W1 := Lib.hid (World.news_of_block (heap_alloc_new wr (.cells #[.int .u8 (s[k].toNat : Int)] 5)))
        clear e1 e2 e3 H
        go_wp2_with fail
        refine (HI.out _).mono ?_
        rintro e w1 ⟨rfl, rfl⟩
        go_wp2_with (at_builtin; go_must (refine wpList_append_lies _ rfl (.tmp 23) (.tmp 27) 46 rfl N 5 i5 _ 1 1 Tryd.underlying46 hi5 hz5 hs5 hb5 rfl (by omega) u3 X.length (bcs X) rfl O1.out ⟨wr.heap.size, 0, none⟩ 1 1 [.int .u8 (s[k].toNat : Int)] rfl rfl W1.out (fun u hu => by simp at hu; subst hu; rfl) (by omega) (by unfold maxLen; omega) (by omega) (by simp; omega) (wr.heap.size + 1) (by simp) ?_))
        intro g cap w2 hown hgrow hat hlt2
        have HF := Lib.hid (HNX.out g cap w2 (.cells #[.int .u8 (s[k].toNat : Int)] 5) [s[k]] HE.out hown hgrow)
        clear hown hgrow hat hlt2
        go_wp2_with fail
        go_roundw
        case rel => exact ⟨k + 1, _, by omega, by go_num, rfl, HF.out⟩
        case measure => simp [intOf]; omega
    · have hlt' : ¬ (k : Int) < s.size := by omega
      have hke : k = s.size := by omega
      have HE : Hid (X = 34 :: quoI (lb s)) := by
        unfold Hid
        rw [← HX.out, hke, ← L_len, List.take_length]
      have O1 := Lib.hid (H.o.alloc (.cells #[.int .u8 34] 5))
      have W1 := Lib.hid (World.news_of_block (heap_alloc_new wr (.cells #[.int .u8 34] 5)))
      have HH := Lib.hid H
      clear hke H
      go_wp2_with (at_builtin; go_must (refine wpList_append_lies _ rfl (.tmp 30) (.tmp 31) 46 rfl N 5 i5 _ 1 1 Tryd.underlying46 hi5 hz5 hs5 hb5 rfl (by omega) u3 X.length (bcs X) rfl O1.out ⟨wr.heap.size, 0, none⟩ 1 1 [.int .u8 34] rfl rfl W1.out (fun u hu => by simp at hu; subst hu; rfl) (by omega) (by unfold maxLen; omega) (by omega) (by simp; omega) (wr.heap.size + 1) (by simp) ?_))
      intro g cap w2 hown hgrow hat hlt2
      have HF := HH.out.more (Y := [34]) hNr hown rfl hgrow
      have hcv := conv_own (b := X ++ [34]) HF.o
      have HF := Lib.hid HF
      clear hown hgrow hat hlt2
      go_wp2_with fail
      go_ret
      refine ⟨?_, HNs.out w _ rfl HF.out.b⟩
      rw [← List.cons_append, ← HE.out]
      rfl
set_option maxRecDepth 100000 in
set_option maxHeartbeats 4000000 in
theorem rquote_any (s : ByteArray) (hs : s.size ≤ 10000) (w : World) : Calls Tryd.prog 14 #[.string s] w fun e w' => e = .returned (.string (tx (34 :: (quoI (lb s) ++ [34])))) ∧ w = w' := by
  go_enter Tryd.func14, Tryd.ntmps14
  go_wp2_with fail
  go_loop [4, 3] (fun x y => ∃ k X, k ≤ s.size ∧ x = .int .i64 (k : Int) ∧ y = .string (tx X) ∧ Hid (X = 34 :: quoI ((lb s).take k))) (fun x _ => s.size - (intOf x).toNat)
  case atStart => exact ⟨0, [34], Nat.zero_le _, rfl, rfl, rfl⟩
  case round =>
    obtain ⟨k, X, hk, rfl, rfl, HX⟩ := hrel
    have hXl : X.length ≤ 20001 := by
      rw [HX.out]
      have := quoI_len ((lb s).take k)
      have h2 : ((lb s).take k).length ≤ (lb s).length := List.length_take_le' _ _
      rw [L_len] at h2
      simp only [List.length_cons]; omega
    by_cases hlt : k < s.size
    · have hlt' : (k : Int) < s.size := by omega
      have hk1 : (k : Int) + 1 ≤ s.size := by omega
      have HN : Hid (∀ Y, escB s[k] = Y → X ++ Y = 34 :: quoI ((lb s).take (k + 1))) := fun Y hY => by rw [quoI_take hlt, hY, HX.out, List.cons_append]
      have c2 : Hid (∀ y z, tx X ++ tx [y] ++ tx [z] = tx (X ++ [y, z])) := fun y z => by rw [cat_tx, cat_tx, List.append_assoc]; rfl
      have c1 : Hid (∀ Y, tx X ++ tx Y = tx (X ++ Y)) := fun Y => cat_tx X Y
      have HO := Lib.hid (one_tx hlt)
      have ne : ∀ (d : UInt8), s[k] ≠ d → ((s[k].toNat : Int) == (d.toNat : Int)) = false := fun d h => by rw [beq_eq_false_iff_ne]; exact fun e => h (UInt8.toNat_inj.1 (by omega))
      rcases escB_cases s[k] with ⟨e1, -, e3⟩ | ⟨e1, -, e3⟩ | ⟨e1, -, e3⟩ | ⟨e1, -, e3⟩ | ⟨e1, -, e3⟩ | ⟨h1, h2, h3, h4, h5, -, e3⟩
      · have HF := Lib.hid (HN.out _ e3)
        have t34 : ((s[k].toNat : Int) == 34) = true := by rw [e1]; rfl
        have HE := Lib.hid e1
        clear e1 e3 ne HN
        go_wp2_with fail
        go_round
        case rel => exact ⟨k + 1, X ++ [92, 34], by omega, by go_num, by rw [← c2.out 92 34, HO.out, HE.out], HF⟩
        case measure => simp [intOf]; omega
      · have HF := Lib.hid (HN.out _ e3)
        have t34 : ((s[k].toNat : Int) == 34) = false := ne 34 (by rw [e1]; decide)
        have t92 : ((s[k].toNat : Int) == 92) = true := by rw [e1]; rfl
        have HE := Lib.hid e1
        clear e1 e3 ne HN
        go_wp2_with fail
        go_round
        case rel => exact ⟨k + 1, X ++ [92, 92], by omega, by go_num, by rw [← c2.out 92 92, HO.out, HE.out], HF⟩
        case measure => simp [intOf]; omega
      · have HF := Lib.hid (HN.out _ e3)
        have t34 : ((s[k].toNat : Int) == 34) = false := ne 34 (by rw [e1]; decide)
        have t92 : ((s[k].toNat : Int) == 92) = false := ne 92 (by rw [e1]; decide)
        have t36 : ((s[k].toNat : Int) == 36) = false := ne 36 (by rw [e1]; decide)
        have t10 : ((s[k].toNat : Int) == 10) = true := by rw [e1]; rfl
        have HE := Lib.hid e1
        clear e1 e3 ne HN
        go_wp2_with fail
        go_round
        case rel => exact ⟨k + 1, X ++ [92, 110], by omega, by go_num, by rw [← c1.out [92, 110]], HF⟩
        case measure => simp [intOf]; omega
      · have HF := Lib.hid (HN.out _ e3)
        have t34 : ((s[k].toNat : Int) == 34) = false := ne 34 (by rw [e1]; decide)
        have t92 : ((s[k].toNat : Int) == 92) = false := ne 92 (by rw [e1]; decide)
        have t36 : ((s[k].toNat : Int) == 36) = false := ne 36 (by rw [e1]; decide)
        have t10 : ((s[k].toNat : Int) == 10) = false := ne 10 (by rw [e1]; decide)
        have t9 : ((s[k].toNat : Int) == 9) = true := by rw [e1]; rfl
        have HE := Lib.hid e1
        clear e1 e3 ne HN
        go_wp2_with fail
        go_round
        case rel => exact ⟨k + 1, X ++ [92, 116], by omega, by go_num, by rw [← c1.out [92, 116]], HF⟩
        case measure => simp [intOf]; omega
      · have HF := Lib.hid (HN.out _ e3)
        have t34 : ((s[k].toNat : Int) == 34) = false := ne 34 (by rw [e1]; decide)
        have t92 : ((s[k].toNat : Int) == 92) = false := ne 92 (by rw [e1]; decide)
        have t36 : ((s[k].toNat : Int) == 36) = true := by rw [e1]; rfl
        have HE := Lib.hid e1
        clear e1 e3 ne HN
        go_wp2_with fail
        go_round
        case rel => exact ⟨k + 1, X ++ [92, 36], by omega, by go_num, by rw [← c2.out 92 36, HO.out, HE.out], HF⟩
        case measure => simp [intOf]; omega
      · have HF := Lib.hid (HN.out _ e3)
        have t34 : ((s[k].toNat : Int) == 34) = false := ne 34 h1
        have t92 : ((s[k].toNat : Int) == 92) = false := ne 92 h2
        have t10 : ((s[k].toNat : Int) == 10) = false := ne 10 h3
        have t9 : ((s[k].toNat : Int) == 9) = false := ne 9 h4
        have t36 : ((s[k].toNat : Int) == 36) = false := ne 36 h5
        clear h1 h2 h3 h4 h5 e3 ne HN
        go_wp2_with fail
        go_round
        case rel => exact ⟨k + 1, X ++ [s[k]], by omega, by go_num, by rw [← c1.out [s[k]], HO.out], HF⟩
        case measure => simp [intOf]; omega
    · have hlt' : ¬ (k : Int) < s.size := by omega
      have hke : k = s.size := by omega
      have HE : Hid (tx X ++ ⟨#[34]⟩ = tx (34 :: (quoI (lb s) ++ [34]))) := by
        show tx X ++ tx [34] = _
        rw [cat_tx, HX.out, hke, ← L_len, List.take_length, List.cons_append]
      clear hke
      go_wp2_with fail
      go_ret
      exact ⟨by rw [← HE.out]; rfl, rfl⟩
end Go.Proofs.YtejpbebfkogmfaaDoor
