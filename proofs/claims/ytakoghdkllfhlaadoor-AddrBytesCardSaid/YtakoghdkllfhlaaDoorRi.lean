/- The form of an object. -/
import Derived.Test.YtakoghdkllfhlaaDoorRh
import Derived.Test.YtakoghdkllfhlaaDoorH
namespace Go.Proofs.YtakoghdkllfhlaaDoor
open Go.RowKit Go.Lib

/-- a text's form -/
def txt (s : ByteArray) : List Nat := shrt s.size ++ sb s
/-- what stands behind the Kind -/
def mid (k : Obt) : List Nat := if k.a.kd = 1 then shrt k.a.i.toNat else if k.a.kd = 2 then txt k.a.k else []
/-- an object's form -/
def formK (k : Obt) : List Nat := txt k.a.t ++ txt k.a.n ++ [k.a.kd.toNat] ++ mid k ++ shrt k.N.toNat
/-- the form of one that may be, or nothing -/
def fmK (k : Obt) : List Nat := if checkKB k then formK k else []
theorem txt_bytes (s : ByteArray) : ∀ c, c ∈ txt s → c < 256 := fun c hc => by
  rcases List.mem_append.1 hc with h | h
  · exact shrt_bytes _ c h
  · exact sb_bytes' s c h
theorem txt_len {s : ByteArray} (h : s.size ≤ 24) : (txt s).length ≤ 40 := by
  have := (shrt_len s.size (by omega)).1
  unfold txt; rw [List.length_append, sb_len]; omega
/-- what may be -/
structure May (k : Obt) : Prop where
  t : k.a.t.size ≤ 24
  n : k.a.n.size ≤ 24
  kd : k.a.kd = 0 ∨ k.a.kd = 1 ∨ k.a.kd = 2
  i1 : k.a.kd = 1 → 0 ≤ k.a.i ∧ k.a.i < 128
  k2 : k.a.kd = 2 → k.a.k.size ≤ 24
theorem okS_24 {p : Int → Bool} {s : ByteArray} (h : okS p s = true) : s.size ≤ 24 := by
  unfold okS at h
  simp only [Bool.and_eq_true, decide_eq_true_eq] at h
  exact h.1.2
theorem may_of {k : Obt} (h : checkKB k = true) : May k := by
  unfold checkKB checkB at h
  simp only [Bool.and_eq_true] at h
  obtain ⟨⟨⟨h1, h2⟩, h3⟩, _⟩ := h
  unfold nameB at h1 h2
  rw [Bool.and_eq_true] at h1 h2
  unfold lastB at h3
  refine ⟨okS_24 h1.1, okS_24 h2.1, ?_, fun e => ?_, fun e => ?_⟩
  · by_cases e0 : k.a.kd = 0
    · exact .inl e0
    · by_cases e1 : k.a.kd = 1
      · exact .inr (.inl e1)
      · by_cases e2 : k.a.kd = 2
        · exact .inr (.inr e2)
        · rw [if_neg e0, if_neg e1, if_neg e2] at h3; cases h3
  · rw [if_neg (by omega), if_pos e] at h3
    simp only [Bool.and_eq_true, decide_eq_true_eq] at h3
    exact h3.1
  · rw [if_neg (by omega), if_neg (by omega), if_pos e] at h3
    simp only [Bool.and_eq_true] at h3
    exact okS_24 h3.2
theorem mid_bytes (k : Obt) : ∀ c, c ∈ mid k → c < 256 := fun c hc => by
  unfold mid at hc
  split at hc
  · exact shrt_bytes _ c hc
  · split at hc
    · exact txt_bytes _ c hc
    · cases hc
theorem formK_bytes {k : Obt} (h : May k) : ∀ c, c ∈ formK k → c < 256 := fun c hc => by
  unfold formK at hc
  rcases List.mem_append.1 hc with hc | hc
  · rcases List.mem_append.1 hc with hc | hc
    · rcases List.mem_append.1 hc with hc | hc
      · rcases List.mem_append.1 hc with hc | hc
        · exact txt_bytes _ c hc
        · exact txt_bytes _ c hc
      · have := h.kd; simp at hc; omega
    · exact mid_bytes k c hc
  · exact shrt_bytes _ c hc
theorem mid_len {k : Obt} (h : May k) : (mid k).length ≤ 40 := by
  unfold mid
  split
  · rename_i e
    have := h.i1 e
    have := (shrt_len k.a.i.toNat (by omega)).1
    omega
  · split
    · rename_i e
      exact txt_len (h.k2 e)
    · simp
theorem formK_len {k : Obt} (h : May k) (hN : k.N < 4294967296) : (formK k).length ≤ 200 := by
  have h1 := txt_len h.t
  have h2 := txt_len h.n
  have h3 := mid_len h
  have h4 := (shrt_len k.N.toNat (by omega)).1
  unfold formK
  simp only [List.length_append, List.length_singleton]
  omega
/-- bytes in memory, as an answer -/
def BtsR (M : List Nat) (w : World) (e : Ending) (w' : World) : Prop := ∃ o cap, e = .returned (.slice o M.length cap) ∧ Bts w'.heap.size w' o cap M ∧ Below w.heap.size w w'
theorem NewRow.bts {M : List Nat} {w w' : World} {e : Ending} (h : NewRow M w e w') (hM : ∀ c, c ∈ M → c < 256) : BtsR M w e w' := by
  obtain ⟨v, rfl, ho, hb⟩ := h
  obtain ⟨o, cap, rfl, hB⟩ := bts_of_own ho hM
  exact ⟨o, cap, rfl, hB, hb⟩
theorem bts_nil (n : Nat) (w : World) : Bts n w none 0 [] := ⟨RowP.nil _ _ _ _, (fun c hc => by cases hc), fun a e => by cases e⟩
theorem putStr_nil (s : ByteArray) (hs : s.size ≤ 24) (w : World) : Calls Tryd.prog 78 #[.slice none 0 0, .string s] w (NewRow (txt s) w) := by
  have := putStrN_any s (by omega) (bts_nil w.heap.size w) (Nat.le_refl _) (by simp)
  simpa [txt] using this
/-- one more byte -/
theorem app_one {w wr w1 : World} {base g cp : Nat} {v : Value} {M : List Nat} {c : Nat} (h : wr.ownsRow base 5 1 v M.length (bcs M)) (hw : Below w.heap.size w wr) (hbase : w.heap.size ≤ base)
    (ho : w1.ownsRow base 5 1 (.slice (some ⟨g, 0, none⟩) (M.length + 1) cp) (M.length + 1) (bcs M ++ [.int .u8 ((c : Nat) : Int)])) (hg : (wr.alloc (.cells #[.int .u8 ((c : Nat) : Int)] 5)).grownBy w1 v.ownBlock) :
    w1.ownsRow base 5 1 (.slice (some ⟨g, 0, none⟩) (M.length + 1) cp) (M ++ [c]).length (bcs (M ++ [c])) ∧ Below w.heap.size w w1 := by
  refine ⟨by rw [List.length_append, bcs_app]; exact ho, (hw.alloc hw.size _).grown hg (by simp; have := hw.size; omega) (fun k hk => ?_)⟩
  have := (h.lt k hk).1
  omega
theorem own_up {w : World} {base base' n : Nat} {v : Value} {xs : List Value} (h : w.ownsRow base 5 1 v n xs) (hb : base' ≤ base) : w.ownsRow base' 5 1 v n xs := by
  refine ⟨h.1, ?_⟩
  rcases h.2 with hn | ⟨g, cap, cur, hv, hg, rest⟩
  · exact .inl hn
  · exact .inr ⟨g, cap, cur, hv, by omega, rest⟩
set_option maxRecDepth 100000 in
set_option maxHeartbeats 4000000 in
theorem form_0 (t n k : ByteArray) (i : Int) (m : Nat) (w : World) (hc : checkKB ⟨⟨t, n, 0, i, k⟩, (m : Nat)⟩ = true) (hm : m < 4294967296) (hk : k.size ≤ 9223372036854775807) : Calls Tryd.prog 55 #[kv ⟨⟨t, n, 0, i, k⟩, (m : Nat)⟩] w (NewRow (formK ⟨⟨t, n, 0, i, k⟩, (m : Nat)⟩) w) := by
  have hM := may_of hc
  have hsm : Sm (⟨⟨t, n, 0, i, k⟩, (m : Nat)⟩ : Obt).a := ⟨by have := hM.t; dsimp only at *; omega, by have := hM.n; dsimp only at *; omega, hk⟩
  have C := fun w => checkK_any ⟨⟨t, n, 0, i, k⟩, (m : Nat)⟩ w hsm (by dsimp only; omega)
  unfold Arg at C
  rw [hc] at C
  simp only [argN] at C
  have CK := Lib.hid C
  have ht : t.size ≤ 24 := hM.t
  have hn : n.size ≤ 24 := hM.n
  have lt := txt_len ht
  have ln := txt_len hn
  have T1 := Lib.hid (fun w => putStr_nil t ht w)
  have HK := Lib.hid (Hk.made w ⟨⟨t, n, 0, i, k⟩, (m : Nat)⟩)
  have HW := Lib.hid ((Below.refl w.heap.size w).alloc (Nat.le_refl _) (bk ⟨⟨t, n, 0, i, k⟩, (m : Nat)⟩))
  have HZ : Hid ((w.alloc (bk ⟨⟨t, n, 0, i, k⟩, (m : Nat)⟩)).heap.size = w.heap.size + 1) := by simp [Hid]
  obtain ⟨i5, hi5, hz5, hs5, hb5⟩ := info_parts info5
  obtain ⟨L3, hL3⟩ : ∃ L, txt t ++ (shrt n.size ++ sb n) = L := ⟨_, rfl⟩
  have HL3 := Lib.hid hL3
  have l3 : L3.length ≤ 80 := by rw [← hL3, List.length_append]; unfold txt at ln; omega
  have y3 : Hid (∀ c, c ∈ L3 → c < 256) := fun c hc => by rw [← hL3] at hc; exact (List.mem_append.1 hc).elim (txt_bytes t c) (txt_bytes n c)
  obtain ⟨L4, hL4⟩ : ∃ L, L3 ++ [0] = L := ⟨_, rfl⟩
  have HL4 := Lib.hid hL4
  have y4 : Hid (∀ c, c ∈ L4 → c < 256) := fun c hc => by rw [← hL4] at hc; exact (List.mem_append.1 hc).elim (y3.out c) (fun h => by simp at h; omega)
  have HLL : Hid (L3.length + 1 = L4.length) := by unfold Hid; rw [← hL4, List.length_append]; rfl
  clear C hM hsm hc hL3 hL4
  go_enter Tryd.func55, Tryd.ntmps55
  go_wp2_with fail
  generalize World.alloc w _ = w0 at *
  refine (CK.out _).mono ?_
  rintro e w1 ⟨rfl, b1⟩
  have E1 := Lib.hid b1
  clear b1
  obtain ⟨x8, x0, x1, x2, x3, x4, x5⟩ := HK.out.kept E1.out (by have := HZ.out; omega)
  dsimp only at x0 x1 x2 x3 x4 x5
  go_wp2_with fail
  refine (T1.out _).mono ?_
  rintro e w2 ⟨v2, rfl, o2, b2⟩
  obtain ⟨p2, c2, rfl, B2⟩ := bts_of_own o2 (txt_bytes t)
  have E2 := Lib.hid (E1.out.trans (b2.mono E1.out.size))
  have Q2 := Lib.hid (putStrN_any n (by omega) B2 (Nat.le_refl _) (by omega))
  rw [HL3.out] at Q2
  clear x8 x0 x1 x2 x3 x4 x5
  obtain ⟨x8, x0, x1, x2, x3, x4, x5⟩ := HK.out.kept E2.out (by have := HZ.out; omega)
  dsimp only at x0 x1 x2 x3 x4 x5
  clear o2 b2 B2
  go_wp2_with fail
  refine Q2.out.mono ?_
  rintro e w3 ⟨v3, rfl, o3, b3⟩
  have E3 := Lib.hid (E2.out.trans (b3.mono E2.out.size))
  have O3 : Hid (w3.ownsRow w2.heap.size 5 1 v3 L3.length (bcs L3)) := o3
  have A3 : Hid ((w3.alloc (.cells #[.int .u8 ((0 : Nat) : Int)] 5)).ownsRow w2.heap.size 5 1 v3 L3.length (bcs L3)) := O3.out.alloc _
  have S3 := Lib.hid b3.size
  have B23 := Lib.hid b3
  clear x8 x0 x1 x2 x3 x4 x5
  obtain ⟨x8, x0, x1, x2, x3, x4, x5⟩ := HK.out.kept E3.out (by have := HZ.out; omega)
  dsimp only at x0 x1 x2 x3 x4 x5
  clear o3 b3 Q2
  go_wp2_with (at_builtin; go_must (refine wpList_append_lies _ rfl (.tmp 16) (.tmp 21) 49 rfl w2.heap.size 5 i5 _ 1 1 Tryd.underlying49 hi5 hz5 hs5 hb5 rfl (by omega) _ L3.length (bcs L3) rfl A3.out ⟨w3.heap.size, 0, none⟩ 1 1 [.int .u8 ((0 : Nat) : Int)] rfl rfl (World.news_of_block (heap_alloc_new _ _)) (fun u hu => by simp at hu; subst hu; rfl) (by omega) (by unfold maxLen; omega) (by omega) (by have := S3.out; simp; omega) (w3.heap.size + 1) (by simp) ?_))
  intro g4 c4 w4 hown hgrow hat hlt4
  obtain ⟨o4, b4⟩ := app_one (w := w2) (c := 0) O3.out B23.out (Nat.le_refl _) hown hgrow
  have E4 := Lib.hid (E2.out.trans (b4.mono E2.out.size))
  rw [HL4.out] at o4
  rw [HLL.out] at o4 ⊢
  obtain ⟨p4, cc4, e4, B4⟩ := bts_of_own o4 y4.out
  injection e4 with e41 _ e43
  subst e41 e43
  clear x8 x0 x1 x2 x3 x4 x5
  clear hown hgrow hat o4 b4
  obtain ⟨x8, x0, x1, x2, x3, x4, x5⟩ := HK.out.kept E4.out (by have := HZ.out; omega)
  dsimp only at x0 x1 x2 x3 x4 x5
  have l4 : L4.length ≤ 81 := by rw [← HLL.out]; omega
  have HB4 := Lib.hid B4
  clear B4
  have Q6 := Lib.hid (putShortN_any m HB4.out (Nat.le_refl _) (by omega) (by omega))
  have hcm : (m : Int) % 18446744073709551616 = m := by omega
  go_wp2_with fail
  refine Q6.out.mono ?_
  rintro e w6 ⟨v6, rfl, o6, b6⟩
  have E6 := Lib.hid (HW.out.trans ((E4.out.trans (b6.mono E4.out.size)).mono HW.out.size))
  have O6 := Lib.hid o6
  clear o6 b6
  go_wp2_with fail
  go_ret
  refine ⟨_, rfl, ?_, E6.out⟩
  have hz : w.heap.size ≤ w4.heap.size := by have h1 := HW.out.size; have h2 := E4.out.size; omega
  have h7 := own_up O6.out hz
  have hf : formK ⟨⟨t, n, 0, i, k⟩, (m : Nat)⟩ = L4 ++ shrt m := by rw [← HL4.out, ← HL3.out]; unfold formK mid; simp [txt]
  rw [hf]
  exact h7
set_option maxRecDepth 100000 in
set_option maxHeartbeats 4000000 in
theorem form_1 (t n k : ByteArray) (i : Nat) (m : Nat) (w : World) (hc : checkKB ⟨⟨t, n, 1, (i : Nat), k⟩, (m : Nat)⟩ = true) (hm : m < 4294967296) (hk : k.size ≤ 9223372036854775807) : Calls Tryd.prog 55 #[kv ⟨⟨t, n, 1, (i : Nat), k⟩, (m : Nat)⟩] w (NewRow (formK ⟨⟨t, n, 1, (i : Nat), k⟩, (m : Nat)⟩) w) := by
  have hM := may_of hc
  have hsm : Sm (⟨⟨t, n, 1, (i : Nat), k⟩, (m : Nat)⟩ : Obt).a := ⟨by have := hM.t; dsimp only at *; omega, by have := hM.n; dsimp only at *; omega, hk⟩
  have C := fun w => checkK_any ⟨⟨t, n, 1, (i : Nat), k⟩, (m : Nat)⟩ w hsm (by dsimp only; omega)
  unfold Arg at C
  rw [hc] at C
  simp only [argN] at C
  have CK := Lib.hid C
  have ht : t.size ≤ 24 := hM.t
  have hn : n.size ≤ 24 := hM.n
  have hi : i < 128 := by have := hM.i1 rfl; dsimp only at this; omega
  have lt := txt_len ht
  have ln := txt_len hn
  have T1 := Lib.hid (fun w => putStr_nil t ht w)
  have HK := Lib.hid (Hk.made w ⟨⟨t, n, 1, (i : Nat), k⟩, (m : Nat)⟩)
  have HW := Lib.hid ((Below.refl w.heap.size w).alloc (Nat.le_refl _) (bk ⟨⟨t, n, 1, (i : Nat), k⟩, (m : Nat)⟩))
  have HZ : Hid ((w.alloc (bk ⟨⟨t, n, 1, (i : Nat), k⟩, (m : Nat)⟩)).heap.size = w.heap.size + 1) := by simp [Hid]
  obtain ⟨i5, hi5, hz5, hs5, hb5⟩ := info_parts info5
  obtain ⟨L3, hL3⟩ : ∃ L, txt t ++ (shrt n.size ++ sb n) = L := ⟨_, rfl⟩
  have HL3 := Lib.hid hL3
  have l3 : L3.length ≤ 80 := by rw [← hL3, List.length_append]; unfold txt at ln; omega
  have y3 : Hid (∀ c, c ∈ L3 → c < 256) := fun c hc => by rw [← hL3] at hc; exact (List.mem_append.1 hc).elim (txt_bytes t c) (txt_bytes n c)
  obtain ⟨L4, hL4⟩ : ∃ L, L3 ++ [1] = L := ⟨_, rfl⟩
  have HL4 := Lib.hid hL4
  have y4 : Hid (∀ c, c ∈ L4 → c < 256) := fun c hc => by rw [← hL4] at hc; exact (List.mem_append.1 hc).elim (y3.out c) (fun h => by simp at h; omega)
  have HLL : Hid (L3.length + 1 = L4.length) := by unfold Hid; rw [← hL4, List.length_append]; rfl
  clear C hM hsm hc hL3 hL4
  go_enter Tryd.func55, Tryd.ntmps55
  go_wp2_with fail
  generalize World.alloc w _ = w0 at *
  refine (CK.out _).mono ?_
  rintro e w1 ⟨rfl, b1⟩
  have E1 := Lib.hid b1
  clear b1
  obtain ⟨x8, x0, x1, x2, x3, x4, x5⟩ := HK.out.kept E1.out (by have := HZ.out; omega)
  dsimp only at x0 x1 x2 x3 x4 x5
  go_wp2_with fail
  refine (T1.out _).mono ?_
  rintro e w2 ⟨v2, rfl, o2, b2⟩
  obtain ⟨p2, c2, rfl, B2⟩ := bts_of_own o2 (txt_bytes t)
  have E2 := Lib.hid (E1.out.trans (b2.mono E1.out.size))
  have Q2 := Lib.hid (putStrN_any n (by omega) B2 (Nat.le_refl _) (by omega))
  rw [HL3.out] at Q2
  clear x8 x0 x1 x2 x3 x4 x5
  obtain ⟨x8, x0, x1, x2, x3, x4, x5⟩ := HK.out.kept E2.out (by have := HZ.out; omega)
  dsimp only at x0 x1 x2 x3 x4 x5
  clear o2 b2 B2
  go_wp2_with fail
  refine Q2.out.mono ?_
  rintro e w3 ⟨v3, rfl, o3, b3⟩
  have E3 := Lib.hid (E2.out.trans (b3.mono E2.out.size))
  have O3 : Hid (w3.ownsRow w2.heap.size 5 1 v3 L3.length (bcs L3)) := o3
  have A3 : Hid ((w3.alloc (.cells #[.int .u8 ((1 : Nat) : Int)] 5)).ownsRow w2.heap.size 5 1 v3 L3.length (bcs L3)) := O3.out.alloc _
  have S3 := Lib.hid b3.size
  have B23 := Lib.hid b3
  clear x8 x0 x1 x2 x3 x4 x5
  obtain ⟨x8, x0, x1, x2, x3, x4, x5⟩ := HK.out.kept E3.out (by have := HZ.out; omega)
  dsimp only at x0 x1 x2 x3 x4 x5
  clear o3 b3 Q2
  go_wp2_with (at_builtin; go_must (refine wpList_append_lies _ rfl (.tmp 16) (.tmp 21) 49 rfl w2.heap.size 5 i5 _ 1 1 Tryd.underlying49 hi5 hz5 hs5 hb5 rfl (by omega) _ L3.length (bcs L3) rfl A3.out ⟨w3.heap.size, 0, none⟩ 1 1 [.int .u8 ((1 : Nat) : Int)] rfl rfl (World.news_of_block (heap_alloc_new _ _)) (fun u hu => by simp at hu; subst hu; rfl) (by omega) (by unfold maxLen; omega) (by omega) (by have := S3.out; simp; omega) (w3.heap.size + 1) (by simp) ?_))
  intro g4 c4 w4 hown hgrow hat hlt4
  obtain ⟨o4, b4⟩ := app_one (w := w2) (c := 1) O3.out B23.out (Nat.le_refl _) hown hgrow
  have E4 := Lib.hid (E2.out.trans (b4.mono E2.out.size))
  rw [HL4.out] at o4
  rw [HLL.out] at o4 ⊢
  obtain ⟨p4, cc4, e4, B4⟩ := bts_of_own o4 y4.out
  injection e4 with e41 _ e43
  subst e41 e43
  clear x8 x0 x1 x2 x3 x4 x5
  clear hown hgrow hat o4 b4
  obtain ⟨x8, x0, x1, x2, x3, x4, x5⟩ := HK.out.kept E4.out (by have := HZ.out; omega)
  dsimp only at x0 x1 x2 x3 x4 x5
  have l4 : L4.length ≤ 81 := by rw [← HLL.out]; omega
  have HB4 := Lib.hid B4
  clear B4
  have Q5 := Lib.hid (putShortN_any i HB4.out (Nat.le_refl _) (by omega) (by omega))
  have hci : (i : Int) % 18446744073709551616 = i := by omega
  go_wp2_with fail
  refine Q5.out.mono ?_
  rintro e w5 ⟨v5, rfl, o5, b5⟩
  obtain ⟨L5, hL5⟩ : ∃ L, L4 ++ (shrt i) = L := ⟨_, rfl⟩
  have HL5 := Lib.hid hL5
  have l5 : L5.length ≤ 130 := by rw [← hL5, List.length_append]; have := (shrt_len i (by omega)).1; omega
  have y5 : Hid (∀ c, c ∈ L5 → c < 256) := fun c hc => by rw [← hL5] at hc; exact (List.mem_append.1 hc).elim (HB4.out.b c) (shrt_bytes i c)
  rw [hL5] at o5
  clear hL5
  obtain ⟨p5, c5, rfl, B5⟩ := bts_of_own o5 y5.out
  have E5 := Lib.hid (E4.out.trans (b5.mono E4.out.size))
  have HB5 := Lib.hid B5
  clear x8 x0 x1 x2 x3 x4 x5
  obtain ⟨x8, x0, x1, x2, x3, x4, x5⟩ := HK.out.kept E5.out (by have := HZ.out; omega)
  dsimp only at x0 x1 x2 x3 x4 x5
  clear o5 b5 B5 Q5
  have Q6 := Lib.hid (putShortN_any m HB5.out (Nat.le_refl _) (by omega) (by omega))
  have hcm : (m : Int) % 18446744073709551616 = m := by omega
  go_wp2_with fail
  refine Q6.out.mono ?_
  rintro e w6 ⟨v6, rfl, o6, b6⟩
  have E6 := Lib.hid (HW.out.trans ((E5.out.trans (b6.mono E5.out.size)).mono HW.out.size))
  have O6 := Lib.hid o6
  clear o6 b6
  go_wp2_with fail
  go_ret
  refine ⟨_, rfl, ?_, E6.out⟩
  have hz : w.heap.size ≤ w5.heap.size := by have h1 := HW.out.size; have h2 := E5.out.size; omega
  have h7 := own_up O6.out hz
  have hf : formK ⟨⟨t, n, 1, (i : Nat), k⟩, (m : Nat)⟩ = L5 ++ shrt m := by rw [← HL5.out, ← HL4.out, ← HL3.out]; unfold formK mid; simp [txt]
  rw [hf]
  exact h7
set_option maxRecDepth 100000 in
set_option maxHeartbeats 4000000 in
theorem form_2 (t n k : ByteArray) (i : Int) (m : Nat) (w : World) (hc : checkKB ⟨⟨t, n, 2, i, k⟩, (m : Nat)⟩ = true) (hm : m < 4294967296) : Calls Tryd.prog 55 #[kv ⟨⟨t, n, 2, i, k⟩, (m : Nat)⟩] w (NewRow (formK ⟨⟨t, n, 2, i, k⟩, (m : Nat)⟩) w) := by
  have hM := may_of hc
  have hsm : Sm (⟨⟨t, n, 2, i, k⟩, (m : Nat)⟩ : Obt).a := ⟨by have := hM.t; dsimp only at *; omega, by have := hM.n; dsimp only at *; omega, by have := hM.k2 rfl; dsimp only at *; omega⟩
  have C := fun w => checkK_any ⟨⟨t, n, 2, i, k⟩, (m : Nat)⟩ w hsm (by dsimp only; omega)
  unfold Arg at C
  rw [hc] at C
  simp only [argN] at C
  have CK := Lib.hid C
  have ht : t.size ≤ 24 := hM.t
  have hn : n.size ≤ 24 := hM.n
  have hk : k.size ≤ 24 := hM.k2 rfl
  have lt := txt_len ht
  have ln := txt_len hn
  have T1 := Lib.hid (fun w => putStr_nil t ht w)
  have HK := Lib.hid (Hk.made w ⟨⟨t, n, 2, i, k⟩, (m : Nat)⟩)
  have HW := Lib.hid ((Below.refl w.heap.size w).alloc (Nat.le_refl _) (bk ⟨⟨t, n, 2, i, k⟩, (m : Nat)⟩))
  have HZ : Hid ((w.alloc (bk ⟨⟨t, n, 2, i, k⟩, (m : Nat)⟩)).heap.size = w.heap.size + 1) := by simp [Hid]
  obtain ⟨i5, hi5, hz5, hs5, hb5⟩ := info_parts info5
  obtain ⟨L3, hL3⟩ : ∃ L, txt t ++ (shrt n.size ++ sb n) = L := ⟨_, rfl⟩
  have HL3 := Lib.hid hL3
  have l3 : L3.length ≤ 80 := by rw [← hL3, List.length_append]; unfold txt at ln; omega
  have y3 : Hid (∀ c, c ∈ L3 → c < 256) := fun c hc => by rw [← hL3] at hc; exact (List.mem_append.1 hc).elim (txt_bytes t c) (txt_bytes n c)
  obtain ⟨L4, hL4⟩ : ∃ L, L3 ++ [2] = L := ⟨_, rfl⟩
  have HL4 := Lib.hid hL4
  have y4 : Hid (∀ c, c ∈ L4 → c < 256) := fun c hc => by rw [← hL4] at hc; exact (List.mem_append.1 hc).elim (y3.out c) (fun h => by simp at h; omega)
  have HLL : Hid (L3.length + 1 = L4.length) := by unfold Hid; rw [← hL4, List.length_append]; rfl
  clear C hM hsm hc hL3 hL4
  go_enter Tryd.func55, Tryd.ntmps55
  go_wp2_with fail
  generalize World.alloc w _ = w0 at *
  refine (CK.out _).mono ?_
  rintro e w1 ⟨rfl, b1⟩
  have E1 := Lib.hid b1
  clear b1
  obtain ⟨x8, x0, x1, x2, x3, x4, x5⟩ := HK.out.kept E1.out (by have := HZ.out; omega)
  dsimp only at x0 x1 x2 x3 x4 x5
  go_wp2_with fail
  refine (T1.out _).mono ?_
  rintro e w2 ⟨v2, rfl, o2, b2⟩
  obtain ⟨p2, c2, rfl, B2⟩ := bts_of_own o2 (txt_bytes t)
  have E2 := Lib.hid (E1.out.trans (b2.mono E1.out.size))
  have Q2 := Lib.hid (putStrN_any n (by omega) B2 (Nat.le_refl _) (by omega))
  rw [HL3.out] at Q2
  clear x8 x0 x1 x2 x3 x4 x5
  obtain ⟨x8, x0, x1, x2, x3, x4, x5⟩ := HK.out.kept E2.out (by have := HZ.out; omega)
  dsimp only at x0 x1 x2 x3 x4 x5
  clear o2 b2 B2
  go_wp2_with fail
  refine Q2.out.mono ?_
  rintro e w3 ⟨v3, rfl, o3, b3⟩
  have E3 := Lib.hid (E2.out.trans (b3.mono E2.out.size))
  have O3 : Hid (w3.ownsRow w2.heap.size 5 1 v3 L3.length (bcs L3)) := o3
  have A3 : Hid ((w3.alloc (.cells #[.int .u8 ((2 : Nat) : Int)] 5)).ownsRow w2.heap.size 5 1 v3 L3.length (bcs L3)) := O3.out.alloc _
  have S3 := Lib.hid b3.size
  have B23 := Lib.hid b3
  clear x8 x0 x1 x2 x3 x4 x5
  obtain ⟨x8, x0, x1, x2, x3, x4, x5⟩ := HK.out.kept E3.out (by have := HZ.out; omega)
  dsimp only at x0 x1 x2 x3 x4 x5
  clear o3 b3 Q2
  go_wp2_with (at_builtin; go_must (refine wpList_append_lies _ rfl (.tmp 16) (.tmp 21) 49 rfl w2.heap.size 5 i5 _ 1 1 Tryd.underlying49 hi5 hz5 hs5 hb5 rfl (by omega) _ L3.length (bcs L3) rfl A3.out ⟨w3.heap.size, 0, none⟩ 1 1 [.int .u8 ((2 : Nat) : Int)] rfl rfl (World.news_of_block (heap_alloc_new _ _)) (fun u hu => by simp at hu; subst hu; rfl) (by omega) (by unfold maxLen; omega) (by omega) (by have := S3.out; simp; omega) (w3.heap.size + 1) (by simp) ?_))
  intro g4 c4 w4 hown hgrow hat hlt4
  obtain ⟨o4, b4⟩ := app_one (w := w2) (c := 2) O3.out B23.out (Nat.le_refl _) hown hgrow
  have E4 := Lib.hid (E2.out.trans (b4.mono E2.out.size))
  rw [HL4.out] at o4
  rw [HLL.out] at o4 ⊢
  obtain ⟨p4, cc4, e4, B4⟩ := bts_of_own o4 y4.out
  injection e4 with e41 _ e43
  subst e41 e43
  clear x8 x0 x1 x2 x3 x4 x5
  clear hown hgrow hat o4 b4
  obtain ⟨x8, x0, x1, x2, x3, x4, x5⟩ := HK.out.kept E4.out (by have := HZ.out; omega)
  dsimp only at x0 x1 x2 x3 x4 x5
  have l4 : L4.length ≤ 81 := by rw [← HLL.out]; omega
  have HB4 := Lib.hid B4
  clear B4
  have Q5 := Lib.hid (putStrN_any k (by omega) HB4.out (Nat.le_refl _) (by omega))
  go_wp2_with fail
  refine Q5.out.mono ?_
  rintro e w5 ⟨v5, rfl, o5, b5⟩
  obtain ⟨L5, hL5⟩ : ∃ L, L4 ++ (shrt k.size ++ sb k) = L := ⟨_, rfl⟩
  have HL5 := Lib.hid hL5
  have l5 : L5.length ≤ 130 := by rw [← hL5, List.length_append]; have := txt_len hk; unfold txt at this; omega
  have y5 : Hid (∀ c, c ∈ L5 → c < 256) := fun c hc => by rw [← hL5] at hc; exact (List.mem_append.1 hc).elim (HB4.out.b c) (txt_bytes k c)
  rw [hL5] at o5
  clear hL5
  obtain ⟨p5, c5, rfl, B5⟩ := bts_of_own o5 y5.out
  have E5 := Lib.hid (E4.out.trans (b5.mono E4.out.size))
  have HB5 := Lib.hid B5
  clear x8 x0 x1 x2 x3 x4 x5
  obtain ⟨x8, x0, x1, x2, x3, x4, x5⟩ := HK.out.kept E5.out (by have := HZ.out; omega)
  dsimp only at x0 x1 x2 x3 x4 x5
  clear o5 b5 B5 Q5
  have Q6 := Lib.hid (putShortN_any m HB5.out (Nat.le_refl _) (by omega) (by omega))
  have hcm : (m : Int) % 18446744073709551616 = m := by omega
  go_wp2_with fail
  refine Q6.out.mono ?_
  rintro e w6 ⟨v6, rfl, o6, b6⟩
  have E6 := Lib.hid (HW.out.trans ((E5.out.trans (b6.mono E5.out.size)).mono HW.out.size))
  have O6 := Lib.hid o6
  clear o6 b6
  go_wp2_with fail
  go_ret
  refine ⟨_, rfl, ?_, E6.out⟩
  have hz : w.heap.size ≤ w5.heap.size := by have h1 := HW.out.size; have h2 := E5.out.size; omega
  have h7 := own_up O6.out hz
  have hf : formK ⟨⟨t, n, 2, i, k⟩, (m : Nat)⟩ = L5 ++ shrt m := by rw [← HL5.out, ← HL4.out, ← HL3.out]; unfold formK mid; simp [txt]
  rw [hf]
  exact h7
end Go.Proofs.YtakoghdkllfhlaaDoor
