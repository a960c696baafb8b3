/- What may be has a form that may be; how long forms are. -/
import Derived.Test.YtpmdkekjoocplaaP
import Derived.Test.YtpmdkekjoocplaaFb
import Derived.Test.YtpmdkekjoocplaaGg
namespace Go.Proofs.Ytpmdkekjoocplaa
open Go.RowKit Go.Lib Typ

theorem emp_eq {s : ByteArray} (h : s.toList.isEmpty = true) : s = ⟨#[]⟩ := by
  rw [List.isEmpty_iff, ByteArray.toList_eq, Array.toList_eq_nil_iff] at h
  obtain ⟨d⟩ := s
  subst h; rfl
theorem keys_facts {ks : List ByteArray} (h : keysOk ks = true) : (∀ j, j < ks.length → (kk ks j).size ≤ 1024) ∧ ∀ j, j + 1 < ks.length → blt (kk ks j) (kk ks (j + 1)) = true := by
  have h1 : ∀ j, j < ks.length → keyOk ks j = true := fun j hj => by
    unfold keysOk keysOkN at h
    rw [List.all_eq_true] at h
    exact h j (List.mem_range.2 hj)
  refine ⟨fun j hj => ?_, fun j hj => ?_⟩
  · have := h1 j hj
    unfold keyOk at this
    simp only [Bool.and_eq_true, decide_eq_true_eq] at this
    exact this.1
  · have := h1 (j + 1) hj
    unfold keyOk at this
    simp only [Bool.and_eq_true, decide_eq_true_eq, Bool.or_eq_true] at this
    rcases this.2 with h2 | h2
    · omega
    · exact h2
theorem fine_of_lies : ∀ (d : Nat) (n : Nat) (w : World) (V : Val) (v : Value), Lies n w V v → okT d V = true → Fine tok d V := by
  intro d
  induction d with
  | zero => intro n w V v _ h; cases h
  | succ d ih =>
    intro n w V v hl h
    obtain ⟨oL, oK, cL, cK, c, rfl, O⟩ := hl.inv
    rw [okT, Bool.and_eq_true] at h
    obtain ⟨h1, h2⟩ := h
    rw [List.all_eq_true] at h2
    have he : ∀ y, y ∈ V.l → Fine tok d y := fun y hy => by
      obtain ⟨j, hj⟩ := List.mem_iff_getElem?.1 hy
      exact ih n w y _ (O.el j y hj) (h2 y hy)
    obtain ⟨f0, f1, f2, f3, f4, f5, f6, f7, f8, f9, f10⟩ := ok1_facts h1
    have wi := O.wi
    simp [Lit.wf, IntKind.min, IntKind.max, IntKind.signed, IntKind.bits] at wi
    clear O hl h1 h2
    cases V with
    | mk k i s l ks tk to' x =>
      simp only [Val.k, Val.i, Val.s, Val.l, Val.ks, Val.tk, Val.to] at *
      have nl : l.length = 0 → l = [] := fun h => List.length_eq_zero_iff.1 h
      have nk : ks.length = 0 → ks = [] := fun h => List.length_eq_zero_iff.1 h
      have kc : k = 0 ∨ k = 1 ∨ k = 2 ∨ k = 3 ∨ k = 4 ∨ k = 5 ∨ k = 6 := by omega
      rcases kc with rfl | rfl | rfl | rfl | rfl | rfl | rfl
      · obtain rfl : i = 0 := by omega
        obtain rfl : s = ⟨#[]⟩ := emp_eq (f3.resolve_left (by omega))
        obtain rfl := nl (by omega)
        obtain rfl := nk (by omega)
        obtain ⟨rfl, rfl⟩ : tk = 0 ∧ to' = 0 := by omega
        exact .null d x
      · obtain rfl : s = ⟨#[]⟩ := emp_eq (f3.resolve_left (by omega))
        obtain rfl := nl (by omega)
        obtain rfl := nk (by omega)
        obtain ⟨rfl, rfl⟩ : tk = 0 ∧ to' = 0 := by omega
        exact .bool d i x (f2 rfl)
      · obtain rfl : s = ⟨#[]⟩ := emp_eq (f3.resolve_left (by omega))
        obtain rfl := nl (by omega)
        obtain rfl := nk (by omega)
        obtain ⟨rfl, rfl⟩ : tk = 0 ∧ to' = 0 := by omega
        exact .int d i x (by omega)
      · obtain rfl : i = 0 := by omega
        obtain rfl := nl (by omega)
        obtain rfl := nk (by omega)
        obtain ⟨rfl, rfl⟩ : tk = 0 ∧ to' = 0 := by omega
        exact .str d s x f4
      · obtain rfl : i = 0 := by omega
        obtain rfl : s = ⟨#[]⟩ := emp_eq (f3.resolve_left (by omega))
        obtain rfl := nk (by omega)
        obtain ⟨rfl, rfl⟩ : tk = 0 ∧ to' = 0 := by omega
        exact .list d l x f8 he
      · obtain rfl : i = 0 := by omega
        obtain rfl : s = ⟨#[]⟩ := emp_eq (f3.resolve_left (by omega))
        obtain ⟨rfl, rfl⟩ : tk = 0 ∧ to' = 0 := by omega
        obtain ⟨g1, g2⟩ := f10 rfl
        exact .map d l ks x g1 f8 (keys_facts g2).1 (keys_facts g2).2 he
      · obtain rfl : i = 0 := by omega
        obtain rfl : s = ⟨#[]⟩ := emp_eq (f3.resolve_left (by omega))
        obtain rfl := nl (by omega)
        obtain rfl := nk (by omega)
        have ho := f6 rfl
        have ho2 := ho
        unfold okB at ho2
        simp only [decide_eq_true_eq] at ho2
        obtain ⟨a, rfl⟩ : ∃ a : Nat, tk = a := ⟨tk.toNat, by omega⟩
        obtain ⟨b, rfl⟩ : ∃ b : Nat, to' = b := ⟨to'.toNat, by omega⟩
        exact .unk d a b x ho (by omega)
theorem sb_bytes (s : ByteArray) : ∀ c, c ∈ sb s → c < 256 := fun c hc => by
  obtain ⟨u, _, rfl⟩ := List.mem_map.1 hc
  exact u.toNat_lt
theorem encE_bytes (m : Bool) (ks : List ByteArray) : ∀ (F : List (List Nat)) (j : Nat), (∀ f, f ∈ F → ∀ c, c ∈ f → c < 256) → ∀ c, c ∈ encE m ks F j → c < 256
  | [], _, _, c, hc => by cases hc
  | f :: r, j, h, c, hc => by
    rw [encE] at hc
    rcases List.mem_append.1 hc with hc | hc
    · rcases List.mem_append.1 hc with hc | hc
      · cases m with
        | false => cases hc
        | true =>
          rcases List.mem_append.1 hc with hc | hc
          · exact shrt_bytes _ c hc
          · exact sb_bytes _ c hc
      · exact h f (by simp) c hc
    · exact encE_bytes m ks r (j + 1) (fun f hf => h f (by simp [hf])) c hc
theorem shrt_lenk : ∀ (k n : Nat), n < 128 ^ (k + 1) → (shrt n).length ≤ k + 1 := by
  intro k
  induction k with
  | zero => intro n h; rw [shrt_small (by omega)]; simp
  | succ k ih =>
    intro n h
    by_cases h1 : n < 128
    · rw [shrt_small h1]; simp
    · rw [shrt_big h1, List.length_cons]
      have := ih (n / 128) (by rw [Nat.pow_succ] at h; omega)
      omega
theorem shrt_ten {n : Nat} (h : n < 2 ^ 64) : (shrt n).length ≤ 10 := shrt_lenk 9 n (Nat.lt_of_lt_of_le h (by decide))
theorem encE_len (m : Bool) (ks : List ByteArray) (hk : ∀ j, (kk ks j).size ≤ 1024) : ∀ (F : List (List Nat)) (j : Nat), (encE m ks F j).length ≤ (if m then 1034 * F.length else 0) + (F.map List.length).sum
  | [], _ => by simp [encE]
  | f :: r, j => by
    have h1 := encE_len m ks hk r (j + 1)
    have h2 := hk j
    have h3 := shrt_ten (n := (kk ks j).size) (by omega)
    rw [encE, List.length_append, List.length_append, List.map_cons, List.sum_cons]
    cases m with
    | false => simp at h1 ⊢; omega
    | true => simp [sb_len] at h1 ⊢; omega
theorem kk_small {ks : List ByteArray} (h : ∀ j, j < ks.length → (kk ks j).size ≤ 1024) (j : Nat) : (kk ks j).size ≤ 1024 := by
  by_cases hj : j < ks.length
  · exact h j hj
  · unfold kk
    rw [List.getD_eq_getElem?_getD, List.getElem?_eq_none (by omega)]
    show (default : ByteArray).size ≤ 1024
    decide
theorem sum_len {l : List Val} (h : ∀ y, y ∈ l → (enc y).length ≤ 1100 * sz y) : ((l.map enc).map List.length).sum ≤ 1100 * szL l := by
  induction l with
  | nil => simp [szL]
  | cons a r ih =>
    have h1 := h a (by simp)
    have h2 := ih fun y hy => h y (by simp [hy])
    rw [szL]; simp only [List.map_cons, List.sum_cons]; omega
theorem enc_facts : ∀ (d : Nat) (V : Val), Fine tok d V → (∀ c, c ∈ enc V → c < 256) ∧ (enc V).length ≤ 1100 * sz V := by
  intro d
  induction d with
  | zero => intro V h; cases h
  | succ d ih =>
    intro V h
    rw [enc_eq]
    cases h with
    | null _ x =>
      refine ⟨fun c hc => ?_, ?_⟩
      · cases x <;> simp [Val.k, Val.x] at hc <;> omega
      · simp [Val.k, sz]; omega
    | bool _ i x h =>
      refine ⟨fun c hc => ?_, ?_⟩
      · cases x <;> simp [Val.k, Val.x, Val.i] at hc <;> omega
      · simp [Val.k, sz]; omega
    | int _ i x h =>
      have h2 := shrt_ten (zg_lt h.1 h.2)
      refine ⟨fun c hc => ?_, ?_⟩
      · simp only [Val.k, Val.x, Val.i] at hc
        rcases List.mem_cons.1 hc with rfl | hc
        · cases x <;> simp
        · exact shrt_bytes _ c (by simpa using hc)
      · simp [Val.k, Val.i, sz]; omega
    | str _ s x h =>
      have h2 := shrt_ten (n := s.size) (by omega)
      refine ⟨fun c hc => ?_, ?_⟩
      · simp only [Val.k, Val.x, Val.s] at hc
        rcases List.mem_cons.1 hc with rfl | hc
        · cases x <;> simp
        · have hc2 : c ∈ shrt s.size ++ sb s := by simpa using hc
          rcases List.mem_append.1 hc2 with hc | hc
          · exact shrt_bytes _ c hc
          · exact sb_bytes _ c hc
      · simp [Val.k, Val.s, sz, sb_len]; omega
    | unk _ a b x h hb =>
      have h2 := h
      unfold tok okB at h2
      simp only [decide_eq_true_eq] at h2
      refine ⟨fun c hc => ?_, ?_⟩
      · simp only [Val.k, Val.x, Val.tk, Val.to] at hc
        rcases List.mem_cons.1 hc with rfl | hc
        · cases x <;> simp
        · simp at hc; omega
      · simp [Val.k, sz]; omega
    | list _ l x h he =>
      have h2 := shrt_ten (n := l.length) (by omega)
      refine ⟨fun c hc => ?_, ?_⟩
      · simp only [Val.k, Val.x, Val.l, Val.ks] at hc
        rcases List.mem_cons.1 hc with rfl | hc
        · cases x <;> simp
        · have hc2 : c ∈ shrt l.length ++ encE false [] (l.map enc) 0 := by simpa using hc
          rcases List.mem_append.1 hc2 with hc | hc
          · exact shrt_bytes _ c hc
          · refine encE_bytes _ _ _ _ (fun f hf => ?_) c hc
            obtain ⟨y, hy, rfl⟩ := List.mem_map.1 hf
            exact (ih y (he y hy)).1
      · have h3 := encE_len false [] (fun j => kk_small (fun j hj => by simp at hj) j) (l.map enc) 0
        have h4 := sum_len fun y hy => (ih y (he y hy)).2
        simp [Val.k, Val.l, Val.ks, sz] at h3 ⊢
        simp at h4
        omega
    | map _ l ks x hk h hs hr he =>
      have h2 := shrt_ten (n := l.length) (by omega)
      refine ⟨fun c hc => ?_, ?_⟩
      · simp only [Val.k, Val.x, Val.l, Val.ks] at hc
        rcases List.mem_cons.1 hc with rfl | hc
        · cases x <;> simp
        · have hc2 : c ∈ shrt l.length ++ encE true ks (l.map enc) 0 := by simpa using hc
          rcases List.mem_append.1 hc2 with hc | hc
          · exact shrt_bytes _ c hc
          · refine encE_bytes _ _ _ _ (fun f hf => ?_) c hc
            obtain ⟨y, hy, rfl⟩ := List.mem_map.1 hf
            exact (ih y (he y hy)).1
      · have h3 := encE_len true ks (kk_small hs) (l.map enc) 0
        have h4 := sum_len fun y hy => (ih y (he y hy)).2
        simp [Val.k, Val.l, Val.ks, sz] at h3 ⊢
        simp at h4
        omega
/-- the one begins with the other just if both are one -/
theorem starts_iff {d : Nat} {V W : Val} (hV : Fine tok d V) (hW : Fine tok d W) : ((enc V).length ≤ (enc W).length ∧ enc V = (enc W).take (enc V).length) ↔ V = W := by
  constructor
  · rintro ⟨_, h2⟩
    refine enc_apart (r := (enc W).drop (enc V).length) hV hW rfl ?_
    conv => lhs; rw [← List.take_append_drop (enc V).length (enc W), ← h2]
  · rintro rfl
    exact ⟨Nat.le_refl _, by rw [List.take_length]⟩
end Go.Proofs.Ytpmdkekjoocplaa
