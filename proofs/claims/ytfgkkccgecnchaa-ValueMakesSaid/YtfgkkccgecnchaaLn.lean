/- Who refine each other are the same; what refines something known is it: the mathematics. -/
import Derived.Test.YtfgkkccgecnchaaLm
namespace Go.Proofs.Ytfgkkccgecnchaa

theorem okT_ok {m : Nat} {V : Val} (h : okT m V = true) : ok1 V = true ∧ ∀ x, x ∈ V.l → ∃ m', okT m' x = true := by
  cases m with
  | zero => cases h
  | succ m =>
    rw [okT, Bool.and_eq_true, List.all_eq_true] at h
    exact ⟨h.1, fun x hx => ⟨m, h.2 x hx⟩⟩
theorem empty_eq {a b : ByteArray} (ha : a.toList.isEmpty = true) (hb : b.toList.isEmpty = true) : a = b :=
  toList_inj (by rw [List.isEmpty_iff.1 ha, List.isEmpty_iff.1 hb])
theorem ok1_zero {V : Val} (h : ok1 V = true) : (V.k ≠ 1 → V.k ≠ 2 → V.i = 0) ∧ (V.k ≠ 6 → V.tk = 0 ∧ V.to = 0) ∧ (V.k ≠ 4 → V.k ≠ 5 → V.l = []) ∧ (V.k ≠ 5 → V.ks = []) ∧ (V.k ≠ 3 → V.s.toList.isEmpty = true) := by
  obtain ⟨_, f1, _, f3, _, f5, _, f7, _, f9, _⟩ := ok1_facts h
  refine ⟨fun a b => ?_, fun a => f5.resolve_left a, fun a b => ?_, fun a => List.length_eq_zero_iff.1 (f9.resolve_left a), fun a => f3.resolve_left a⟩
  · exact (f1.resolve_left a).resolve_left b
  · exact List.length_eq_zero_iff.1 ((f7.resolve_left a).resolve_left b)
/-- two values that may be are alike, if they are of one kind, and what that names is -/
theorem like_mk {A B : Val} (ha : ok1 A = true) (hb : ok1 B = true) (hk : A.k = B.k) (h : A.k = 0 ∨ ((A.k = 1 ∨ A.k = 2) ∧ A.i = B.i) ∨ (A.k = 3 ∧ A.s = B.s) ∨ (A.k = 5 ∧ A.ks = B.ks ∧ eqL likeV A.l B.l = true) ∨ (A.k = 4 ∧ eqL likeV A.l B.l = true) ∨ (A.k = 6 ∧ A.tk = B.tk ∧ A.to = B.to)) : likeV A B = true := by
  obtain ⟨a1, a2, a3, a4, a5⟩ := ok1_zero ha
  obtain ⟨b1, b2, b3, b4, b5⟩ := ok1_zero hb
  rw [← hk] at b1 b2 b3 b4 b5
  have nI : A.k ≠ 1 → A.k ≠ 2 → A.i = B.i := fun x y => by rw [a1 x y, b1 x y]
  have nT : A.k ≠ 6 → A.tk = B.tk ∧ A.to = B.to := fun x => by rw [(a2 x).1, (a2 x).2, (b2 x).1, (b2 x).2]; exact ⟨rfl, rfl⟩
  have nL : A.k ≠ 4 → A.k ≠ 5 → eqL likeV A.l B.l = true := fun x y => by rw [a3 x y, b3 x y]; rfl
  have nK : A.k ≠ 5 → A.ks = B.ks := fun x => by rw [a4 x, b4 x]
  have nS : A.k ≠ 3 → A.s = B.s := fun x => empty_eq (a5 x) (b5 x)
  clear a1 a2 a3 a4 a5 b1 b2 b3 b4 b5 ha hb
  have key : A.i = B.i → A.s = B.s → A.tk = B.tk ∧ A.to = B.to → A.ks = B.ks → eqL likeV A.l B.l = true → likeV A B = true := fun a b c e f => by
    rw [likeV_eq, f, Bool.and_true]
    unfold ownB eqK
    rw [hk, a, b, c.1, c.2, e]; simp
  rcases h with h | ⟨h, e⟩ | ⟨h, e⟩ | ⟨h, e, f⟩ | ⟨h, f⟩ | ⟨h, e, f⟩
  · exact key (nI (by omega) (by omega)) (nS (by omega)) (nT (by omega)) (nK (by omega)) (nL (by omega) (by omega))
  · exact key e (nS (by omega)) (nT (by omega)) (nK (by omega)) (nL (by omega) (by omega))
  · exact key (nI (by omega) (by omega)) e (nT (by omega)) (nK (by omega)) (nL (by omega) (by omega))
  · exact key (nI (by omega) (by omega)) (nS (by omega)) (nT (by omega)) e f
  · exact key (nI (by omega) (by omega)) (nS (by omega)) (nT (by omega)) (nK (by omega)) f
  · exact key (nI (by omega) (by omega)) (nS (by omega)) ⟨e, f⟩ (nK (by omega)) (nL (by omega) (by omega))
theorem keysH_ok {V : Val} (h : ok1 V = true) (h5 : V.k = 5) : keysH V = V.ks := by
  obtain ⟨f0, f1, f2, f3, f4, f5, f6, f7, f8, f9, f10⟩ := ok1_facts h
  have := f10 h5
  unfold keysH cntK cnt
  rw [if_pos h5, if_neg (by omega), if_pos h5, List.take_of_length_le (by omega)]
/-- what refines something known is it -/
theorem ref_known (A : Val) : ∀ (B : Val) (m m' : Nat), okT m A = true → okT m' B = true → refV A B = true → known B = true → likeV A B = true := by
  induction A using val_ind with
  | h A ih =>
    intro B m m' hA hB hr hn
    obtain ⟨oA, cA⟩ := okT_ok hA
    obtain ⟨oB, cB⟩ := okT_ok hB
    rw [known_eq, Bool.and_eq_true] at hn
    have b6 : B.k ≠ 6 := by simpa using hn.1
    have eA := ok1_els oA
    have eB := ok1_els oB
    rw [eB] at hn
    obtain ⟨hk, hc⟩ := ref_cases hr b6
    have hl : eqL refV (els A) (els B) = true → eqL likeV A.l B.l = true := fun e => by
      rw [eA, eB] at e
      obtain ⟨e1, e2⟩ := eqL_iff.1 e
      refine eqL_iff.2 ⟨e1, fun j X Y hX hY => ?_⟩
      obtain ⟨mx, hx⟩ := cA X (List.mem_of_getElem? hX)
      obtain ⟨my, hy⟩ := cB Y (List.mem_of_getElem? hY)
      exact ih X (List.mem_of_getElem? hX) Y mx my hx hy (e2 j X Y hX hY) (List.all_eq_true.1 hn.2 Y (List.mem_of_getElem? hY))
    refine like_mk oA oB hk ?_
    rcases hc with r | r | r | ⟨r, e, f⟩ | ⟨r, f⟩
    · exact .inl r
    · exact .inr (.inl r)
    · exact .inr (.inr (.inl r))
    · rw [keysH_ok oA r, keysH_ok oB (by omega)] at e
      exact .inr (.inr (.inr (.inl ⟨r, e, hl f⟩)))
    · exact .inr (.inr (.inr (.inr (.inl ⟨r, hl f⟩))))
/-- who refine each other are the same -/
theorem ref_anti (A : Val) : ∀ (B : Val) (m m' : Nat), okT m A = true → okT m' B = true → refV A B = true → refV B A = true → likeV A B = true := by
  induction A using val_ind with
  | h A ih =>
    intro B m m' hA hB hr hr2
    obtain ⟨oA, cA⟩ := okT_ok hA
    obtain ⟨oB, cB⟩ := okT_ok hB
    have eA := ok1_els oA
    have eB := ok1_els oB
    by_cases b6 : B.k = 6
    · have a6 : A.k = 6 := by
        refine Decidable.byContradiction fun a6 => ?_
        have := (ref_cases hr2 a6).1
        omega
      have tA := (ok1_facts oA).2.2.2.2.2.2.1 a6
      have tB := (ok1_facts oB).2.2.2.2.2.2.1 b6
      have e1 : refV A B = fits A B.tk B.to := by rw [refV_eq]; unfold refRaw; rw [if_pos b6]
      have e2 : refV B A = fits B A.tk A.to := by rw [refV_eq]; unfold refRaw; rw [if_pos a6]
      have u : ∀ (X : Val) (k o : Int), X.k = 6 → Typ.okB k o = true → Typ.okB X.tk X.to = true → fits X k o = true → Typ.inB (X.tk, X.to) (k, o) = true := fun X k o x6 hko hx hf => by
        rw [fits_eq] at hf
        by_cases h0 : k = 0
        · have := (Typ.ok_iff k o).1 hko
          unfold Typ.inB Typ.upB
          simp only [hko, hx, Bool.and_eq_true, Bool.or_eq_true, beq_iff_eq, Prod.mk.injEq]
          exact ⟨⟨trivial, trivial⟩, .inr ⟨h0, by omega⟩⟩
        · rw [if_neg h0, if_neg (by omega), if_neg (by omega), if_neg (by omega), if_pos x6] at hf; exact hf
      have i1 := u A B.tk B.to a6 tB tA (e1 ▸ hr)
      have i2 := u B A.tk A.to b6 tA tB (e2 ▸ hr2)
      have e := Typ.in_anti i1 i2
      injection e with ea eb
      exact like_mk oA oB (by omega) (.inr (.inr (.inr (.inr (.inr ⟨a6, ea, eb⟩)))))
    · obtain ⟨hk, hc⟩ := ref_cases hr b6
      obtain ⟨_, hc2⟩ := ref_cases hr2 (by omega)
      have hl : eqL refV (els A) (els B) = true → eqL refV (els B) (els A) = true → eqL likeV A.l B.l = true := fun e e' => by
        rw [eA, eB] at e e'
        obtain ⟨e1, e2⟩ := eqL_iff.1 e
        obtain ⟨e3, e4⟩ := eqL_iff.1 e'
        refine eqL_iff.2 ⟨e1, fun j X Y hX hY => ?_⟩
        obtain ⟨mx, hx⟩ := cA X (List.mem_of_getElem? hX)
        obtain ⟨my, hy⟩ := cB Y (List.mem_of_getElem? hY)
        exact ih X (List.mem_of_getElem? hX) Y mx my hx hy (e2 j X Y hX hY) (e4 j Y X hY hX)
      refine like_mk oA oB hk ?_
      rcases hc with r | r | r | ⟨r, e, f⟩ | ⟨r, f⟩
      · exact .inl r
      · exact .inr (.inl r)
      · exact .inr (.inr (.inl r))
      · have f2 : eqL refV (els B) (els A) = true := by
          rcases hc2 with s | ⟨s, _⟩ | ⟨s, _⟩ | ⟨s, _, f'⟩ | ⟨s, f'⟩
          · omega
          · omega
          · omega
          · exact f'
          · exact f'
        rw [keysH_ok oA r, keysH_ok oB (by omega)] at e
        exact .inr (.inr (.inr (.inl ⟨r, e, hl f f2⟩)))
      · have f2 : eqL refV (els B) (els A) = true := by
          rcases hc2 with s | ⟨s, _⟩ | ⟨s, _⟩ | ⟨s, _, f'⟩ | ⟨s, f'⟩
          · omega
          · omega
          · omega
          · exact f'
          · exact f'
        exact .inr (.inr (.inr (.inr (.inl ⟨r, hl f f2⟩))))
end Go.Proofs.Ytfgkkccgecnchaa
