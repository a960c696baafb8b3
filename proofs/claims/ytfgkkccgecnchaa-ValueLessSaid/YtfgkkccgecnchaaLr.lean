/- ValueLess: neither is ahead just where the two are alike; Less. -/
import Derived.Test.YtfgkkccgecnchaaLq
import Derived.Deep.Cut
namespace Go.Proofs.Ytfgkkccgecnchaa
open Go.RowKit

theorem Typ.code_inj {a b : Typ.Ty} (ha : Typ.okB a.1 a.2 = true) (hb : Typ.okB b.1 b.2 = true) (h : Typ.code a = Typ.code b) : a = b :=
  (by decide : ∀ a ∈ Typ.all, ∀ b ∈ Typ.all, Typ.code a = Typ.code b → a = b) a (Typ.ok_mem ha) b (Typ.ok_mem hb) h
theorem own_eq {q i : Int} {s : ByteArray} {t1 t2 : Int} {a : List ByteArray} {q' i' : Int} {s' : ByteArray} {t1' t2' : Int} {b : List ByteArray} (h : ownB q i s t1 t2 a q' i' s' t1' t2' b = true) : q = q' ∧ i = i' ∧ s = s' ∧ t1 = t1' ∧ t2 = t2' ∧ a = b := by
  unfold ownB eqK at h
  simp only [Bool.and_eq_true, decide_eq_true_eq] at h
  exact ⟨h.1.1.1.1.1, h.1.1.1.1.2, h.1.1.1.2, h.1.1.2, h.1.2, h.2⟩
theorem ord_like (A : Val) : ∀ (B : Val) (m m' : Nat), okT m A = true → okT m' B = true → (ord A B = 0 ↔ likeV A B = true) := by
  induction A using val_ind with
  | h A ih =>
    intro B m m' hA hB
    obtain ⟨oA, cA⟩ := okT_ok hA
    obtain ⟨oB, cB⟩ := okT_ok hB
    have eA := ok1_els oA
    have eB := ok1_els oB
    have k0 := (ok1_facts oA).1
    have tA := (ok1_facts oA).2.2.2.2.2.2.1
    have tB := (ok1_facts oB).2.2.2.2.2.2.1
    have lA := (ok1_facts oA).2.2.2.2.2.2.2.2.2.2
    have lB := (ok1_facts oB).2.2.2.2.2.2.2.2.2.2
    rw [ord_eq]
    constructor
    · intro h
      by_cases hk : A.k = B.k
      · rw [if_neg (show ¬ (A.k ≠ B.k) from fun h => h hk)] at h
        refine like_mk oA oB hk ?_
        by_cases h1 : A.k = 1 ∨ A.k = 2
        · rw [if_pos h1] at h; exact .inr (.inl ⟨h1, cmpI_zero.1 h⟩)
        · rw [if_neg h1] at h
          by_cases h3 : A.k = 3
          · rw [if_pos h3] at h; exact .inr (.inr (.inl ⟨h3, cmpS_zero.1 h⟩))
          · rw [if_neg h3] at h
            by_cases h4 : A.k = 4 ∨ A.k = 5
            · rw [if_pos h4] at h
              unfold ordE at h
              rw [ordEls_zero, eA, eB] at h
              obtain ⟨e1, e2, e3⟩ := h
              have hl : eqL likeV A.l B.l = true := eqL_iff.2 ⟨e1, fun j X Y hX hY => by
                obtain ⟨mx, hx⟩ := cA X (List.mem_of_getElem? hX)
                obtain ⟨my, hy⟩ := cB Y (List.mem_of_getElem? hY)
                exact (ih X (List.mem_of_getElem? hX) Y mx my hx hy).1 (e3 j X Y hX hY)⟩
              by_cases h5 : A.k = 5
              · have a := (lA h5).1
                have b := (lB (by omega)).1
                refine .inr (.inr (.inr (.inl ⟨h5, kk_ext (by omega) (fun j hj => ?_), hl⟩)))
                have := e2 (by simp [h5]) j (by omega)
                rw [Nat.zero_add] at this; exact this
              · exact .inr (.inr (.inr (.inr (.inl ⟨by omega, hl⟩))))
            · rw [if_neg h4] at h
              by_cases h6 : A.k = 6
              · rw [if_pos h6] at h
                have e := Typ.code_inj (a := (A.tk, A.to)) (b := (B.tk, B.to)) (tA h6) (tB (by omega)) (cmpI_zero.1 h)
                injection e with e1 e2
                exact .inr (.inr (.inr (.inr (.inr ⟨h6, e1, e2⟩))))
              · exact .inl (by omega)
      · rw [if_pos hk] at h; exact absurd (cmpI_zero.1 h) hk
    · intro h
      rw [likeV_eq, Bool.and_eq_true] at h
      obtain ⟨hk, hi, hs, h1, h2, hks⟩ := own_eq h.1
      obtain ⟨e1, e2⟩ := eqL_iff.1 h.2
      rw [if_neg (show ¬ (A.k ≠ B.k) from fun h => h hk), hi, hs, h1, h2, cmpI_zero.2 rfl, cmpI_zero.2 rfl, cmpS_zero.2 rfl]
      have hE : ordE A B = 0 := by
        unfold ordE
        rw [ordEls_zero, eA, eB]
        refine ⟨e1, fun _ i _ => by rw [hks], fun j X Y hX hY => ?_⟩
        obtain ⟨mx, hx⟩ := cA X (List.mem_of_getElem? hX)
        obtain ⟨my, hy⟩ := cB Y (List.mem_of_getElem? hY)
        exact (ih X (List.mem_of_getElem? hX) Y mx my hx hy).2 (e2 j X Y hX hY)
      rw [hE]
      simp
/-- Less -/
theorem less_any {N n : Nat} {A B : Val} {a b : Value} {w : World} (hs : sz A + sz B ≤ N) (ha : Lies n w A a) (hb : Lies n w B b) (hn : n ≤ w.heap.size) : Calls Try.prog 30 #[a, b] w fun e w' => e = .returned (.bool (decide (ord A B < 0))) ∧ Below w.heap.size w w' := by
  obtain ⟨oL, oK, cL, cK, c, rfl, O⟩ := ha.inv
  obtain ⟨oL', oK', cL', cK', c', rfl, O'⟩ := hb.inv
  have HW : Hid (Below w.heap.size w ((w.alloc (bx A oL oK cL cK)).alloc (bx B oL' oK' cL' cK'))) := below22 _ _ _
  have HZ : Hid (((w.alloc (bx A oL oK cL cK)).alloc (bx B oL' oK' cL' cK')).heap.size = w.heap.size + 2) := by simp [Hid]
  have HB := Lib.hid (lie8 w A B oL oK oL' oK' cL cK cL' cK')
  have C : Hid (∀ W, Below w.heap.size w W → Calls Try.prog 57 #[vv A.k A.i A.s (.slice oL A.l.length cL) (.slice oK A.ks.length cK) A.tk A.to A.x, vv B.k B.i B.s (.slice oL' B.l.length cL') (.slice oK' B.ks.length cK') B.tk B.to B.x] W fun e w' => e = .returned (.int .i64 (ord A B)) ∧ Below W.heap.size W w') :=
    fun W bl => ord_any N n A B _ _ W hs (O.lies.kept (bl.mono hn)) (O'.lies.kept (bl.mono hn)) (by have := bl.size; omega)
  clear ha hb O O'
  generalize ord A B = R at *
  go_enter Try.func30, Try.ntmps30
  go_upto_region 1 with fail
  generalize World.alloc (World.alloc w _) _ = w0 at *
  obtain ⟨⟨x8, x0, x1, x2, x3, x4, x5, x6, x7⟩, ⟨y8, y0, y1, y2, y3, y4, y5, y6, y7⟩⟩ := HB.out
  go_wp2_with fail
  refine (C.out _ HW.out).mono ?_
  rintro e w1 ⟨rfl, b1⟩
  have B1 := Lib.hid (HW.out.trans (b1.mono HW.out.size))
  clear b1 x8 x0 x1 x2 x3 x4 x5 x6 x7 y8 y0 y1 y2 y3 y4 y5 y6 y7
  go_wp2_with fail
  go_ret
  exact ⟨rfl, B1.out⟩
end Go.Proofs.Ytfgkkccgecnchaa
