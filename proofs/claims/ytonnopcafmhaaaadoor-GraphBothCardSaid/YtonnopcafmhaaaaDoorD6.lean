/- Rows of rows of the call's own. -/
import Derived.Test.YtonnopcafmhaaaaDoorD4
import Derived.Test.YtonnopcafmhaaaaDoorD5
import Derived.Laws.AppendOwnNone
namespace Go.Proofs.YtonnopcafmhaaaaDoor
open Go.RowKit

theorem grown_refl (w : World) (row : Option Nat) : w.grownBy w row := ⟨rfl, rfl, rfl, Nat.le_refl _, fun _ _ _ => rfl⟩
/-- a row that was answered, behind a row of the call's own -/
theorem wpList_append_is {w : World} {ops : Array Oper} {rest : List Oper} {o : Oper} {a : Act} {Q : Exit → Act → World → Prop} (hgd : o.guard = none) (s x : Operand)
    (ho : o.op = .call { callee := .builtin .append, args := #[s, x], argTypes := #[23, 23] }) (base B2 : Nat) (v vx : Value) (n : Nat) (xs : List Value) (L : List Int)
    (hs : a.eval s = v) (hown : w.ownsRow base 3 1 v n xs) (hx : a.eval x = vx) (his : Is w B2 vx L) (hlen : n + L.length ≤ 1000000) (hbase : base ≤ w.heap.size)
    (h : ∀ v' w', w'.ownsRow base 3 1 v' (n + L.length) (xs ++ iv L) → w.grownBy w' v.ownBlock → wpList Tryd.prog ops Q rest (a.put o.dst v') w') : wpList Tryd.prog ops Q (o :: rest) a w := by
  obtain ⟨i3, hi3, hz0, hz1, hz2⟩ := info_parts info3
  obtain ⟨sp, cap, rfl, h1, h2, h3, h4, h5⟩ := his
  cases sp with
  | none =>
    have hc := h4 rfl
    have hl : L = [] := List.length_eq_zero_iff.1 (by omega)
    subst hl
    rw [hc] at hx
    refine wpList_append_own_none hgd s x 23 ho base 3 i3 1 Tryd.underlying23 hi3 v n xs hs hown hx ?_
    exact h v w (by show w.ownsRow base 3 1 v (n + 0) (xs ++ iv []); rw [Nat.add_zero]; show w.ownsRow base 3 1 v n (xs ++ []); rw [List.append_nil]; exact hown) (grown_refl w _)
  | some ad =>
    refine wpList_append_own w hgd s x 23 ho base 3 i3 (.int .i64 0) 1 8 Tryd.underlying23 hi3 hz0 hz1 hz2 rfl (by decide) v n xs hs hown ad L.length cap (iv L) hx (by unfold iv; rw [List.length_map, Nat.mul_one]) (fun j u hu => ?_) (fun u hu => ?_) (by unfold maxLen; omega) (by omega) hbase fun v' w' a b _ => h v' w' a b
    · unfold iv at hu
      rw [List.getElem?_map] at hu
      have hj : j < L.length := by
        apply Classical.byContradiction
        intro hj
        rw [List.getElem?_eq_none (by omega)] at hu
        cases hu
      obtain ⟨k, f, e, _, hc⟩ := h3 j hj
      injection e with e
      subst e
      have ea : (⟨k, f, none⟩ : Addr).add j = ⟨k, f + j, none⟩ := by unfold Addr.add; split <;> simp_all
      rw [ea, hc, ← hu, List.getElem?_eq_getElem hj, List.getD_eq_getElem?_getD, List.getElem?_eq_getElem hj]; rfl
    · unfold iv at hu
      obtain ⟨z, _, rfl⟩ := List.mem_map.1 hu
      rfl
def spOf : Value → Option Addr | .slice a _ _ => a | _ => none
def capOf : Value → Nat | .slice _ _ c => c | _ => 0
/-- rows so far, each of the call's own -/
def RA (H : Nat) (w0 : World) (i : Nat) (v : Value) (V : Nat → Value) (Mb : Nat → List Int) (W : World) : Prop :=
  W.ownsRow H 23 1 v i ((List.range i).map V) ∧ (∀ j, j < i → W.ownsRow H 3 1 (V j) (Mb j).length (iv (Mb j))) ∧ Below H w0 W
theorem own_ne {w : World} {B B' : Nat} {T T' : TypeId} {v v' : Value} {n n' b : Nat} {xs xs' : List Value} (h : w.ownsRow B T 1 v n xs) (h' : w.ownsRow B' T' 1 v' n' xs') (hT : T ≠ T') (hb : v.ownBlock = some b) : v'.ownBlock ≠ some b := fun e => by
  obtain ⟨-, ⟨rfl, -⟩ | ⟨g, cap, cur, rfl, -, h4, -⟩⟩ := h
  · cases hb
  · obtain ⟨-, ⟨rfl, -⟩ | ⟨g', cap', cur', rfl, -, h4', -⟩⟩ := h'
    · cases e
    · have e1 : g = b := Option.some.inj hb
      have e2 : g' = b := Option.some.inj e
      subst e1
      subst e2
      rw [h4] at h4'
      injection h4' with h5
      injection h5 with _ h5 _
      exact hT h5
theorem owns_grown {w w' : World} {B : Nat} {T : TypeId} {v : Value} {n : Nat} {xs : List Value} {row : Option Nat} (h : w.ownsRow B T 1 v n xs) (g : w.grownBy w' row) (hne : ∀ b, v.ownBlock = some b → row ≠ some b) : w'.ownsRow B T 1 v n xs := by
  obtain ⟨h1, h2 | ⟨k, cap, cur, e, h3, h4, h5⟩⟩ := h
  · exact ⟨h1, .inl h2⟩
  · refine ⟨h1, .inr ⟨k, cap, cur, e, h3, (g.block k (Array.getElem?_eq_some_iff.1 h4).1 fun e2 => ?_).trans h4, h5⟩⟩
    exact hne k (by rw [e]; rfl) e2.symm
section
variable {H i : Nat} {w0 W W' : World} {v v' : Value} {V : Nat → Value} {Mb : Nat → List Int}
theorem RA.keep (h : RA H w0 i v V Mb W) (b : Below W.heap.size W W') (hH : H ≤ W.heap.size) : RA H w0 i v V Mb W' :=
  ⟨owns_below h.1 b, fun j hj => owns_below (h.2.1 j hj) b, h.2.2.trans (b.mono hH)⟩
theorem RA.grow {vr : Value} {Wx : World} (h : RA H w0 i v V Mb W) (hH : H ≤ W.heap.size) (hr : W.ownsRow H 3 1 vr (Mb i).length (iv (Mb i)))
    (hWx : Wx = W.alloc (.cells #[vr] 23)) (o7 : W'.ownsRow H 23 1 v' (i + 1) (((List.range i).map V) ++ [vr])) (g7 : Wx.grownBy W' v.ownBlock) : RA H w0 (i + 1) v' (fun j => if j = i then vr else V j) Mb W' := by
  subst hWx
  have h1 := h.1.alloc (.cells #[vr] 23)
  refine ⟨?_, fun j hj => ?_, (h.2.2.alloc hH _).grown g7 (by simp; omega) (fun k hk => (h1.lt k hk).1)⟩
  · have e : ((List.range (i + 1)).map fun j => if j = i then vr else V j) = ((List.range i).map V) ++ [vr] := by
      rw [List.range_succ, List.map_append]
      congr 1
      · refine List.map_congr_left fun j hj => ?_
        have := List.mem_range.1 hj
        rw [if_neg (by omega)]
      · simp
    show W'.ownsRow H 23 1 v' (i + 1) ((List.range (i + 1)).map fun j => if j = i then vr else V j)
    rw [e]; exact o7
  · by_cases e : j = i
    · subst e
      simp only [if_true]
      have h2 := hr.alloc (.cells #[vr] 23)
      exact owns_grown h2 g7 fun b hb e => own_ne h2 h1 (by decide) hb e
    · simp only [if_neg e]
      have h2 := (h.2.1 j (by omega)).alloc (.cells #[vr] 23)
      exact owns_grown h2 g7 fun b hb e => own_ne h2 h1 (by decide) hb e
theorem RA.pt (h : RA H w0 i v V Mb W) : ∃ sp cap, v = .slice sp i cap ∧ i ≤ cap ∧ cap ≤ maxLen ∧ Pt W sp i (fun j => spOf (V j)) Mb (fun j => capOf (V j)) := by
  obtain ⟨sp, cap, rfl, h1, h2, h3, h4⟩ := owns_form1 h.1
  refine ⟨sp, cap, rfl, h1, h2, fun j hj => ?_, fun j hj => ?_, fun j hj => ?_⟩
  · obtain ⟨g, e, _, h5, h6⟩ := h4 j (V j) (by rw [List.getElem?_map, List.getElem?_range hj]; rfl)
    obtain ⟨s2, c2, e2, _⟩ := owns_form1 (h.2.1 j hj)
    refine ⟨g, 0, e, h5, ?_⟩
    rw [h6, e2]; rfl
  · obtain ⟨s2, c2, e2, -, -, h7, -⟩ := Ow.is (L := Mb j) (h.2.1 j hj)
    rw [e2]; exact h7
  · obtain ⟨s2, c2, e2, h5, h6, -, -⟩ := Ow.is (L := Mb j) (h.2.1 j hj)
    rw [e2]; exact ⟨h5, h6⟩
end
theorem mem_nl2 {L : List Nat} {k : Nat} : (k : Int) ∈ nl L ↔ k ∈ L := by
  unfold nl
  rw [List.mem_map]
  constructor
  · rintro ⟨x, h, e⟩
    have : x = k := by omega
    rwa [← this]
  · exact fun h => ⟨k, h, rfl⟩
theorem rowI_len2 (A : Nat → Nat → Bool) (N : Nat) (i : Int) : (rowI A N i).length ≤ 128 := by
  unfold rowI
  split
  · exact lst_len _ _
  · exact Nat.zero_le _
theorem owns_mono {w : World} {B B' : Nat} {T : TypeId} {v : Value} {n : Nat} {xs : List Value} (h : w.ownsRow B T 1 v n xs) (hB : B' ≤ B) : w.ownsRow B' T 1 v n xs := by
  obtain ⟨h1, h2 | ⟨k, cap, cur, e, h3, h4, h5⟩⟩ := h
  · exact ⟨h1, .inl h2⟩
  · exact ⟨h1, .inr ⟨k, cap, cur, e, by omega, h4, h5⟩⟩
theorem info23 : (Tryd.prog.info? 23).map (fun i => (i.zero, i.size, i.bytes)) = some (some (.slice none 0 0), 1, 24) := by kernel_rfl
/-- what the rows of two graphs, joined, tell -/
theorem both_rows {A A2 : Nat → Nat → Bool} {N : Nat} (hN : N ≤ 128) (h1 : ∀ i k, A i k = true → i < N ∧ k < N) (h2 : ∀ i k, A2 i k = true → i < N ∧ k < N) :
    ahA N N (fun j => rowI A N (j : Int) ++ rowI A2 N (j : Int)) = bothA A A2 := by
  have hm : ∀ (A : Nat → Nat → Bool), (∀ i k, A i k = true → i < N ∧ k < N) → ∀ a, a < N → ∀ k : Nat, (k : Int) ∈ rowI A N (a : Int) ↔ A a k = true := fun A hA a ha k => by
    rw [rowI_lstN hN ha (fun i k h => (hA i k h).2), mem_nl2, mem_lstN]
    exact ⟨fun h => h.2, fun h => ⟨(hA a k h).2, h⟩⟩
  funext a k
  unfold ahA bothA
  by_cases ha : a < N
  · have e : (a < N ∧ a < N ∧ k < N ∧ (k : Int) ∈ rowI A N (a : Int) ++ rowI A2 N (a : Int)) ↔ (A a k || A2 a k) = true := by
      rw [List.mem_append, hm A h1 a ha, hm A2 h2 a ha, Bool.or_eq_true]
      constructor
      · rintro ⟨_, _, _, h⟩; exact h
      · rintro (h | h)
        · exact ⟨ha, ha, (h1 a k h).2, .inl h⟩
        · exact ⟨ha, ha, (h2 a k h).2, .inr h⟩
    by_cases hq : (A a k || A2 a k) = true
    · rw [hq]; exact decide_eq_true (e.2 hq)
    · rw [Bool.not_eq_true] at hq
      rw [hq]; exact decide_eq_false fun h => by rw [e.1 h] at hq; cases hq
  · rw [decide_eq_false fun h => ha h.1]
    cases hb : A a k with
    | true => exact absurd (h1 a k hb).1 ha
    | false =>
      cases hc : A2 a k with
      | true => exact absurd (h2 a k hc).1 ha
      | false => rfl
theorem clamp_nat {N : Nat} (h : N ≤ 128) : clamp (N : Int) = N := by unfold clamp; omega
end Go.Proofs.YtonnopcafmhaaaaDoor
