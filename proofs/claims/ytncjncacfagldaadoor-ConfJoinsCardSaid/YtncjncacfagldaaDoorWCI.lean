/- Items in a row of the call's own. -/
import Derived.Test.YtncjncacfagldaaDoorWXN
namespace Go.Proofs.YtncjncacfagldaaDoor
open Go.RowKit

/-- trees in a row of the call's own, that lies from n on -/
def OI (n : Nat) (w : World) (R : Nat) (v : Value) (l : List It) : Prop := ∃ cs : List (Array Value), cs.length = l.length ∧ (∀ (j : Nat) (X : It) (c : Array Value), l[j]? = some X → cs[j]? = some c → IP (fun k => Nu n w R k ∧ v.ownBlock ≠ some k) w X (.agg c)) ∧ (∀ c : Array Value, c ∈ cs → c.size = 22 ∧ ∀ u ∈ c.toList, u.oneCell' = true) ∧ w.ownsRow n 52 22 v l.length (cs.flatMap Array.toList) ∧ v.ownBlock ≠ some R
theorem OI.nil (n : Nat) (w : World) (R : Nat) : OI n w R (.slice none 0 0) [] := ⟨[], rfl, (fun j X c h => by simp at h), (fun c h => by cases h), ⟨rfl, .inl ⟨rfl, rfl⟩⟩, by simp [Value.ownBlock]⟩
theorem OI.fr {n : Nat} {w w' : World} {R : Nat} {v : Value} {l : List It} (h : OI n w R v l) (f : Fm R w w') : OI n w' R v l := by
  obtain ⟨cs, h1, h2, h3, h4, h5⟩ := h
  refine ⟨cs, h1, fun j X c hX hc => (h2 j X c hX hc).keptP fun k hk => ⟨⟨(Nu.fr f k hk.1).1, hk.2⟩, (Nu.fr f k hk.1).2⟩, h3, ?_, h5⟩
  refine ⟨h4.1, ?_⟩
  rcases h4.2 with hn | ⟨g, cap, cur, hv, hbg, hgb, r⟩
  · exact .inl hn
  · refine .inr ⟨g, cap, cur, hv, hbg, (f.block g (Array.getElem?_eq_some_iff.1 hgb).1 (fun e => h5 ?_)).trans hgb, r⟩
    rw [hv]; injection e with e; rw [e]; rfl
theorem info52 : (Tryd.prog.info? 52).map (fun i => (i.zero, i.size, i.bytes)) = some (some (.agg #[.bool false, .string ⟨#[]⟩, .slice none 0 0, .int .i64 0, .string ⟨#[]⟩, .string ⟨#[]⟩, .int .i64 0, .int .i64 0, .string ⟨#[]⟩, .slice none 0 0, .slice none 0 0, .int .i64 0, .int .i64 0, .bool false, .slice none 0 0, .int .i64 0, .int .i64 0, .int .i64 0, .slice none 0 0, .int .i64 0, .int .i64 0, .int .i64 0]), 22, 288) := by kernel_rfl
theorem IP.size {P : Nat → Prop} {w : World} {X : It} {v : Value} (h : IP P w X v) : ∃ c : Array Value, v = .agg c ∧ c.size = 22 ∧ ∀ u ∈ c.toList, u.oneCell' = true := by
  cases h with
  | mk oL oV oK o oI cL cV cK cap cI c hl he hi hx =>
    refine ⟨_, rfl, rfl, fun u hu => ?_⟩
    simp at hu
    rcases hu with rfl | rfl | rfl | rfl | rfl | rfl | rfl | rfl | rfl | rfl | rfl | rfl | rfl | rfl | rfl | rfl | rfl | rfl | rfl | rfl | rfl | rfl <;> rfl
set_option maxRecDepth 100000 in
/-- a tree is laid behind a row of the call's own -/
theorem app_oi {w : World} {ops : Array Oper} {rest : List Oper} {o : Oper} {a : Act} {Q : Exit → Act → World → Prop} (hgd : o.guard = none) (s x : Operand)
    (ho : o.op = .call { callee := .builtin .append, args := #[s, x], argTypes := #[48, 48] }) {n R : Nat} {v : Value} {l : List It} (hs : a.eval s = v) (hx : a.eval x = .slice (some ⟨w.heap.size, 0, none⟩) 1 1)
    (h : OI n w R v l) {X : It} {c : Array Value} {m : Nat} (hX : IP (Nu m w R) w X (.agg c)) (hm : ∀ g, v.ownBlock = some g → g < m) (hnm : n ≤ m) (hn : n ≤ w.heap.size) (hR : R < w.heap.size) (hlen : l.length ≤ 100000)
    (K : ∀ v' w', OI n w' R v' (l ++ [X]) → (w.alloc (.cells c 52)).grownBy w' v.ownBlock → wpList Tryd.prog ops Q rest (a.put o.dst v') w') : wpList Tryd.prog ops Q (o :: rest) a (w.alloc (.cells c 52)) := by
  obtain ⟨i, hi, hz, hs1, hb⟩ := info_parts info52
  obtain ⟨c', hcc, hc22, hc1⟩ := hX.size
  obtain rfl : c' = c := by injection hcc with e; exact e.symm
  obtain ⟨cs, h1, h2, h3, h4, h5⟩ := h
  refine wpList_append_lies (w.alloc (.cells c' 52)) hgd s x 48 ho n 52 i _ 22 288 Tryd.underlying48 hi hz hs1 hb rfl (by omega) v l.length (cs.flatMap Array.toList) hs (h4.alloc _) ⟨w.heap.size, 0, none⟩ 1 1 c'.toList hx (by simp [hc22]) (cells_lit w c' 52) hc1 (by omega) (by unfold maxLen; omega) (by omega) (by simp; omega) _ rfl (fun g cap w' hown hgrow hat hlt => K _ _ ?_ hgrow)
  have hgR : g ≠ R := by
    rcases hat with e | e
    · exact fun e' => h5 (by rw [e, e'])
    · have : (w.alloc (.cells c' 52)).heap.size = w.heap.size + 1 := by simp
      omega
  have old : ∀ k, k < w.heap.size → v.ownBlock ≠ some k → g ≠ k ∧ w'.heap[k]? = w.heap[k]? := fun k hk hv => by
    refine ⟨?_, (hgrow.block k (by simp; omega) (fun e => hv e.symm)).trans (heap_alloc_old w _ hk)⟩
    rcases hat with e | e
    · exact fun e' => hv (by rw [e, e'])
    · have : (w.alloc (.cells c' 52)).heap.size = w.heap.size + 1 := by simp
      omega
  have hsz : w.heap.size ≤ w'.heap.size := by have := hgrow.size; simp at this; omega
  refine ⟨cs ++ [c'], by simp [h1], fun j Y d hY hd => ?_, fun d hd => ?_, ?_, ?_⟩
  · rcases Nat.lt_or_ge j l.length with hj | hj
    · rw [List.getElem?_append_left hj] at hY
      rw [List.getElem?_append_left (by omega)] at hd
      refine (h2 j Y d hY hd).keptP fun k hk => ?_
      have := old k hk.1.2.1 hk.2
      exact ⟨⟨⟨hk.1.1, Nat.lt_of_lt_of_le hk.1.2.1 hsz, hk.1.2.2⟩, fun e => this.1 (by injection e)⟩, this.2⟩
    · rw [List.getElem?_append_right hj] at hY
      rw [List.getElem?_append_right (by omega), h1] at hd
      have hj0 : j - l.length = 0 := by
        have := (List.getElem?_eq_some_iff.1 hY).1
        simp at this; omega
      rw [hj0] at hY hd
      simp at hY hd
      subst hY hd
      refine hX.keptP fun k hk => ?_
      have hvk : v.ownBlock ≠ some k := fun e => by have := hm k e; have := hk.1; omega
      have := old k hk.2.1 hvk
      exact ⟨⟨⟨Nat.le_trans hnm hk.1, Nat.lt_of_lt_of_le hk.2.1 hsz, hk.2.2⟩, fun e => this.1 (by injection e)⟩, this.2⟩
  · rcases List.mem_append.1 hd with hd | hd
    · exact h3 d hd
    · rw [List.mem_singleton] at hd; subst hd; exact ⟨hc22, hc1⟩
  · rw [List.length_append, List.flatMap_append]; simpa using hown
  · exact fun e => hgR (by injection e)
/-- what a row of one's own holds, for a tree -/
theorem oi_row {n : Nat} {w : World} {R : Nat} {v : Value} {l : List It} (h : OI n w R v l) : ∃ o cap d, v = .slice o l.length cap ∧ RowP (Nu n w R) w o cap l.length 22 d ∧ ∀ (j : Nat) (x : It), l[j]? = some x → IP (Nu n w R) w x (.agg #[d j 0, d j 1, d j 2, d j 3, d j 4, d j 5, d j 6, d j 7, d j 8, d j 9, d j 10, d j 11, d j 12, d j 13, d j 14, d j 15, d j 16, d j 17, d j 18, d j 19, d j 20, d j 21]) := by
  obtain ⟨cs, h1, h2, h3, h4, h5⟩ := h
  have hg : ∀ (j m : Nat) (c : Array Value), cs[j]? = some c → m < 22 → (cs.flatMap Array.toList)[j * 22 + m]? = c[m]? := by
    clear h1 h2 h4
    induction cs with
    | nil => intro j m c h; simp at h
    | cons a r ih =>
      have la : a.toList.length = 22 := by simpa using (h3 a (by simp)).1
      intro j m c hj hm
      rw [List.flatMap_cons]
      cases j with
      | zero =>
        simp only [List.getElem?_cons_zero, Option.some.injEq] at hj
        subst hj
        rw [Nat.zero_mul, Nat.zero_add, List.getElem?_append_left (by omega)]
        simp
      | succ j =>
        simp only [List.getElem?_cons_succ] at hj
        rw [List.getElem?_append_right (by omega), la, show (j + 1) * 22 + m - 22 = j * 22 + m by omega]
        exact ih (fun c hc => h3 c (List.mem_cons_of_mem _ hc)) j m c hj hm
  have hval : ∀ (j : Nat) (x : It), l[j]? = some x → ∃ c, cs[j]? = some c ∧ c.size = 22 := fun j x hx => by
    have hj := (List.getElem?_eq_some_iff.1 hx).1
    exact ⟨cs[j]'(by omega), List.getElem?_eq_getElem _, (h3 _ (List.getElem_mem _)).1⟩
  have hel : ∀ (j : Nat) (x : It), l[j]? = some x → IP (Nu n w R) w x (.agg #[((cs[j]?).getD #[])[0]!, ((cs[j]?).getD #[])[1]!, ((cs[j]?).getD #[])[2]!, ((cs[j]?).getD #[])[3]!, ((cs[j]?).getD #[])[4]!, ((cs[j]?).getD #[])[5]!, ((cs[j]?).getD #[])[6]!, ((cs[j]?).getD #[])[7]!, ((cs[j]?).getD #[])[8]!, ((cs[j]?).getD #[])[9]!, ((cs[j]?).getD #[])[10]!, ((cs[j]?).getD #[])[11]!, ((cs[j]?).getD #[])[12]!, ((cs[j]?).getD #[])[13]!, ((cs[j]?).getD #[])[14]!, ((cs[j]?).getD #[])[15]!, ((cs[j]?).getD #[])[16]!, ((cs[j]?).getD #[])[17]!, ((cs[j]?).getD #[])[18]!, ((cs[j]?).getD #[])[19]!, ((cs[j]?).getD #[])[20]!, ((cs[j]?).getD #[])[21]!]) := fun j x hx => by
    obtain ⟨c, hc, hc22⟩ := hval j x hx
    have := (h2 j x c hx hc).mono (P' := Nu n w R) fun k hk => hk.1
    rw [hc]
    simp only [Option.getD_some]
    obtain ⟨cl⟩ := c
    match cl, hc22 with
    | [c0, c1, c2, c3, c4, c5, c6, c7, c8, c9, c10, c11, c12, c13, c14, c15, c16, c17, c18, c19, c20, c21], _ => exact this
  rcases h4.2 with ⟨rfl, h0⟩ | ⟨g, cap, cur, rfl, hbg, hgb, r1, r2, r3, r4⟩
  · have : l = [] := List.eq_nil_of_length_eq_zero h0
    subst this
    exact ⟨none, 0, _, rfl, rowP_nil _ _ _ _, hel⟩
  · refine ⟨some ⟨g, 0, none⟩, cap, _, rfl, ⟨r1, r2, (fun e => by cases e), fun hl => ⟨g, 0, rfl, ⟨hbg, (Array.getElem?_eq_some_iff.1 hgb).1, fun e => h5 (by rw [e]; rfl)⟩, fun j hj m hm => ?_⟩⟩, hel⟩
    obtain ⟨c, hc, hc22⟩ := hval j _ (List.getElem?_eq_getElem hj)
    have e1 := hg j m c hc hm
    have e2 : c[m]? = some (((cs[j]?).getD #[])[m]!) := by
      rw [hc]; simp only [Option.getD_some]
      rw [getElem!_pos c m (by omega)]
      exact Array.getElem?_eq_getElem (by omega)
    rw [e2] at e1
    have := h4.cells (g := g) rfl _ _ e1
    have ea : (⟨g, 0, none⟩ : Addr).add (j * 22 + m) = ⟨g, 0 + j * 22 + m, none⟩ := by
      have : 0 + j * 22 + m = j * 22 + m := by omega
      rw [this]; unfold Addr.add; split <;> simp_all
    rw [ea] at this
    obtain rfl | rfl | rfl | rfl | rfl | rfl | rfl | rfl | rfl | rfl | rfl | rfl | rfl | rfl | rfl | rfl | rfl | rfl | rfl | rfl | rfl | rfl : m = 0 ∨ m = 1 ∨ m = 2 ∨ m = 3 ∨ m = 4 ∨ m = 5 ∨ m = 6 ∨ m = 7 ∨ m = 8 ∨ m = 9 ∨ m = 10 ∨ m = 11 ∨ m = 12 ∨ m = 13 ∨ m = 14 ∨ m = 15 ∨ m = 16 ∨ m = 17 ∨ m = 18 ∨ m = 19 ∨ m = 20 ∨ m = 21 := by omega
    all_goals exact this

end Go.Proofs.YtncjncacfagldaaDoor
