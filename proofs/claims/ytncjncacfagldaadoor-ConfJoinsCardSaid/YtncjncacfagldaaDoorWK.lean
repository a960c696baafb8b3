/- A row of trees of the call's own; putExpr. -/
import Derived.Test.YtncjncacfagldaaDoorWI
import Derived.Deep.AppendLies
import Derived.OwnWalk
namespace Go.Proofs.YtncjncacfagldaaDoor
open Go.RowKit

/-- all that lay below n stays, but the reader's block -/
structure Fn (n R : Nat) (w w' : World) : Prop where
  os : w'.os = w.os
  tape : w'.tape = w.tape
  output : w'.output = w.output
  size : w.heap.size ≤ w'.heap.size
  block : ∀ k, k < n → k ≠ R → w'.heap[k]? = w.heap[k]?
theorem Fn.of {n R : Nat} {w w' : World} (h : Fm R w w') (hn : n ≤ w.heap.size) : Fn n R w w' := ⟨h.os, h.tape, h.output, h.size, fun k hk hR => h.block k (Nat.lt_of_lt_of_le hk hn) (fun e => hR (Option.some.inj e))⟩
theorem Fn.tr {n R : Nat} {a b c : World} (h : Fn n R a b) (k : Fn n R b c) : Fn n R a c := ⟨k.os.trans h.os, k.tape.trans h.tape, k.output.trans h.output, Nat.le_trans h.size k.size, fun i hi hn => (k.block i hi hn).trans (h.block i hi hn)⟩
theorem Fn.fm {R : Nat} {w w' : World} (h : Fn w.heap.size R w w') : Fm R w w' := ⟨h.os, h.tape, h.output, h.size, fun k hk hR => h.block k hk (fun e => hR (by rw [e]))⟩
/-- trees in a row of the call's own, that lies from n on -/
def OE (n : Nat) (w : World) (R : Nat) (v : Value) (l : List Ex) : Prop := ∃ cs : List (Array Value), cs.length = l.length ∧ (∀ (j : Nat) (X : Ex) (c : Array Value), l[j]? = some X → cs[j]? = some c → XP (fun k => Nu n w R k ∧ v.ownBlock ≠ some k) w X (.agg c)) ∧ (∀ c : Array Value, c ∈ cs → c.size = 15 ∧ ∀ u ∈ c.toList, u.oneCell' = true) ∧ w.ownsRow n 33 15 v l.length (cs.flatMap Array.toList) ∧ v.ownBlock ≠ some R
theorem OE.nil (n : Nat) (w : World) (R : Nat) : OE n w R (.slice none 0 0) [] := ⟨[], rfl, (fun j X c h => by simp at h), (fun c h => by cases h), ⟨rfl, .inl ⟨rfl, rfl⟩⟩, by simp [Value.ownBlock]⟩
theorem OE.fr {n : Nat} {w w' : World} {R : Nat} {v : Value} {l : List Ex} (h : OE n w R v l) (f : Fm R w w') : OE n w' R v l := by
  obtain ⟨cs, h1, h2, h3, h4, h5⟩ := h
  refine ⟨cs, h1, fun j X c hX hc => (h2 j X c hX hc).keptP fun k hk => ⟨⟨(Nu.fr f k hk.1).1, hk.2⟩, (Nu.fr f k hk.1).2⟩, h3, ?_, h5⟩
  refine ⟨h4.1, ?_⟩
  rcases h4.2 with hn | ⟨g, cap, cur, hv, hbg, hgb, r⟩
  · exact .inl hn
  · refine .inr ⟨g, cap, cur, hv, hbg, (f.block g (Array.getElem?_eq_some_iff.1 hgb).1 (fun e => h5 ?_)).trans hgb, r⟩
    rw [hv]; injection e with e; rw [e]; rfl
theorem info33 : (Tryd.prog.info? 33).map (fun i => (i.zero, i.size, i.bytes)) = some (some (.agg #[.int .i64 0, .string ⟨#[]⟩, .string ⟨#[]⟩, .int .i64 0, .int .i64 0, .string ⟨#[]⟩, .slice none 0 0, .slice none 0 0, .int .i64 0, .int .i64 0, .bool false, .slice none 0 0, .int .i64 0, .int .i64 0, .int .i64 0]), 15, 192) := by kernel_rfl
theorem XP.size {P : Nat → Prop} {w : World} {X : Ex} {v : Value} (h : XP P w X v) : ∃ c : Array Value, v = .agg c ∧ c.size = 15 ∧ ∀ u ∈ c.toList, u.oneCell' = true := by
  cases h with
  | mk oV oK o cV cK cap c hv hl he =>
    refine ⟨_, rfl, rfl, fun u hu => ?_⟩
    simp at hu
    rcases hu with rfl | rfl | rfl | rfl | rfl | rfl | rfl | rfl | rfl | rfl | rfl | rfl | rfl | rfl | rfl <;> rfl
theorem cells_lit (w : World) (c : Array Value) (t : TypeId) : ∀ j u, c.toList[j]? = some u → (w.alloc (.cells c t)).cell? ((⟨w.heap.size, 0, none⟩ : Addr).add j) = some u := by
  intro j u h
  have ea : (⟨w.heap.size, 0, none⟩ : Addr).add j = ⟨w.heap.size, j, none⟩ := by unfold Addr.add; split <;> simp_all
  rw [ea, cell_of_row _ _ _ _ _ _ (heap_alloc_new w (.cells c t))]
  simpa using h
set_option maxRecDepth 100000 in
/-- a tree is laid behind a row of the call's own -/
theorem app_oe {w : World} {ops : Array Oper} {rest : List Oper} {o : Oper} {a : Act} {Q : Exit → Act → World → Prop} (hgd : o.guard = none) (s x : Operand)
    (ho : o.op = .call { callee := .builtin .append, args := #[s, x], argTypes := #[29, 29] }) {n R : Nat} {v : Value} {l : List Ex} (hs : a.eval s = v) (hx : a.eval x = .slice (some ⟨w.heap.size, 0, none⟩) 1 1)
    (h : OE n w R v l) {X : Ex} {c : Array Value} {m : Nat} (hX : XP (Nu m w R) w X (.agg c)) (hm : ∀ g, v.ownBlock = some g → g < m) (hnm : n ≤ m) (hn : n ≤ w.heap.size) (hR : R < w.heap.size) (hlen : l.length ≤ 100000)
    (K : ∀ v' w', OE n w' R v' (l ++ [X]) → (w.alloc (.cells c 33)).grownBy w' v.ownBlock → wpList Tryd.prog ops Q rest (a.put o.dst v') w') : wpList Tryd.prog ops Q (o :: rest) a (w.alloc (.cells c 33)) := by
  obtain ⟨i, hi, hz, hs1, hb⟩ := info_parts info33
  obtain ⟨c', hcc, hc15, hc1⟩ := hX.size
  obtain rfl : c' = c := by injection hcc with e; exact e.symm
  obtain ⟨cs, h1, h2, h3, h4, h5⟩ := h
  refine wpList_append_lies (w.alloc (.cells c' 33)) hgd s x 29 ho n 33 i _ 15 192 Tryd.underlying29 hi hz hs1 hb rfl (by omega) v l.length (cs.flatMap Array.toList) hs (h4.alloc _) ⟨w.heap.size, 0, none⟩ 1 1 c'.toList hx (by simp [hc15]) (cells_lit w c' 33) hc1 (by omega) (by unfold maxLen; omega) (by omega) (by simp; omega) _ rfl (fun g cap w' hown hgrow hat hlt => K _ _ ?_ hgrow)
  have hgR : g ≠ R := by
    rcases hat with e | e
    · exact fun e' => h5 (by rw [e, e'])
    · have : (w.alloc (.cells c' 33)).heap.size = w.heap.size + 1 := by simp
      omega
  have old : ∀ k, k < w.heap.size → v.ownBlock ≠ some k → g ≠ k ∧ w'.heap[k]? = w.heap[k]? := fun k hk hv => by
    refine ⟨?_, (hgrow.block k (by simp; omega) (fun e => hv e.symm)).trans (heap_alloc_old w _ hk)⟩
    rcases hat with e | e
    · exact fun e' => hv (by rw [e, e'])
    · have : (w.alloc (.cells c' 33)).heap.size = w.heap.size + 1 := by simp
      omega
  have hsz : w.heap.size ≤ w'.heap.size := by have := hgrow.size; simp at this; omega
  refine ⟨cs ++ [c'], by simp [h1], fun j Y d hY hd => ?_, fun d hd => ?_, ?_, ?_⟩
  · rcases Nat.lt_or_ge j l.length with hj | hj
    · rw [List.getElem?_append_left hj] at hY
      rw [List.getElem?_append_left (by omega)] at hd
      refine (h2 j Y d hY hd).keptP fun k hk => ?_
      have := old k hk.1.2.1 hk.2
      exact ⟨⟨⟨hk.1.1, Nat.lt_of_lt_of_le hk.1.2.1 hsz, hk.1.2.2⟩, fun e => this.1 (by injection e)⟩, this.2⟩
    · rw [List.getElem?_append_right hj] at hY
      rw [List.getElem?_append_right (by omega), h1] at hd
      have hj0 : j - l.length = 0 := by
        have := (List.getElem?_eq_some_iff.1 hY).1
        simp at this; omega
      rw [hj0] at hY hd
      simp at hY hd
      subst hY hd
      refine hX.keptP fun k hk => ?_
      have hvk : v.ownBlock ≠ some k := fun e => by have := hm k e; have := hk.1; omega
      have := old k hk.2.1 hvk
      exact ⟨⟨⟨Nat.le_trans hnm hk.1, Nat.lt_of_lt_of_le hk.2.1 hsz, hk.2.2⟩, fun e => this.1 (by injection e)⟩, this.2⟩
  · rcases List.mem_append.1 hd with hd | hd
    · exact h3 d hd
    · rw [List.mem_singleton] at hd; subst hd; exact ⟨hc15, hc1⟩
  · rw [List.length_append, List.flatMap_append]; simpa using hown
  · exact fun e => hgR (by injection e)
/-- what a row of one's own holds, for a tree -/
theorem oe_row {n : Nat} {w : World} {R : Nat} {v : Value} {l : List Ex} (h : OE n w R v l) : ∃ o cap d, v = .slice o l.length cap ∧ RowP (Nu n w R) w o cap l.length 15 d ∧ ∀ (j : Nat) (x : Ex), l[j]? = some x → XP (Nu n w R) w x (.agg #[d j 0, d j 1, d j 2, d j 3, d j 4, d j 5, d j 6, d j 7, d j 8, d j 9, d j 10, d j 11, d j 12, d j 13, d j 14]) := by
  obtain ⟨cs, h1, h2, h3, h4, h5⟩ := h
  have hg : ∀ (j m : Nat) (c : Array Value), cs[j]? = some c → m < 15 → (cs.flatMap Array.toList)[j * 15 + m]? = c[m]? := by
    clear h1 h2 h4
    induction cs with
    | nil => intro j m c h; simp at h
    | cons a r ih =>
      have la : a.toList.length = 15 := by simpa using (h3 a (by simp)).1
      intro j m c hj hm
      rw [List.flatMap_cons]
      cases j with
      | zero =>
        simp only [List.getElem?_cons_zero, Option.some.injEq] at hj
        subst hj
        rw [Nat.zero_mul, Nat.zero_add, List.getElem?_append_left (by omega)]
        simp
      | succ j =>
        simp only [List.getElem?_cons_succ] at hj
        rw [List.getElem?_append_right (by omega), la, show (j + 1) * 15 + m - 15 = j * 15 + m by omega]
        exact ih (fun c hc => h3 c (List.mem_cons_of_mem _ hc)) j m c hj hm
  have hval : ∀ (j : Nat) (x : Ex), l[j]? = some x → ∃ c, cs[j]? = some c ∧ c.size = 15 := fun j x hx => by
    have hj := (List.getElem?_eq_some_iff.1 hx).1
    exact ⟨cs[j]'(by omega), List.getElem?_eq_getElem _, (h3 _ (List.getElem_mem _)).1⟩
  have hel : ∀ (j : Nat) (x : Ex), l[j]? = some x → XP (Nu n w R) w x (.agg #[((cs[j]?).getD #[])[0]!, ((cs[j]?).getD #[])[1]!, ((cs[j]?).getD #[])[2]!, ((cs[j]?).getD #[])[3]!, ((cs[j]?).getD #[])[4]!, ((cs[j]?).getD #[])[5]!, ((cs[j]?).getD #[])[6]!, ((cs[j]?).getD #[])[7]!, ((cs[j]?).getD #[])[8]!, ((cs[j]?).getD #[])[9]!, ((cs[j]?).getD #[])[10]!, ((cs[j]?).getD #[])[11]!, ((cs[j]?).getD #[])[12]!, ((cs[j]?).getD #[])[13]!, ((cs[j]?).getD #[])[14]!]) := fun j x hx => by
    obtain ⟨c, hc, hc15⟩ := hval j x hx
    have := (h2 j x c hx hc).mono (P' := Nu n w R) fun k hk => hk.1
    rw [hc]
    simp only [Option.getD_some]
    obtain ⟨cl⟩ := c
    match cl, hc15 with
    | [c0, c1, c2, c3, c4, c5, c6, c7, c8, c9, c10, c11, c12, c13, c14], _ => exact this
  rcases h4.2 with ⟨rfl, h0⟩ | ⟨g, cap, cur, rfl, hbg, hgb, r1, r2, r3, r4⟩
  · have : l = [] := List.eq_nil_of_length_eq_zero h0
    subst this
    exact ⟨none, 0, _, rfl, rowP_nil _ _ _ _, hel⟩
  · refine ⟨some ⟨g, 0, none⟩, cap, _, rfl, ⟨r1, r2, (fun e => by cases e), fun hl => ⟨g, 0, rfl, ⟨hbg, (Array.getElem?_eq_some_iff.1 hgb).1, fun e => h5 (by rw [e]; rfl)⟩, fun j hj m hm => ?_⟩⟩, hel⟩
    obtain ⟨c, hc, hc15⟩ := hval j _ (List.getElem?_eq_getElem hj)
    have e1 := hg j m c hc hm
    have e2 : c[m]? = some (((cs[j]?).getD #[])[m]!) := by
      rw [hc]; simp only [Option.getD_some]
      rw [getElem!_pos c m (by omega)]
      exact Array.getElem?_eq_getElem (by omega)
    rw [e2] at e1
    have := h4.cells (g := g) rfl _ _ e1
    have ea : (⟨g, 0, none⟩ : Addr).add (j * 15 + m) = ⟨g, 0 + j * 15 + m, none⟩ := by
      have : 0 + j * 15 + m = j * 15 + m := by omega
      rw [this]; unfold Addr.add; split <;> simp_all
    rw [ea] at this
    obtain rfl | rfl | rfl | rfl | rfl | rfl | rfl | rfl | rfl | rfl | rfl | rfl | rfl | rfl | rfl : m = 0 ∨ m = 1 ∨ m = 2 ∨ m = 3 ∨ m = 4 ∨ m = 5 ∨ m = 6 ∨ m = 7 ∨ m = 8 ∨ m = 9 ∨ m = 10 ∨ m = 11 ∨ m = 12 ∨ m = 13 ∨ m = 14 := by omega
    all_goals exact this
end Go.Proofs.YtncjncacfagldaaDoor

/- Contracts: putExpr; what goes on goes on. -/
namespace Go.Proofs.YtncjncacfagldaaDoor
open Go.RowKit

theorem fail_p (Z : Cz) (s : St) (e : Nat) (q : Ps) : (Z.fail s e q).p = Z.acc.length := by unfold Cz.fail; split <;> rfl
theorem stray_p (Z : Cz) (s : St) : (Z.stray s).p = Z.acc.length := fail_p _ _ _ _
theorem wants_p {Z : Cz} {s : St} (h : s.p ≤ Z.acc.length) (k : Nat) (x : List UInt8) : s.p ≤ (Z.wants s k x).p := by
  unfold Cz.wants; split
  · exact Nat.le_succ _
  · rw [stray_p]; exact h
theorem takes_p (Z : Cz) (s : St) (k : Nat) (x : List UInt8) : s.p ≤ (Z.takes s k x).p := by
  unfold Cz.takes; split
  · exact Nat.le_succ _
  · exact Nat.le_refl _
theorem anyName_p {Z : Cz} {s : St} (h : s.p ≤ Z.acc.length) : s.p ≤ (Z.anyName s).2.p := by
  unfold Cz.anyName; split
  · exact Nat.le_succ _
  · show s.p ≤ (Z.stray s).p; rw [stray_p]; exact h
theorem freeName_p {Z : Cz} {s : St} (h : s.p ≤ Z.acc.length) : s.p ≤ (Z.freeName s).2.p := by
  unfold Cz.freeName; split
  · exact Nat.le_trans (by rw [stray_p]; exact h) (anyName_p (by rw [stray_p]; exact Nat.le_refl _))
  · exact anyName_p h
/-- a tree's cells, one by one -/
theorem rc15 {w : World} {b : Nat} {c0 c1 c2 c3 c4 c5 c6 c7 c8 c9 c10 c11 c12 c13 c14 : Value} {t : TypeId} (h : w.heap[b]? = some (.cells #[c0, c1, c2, c3, c4, c5, c6, c7, c8, c9, c10, c11, c12, c13, c14] t (0, 0))) :
    (w.cell? ⟨b, 0, none⟩ = some c0 ∧ w.cell? ⟨b, 1, none⟩ = some c1 ∧ w.cell? ⟨b, 2, none⟩ = some c2 ∧ w.cell? ⟨b, 3, none⟩ = some c3 ∧ w.cell? ⟨b, 4, none⟩ = some c4 ∧ w.cell? ⟨b, 5, none⟩ = some c5 ∧ w.cell? ⟨b, 6, none⟩ = some c6 ∧ w.cell? ⟨b, 7, none⟩ = some c7 ∧ w.cell? ⟨b, 8, none⟩ = some c8 ∧ w.cell? ⟨b, 9, none⟩ = some c9 ∧ w.cell? ⟨b, 10, none⟩ = some c10 ∧ w.cell? ⟨b, 11, none⟩ = some c11 ∧ w.cell? ⟨b, 12, none⟩ = some c12 ∧ w.cell? ⟨b, 13, none⟩ = some c13 ∧ w.cell? ⟨b, 14, none⟩ = some c14) ∧
    (∀ i, w.frozen? ⟨b, i, none⟩ = false) ∧ b < w.heap.size :=
  ⟨⟨cell_of_row w b 0 _ _ _ h, cell_of_row w b 1 _ _ _ h, cell_of_row w b 2 _ _ _ h, cell_of_row w b 3 _ _ _ h, cell_of_row w b 4 _ _ _ h, cell_of_row w b 5 _ _ _ h, cell_of_row w b 6 _ _ _ h, cell_of_row w b 7 _ _ _ h, cell_of_row w b 8 _ _ _ h, cell_of_row w b 9 _ _ _ h, cell_of_row w b 10 _ _ _ h, cell_of_row w b 11 _ _ _ h, cell_of_row w b 12 _ _ _ h, cell_of_row w b 13 _ _ _ h, cell_of_row w b 14 _ _ _ h⟩,
   fun i => frozen_of_row w b i _ _ h, (Array.getElem?_eq_some_iff.1 h).1⟩
/-- trees as an answer -/
def LP (n : Nat) (w : World) (R : Nat) (Z : Cz) (p : Nat) (m : List Ex × St) (e : Ending) (w' : World) : Prop := ∃ v, e = .returned v ∧ OE n w' R v m.1 ∧ Rd w' R Z m.2 ∧ Fn n R w w' ∧ p ≤ m.2.p
theorem OE.own_lt {n : Nat} {w : World} {R : Nat} {v : Value} {l : List Ex} (h : OE n w R v l) : ∀ g, v.ownBlock = some g → g < w.heap.size ∧ n ≤ g := fun g hg => by
  obtain ⟨cs, h1, h2, h3, h4, h5⟩ := h
  exact ⟨(h4.lt g hg).2, (h4.lt g hg).1⟩
theorem OE.own_ne {n : Nat} {w : World} {R : Nat} {v : Value} {l : List Ex} (h : OE n w R v l) : v.ownBlock ≠ some R := by
  obtain ⟨cs, h1, h2, h3, h4, h5⟩ := h
  exact h5
/-- behind an append to a row of the call's own -/
theorem Rd.app {n : Nat} {w w2 : World} {R : Nat} {Z : Cz} {s : St} {v : Value} {l : List Ex} (h : Rd w R Z s) (ho : OE n w R v l) (hn : Z.n0 ≤ n) (hnw : n ≤ w.heap.size) {o : Obj} (hg : (w.alloc o).grownBy w2 v.ownBlock) : Rd w2 R Z s ∧ Fn n R w w2 := by
  have hsz : w.heap.size ≤ w2.heap.size := by have := hg.size; simp at this; omega
  have hb : ∀ k, k < w.heap.size → v.ownBlock ≠ some k → w2.heap[k]? = w.heap[k]? := fun k hk hv => (hg.block k (by simp; omega) (fun e => hv e.symm)).trans (heap_alloc_old w _ hk)
  have hlo : ∀ k, k < n → k < w.heap.size → w2.heap[k]? = w.heap[k]? := fun k hk hkw => hb k hkw fun e => by have := (ho.own_lt k e).2; omega
  refine ⟨⟨(hb R h.lt ho.own_ne).trans h.blk, h.zt.kept fun k hk _ => hlo k (by omega) (Nat.lt_of_lt_of_le hk h.nn), h.sz, h.le, Nat.le_trans h.nn hsz⟩, hg.os, hg.tape, hg.output, hsz, fun k hk _ => ?_⟩
  exact hlo k hk (by omega)
set_option maxRecDepth 100000 in
set_option maxHeartbeats 1000000 in
theorem putExpr_any {n : Nat} {w : World} {R : Nat} {Z : Cz} {p : Nat} {m : Ex × St} {v : Value} {l : List Ex} (hE : Calls Tryd.prog 35 #[.pointer (some ⟨R, 0, none⟩)] w (EP w R Z p m)) (ho : OE n w R v l) (h0 : Z.n0 ≤ n) (hn : n ≤ w.heap.size) (hR : R < w.heap.size) (hl : l.length ≤ 100000) :
    Calls Tryd.prog 74 #[.pointer (some ⟨R, 0, none⟩), v] w (LP n w R Z p (l ++ [m.1], m.2)) := by
  have HE := Lib.hid hE
  have HO := Lib.hid ho
  have HL := Lib.hid (And.intro hn (And.intro hR hl))
  clear hE ho hn hR hl
  go_enter Tryd.func74, Tryd.ntmps74
  go_wp2_with fail
  refine HE.out.mono ?_
  rintro e w1 ⟨b, rfl, hx, hr, hf, hp⟩
  obtain ⟨oV, cV, oK, cK, o, cap, hb, hX, hbR, hnb⟩ := hx
  have H1 := Lib.hid (And.intro hX (And.intro hr (And.intro hf hp)))
  have HO1 := Lib.hid (HO.out.fr hf)
  have hR1 : R < w1.heap.size := Nat.lt_of_lt_of_le HL.out.2.1 hf.size
  have hn1 : n ≤ w1.heap.size := Nat.le_trans HL.out.1 hf.size
  have HS := Lib.hid (And.intro hR1 hn1)
  obtain ⟨⟨c0, c1, c2, c3, c4, c5, c6, c7, c8, c9, c10, c11, c12, c13, c14⟩, -, hbl⟩ := rc15 hb
  clear hX hr hf hp hb HE hR1 hn1
  go_wp2_with (at_builtin; go_must (refine app_oe rfl (.tmp 5) (.tmp 10) rfl (v := v) (l := l) (m := w.heap.size) rfl rfl HO1.out H1.out.1 (fun g hg => (HO.out.own_lt g hg).1) HL.out.1 HS.out.2 HS.out.1 HL.out.2.2 ?_))
  intro v' w2 ho2 hg2
  have H2 := Lib.hid (And.intro ho2 (H1.out.2.1.app HO1.out h0 HS.out.2 hg2))
  clear ho2 hg2
  go_wp2_with fail
  go_ret
  exact ⟨v', rfl, H2.out.1, H2.out.2.1, (Fn.of H1.out.2.2.1 HL.out.1).tr H2.out.2.2, H1.out.2.2.2⟩
end Go.Proofs.YtncjncacfagldaaDoor
