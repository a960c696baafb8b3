import Derived.Test.YtncjncacfagldaaGreatDoorYWI
import Derived.Deep.AppendLies
import Derived.OwnWalk
import Derived.Deep.RegionWith
namespace Go.Proofs.YtncjncacfagldaaGreatDoor
open Go.RowKit

structure Fn (n R : Nat) (w w' : World) : Prop where
 os : w'.os = w.os
 tape : w'.tape = w.tape
 output : w'.output = w.output
 size : w.heap.size ≤ w'.heap.size
 block : ∀ k, k < n → k ≠ R → w'.heap[k]? = w.heap[k]?
theorem Fn.of {n R : Nat} {w w' : World} (h : Fm R w w') (hn : n ≤ w.heap.size) : Fn n R w w' := ⟨h.os, h.tape, h.output, h.size, fun k hk hR => h.block k (Nat.lt_of_lt_of_le hk hn) (fun e => hR (Option.some.inj e))⟩
theorem Fn.tr {n R : Nat} {a b c : World} (h : Fn n R a b) (k : Fn n R b c) : Fn n R a c := ⟨k.os.trans h.os, k.tape.trans h.tape, k.output.trans h.output, Nat.le_trans h.size k.size, fun i hi hn => (k.block i hi hn).trans (h.block i hi hn)⟩
theorem Fn.fm {R : Nat} {w w' : World} (h : Fn w.heap.size R w w') : Fm R w w' := ⟨h.os, h.tape, h.output, h.size, fun k hk hR => h.block k hk (fun e => hR (by rw [e]))⟩
def OE (n : Nat) (w : World) (R : Nat) (v : Value) (l : List Ex) : Prop := ∃ cs : List (Array Value), cs.length = l.length ∧ (∀ (j : Nat) (X : Ex) (c : Array Value), l[j]? = some X → cs[j]? = some c → XP (fun k => Nu n w R k ∧ v.ownBlock ≠ some k) w X (.agg c)) ∧ (∀ c : Array Value, c ∈ cs → c.size = 15 ∧ ∀ u ∈ c.toList, u.oneCell' = true) ∧ w.ownsRow n 38 15 v l.length (cs.flatMap Array.toList) ∧ v.ownBlock ≠ some R
theorem OE.nil (n : Nat) (w : World) (R : Nat) : OE n w R (.slice none 0 0) [] := ⟨[], rfl, (fun j X c h => by simp at h), (fun c h => by cases h), ⟨rfl, .inl ⟨rfl, rfl⟩⟩, by simp [Value.ownBlock]⟩
theorem OE.fr {n : Nat} {w w' : World} {R : Nat} {v : Value} {l : List Ex} (h : OE n w R v l) (f : Fm R w w') : OE n w' R v l := by
 obtain ⟨cs, h1, h2, h3, h4, h5⟩ := h
 refine ⟨cs, h1, fun j X c hX hc => (h2 j X c hX hc).keptP fun k hk => ⟨⟨(Nu.fr f k hk.1).1, hk.2⟩, (Nu.fr f k hk.1).2⟩, h3, ?_, h5⟩
 refine ⟨h4.1, ?_⟩
 rcases h4.2 with hn | ⟨g, cap, cur, hv, hbg, hgb, r⟩
 · exact .inl hn
 · refine .inr ⟨g, cap, cur, hv, hbg, (f.block g (Array.getElem?_eq_some_iff.1 hgb).1 (fun e => h5 ?_)).trans hgb, r⟩
   rw [hv]; injection e with e; rw [e]; rfl
theorem info33 : (Tryz.prog.info? 38).map (fun i => (i.zero, i.size, i.bytes)) = some (some (.agg #[.int .i64 0, .string ⟨#[]⟩, .string ⟨#[]⟩, .int .i64 0, .int .i64 0, .string ⟨#[]⟩, .slice none 0 0, .slice none 0 0, .int .i64 0, .int .i64 0, .bool false, .slice none 0 0, .int .i64 0, .int .i64 0, .int .i64 0]), 15, 192) := by kernel_rfl
theorem XP.size {P : Nat → Prop} {w : World} {X : Ex} {v : Value} (h : XP P w X v) : ∃ c : Array Value, v = .agg c ∧ c.size = 15 ∧ ∀ u ∈ c.toList, u.oneCell' = true := by
 cases h with
 | mk oV oK o cV cK cap c hv hl he =>
   refine ⟨_, rfl, rfl, fun u hu => ?_⟩
   simp at hu
   rcases hu with rfl | rfl | rfl | rfl | rfl | rfl | rfl | rfl | rfl | rfl | rfl | rfl | rfl | rfl | rfl <;> rfl
theorem cells_lit (w : World) (c : Array Value) (t : TypeId) : ∀ j u, c.toList[j]? = some u → (w.alloc (.cells c t)).cell? ((⟨w.heap.size, 0, none⟩ : Addr).add j) = some u := by
 intro j u h
 have ea : (⟨w.heap.size, 0, none⟩ : Addr).add j = ⟨w.heap.size, j, none⟩ := by unfold Addr.add; split <;> simp_all
 rw [ea, cell_of_row _ _ _ _ _ _ (heap_alloc_new w (.cells c t))]
 simpa using h
set_option maxRecDepth 100000 in
theorem app_oe {w : World} {ops : Array Oper} {rest : List Oper} {o : Oper} {a : Act} {Q : Exit → Act → World → Prop} (hgd : o.guard = none) (s x : Operand)
 (ho : o.op = .call { callee := .builtin .append, args := #[s, x], argTypes := #[34, 34] }) {n R : Nat} {v : Value} {l : List Ex} (hs : a.eval s = v) (hx : a.eval x = .slice (some ⟨w.heap.size, 0, none⟩) 1 1)
 (h : OE n w R v l) {X : Ex} {c : Array Value} {m : Nat} (hX : XP (Nu m w R) w X (.agg c)) (hm : ∀ g, v.ownBlock = some g → g < m) (hnm : n ≤ m) (hn : n ≤ w.heap.size) (hR : R < w.heap.size) (hlen : l.length ≤ 100000)
 (K : ∀ v' w', OE n w' R v' (l ++ [X]) → (w.alloc (.cells c 38)).grownBy w' v.ownBlock → wpList Tryz.prog ops Q rest (a.put o.dst v') w') : wpList Tryz.prog ops Q (o :: rest) a (w.alloc (.cells c 38)) := by
 obtain ⟨i, hi, hz, hs1, hb⟩ := info_parts info33
 obtain ⟨c', hcc, hc15, hc1⟩ := hX.size
 obtain rfl : c' = c := by injection hcc with e; exact e.symm
 obtain ⟨cs, h1, h2, h3, h4, h5⟩ := h
 refine wpList_append_lies (w.alloc (.cells c' 38)) hgd s x 34 ho n 38 i _ 15 192 Tryz.underlying34 hi hz hs1 hb rfl (by omega) v l.length (cs.flatMap Array.toList) hs (h4.alloc _) ⟨w.heap.size, 0, none⟩ 1 1 c'.toList hx (by simp [hc15]) (cells_lit w c' 38) hc1 (by omega) (by unfold maxLen; omega) (by omega) (by simp; omega) _ rfl (fun g cap w' hown hgrow hat hlt => K _ _ ?_ hgrow)
 have hgR : g ≠ R := by
  rcases hat with e | e
  · exact fun e' => h5 (by rw [e, e'])
  · have : (w.alloc (.cells c' 38)).heap.size = w.heap.size + 1 := by simp
    omega
 have old : ∀ k, k < w.heap.size → v.ownBlock ≠ some k → g ≠ k ∧ w'.heap[k]? = w.heap[k]? := fun k hk hv => by
  refine ⟨?_, (hgrow.block k (by simp; omega) (fun e => hv e.symm)).trans (heap_alloc_old w _ hk)⟩
  rcases hat with e | e
  · exact fun e' => hv (by rw [e, e'])
  · have : (w.alloc (.cells c' 38)).heap.size = w.heap.size + 1 := by simp
    omega
 have hsz : w.heap.size ≤ w'.heap.size := by have := hgrow.size; simp at this; omega
 refine ⟨cs ++ [c'], by simp [h1], fun j Y d hY hd => ?_, fun d hd => ?_, ?_, ?_⟩
 · rcases Nat.lt_or_ge j l.length with hj | hj
   · rw [List.getElem?_append_left hj] at hY
     rw [List.getElem?_append_left (by omega)] at hd
     refine (h2 j Y d hY hd).keptP fun k hk => ?_
     have := old k hk.1.2.1 hk.2
     exact ⟨⟨⟨hk.1.1, Nat.lt_of_lt_of_le hk.1.2.1 hsz, hk.1.2.2⟩, fun e => this.1 (by injection e)⟩, this.2⟩
   · rw [List.getElem?_append_right hj] at hY
     rw [List.getElem?_append_right (by omega), h1] at hd
     have hj0 : j - l.length = 0 := by
      have := (List.getElem?_eq_some_iff.1 hY).1
      simp at this; omega
     rw [hj0] at hY hd
     simp at hY hd
     subst hY hd
     refine hX.keptP fun k hk => ?_
     have hvk : v.ownBlock ≠ some k := fun e => by have := hm k e; have := hk.1; omega
     have := old k hk.2.1 hvk
     exact ⟨⟨⟨Nat.le_trans hnm hk.1, Nat.lt_of_lt_of_le hk.2.1 hsz, hk.2.2⟩, fun e => this.1 (by injection e)⟩, this.2⟩
 · rcases List.mem_append.1 hd with hd | hd
   · exact h3 d hd
   · rw [List.mem_singleton] at hd; subst hd; exact ⟨hc15, hc1⟩
 · rw [List.length_append, List.flatMap_append]; simpa using hown
 · exact fun e => hgR (by injection e)
theorem oe_row {n : Nat} {w : World} {R : Nat} {v : Value} {l : List Ex} (h : OE n w R v l) : ∃ o cap d, v = .slice o l.length cap ∧ RowP (Nu n w R) w o cap l.length 15 d ∧ ∀ (j : Nat) (x : Ex), l[j]? = some x → XP (Nu n w R) w x (.agg #[d j 0, d j 1, d j 2, d j 3, d j 4, d j 5, d j 6, d j 7, d j 8, d j 9, d j 10, d j 11, d j 12, d j 13, d j 14]) := by
 obtain ⟨cs, h1, h2, h3, h4, h5⟩ := h
 have hg : ∀ (j m : Nat) (c : Array Value), cs[j]? = some c → m < 15 → (cs.flatMap Array.toList)[j * 15 + m]? = c[m]? := by
  clear h1 h2 h4
  induction cs with
  | nil => intro j m c h; simp at h
  | cons a r ih =>
    have la : a.toList.length = 15 := by simpa using (h3 a (by simp)).1
    intro j m c hj hm
    rw [List.flatMap_cons]
    cases j with
    | zero =>
      simp only [List.getElem?_cons_zero, Option.some.injEq] at hj
      subst hj
      rw [Nat.zero_mul, Nat.zero_add, List.getElem?_append_left (by omega)]
      simp
    | succ j =>
      simp only [List.getElem?_cons_succ] at hj
      rw [List.getElem?_append_right (by omega), la, show (j + 1) * 15 + m - 15 = j * 15 + m by omega]
      exact ih (fun c hc => h3 c (List.mem_cons_of_mem _ hc)) j m c hj hm
 have hval : ∀ (j : Nat) (x : Ex), l[j]? = some x → ∃ c, cs[j]? = some c ∧ c.size = 15 := fun j x hx => by
  have hj := (List.getElem?_eq_some_iff.1 hx).1
  exact ⟨cs[j]'(by omega), List.getElem?_eq_getElem _, (h3 _ (List.getElem_mem _)).1⟩
 have hel : ∀ (j : Nat) (x : Ex), l[j]? = some x → XP (Nu n w R) w x (.agg #[((cs[j]?).getD #[])[0]!, ((cs[j]?).getD #[])[1]!, ((cs[j]?).getD #[])[2]!, ((cs[j]?).getD #[])[3]!, ((cs[j]?).getD #[])[4]!, ((cs[j]?).getD #[])[5]!, ((cs[j]?).getD #[])[6]!, ((cs[j]?).getD #[])[7]!, ((cs[j]?).getD #[])[8]!, ((cs[j]?).getD #[])[9]!, ((cs[j]?).getD #[])[10]!, ((cs[j]?).getD #[])[11]!, ((cs[j]?).getD #[])[12]!, ((cs[j]?).getD #[])[13]!, ((cs[j]?).getD #[])[14]!]) := fun j x hx => by
  obtain ⟨c, hc, hc15⟩ := hval j x hx
  have := (h2 j x c hx hc).mono (P' := Nu n w R) fun k hk => hk.1
  rw [hc]
  simp only [Option.getD_some]
  obtain ⟨cl⟩ := c
  match cl, hc15 with
  | [c0, c1, c2, c3, c4, c5, c6, c7, c8, c9, c10, c11, c12, c13, c14], _ => exact this
 rcases h4.2 with ⟨rfl, h0⟩ | ⟨g, cap, cur, rfl, hbg, hgb, r1, r2, r3, r4⟩
 · have : l = [] := List.eq_nil_of_length_eq_zero h0
   subst this
   exact ⟨none, 0, _, rfl, rowP_nil _ _ _ _, hel⟩
 · refine ⟨some ⟨g, 0, none⟩, cap, _, rfl, ⟨r1, r2, (fun e => by cases e), fun hl => ⟨g, 0, rfl, ⟨hbg, (Array.getElem?_eq_some_iff.1 hgb).1, fun e => h5 (by rw [e]; rfl)⟩, fun j hj m hm => ?_⟩⟩, hel⟩
   obtain ⟨c, hc, hc15⟩ := hval j _ (List.getElem?_eq_getElem hj)
   have e1 := hg j m c hc hm
   have e2 : c[m]? = some (((cs[j]?).getD #[])[m]!) := by
    rw [hc]; simp only [Option.getD_some]
    rw [getElem!_pos c m (by omega)]
    exact Array.getElem?_eq_getElem (by omega)
   rw [e2] at e1
   have := h4.cells (g := g) rfl _ _ e1
   have ea : (⟨g, 0, none⟩ : Addr).add (j * 15 + m) = ⟨g, 0 + j * 15 + m, none⟩ := by
    have : 0 + j * 15 + m = j * 15 + m := by omega
    rw [this]; unfold Addr.add; split <;> simp_all
   rw [ea] at this
   obtain rfl | rfl | rfl | rfl | rfl | rfl | rfl | rfl | rfl | rfl | rfl | rfl | rfl | rfl | rfl : m = 0 ∨ m = 1 ∨ m = 2 ∨ m = 3 ∨ m = 4 ∨ m = 5 ∨ m = 6 ∨ m = 7 ∨ m = 8 ∨ m = 9 ∨ m = 10 ∨ m = 11 ∨ m = 12 ∨ m = 13 ∨ m = 14 := by omega
   all_goals exact this
open Go.RowKit

theorem fail_p (Z : Cz) (s : St) (e : Nat) (q : Ps) : (Z.fail s e q).p = Z.acc.length := by unfold Cz.fail; split <;> rfl
theorem stray_p (Z : Cz) (s : St) : (Z.stray s).p = Z.acc.length := fail_p _ _ _ _
theorem wants_p {Z : Cz} {s : St} (h : s.p ≤ Z.acc.length) (k : Nat) (x : List UInt8) : s.p ≤ (Z.wants s k x).p := by
 unfold Cz.wants; split
 · exact Nat.le_succ _
 · rw [stray_p]; exact h
theorem takes_p (Z : Cz) (s : St) (k : Nat) (x : List UInt8) : s.p ≤ (Z.takes s k x).p := by
 unfold Cz.takes; split
 · exact Nat.le_succ _
 · exact Nat.le_refl _
theorem anyName_p {Z : Cz} {s : St} (h : s.p ≤ Z.acc.length) : s.p ≤ (Z.anyName s).2.p := by
 unfold Cz.anyName; split
 · exact Nat.le_succ _
 · show s.p ≤ (Z.stray s).p; rw [stray_p]; exact h
theorem freeName_p {Z : Cz} {s : St} (h : s.p ≤ Z.acc.length) : s.p ≤ (Z.freeName s).2.p := by
 unfold Cz.freeName; split
 · exact Nat.le_trans (by rw [stray_p]; exact h) (anyName_p (by rw [stray_p]; exact Nat.le_refl _))
 · exact anyName_p h
theorem rc15 {w : World} {b : Nat} {c0 c1 c2 c3 c4 c5 c6 c7 c8 c9 c10 c11 c12 c13 c14 : Value} {t : TypeId} (h : w.heap[b]? = some (.cells #[c0, c1, c2, c3, c4, c5, c6, c7, c8, c9, c10, c11, c12, c13, c14] t (0, 0))) :
 (w.cell? ⟨b, 0, none⟩ = some c0 ∧ w.cell? ⟨b, 1, none⟩ = some c1 ∧ w.cell? ⟨b, 2, none⟩ = some c2 ∧ w.cell? ⟨b, 3, none⟩ = some c3 ∧ w.cell? ⟨b, 4, none⟩ = some c4 ∧ w.cell? ⟨b, 5, none⟩ = some c5 ∧ w.cell? ⟨b, 6, none⟩ = some c6 ∧ w.cell? ⟨b, 7, none⟩ = some c7 ∧ w.cell? ⟨b, 8, none⟩ = some c8 ∧ w.cell? ⟨b, 9, none⟩ = some c9 ∧ w.cell? ⟨b, 10, none⟩ = some c10 ∧ w.cell? ⟨b, 11, none⟩ = some c11 ∧ w.cell? ⟨b, 12, none⟩ = some c12 ∧ w.cell? ⟨b, 13, none⟩ = some c13 ∧ w.cell? ⟨b, 14, none⟩ = some c14) ∧
 (∀ i, w.frozen? ⟨b, i, none⟩ = false) ∧ b < w.heap.size :=
 ⟨⟨cell_of_row w b 0 _ _ _ h, cell_of_row w b 1 _ _ _ h, cell_of_row w b 2 _ _ _ h, cell_of_row w b 3 _ _ _ h, cell_of_row w b 4 _ _ _ h, cell_of_row w b 5 _ _ _ h, cell_of_row w b 6 _ _ _ h, cell_of_row w b 7 _ _ _ h, cell_of_row w b 8 _ _ _ h, cell_of_row w b 9 _ _ _ h, cell_of_row w b 10 _ _ _ h, cell_of_row w b 11 _ _ _ h, cell_of_row w b 12 _ _ _ h, cell_of_row w b 13 _ _ _ h, cell_of_row w b 14 _ _ _ h⟩,
  fun i => frozen_of_row w b i _ _ h, (Array.getElem?_eq_some_iff.1 h).1⟩
def LP (n : Nat) (w : World) (R : Nat) (Z : Cz) (p : Nat) (m : List Ex × St) (e : Ending) (w' : World) : Prop := ∃ v, e = .returned v ∧ OE n w' R v m.1 ∧ Rd w' R Z m.2 ∧ Fn n R w w' ∧ p ≤ m.2.p
theorem OE.own_lt {n : Nat} {w : World} {R : Nat} {v : Value} {l : List Ex} (h : OE n w R v l) : ∀ g, v.ownBlock = some g → g < w.heap.size ∧ n ≤ g := fun g hg => by
 obtain ⟨cs, h1, h2, h3, h4, h5⟩ := h
 exact ⟨(h4.lt g hg).2, (h4.lt g hg).1⟩
theorem OE.own_ne {n : Nat} {w : World} {R : Nat} {v : Value} {l : List Ex} (h : OE n w R v l) : v.ownBlock ≠ some R := by
 obtain ⟨cs, h1, h2, h3, h4, h5⟩ := h
 exact h5
theorem Rd.app {n : Nat} {w w2 : World} {R : Nat} {Z : Cz} {s : St} {v : Value} {l : List Ex} (h : Rd w R Z s) (ho : OE n w R v l) (hn : Z.n0 ≤ n) (hnw : n ≤ w.heap.size) {o : Obj} (hg : (w.alloc o).grownBy w2 v.ownBlock) : Rd w2 R Z s ∧ Fn n R w w2 := by
 have hsz : w.heap.size ≤ w2.heap.size := by have := hg.size; simp at this; omega
 have hb : ∀ k, k < w.heap.size → v.ownBlock ≠ some k → w2.heap[k]? = w.heap[k]? := fun k hk hv => (hg.block k (by simp; omega) (fun e => hv e.symm)).trans (heap_alloc_old w _ hk)
 have hlo : ∀ k, k < n → k < w.heap.size → w2.heap[k]? = w.heap[k]? := fun k hk hkw => hb k hkw fun e => by have := (ho.own_lt k e).2; omega
 refine ⟨⟨(hb R h.lt ho.own_ne).trans h.blk, h.zt.kept fun k hk _ => hlo k (by omega) (Nat.lt_of_lt_of_le hk h.nn), h.sz, h.le, Nat.le_trans h.nn hsz⟩, hg.os, hg.tape, hg.output, hsz, fun k hk _ => ?_⟩
 exact hlo k hk (by omega)
set_option maxRecDepth 100000 in
set_option maxHeartbeats 1000000 in
theorem putExpr_any {n : Nat} {w : World} {R : Nat} {Z : Cz} {p : Nat} {m : Ex × St} {v : Value} {l : List Ex} (hE : Calls Tryz.prog 75 #[.pointer (some ⟨R, 0, none⟩)] w (EP w R Z p m)) (ho : OE n w R v l) (h0 : Z.n0 ≤ n) (hn : n ≤ w.heap.size) (hR : R < w.heap.size) (hl : l.length ≤ 100000) :
 Calls Tryz.prog 150 #[.pointer (some ⟨R, 0, none⟩), v] w (LP n w R Z p (l ++ [m.1], m.2)) := by
 have HE := qh hE
 have HO := qh ho
 have HL := qh (And.intro hn (And.intro hR hl))
 clear hE ho hn hR hl
 go_enter Tryz.func150, Tryz.ntmps150
 go_wp2_with fail
 refine HE.out.mono ?_
 rintro e w1 ⟨b, rfl, hx, hr, hf, hp⟩
 obtain ⟨oV, cV, oK, cK, o, cap, hb, hX, hbR, hnb⟩ := hx
 have H1 := qh (And.intro hX (And.intro hr (And.intro hf hp)))
 have HO1 := qh (HO.out.fr hf)
 have hR1 : R < w1.heap.size := Nat.lt_of_lt_of_le HL.out.2.1 hf.size
 have hn1 : n ≤ w1.heap.size := Nat.le_trans HL.out.1 hf.size
 have HS := qh (And.intro hR1 hn1)
 obtain ⟨⟨c0, c1, c2, c3, c4, c5, c6, c7, c8, c9, c10, c11, c12, c13, c14⟩, -, hbl⟩ := rc15 hb
 clear hX hr hf hp hb HE hR1 hn1
 go_wp2_with (at_builtin; go_must (refine app_oe rfl (.tmp 5) (.tmp 10) rfl (v := v) (l := l) (m := w.heap.size) rfl rfl HO1.out H1.out.1 (fun g hg => (HO.out.own_lt g hg).1) HL.out.1 HS.out.2 HS.out.1 HL.out.2.2 ?_))
 intro v' w2 ho2 hg2
 have H2 := qh (And.intro ho2 (H1.out.2.1.app HO1.out h0 HS.out.2 hg2))
 clear ho2 hg2
 go_wp2_with fail
 go_ret
 exact ⟨v', rfl, H2.out.1, H2.out.2.1, (Fn.of H1.out.2.2.1 HL.out.1).tr H2.out.2.2, H1.out.2.2.2⟩
open Go.RowKit

theorem putM_len (C : Cx) (F : Fs) (b : Bool) (l : List Ex) (s : St) : (putM C F b l s).1.length ≤ l.length + 2 := by
 cases b <;> simp [putM, putE, putP]
theorem rowL_succ (C : Cx) (F : Fs) (b : Bool) (x : List UInt8) (k : Nat) (l : List Ex) (s : St) : rowL C F b x (k + 1) l s = if C.is s 4 x then (l, s.pass) else if C.is (putM C F b l s).2 4 [44] then rowL C F b x k (putM C F b l s).1 (putM C F b l s).2.pass else ((putM C F b l s).1, C.wants (putM C F b l s).2 4 x) := rfl
def pAt (R : Nat) (w : World) : Nat := (intOf ((w.cell? ⟨R, 1, none⟩).getD undef)).toNat
theorem pAt_eq {w : World} {R : Nat} {Z : Cz} {s : St} (h : Rd w R Z s) : pAt R w = s.p := by
 unfold pAt
 rw [(rc11 h.blk).1.2.1]
 simp [intOf]
abbrev putF (b : Bool) (R : Nat) : Value := .func (.func (if b then 151 else 150)) #[.pointer (some ⟨R, 0, none⟩)] #[]
def PutOk (b : Bool) (R : Nat) (Z : Cz) (inn : List UInt8 → Ps → Ex × Nat × Ps) (F : Fs) (p : Nat) : Prop :=
 ∀ (n : Nat) (W : World) (s : St) (v : Value) (l : List Ex), Rd W R Z s → p ≤ s.p → OE n W R v l → Z.n0 ≤ n → n ≤ W.heap.size → l.length ≤ 90000 → Calls Tryz.prog (if b then 151 else 150) #[.pointer (some ⟨R, 0, none⟩), v] W (LP n W R Z s.p (putM (Z.cx inn) F b l s))
set_option maxRecDepth 100000 in
set_option maxHeartbeats 2000000 in
theorem row_any {b : Bool} {w : World} {R : Nat} {Z : Cz} {s : St} {inn : List UInt8 → Ps → Ex × Nat × Ps} {F : Fs} (h : Rd w R Z s) (x : List UInt8) (hput : PutOk b R Z inn F s.p) :
 Calls Tryz.prog 149 #[.pointer (some ⟨R, 0, none⟩), .string (tx x), putF b R] w (LP w.heap.size w R Z s.p (rowM (Z.cx inn) F b x s)) := by
 have HP := qh hput
 have H0 := qh h
 have HZ := qh h.sz
 have HM : Hid (rowM (Z.cx inn) F b x s = rowL (Z.cx inn) F b x (Z.acc.length + 1) [] s) := by unfold Hid rowM; rw [Cz.len_eq]
 generalize rowM (Z.cx inn) F b x s = M at *
 clear hput h
 unfold PutOk at HP
 cases b with
 | false =>
   go_enter Tryz.func149, Tryz.ntmps149
   go_wp2_with fail
   go_loopw [7] (fun v wr => ∃ (k : Nat) (l : List Ex) (s' : St), Hid (M = rowL (Z.cx inn) F false x k l s') ∧ Hid (Z.acc.length - s'.p < k) ∧ Hid (OE w.heap.size wr R v l) ∧ Hid (Rd wr R Z s') ∧ Hid (Fn w.heap.size R w wr) ∧ Hid (s.p ≤ s'.p) ∧ Hid (l.length ≤ 2 * s'.p)) (fun _ wr => 100000 - pAt R wr)
   case atStart => exact ⟨Z.acc.length + 1, [], s, HM.out, by unfold Hid; omega, OE.nil _ _ _, H0.out, Fn.of (Fm.rf _ _) (Nat.le_refl _), Nat.le_refl _, by simp [Hid]⟩
   case round =>
    obtain ⟨k, l, s', HK, HF, HO, HR, HW, HS, HL⟩ := hrel
    obtain ⟨k, rfl⟩ : ∃ j, k = j + 1 := ⟨k - 1, by have := HF.out; omega⟩
    have hle := HR.out.le
    have hz := HZ.out.n
    have HK2 : Hid (M = if Z.is s' 4 x then (l, s'.pass) else if Z.is (putM (Z.cx inn) F false l s').2 4 [44] then rowL (Z.cx inn) F false x k (putM (Z.cx inn) F false l s').1 (putM (Z.cx inn) F false l s').2.pass else ((putM (Z.cx inn) F false l s').1, Z.wants (putM (Z.cx inn) F false l s').2 4 x)) := by
     unfold Hid
     rw [HK.out, rowL_succ, is_eq, is_eq, wants_eq]
    have HT := qh (takesSign_any HR.out x)
    have HD : Hid (Z.takes s' 4 x = if Z.is s' 4 x then s'.pass else s') := rfl
    have HPT := qh (takes_p Z s' 4 x)
    clear HK
    generalize Z.is s' 4 x = b1 at *
    generalize Z.takes s' 4 x = s1 at *
    go_wp2_with fail
    refine HT.out.mono ?_
    rintro e w1 ⟨rfl, h1, f1⟩
    have H1 := qh (And.intro h1 (And.intro (HO.out.fr f1) (HW.out.tr (Fn.of f1 HW.out.size))))
    have HWS := qh (Nat.le_trans HW.out.size f1.size)
    clear h1 f1 HT
    cases b1 with
    | true =>
      obtain rfl : s1 = s'.pass := HD.out
      have HM2 : Hid (M = (l, s'.pass)) := HK2.out
      clear HK2
      go_wp2_with fail
      go_ret
      exact ⟨_, rfl, by rw [HM2.out]; exact H1.out.2.1, by rw [HM2.out]; exact H1.out.1, H1.out.2.2, by rw [HM2.out]; exact Nat.le_trans HS.out HPT.out⟩
    | false =>
      obtain rfl : s1 = s' := HD.out
      have HQ := qh (HP.out w.heap.size w1 s1 _ l H1.out.1 HS.out H1.out.2.1 H0.out.nn HWS.out (by have := HL.out; omega))
      have HLen := qh (putM_len (Z.cx inn) F false l s1)
      have HM2 : Hid (M = if Z.is (putM (Z.cx inn) F false l s1).2 4 [44] then rowL (Z.cx inn) F false x k (putM (Z.cx inn) F false l s1).1 (putM (Z.cx inn) F false l s1).2.pass else ((putM (Z.cx inn) F false l s1).1, Z.wants (putM (Z.cx inn) F false l s1).2 4 x)) := HK2.out
      clear HK2 HD HPT
      generalize putM (Z.cx inn) F false l s1 = r at *
      go_wp2_with fail
      refine HQ.out.mono ?_
      rintro e w2 ⟨v2, rfl, h2o, h2r, h2f, h2p⟩
      have H2 := qh (And.intro h2r (And.intro h2o (And.intro (H1.out.2.2.tr h2f) h2p)))
      clear h2o h2r h2f h2p HQ
      have HT := qh (takesSign_any H2.out.1 [44])
      have HD : Hid (Z.takes r.2 4 [44] = if Z.is r.2 4 [44] then r.2.pass else r.2) := rfl
      generalize Z.is r.2 4 [44] = b2 at *
      generalize Z.takes r.2 4 [44] = s3 at *
      go_wp2_with fail
      refine HT.out.mono ?_
      rintro e w3 ⟨rfl, h3, f3⟩
      have H3 := qh (And.intro h3 (And.intro (H2.out.2.1.fr f3) (H2.out.2.2.1.tr (Fn.of f3 H2.out.2.2.1.size))))
      clear h3 f3 HT
      have hp2 := H2.out.2.2.2
      cases b2 with
      | true =>
        obtain rfl : s3 = r.2.pass := HD.out
        have HM3 := HM2.out
        go_wp2_with fail
        go_roundw
        case rel => exact ⟨k, r.1, r.2.pass, HM3, by have := HF.out; have h8 : r.2.p + 1 ≤ Z.acc.length := H3.out.1.le; unfold Hid; show Z.acc.length - (r.2.p + 1) < k; omega, H3.out.2.1, H3.out.1, H3.out.2.2, by have := HS.out; unfold Hid; show s.p ≤ r.2.p + 1; omega, by have := HL.out; have := HLen.out; unfold Hid; show r.1.length ≤ 2 * (r.2.p + 1); omega⟩
        case measure =>
         have e1 := pAt_eq H3.out.1
         have e2 := pAt_eq HR.out
         have e3 : r.2.pass.p = r.2.p + 1 := rfl
         have := H3.out.1.le
         rw [e1, e2]; omega
      | false =>
        obtain rfl : s3 = r.2 := HD.out
        have HM3 : Hid (M = (r.1, Z.wants r.2 4 x)) := HM2.out
        clear HM2
        go_wp2_with fail
        refine (wantsSign_any H3.out.1 x).mono ?_
        rintro e w4 ⟨rfl, h4, f4⟩
        have H4 := qh (And.intro h4 (And.intro (H3.out.2.1.fr f4) (H3.out.2.2.tr (Fn.of f4 H3.out.2.2.size))))
        clear h4 f4
        have hwp := wants_p H2.out.1.le 4 x
        have HWP := qh hwp
        clear hwp
        go_wp2_with fail
        go_ret
        exact ⟨_, rfl, by rw [HM3.out]; exact H4.out.2.1, by rw [HM3.out]; exact H4.out.1, H4.out.2.2, by rw [HM3.out]; exact Nat.le_trans HS.out (Nat.le_trans hp2 HWP.out)⟩
 | true =>
   go_enter Tryz.func149, Tryz.ntmps149
   go_wp2_with fail
   go_loopw [7] (fun v wr => ∃ (k : Nat) (l : List Ex) (s' : St), Hid (M = rowL (Z.cx inn) F true x k l s') ∧ Hid (Z.acc.length - s'.p < k) ∧ Hid (OE w.heap.size wr R v l) ∧ Hid (Rd wr R Z s') ∧ Hid (Fn w.heap.size R w wr) ∧ Hid (s.p ≤ s'.p) ∧ Hid (l.length ≤ 2 * s'.p)) (fun _ wr => 100000 - pAt R wr)
   case atStart => exact ⟨Z.acc.length + 1, [], s, HM.out, by unfold Hid; omega, OE.nil _ _ _, H0.out, Fn.of (Fm.rf _ _) (Nat.le_refl _), Nat.le_refl _, by simp [Hid]⟩
   case round =>
    obtain ⟨k, l, s', HK, HF, HO, HR, HW, HS, HL⟩ := hrel
    obtain ⟨k, rfl⟩ : ∃ j, k = j + 1 := ⟨k - 1, by have := HF.out; omega⟩
    have hle := HR.out.le
    have hz := HZ.out.n
    have HK2 : Hid (M = if Z.is s' 4 x then (l, s'.pass) else if Z.is (putM (Z.cx inn) F true l s').2 4 [44] then rowL (Z.cx inn) F true x k (putM (Z.cx inn) F true l s').1 (putM (Z.cx inn) F true l s').2.pass else ((putM (Z.cx inn) F true l s').1, Z.wants (putM (Z.cx inn) F true l s').2 4 x)) := by
     unfold Hid
     rw [HK.out, rowL_succ, is_eq, is_eq, wants_eq]
    have HT := qh (takesSign_any HR.out x)
    have HD : Hid (Z.takes s' 4 x = if Z.is s' 4 x then s'.pass else s') := rfl
    have HPT := qh (takes_p Z s' 4 x)
    clear HK
    generalize Z.is s' 4 x = b1 at *
    generalize Z.takes s' 4 x = s1 at *
    go_wp2_with fail
    refine HT.out.mono ?_
    rintro e w1 ⟨rfl, h1, f1⟩
    have H1 := qh (And.intro h1 (And.intro (HO.out.fr f1) (HW.out.tr (Fn.of f1 HW.out.size))))
    have HWS := qh (Nat.le_trans HW.out.size f1.size)
    clear h1 f1 HT
    cases b1 with
    | true =>
      obtain rfl : s1 = s'.pass := HD.out
      have HM2 : Hid (M = (l, s'.pass)) := HK2.out
      clear HK2
      go_wp2_with fail
      go_ret
      exact ⟨_, rfl, by rw [HM2.out]; exact H1.out.2.1, by rw [HM2.out]; exact H1.out.1, H1.out.2.2, by rw [HM2.out]; exact Nat.le_trans HS.out HPT.out⟩
    | false =>
      obtain rfl : s1 = s' := HD.out
      have HQ := qh (HP.out w.heap.size w1 s1 _ l H1.out.1 HS.out H1.out.2.1 H0.out.nn HWS.out (by have := HL.out; omega))
      have HLen := qh (putM_len (Z.cx inn) F true l s1)
      have HM2 : Hid (M = if Z.is (putM (Z.cx inn) F true l s1).2 4 [44] then rowL (Z.cx inn) F true x k (putM (Z.cx inn) F true l s1).1 (putM (Z.cx inn) F true l s1).2.pass else ((putM (Z.cx inn) F true l s1).1, Z.wants (putM (Z.cx inn) F true l s1).2 4 x)) := HK2.out
      clear HK2 HD HPT
      generalize putM (Z.cx inn) F true l s1 = r at *
      go_wp2_with fail
      refine HQ.out.mono ?_
      rintro e w2 ⟨v2, rfl, h2o, h2r, h2f, h2p⟩
      have H2 := qh (And.intro h2r (And.intro h2o (And.intro (H1.out.2.2.tr h2f) h2p)))
      clear h2o h2r h2f h2p HQ
      have HT := qh (takesSign_any H2.out.1 [44])
      have HD : Hid (Z.takes r.2 4 [44] = if Z.is r.2 4 [44] then r.2.pass else r.2) := rfl
      generalize Z.is r.2 4 [44] = b2 at *
      generalize Z.takes r.2 4 [44] = s3 at *
      go_wp2_with fail
      refine HT.out.mono ?_
      rintro e w3 ⟨rfl, h3, f3⟩
      have H3 := qh (And.intro h3 (And.intro (H2.out.2.1.fr f3) (H2.out.2.2.1.tr (Fn.of f3 H2.out.2.2.1.size))))
      clear h3 f3 HT
      have hp2 := H2.out.2.2.2
      cases b2 with
      | true =>
        obtain rfl : s3 = r.2.pass := HD.out
        have HM3 := HM2.out
        go_wp2_with fail
        go_roundw
        case rel => exact ⟨k, r.1, r.2.pass, HM3, by have := HF.out; have h8 : r.2.p + 1 ≤ Z.acc.length := H3.out.1.le; unfold Hid; show Z.acc.length - (r.2.p + 1) < k; omega, H3.out.2.1, H3.out.1, H3.out.2.2, by have := HS.out; unfold Hid; show s.p ≤ r.2.p + 1; omega, by have := HL.out; have := HLen.out; unfold Hid; show r.1.length ≤ 2 * (r.2.p + 1); omega⟩
        case measure =>
         have e1 := pAt_eq H3.out.1
         have e2 := pAt_eq HR.out
         have e3 : r.2.pass.p = r.2.p + 1 := rfl
         have := H3.out.1.le
         rw [e1, e2]; omega
      | false =>
        obtain rfl : s3 = r.2 := HD.out
        have HM3 : Hid (M = (r.1, Z.wants r.2 4 x)) := HM2.out
        clear HM2
        go_wp2_with fail
        refine (wantsSign_any H3.out.1 x).mono ?_
        rintro e w4 ⟨rfl, h4, f4⟩
        have H4 := qh (And.intro h4 (And.intro (H3.out.2.1.fr f4) (H3.out.2.2.tr (Fn.of f4 H3.out.2.2.size))))
        clear h4 f4
        have hwp := wants_p H2.out.1.le 4 x
        have HWP := qh hwp
        clear hwp
        go_wp2_with fail
        go_ret
        exact ⟨_, rfl, by rw [HM3.out]; exact H4.out.2.1, by rw [HM3.out]; exact H4.out.1, H4.out.2.2, by rw [HM3.out]; exact Nat.le_trans HS.out (Nat.le_trans hp2 HWP.out)⟩
open Go.RowKit
attribute [local go_sem] field66_0 field66_1 field66_3 field66_4

def TextOk (R : Nat) (Z : Cz) (inn : List UInt8 → Ps → Ex × Nat × Ps) : Prop :=
 ∀ (W : World) (s : St), Rd W R Z s → (Z.tz s.p).1.k = 3 → Calls Tryz.prog 187 #[.pointer (some ⟨R, 0, none⟩)] W (EP W R Z s.p (textM (Z.cx inn) s))
theorem EP.of {w w1 w2 : World} {R : Nat} {Z : Cz} {p : Nat} {m : Ex × St} {e : Ending} (h : EP w1 R Z p m e w2) (hf : Fm R w w1) : EP w R Z p m e w2 := by
 obtain ⟨b, e1, h1, h2, h3, h4⟩ := h
 exact ⟨b, e1, h1.le hf.size, h2, hf.tr h3, h4⟩
theorem anyName_len {Z : Cz} (h : Sz Z) (s : St) : (Z.anyName s).1.length ≤ 40000 := by
 unfold Cz.anyName; split
 · exact (tz_bd h _).1
 · exact Nat.zero_le _
theorem tx_size (l : List UInt8) : (tx l).size = l.length := rfl
theorem xb_lit {n : Nat} {w : World} {R b : Nat} {x : List UInt8} {p : Ps} (hb : w.heap[b]? = some (.cells #[.int .i64 1, .string ⟨#[]⟩, .string ⟨#[]⟩, .int .i64 3, .int .i64 0, .string (tx x), .slice none 0 0, .slice none 0 0, .int .i64 0, .int .i64 0, .bool false, .slice none 0 0, .int .i64 p.a, .int .i64 p.l, .int .i64 p.c] 38 (0, 0))) (hx : x.length ≤ maxLen) (hR : b ≠ R) (hn : n ≤ b) : Xb n w R b (litX (vStr (tx x)) p) :=
 ⟨none, 0, none, 0, none, 0, hb, xp_mk (sv := tx x) 1 ⟨#[]⟩ ⟨#[]⟩ (by decide) (by decide) hx [] p.a p.l p.c (rowP_nil _ _ _ (fun _ _ => undef)) (fun j x h => by cases h), hR, hn⟩
set_option maxRecDepth 100000 in
set_option maxHeartbeats 2000000 in
theorem key_any {w : World} {R : Nat} {Z : Cz} {s : St} {inn : List UInt8 → Ps → Ex × Nat × Ps} (h : Rd w R Z s) (ht : TextOk R Z inn) : Calls Tryz.prog 177 #[.pointer (some ⟨R, 0, none⟩)] w (EP w R Z s.p (keyM (Z.cx inn) s)) := by
 have H := qh h
 have HX := qh ht
 have hn := h.sz.n
 have hle := h.le
 obtain ⟨⟨r0, r1, r2, r3, r4, r5, r6, r7, r8, r9, r10⟩, -, hR⟩ := rc11 h.blk
 clear r0 r2 r3 r4 r5 r6 r7 r8 r9 r10 h ht
 have HI : Hid (keyM (Z.cx inn) s = if (Z.tz s.p).1.k = 3 then textM (Z.cx inn) s else (litX (vStr (tx (Z.anyName s).1)) (Z.pl s), (Z.anyName s).2)) := by
  unfold Hid keyM; rw [Cz.tk_eq, anyName_eq, pl_eq]
 have HT := qh (tok_any H.out s.p (by omega))
 have HK : Hid ((Z.tz s.p).1.k = 3 → ∀ W, Rd W R Z s → Calls Tryz.prog 187 #[.pointer (some ⟨R, 0, none⟩)] W (EP W R Z s.p (textM (Z.cx inn) s))) := fun e W hW => HX.out W s hW e
 have HN := qh (anyName_len H.out.sz s)
 have HP := qh (anyName_p H.out.le)
 have HA : Hid (∀ W, Rd W R Z s → Calls Tryz.prog 186 #[.pointer (some ⟨R, 0, none⟩)] W (SnP W R Z (Z.anyName s))) := fun W hW => anyName_any hW
 have HL : Hid (∀ W, Rd W R Z s → Calls Tryz.prog 123 #[.pointer (some ⟨R, 0, none⟩)] W fun e w' => e = .returned (.agg #[.int .i64 (Z.pl s).a, .int .i64 (Z.pl s).l, .int .i64 (Z.pl s).c]) ∧ Below W.heap.size W w') := fun W hW => place_any hW
 generalize Z.tz s.p = X at HI HT HK
 generalize Z.anyName s = N at *
 generalize Z.pl s = P at *
 generalize keyM (Z.cx inn) s = M at *
 by_cases h1 : X.1.k = 3
 · have e1 : ((X.1.k : Int) == 3) = true := by simp [h1]
   have HM : Hid (M = textM (Z.cx inn) s) := by unfold Hid; rw [HI.out, if_pos h1]
   have HQ := qh (HK.out h1)
   rw [← HM.out] at HQ
   clear h1 HI HK
   go_enter Tryz.func177, Tryz.ntmps177
   go_wp2_with fail
   refine HT.out.mono ?_
   rintro e w1 ⟨rfl, c1⟩
   have H1 := qh (And.intro (H.out.below c1) (Fm.of (R := R) c1))
   clear c1 HT
   go_wp2_with fail
   refine (HQ.out _ H1.out.1).mono ?_
   intro e w2 h2
   have H2 := qh (h2.of H1.out.2)
   obtain ⟨b, rfl, -⟩ := h2
   go_wp2_with fail
   go_ret
   exact H2.out
 · have e1 : ((X.1.k : Int) == 3) = false := by rw [beq_eq_false_iff_ne]; omega
   have HM : Hid (M = (litX (vStr (tx N.1)) P, N.2)) := by unfold Hid; rw [HI.out, if_neg h1]
   clear h1 HI HK
   go_enter Tryz.func177, Tryz.ntmps177
   go_wp2_with fail
   refine HT.out.mono ?_
   rintro e w1 ⟨rfl, c1⟩
   have H1 := qh (And.intro (H.out.below c1) (Fm.of (R := R) c1))
   clear c1 HT
   go_wp2_with fail
   refine (HL.out _ H1.out.1).mono ?_
   rintro e w2 ⟨rfl, c2⟩
   have H2 := qh (And.intro (H1.out.1.below c2) (H1.out.2.tr (Fm.of (R := R) c2)))
   clear c2
   go_upto_region 4 with fail
   have hb3 : (w2.alloc (Obj.cells #[Value.int IntKind.i64 P.a, Value.int IntKind.i64 P.l, Value.int IntKind.i64 P.c] 36)).heap[w2.heap.size]? = some (.cells #[Value.int IntKind.i64 P.a, Value.int IntKind.i64 P.l, Value.int IntKind.i64 P.c] 36 (0, 0)) := heap_alloc_new _ _
   have f3 : Fm R w2 (w2.alloc (Obj.cells #[Value.int IntKind.i64 P.a, Value.int IntKind.i64 P.l, Value.int IntKind.i64 P.c] 36)) := Fm.of ((Below.refl _ _).alloc (Nat.le_refl _) _)
   have hbR : w2.heap.size ≠ R := Nat.ne_of_gt H2.out.1.lt
   have H3 := qh (And.intro (H2.out.1.below ((Below.refl _ _).alloc (Nat.le_refl _) (Obj.cells #[Value.int IntKind.i64 P.a, Value.int IntKind.i64 P.l, Value.int IntKind.i64 P.c] 36))) (H2.out.2.tr f3))
   clear f3
   generalize w2.alloc (Obj.cells #[Value.int IntKind.i64 P.a, Value.int IntKind.i64 P.l, Value.int IntKind.i64 P.c] 36) = w3 at *
   generalize w2.heap.size = bx at *
   clear H2 H1 HL HX e1 r1
   obtain ⟨⟨k0, k1, k2⟩, ⟨g0, g1, g2⟩, l3⟩ := rc3 hb3
   have HB := qh (And.intro hb3 hbR)
   clear hb3 hbR
   go_region_with (first
    | (go_at_call 186; refine (HA.out _ ?_).mono ?_; exact H3.out.1.below (Below.refl _ _).drew; rintro e w4 ⟨rfl, h4, f4⟩; have H4 := qh (And.intro h4 ((H3.out.2.tr (Fm.of (Below.refl _ _).drew)).tr f4)); have hb4 := (f4.block bx l3 (fun e => HB.out.2 (Option.some.inj e))).trans HB.out.1; clear h4 f4; obtain ⟨⟨k40, k41, k42⟩, ⟨g40, g41, g42⟩, l4⟩ := rc3 hb4; have HB4 := qh hb4; clear hb4)
    | (go_at_call 189; refine (str_any _ _).mono ?_; rintro e w5 ⟨rfl, c5⟩; have H5 := qh (And.intro (H4.out.1.below c5) (H4.out.2.tr (Fm.of c5))); have hb5 := (c5.block bx l4).trans HB4.out; clear c5; obtain ⟨⟨k50, k51, k52⟩, ⟨g50, g51, g52⟩, l5⟩ := rc3 hb5; clear hb5)
    | (go_at_call 188; refine (lit_any 3 0 (tx N.1) false P _).mono ?_; rintro e w6 ⟨b, rfl, hb6, hc6, c6⟩; have H6 := qh (And.intro (H5.out.1.below c6) (And.intro (H5.out.2.tr (Fm.of c6)) (And.intro hb6 hc6))); clear hb6 hc6 c6))
   all_goals
    go_wp2_with fail
    go_ret
    exact ⟨b, rfl, by rw [HM.out]; exact xb_lit H6.out.2.2.2 (Nat.le_trans HN.out (by unfold maxLen; omega)) (by have := H6.out.2.2.1; have := H5.out.1.lt; omega) (Nat.le_trans H5.out.2.size H6.out.2.2.1), by rw [HM.out]; exact H6.out.1, H6.out.2.1, by rw [HM.out]; exact HP.out⟩
open Go.RowKit
attribute [local go_sem] field66_0 field66_1 field66_3 field66_4

def ExOk (R : Nat) (Z : Cz) (F : Fs) (p : Nat) : Prop := ∀ (W : World) (s : St), Rd W R Z s → p ≤ s.p → Calls Tryz.prog 75 #[.pointer (some ⟨R, 0, none⟩)] W (EP W R Z s.p (F.ex s))
theorem ExOk.le {R : Nat} {Z : Cz} {F : Fs} {p q : Nat} (h : ExOk R Z F p) (hq : p ≤ q) : ExOk R Z F q := fun W s hr hs => h W s hr (Nat.le_trans hq hs)
set_option maxRecDepth 100000 in
set_option maxHeartbeats 2000000 in
theorem putPair_any {n : Nat} {w : World} {R : Nat} {Z : Cz} {s : St} {inn : List UInt8 → Ps → Ex × Nat × Ps} {F : Fs} {v : Value} {l : List Ex} (h : Rd w R Z s) (ht : TextOk R Z inn) (he : ExOk R Z F s.p) (ho : OE n w R v l) (h0 : Z.n0 ≤ n) (hn : n ≤ w.heap.size) (hl : l.length ≤ 90000) :
 Calls Tryz.prog 151 #[.pointer (some ⟨R, 0, none⟩), v] w (LP n w R Z s.p (putP (Z.cx inn) F l s)) := by
 have H := qh h
 have HE := qh he
 have HO := qh ho
 have HL := qh (And.intro hn hl)
 have HK := qh (key_any h ht)
 have HM : Hid (putP (Z.cx inn) F l s = putE F (l ++ [(keyM (Z.cx inn) s).1]) (if Z.is (keyM (Z.cx inn) s).2 4 [61] then (keyM (Z.cx inn) s).2.pass else Z.wants (keyM (Z.cx inn) s).2 4 [58])) := by
  unfold Hid putP; simp only [is_eq, wants_eq]
 generalize keyM (Z.cx inn) s = K at *
 generalize putP (Z.cx inn) F l s = M at *
 clear h he ho hn hl ht
 go_enter Tryz.func151, Tryz.ntmps151
 go_wp2_with fail
 refine HK.out.mono ?_
 rintro e w1 ⟨b, rfl, hx, hr, hf, hp⟩
 obtain ⟨oV, cV, oK, cK, o, cap, hb, hX, hbR, hnb⟩ := hx
 have H1 := qh (And.intro hX (And.intro hr (And.intro hf hp)))
 have HO1 := qh (HO.out.fr hf)
 have hR1 : R < w1.heap.size := Nat.lt_of_lt_of_le H.out.lt hf.size
 have hn1 : n ≤ w1.heap.size := Nat.le_trans HL.out.1 hf.size
 have HS := qh (And.intro hR1 hn1)
 obtain ⟨⟨c0, c1, c2, c3, c4, c5, c6, c7, c8, c9, c10, c11, c12, c13, c14⟩, -, hbl⟩ := rc15 hb
 clear hX hr hf hp hb HK hR1 hn1
 go_wp2_with (at_builtin; go_must (refine app_oe rfl (.tmp 5) (.tmp 10) rfl (v := v) (l := l) (m := w.heap.size) rfl rfl HO1.out H1.out.1 (fun g hg => (HO.out.own_lt g hg).1) HL.out.1 HS.out.2 HS.out.1 (Nat.le_trans HL.out.2 (by omega)) ?_))
 intro v' w2 ho2 hg2
 have H2 := qh (And.intro ho2 (H1.out.2.1.app HO1.out h0 HS.out.2 hg2))
 have HF2 := qh ((Fn.of H1.out.2.2.1 HL.out.1).tr H2.out.2.2)
 have HP2 := qh H1.out.2.2.2
 clear ho2 hg2 H1 c0 c1 c2 c3 c4 c5 c6 c7 c8 c9 c10 c11 c12 c13 c14
 have HT := qh (takesSign_any H2.out.2.1 [61])
 have HD : Hid (Z.takes K.2 4 [61] = if Z.is K.2 4 [61] then K.2.pass else K.2) := rfl
 generalize Z.is K.2 4 [61] = b2 at *
 generalize Z.takes K.2 4 [61] = s3 at *
 have HS2 : Hid (n ≤ w2.heap.size) := Nat.le_trans HL.out.1 HF2.out.size
 go_wp2_with fail
 refine HT.out.mono ?_
 rintro e w3 ⟨rfl, h3, f3⟩
 have H3 := qh (And.intro h3 (And.intro (H2.out.1.fr f3) (HF2.out.tr (Fn.of f3 HS2.out))))
 have HS3 : Hid (n ≤ w3.heap.size) := Nat.le_trans HS2.out f3.size
 clear h3 f3 HT
 cases b2 with
 | true =>
   obtain rfl : s3 = K.2.pass := HD.out
   have HM3 : Hid (M = putE F (l ++ [K.1]) K.2.pass) := HM.out
   have HQ := qh (putExpr_any (HE.out w3 K.2.pass H3.out.1 (Nat.le_trans HP2.out (Nat.le_succ _))) H3.out.2.1 h0 HS3.out H3.out.1.lt (by have := HL.out.2; simp; omega))
   clear HM HD
   go_wp2_with fail
   refine HQ.out.mono ?_
   rintro e w4 ⟨v4, rfl, h4o, h4r, h4f, h4p⟩
   have H4 := qh (And.intro h4o (And.intro h4r (And.intro (H3.out.2.2.tr h4f) (Nat.le_trans (Nat.le_trans HP2.out (Nat.le_succ _)) h4p))))
   clear h4o h4r h4f h4p
   go_wp2_with fail
   go_ret
   exact ⟨v4, rfl, by rw [HM3.out]; exact H4.out.1, by rw [HM3.out]; exact H4.out.2.1, H4.out.2.2.1, by rw [HM3.out]; exact H4.out.2.2.2⟩
 | false =>
   obtain rfl : s3 = K.2 := HD.out
   have HM3 : Hid (M = putE F (l ++ [K.1]) (Z.wants K.2 4 [58])) := HM.out
   have HWP := qh (wants_p (H3.out.1.le) 4 [58])
   clear HM HD
   go_wp2_with fail
   refine (wantsSign_any H3.out.1 [58]).mono ?_
   rintro e w4 ⟨rfl, h4, f4⟩
   have H4 := qh (And.intro h4 (And.intro (H3.out.2.1.fr f4) (H3.out.2.2.tr (Fn.of f4 HS3.out))))
   have HS4 : Hid (n ≤ w4.heap.size) := Nat.le_trans HS3.out f4.size
   clear h4 f4
   have HQ := qh (putExpr_any (HE.out w4 _ H4.out.1 (Nat.le_trans HP2.out HWP.out)) H4.out.2.1 h0 HS4.out H4.out.1.lt (by have := HL.out.2; simp; omega))
   generalize Z.wants K.2 4 [58] = s4 at *
   go_wp2_with fail
   refine HQ.out.mono ?_
   rintro e w5 ⟨v5, rfl, h5o, h5r, h5f, h5p⟩
   have H5 := qh (And.intro h5o (And.intro h5r (And.intro (H4.out.2.2.tr h5f) (Nat.le_trans (Nat.le_trans HP2.out HWP.out) h5p))))
   clear h5o h5r h5f h5p
   go_wp2_with fail
   go_ret
   exact ⟨v5, rfl, by rw [HM3.out]; exact H5.out.1, by rw [HM3.out]; exact H5.out.2.1, H5.out.2.2.1, by rw [HM3.out]; exact H5.out.2.2.2⟩
theorem putOk {R : Nat} {Z : Cz} {F : Fs} {p : Nat} {inn : List UInt8 → Ps → Ex × Nat × Ps} (ht : TextOk R Z inn) (he : ExOk R Z F p) (b : Bool) : PutOk b R Z inn F p := by
 intro n W s v l hr hp ho h0 hn hl
 cases b with
 | false => exact putExpr_any (he W s hr hp) ho h0 hn hr.lt (by omega)
 | true => exact putPair_any hr ht (he.le hp) ho h0 hn hl
end Go.Proofs.YtncjncacfagldaaGreatDoor
