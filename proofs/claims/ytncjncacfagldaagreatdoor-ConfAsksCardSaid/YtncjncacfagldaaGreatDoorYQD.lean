import Derived.Test.YtncjncacfagldaaGreatDoorYPZ
import Derived.Test.YtncjncacfagldaaGreatDoorYWCT
import Derived.Test.YtncjncacfagldaaGreatDoorYWKE
namespace Go.Proofs.YtncjncacfagldaaGreatDoor
open Go.RowKit Go.Lib

theorem same9L {A B : List It} {n : Nat} {a b : Value} {w : World} (ha : PayI A (fun k => k < n) w a) (hb : PayI B (fun k => k < n) w b) (hn : n ≤ w.heap.size) : Calls Tryz.prog 9 #[a, b] w fun e w' => e = .returned (.bool (sameIL A B)) ∧ Below w.heap.size w w' :=
 same9_any (.mk true [] [] zeroX A ps0) n B a b w ha hb hn
theorem same10L {A B : List It} {n : Nat} {a b : Value} {w : World} (ha : PayI A (fun k => k < n) w a) (hb : PayI B (fun k => k < n) w b) (hn : n ≤ w.heap.size) : Calls Tryz.prog 10 #[a, b, .bool false] w fun e w' => e = .returned (.bool (sameIL A B)) ∧ Below w.heap.size w w' :=
 same10I (.mk true [] [] zeroX A ps0) n B a b w ha hb hn
theorem same10S {A : List It} {n : Nat} {a b : Value} {w : World} (ha : PayI A (fun k => k < n) w a) (hb : PayI A (fun k => k < n) w b) (hn : n ≤ w.heap.size) : Calls Tryz.prog 10 #[a, b, .bool true] w fun e w' => e = .returned (.bool true) ∧ Below w.heap.size w w' :=
 same10P (.mk true [] [] zeroX A ps0) n a b w ha hb hn
theorem sameIL_self (A : List It) : sameIL A A = true := (sameI_self (.mk true [] [] zeroX A ps0)).2
def AtR (A : List It) (nm : ByteArray) (k : Nat) (v : Value) : Prop :=
 (v = .int .i64 (-1) ∧ ∀ i y, i < k → A[i]? = some y → ¬ isAt nm y) ∨ ∃ j X, j < k ∧ A[j]? = some X ∧ isAt nm X ∧ (∀ i y, i < j → A[i]? = some y → ¬ isAt nm y) ∧ v = .int .i64 ((j : Nat) : Int)
theorem AtR.at0 (A : List It) (nm : ByteArray) : AtR A nm 0 (.int .i64 (-1)) := .inl ⟨rfl, fun _ _ h => absurd h (Nat.not_lt_zero _)⟩
theorem AtR.no {A : List It} {nm : ByteArray} {k : Nat} {v : Value} {X : It} (h : AtR A nm k v) (hX : A[k]? = some X) (hn : ¬ isAt nm X) : AtR A nm (k + 1) v := by
 rcases h with ⟨e, h⟩ | ⟨j, Y, hj, h⟩
 · refine .inl ⟨e, fun i y hi hy => ?_⟩
   by_cases e : i = k
   · subst e; rw [hX] at hy; injection hy with hy; rw [← hy]; exact hn
   · exact h i y (by omega) hy
 · exact .inr ⟨j, Y, by omega, h⟩
theorem AtR.met {A : List It} {nm : ByteArray} {v : Value} {w w' : World} {e : Ending} (h : AtR A nm A.length v) (hp : AttrPost A nm w e w') : Below w.heap.size w w' ∧
 ((v = .int .i64 (-1) ∧ e = .returned (.tuple #[.agg z22, .bool false])) ∨
  ∃ (j : Nat) (X : It) (c : Array Value), A[j]? = some X ∧ v = .int .i64 ((j : Nat) : Int) ∧ e = .returned (.tuple #[.agg c, .bool true]) ∧ IP (FrV w w') w' X (.agg c)) := by
 obtain ⟨hb, h2⟩ := hp
 refine ⟨hb, ?_⟩
 rcases h with ⟨e1, h⟩ | ⟨j, Y, hj, hY, hat, hfirst, e1⟩
 · rcases h2 with ⟨j, X, c, hX, hat, _⟩ | ⟨_, e2⟩
   · exact absurd hat (h j X (List.getElem?_eq_some_iff.1 hX).1 hX)
   · exact .inl ⟨e1, e2⟩
 · rcases h2 with ⟨i, X, c, hX, hat2, hf2, e2, hip⟩ | ⟨hno, _⟩
   · have hij : i = j := by
      rcases Nat.lt_trichotomy i j with h | h | h
      · exact absurd hat2 (hfirst i X h hX)
      · exact h
      · exact absurd hat (hf2 j Y h hY)
     subst hij
     exact .inr ⟨i, X, c, hX, e1, e2, hip⟩
   · exact absurd hat (hno Y (List.mem_of_getElem? hY))
set_option maxRecDepth 100000 in
theorem pay_one {W : World} {X : It} {c : Array Value} (h : IP (fun k => k < W.heap.size) W X (.agg c)) : PayI [X] (fun k => k < (W.alloc (.cells c 40)).heap.size) (W.alloc (.cells c 40)) (.slice (some ⟨W.heap.size, 0, none⟩) 1 1) := by
 have h22 : c.size = 22 := by obtain ⟨c', e, h, -⟩ := h.size; injection e with e; rw [e]; exact h
 refine ⟨some ⟨W.heap.size, 0, none⟩, 1, fun _ m => c[m]!, rfl, ⟨Nat.le_refl _, by unfold maxLen; decide, (fun e => by cases e), fun _ => ⟨W.heap.size, 0, rfl, by simp, fun j hj m hm => ?_⟩⟩, fun j x hx => ?_⟩
 · have hj0 : j = 0 := by have : j < 1 := hj; omega
   subst hj0
   rw [cell_of_row _ W.heap.size (0 + 0 * 22 + m) _ _ _ (heap_alloc_new W _), show 0 + 0 * 22 + m = m by omega]
   show c[m]? = some c[m]!
   rw [getElem!_pos c m (by omega)]
   exact Array.getElem?_eq_getElem (by omega)
 · have hj0 : j = 0 := by have := (List.getElem?_eq_some_iff.1 hx).1; simpa using this
   subst hj0
   simp only [List.getElem?_cons_zero, Option.some.injEq] at hx
   subst hx
   have h1 : IP (fun k => k < (W.alloc (.cells c 40)).heap.size) (W.alloc (.cells c 40)) X (.agg c) := h.keptP fun k hk => ⟨by simp; omega, heap_alloc_old W _ hk⟩
   obtain ⟨cl⟩ := c
   match cl, h22 with
   | [c0, c1, c2, c3, c4, c5, c6, c7, c8, c9, c10, c11, c12, c13, c14, c15, c16, c17, c18, c19, c20, c21], _ => exact h1
theorem pay_part {P : Nat → Prop} {W : World} {A : List It} {b off cap j : Nat} {d : Nat → Nat → Value} {X : It} (hR : RowP P W (some ⟨b, off, none⟩) cap A.length 22 d) (hE : ∀ (j : Nat) (x : It), A[j]? = some x → IP P W x (.agg (row22 d j))) (hX : A[j]? = some X) :
 PayI [X] P W (sliced (some ⟨b, off, none⟩) j (j + 1) cap 22) := by
 have hj := (List.getElem?_eq_some_iff.1 hX).1
 have h1 := hR.1
 have h2 := hR.2.1
 obtain ⟨b', off', e, hb, hc⟩ := hR.2.2.2 (by omega)
 injection e with e
 injection e with e1 e2
 subst e1 e2
 have es : sliced (some ⟨b, off, none⟩) j (j + 1) cap 22 = .slice (some ⟨b, off + j * 22, none⟩) 1 (cap - j) := by
  unfold sliced
  rw [if_neg (by omega)]
  have ea : (⟨b, off, none⟩ : Addr).add (j * 22) = ⟨b, off + j * 22, none⟩ := by unfold Addr.add; split <;> simp_all
  rw [Option.map_some, ea, show j + 1 - j = 1 by omega]
 rw [es]
 refine ⟨_, _, fun i m => d (j + i) m, rfl, ⟨by show 1 ≤ cap - j; omega, by omega, (fun e => by cases e), fun _ => ⟨b, off + j * 22, rfl, hb, fun i hi m hm => ?_⟩⟩, fun i x hx => ?_⟩
 · have hi0 : i = 0 := by have : i < 1 := hi; omega
   subst hi0
   have := hc j hj m hm
   rw [show off + j * 22 + 0 * 22 + m = off + j * 22 + m by omega, this]
   rfl
 · have hi0 : i = 0 := by have := (List.getElem?_eq_some_iff.1 hx).1; simpa using this
   subst hi0
   simp only [List.getElem?_cons_zero, Option.some.injEq] at hx
   subst hx
   exact hE j X hX
theorem exec_slice22 {a : Act} {o : Oper} {x y z : Operand} {b off len cap j : Nat} {W : World} (ho : o.op = .slice 22 x (some y) (some z) none) (hx : a.eval x = .slice (some ⟨b, off, none⟩) len cap) (hy : a.eval y = .int .i64 ((j : Nat) : Int)) (hz : a.eval z = .int .i64 ((j + 1 : Nat) : Int)) (hj : j + 1 ≤ cap) :
 (execOp a.eval o).run Tryz.prog W = .ok (.value (sliced (some ⟨b, off, none⟩) j (j + 1) cap 22)) W := by
 have e1 : Tryz.prog.underlying 22 = some (.slice (Tryz.prog.elem 22)) := by kernel_rfl
 have e2 : (sizeOf (Tryz.prog.elem 22)).run Tryz.prog W = .ok 22 W := by
  have : Tryz.prog.elem 22 = 40 := by kernel_rfl
  rw [this]
  obtain ⟨i, hi, hz, hs1, hb⟩ := info_parts info52
  simp [sizeOf, typeInfo, hi, hs1]
 have h1 : (Instr.sliceAt 22 (.slice (some ⟨b, off, none⟩) len cap) (some (.int .i64 ((j : Nat) : Int))) (some (.int .i64 ((j + 1 : Nat) : Int))) none).run Tryz.prog W = .ok (sliced (some ⟨b, off, none⟩) j (j + 1) cap 22) W := by
  rw [run_sliceAt_slice (P := Tryz.prog) (w := W) (h := e1), run_slice_lh (P := Tryz.prog) (w := W) (ht := e1) (h0 := by omega) (h1 := by omega) (h2 := by omega), e2]
  rfl
 unfold execOp
 simp only [ho, hx, hy, hz, Option.map_some, Option.map_none]
 rw [Sem.run_bind, h1]
 rfl
theorem step_build_it {ops : Array Oper} {o : Oper} {a : Act} {w : World} {KK : Act → World → Prop} {Q : Exit → Act → World → Prop} {E : Prop} (hw : Region.wanted o (yielded ops a.tmps) = true) (x : Operand) (ho : o.op = .buildSlice 22 1 #[(0, x)]) (cs : Array Value) (hx : a.eval x = .agg cs) (h22 : cs.size = 22)
 (h : KK (a.put o.dst (.slice (some ⟨w.heap.size, 0, none⟩) 1 1)) (w.alloc (.cells cs 40))) : if Region.wanted o (yielded ops a.tmps) = true then Oper.wp Tryz.prog o a w KK Q else E := by
 rw [if_pos hw]
 obtain ⟨i, hi, hz, hs, hb⟩ := info_parts info52
 refine wp_buildSlice 22 40 1 #[(0, x)] ho cs i _ Tryz.underlying22 hi hz (by rw [hs]; decide) (by rw [hs]; decide) ?_ h
 have := fill_it cs h22 hs
 rw [← hx] at this
 rw [show (#[(0, x)].map fun (y : Nat × Operand) => (y.1, a.eval y.2)).toList = [(0, a.eval x)] from by simp]
 exact this
end Go.Proofs.YtncjncacfagldaaGreatDoor
