/- Make. -/
import Derived.Test.YtfgkkccgecnchaaMb
import Derived.WalkArith
namespace Go.Proofs.Ytfgkkccgecnchaa
open Go.RowKit Go.Maps

/-- cells of the call's own -/
def Ours (lo : Nat) (w : World) (o : Option Addr) (T : TypeId) (len z : Nat) : Prop := len = 0 ∨ ∃ g cs, o = some ⟨g, 0, none⟩ ∧ lo ≤ g ∧ w.heap[g]? = some (.cells cs T (0, 0)) ∧ len * z ≤ cs.size
theorem Mine.ours {lo : Nat} {w : World} {o : Option Addr} {T : TypeId} {len z : Nat} (h : Mine lo w o T len z) : Ours lo w o T len z := by
  rcases h with ⟨_, h⟩ | ⟨g, C, e, hg, cs, h1, h2, _⟩
  · exact .inl h
  · exact .inr ⟨g, cs, e, hg, h1, by omega⟩
theorem Ours.keptP {lo : Nat} {w w' : World} {o : Option Addr} {T : TypeId} {len z : Nat} (h : Ours lo w o T len z) (b : ∀ k, lo ≤ k → k < w.heap.size → w'.heap[k]? = w.heap[k]?) : Ours lo w' o T len z := by
  rcases h with h | ⟨g, cs, e, hg, h1, h2⟩
  · exact .inl h
  · exact .inr ⟨g, cs, e, hg, (b g hg (Array.getElem?_eq_some_iff.1 h1).1).trans h1, h2⟩
theorem Ours.mono {lo lo' : Nat} {w : World} {o : Option Addr} {T : TypeId} {len z : Nat} (h : Ours lo w o T len z) (hl : lo' ≤ lo) : Ours lo' w o T len z := by
  rcases h with h | ⟨g, cs, e, hg, h1, h2⟩
  · exact .inl h
  · exact .inr ⟨g, cs, e, by omega, h1, h2⟩
abbrev srt (ss : List (List UInt8)) : List ByteArray := (ss.mergeSort (fun x y => decide (x ≤ y))).map ba
theorem keys_row {w : World} {base : Nat} {v : Value} {ss : List (List UInt8)} (h : w.ownsRow base 9 1 v ss.length ((ss.mergeSort (fun x y => decide (x ≤ y))).map encStr)) :
    ∃ o cap, v = .slice o (srt ss).length cap ∧ RowP (fun b => base ≤ b ∧ b < w.heap.size) w o cap (srt ss).length 1 (fun j _ => .string ((srt ss).getD j default)) ∧ Ours base w o 9 (srt ss).length 1 := by
  have hl : (srt ss).length = ss.length := by simp [srt, (List.mergeSort_perm ss _).length_eq]
  rw [hl]
  rcases h.2 with ⟨rfl, h0⟩ | ⟨g, cap, cur, rfl, hb, h1, h2, h3, h4, h5⟩
  · rw [h0]
    exact ⟨none, 0, rfl, RowP.nil _ _ _ _, .inl rfl⟩
  · refine ⟨_, cap, rfl, ⟨h2, h3, (fun h => by cases h), fun _ => ⟨g, 0, rfl, ⟨hb, (Array.getElem?_eq_some_iff.1 h1).1⟩, fun j hj m hm => ?_⟩⟩, .inr ⟨g, cur, rfl, hb, h1, by have := Nat.mul_le_mul_right 1 h2; omega⟩⟩
    obtain rfl : m = 0 := by omega
    rw [cell_of_row w g _ cur 9 (0, 0) h1]
    have e1 : (cur.toList.take (ss.length * 1))[j]? = (((ss.mergeSort (fun x y => decide (x ≤ y))).map encStr))[j]? := by rw [h5]
    rw [List.getElem?_take_of_lt (by omega)] at e1
    have hj' : j < (ss.mergeSort (fun x y => decide (x ≤ y))).length := by rw [(List.mergeSort_perm ss _).length_eq]; exact hj
    rw [List.getElem?_map, List.getElem?_eq_getElem hj'] at e1
    have e2 : (0 + j * 1 + 0) = j := by omega
    rw [e2, ← Array.getElem?_toList, e1]
    simp [srt, List.getD_eq_getElem?_getD, List.getElem?_eq_getElem hj', ba]
theorem xs_exist {ks rs : List ByteArray} {l : List Val} (hs : Srt ks rs) (hd : Dst ks ks.length) (hl : ks.length = l.length) : ∃ xs : List Val, xs.length = rs.length ∧ ∀ i j, i < ks.length → j < rs.length → kk rs j = kk ks i → xs[j]? = l[i]? := by
  have : ∀ n, n ≤ rs.length → ∃ xs : List Val, xs.length = n ∧ ∀ i j, i < ks.length → j < n → kk rs j = kk ks i → xs[j]? = l[i]? := by
    intro n
    induction n with
    | zero => intro _; exact ⟨[], rfl, fun _ _ _ h => absurd h (Nat.not_lt_zero _)⟩
    | succ n ih =>
      intro hn
      obtain ⟨xs, h1, h2⟩ := ih (by omega)
      obtain ⟨i0, hi0, he0⟩ := hs.fro n (by omega)
      refine ⟨xs ++ [l[i0]'(by omega)], by simp [h1], fun i j hi hj he => ?_⟩
      by_cases hjn : j = n
      · subst hjn
        have : i = i0 := by
          rw [he0] at he
          rcases Nat.lt_trichotomy i i0 with h | h | h
          · exact absurd he.symm (hd i i0 h hi0)
          · exact h
          · exact absurd he (hd i0 i h hi)
        subst this
        rw [List.getElem?_append_right (by omega)]
        simp [h1]
      · rw [List.getElem?_append_left (by omega)]
        exact h2 i j hi (by omega) he
  exact this rs.length (Nat.le_refl _)
theorem run_mk56 (n : Int) (w : World) : (Instr.makeMap 56 (some (.int .i64 n))).run Try.prog w = .ok (.map (some w.heap.size)) (w.alloc (.map #[] 0)) := by
  simp [Instr.makeMap, run_underlying Try.underlying56, asInt, asIntOf, Result.andThen]
theorem own_same {w w' : World} {b n : Nat} {D : DataW Unit} (h : w.ownsMap Try.prog 9 (plainElem Try.prog 3) b n D) (e : w'.heap[b]? = w.heap[b]?) : w'.ownsMap Try.prog 9 (plainElem Try.prog 3) b n D := by
  obtain ⟨es, clock, hb, F, hs, hD⟩ := h
  exact ⟨es, clock, e.trans hb, F, hs, hD⟩
abbrev zv : Value := vv 0 0 ⟨#[]⟩ (.slice none 0 0) (.slice none 0 0) 0 0 false
abbrev mapv (o : Option Addr) (n cap : Nat) (oK : Option Addr) (nK capK : Nat) : Value := vv 5 0 ⟨#[]⟩ (.slice o n cap) (.slice oK nK capK) 0 0 false
/-- a map that was made -/
def Made (ks : List ByteArray) (l : List Val) (w : World) (e : Ending) (w' : World) : Prop :=
  ∃ (rs : List ByteArray) (xs : List Val) (o oK : Option Addr) (cap capK : Nat) (c : Nat → Nat → Value), Srt ks rs ∧ xs.length = rs.length ∧ (∀ i j, i < ks.length → j < rs.length → kk rs j = kk ks i → xs[j]? = l[i]?) ∧
    e = .returned (.tuple #[mapv o xs.length cap oK rs.length capK, .int .i64 0]) ∧ RowP (Fr w w') w' o cap xs.length 8 c ∧ (∀ j x, xs[j]? = some x → Deep w.heap.size w' x (.agg #[c j 0, c j 1, c j 2, c j 3, c j 4, c j 5, c j 6, c j 7])) ∧ Mine w.heap.size w' o 27 xs.length 8 ∧
    RowP (Fr w w') w' oK capK rs.length 1 (fun j _ => .string (rs.getD j default)) ∧ Ours w.heap.size w' oK 9 rs.length 1 ∧ Below w.heap.size w w'
def MkPost (ks : List ByteArray) (l : List Val) (w : World) (e : Ending) (w' : World) : Prop :=
  (ks.length ≠ l.length ∧ e = .returned (.tuple #[zv, .int .i64 1]) ∧ Below w.heap.size w w') ∨ (ks.length = l.length ∧ ¬ Dst ks ks.length ∧ e = .returned (.tuple #[zv, .int .i64 10]) ∧ Below w.heap.size w w') ∨
  (ks.length = l.length ∧ Dst ks ks.length ∧ Made ks l w e w')
abbrev w4of (w : World) (o : Option Addr) (n cap : Nat) : World := (((w.alloc (.cells #[.slice o n cap] 22)).alloc (.cells zc 27)).alloc (.map #[] 0)).alloc (.cells #[.map (some (w.heap.size + 1 + 1))] 56)
/-- what lies there when Make's loop begins -/
structure M4 (ks : List ByteArray) (w w4 : World) (o : Option Addr) (n cap : Nat) : Prop where
  own : w4.ownsMap Try.prog 9 (plainElem Try.prog 3) (w.heap.size + 1 + 1) 0 (pm ks 0)
  bel : Below w.heap.size w w4
  size : w4.heap.size = w.heap.size + 4
  b3 : w4.heap[w.heap.size]? = some (.cells #[.slice o n cap] 22 (0, 0))
  b4 : w4.heap[w.heap.size + 1]? = some (.cells zc 27 (0, 0))
  b6 : w4.heap[w.heap.size + 1 + 1 + 1]? = some (.cells #[.map (some (w.heap.size + 1 + 1))] 56 (0, 0))
theorem m4_made (ks : List ByteArray) (w : World) (o : Option Addr) (n cap : Nat) : M4 ks w (w4of w o n cap) o n cap := by
  have s1 : (w.alloc (.cells #[.slice o n cap] 22)).heap.size = w.heap.size + 1 := by simp
  have s2 : ((w.alloc (.cells #[.slice o n cap] 22)).alloc (.cells zc 27)).heap.size = w.heap.size + 1 + 1 := by simp
  have s3 : (((w.alloc (.cells #[.slice o n cap] 22)).alloc (.cells zc 27)).alloc (.map #[] 0)).heap.size = w.heap.size + 1 + 1 + 1 := by simp
  refine ⟨?_, (((((Below.refl _ _).alloc (Nat.le_refl _) _).alloc (by omega) _).alloc (by omega) _).alloc (by omega) _), by simp, ?_, ?_, ?_⟩
  · have := World.ownsMap_made (H := Unit) ((w.alloc (.cells #[.slice o n cap] 22)).alloc (.cells zc 27)) Try.prog 9 (plainElem Try.prog 3)
    rw [s2] at this
    exact this.alloc _
  · rw [Below.heap_alloc _ _ _ (by omega), Below.heap_alloc _ _ _ (by omega), Below.heap_alloc _ _ _ (by omega)]; exact heap_alloc_new w _
  · rw [Below.heap_alloc _ _ _ (by omega), Below.heap_alloc _ _ _ (by omega)]; have := heap_alloc_new (w.alloc (.cells #[.slice o n cap] 22)) (.cells zc 27); rw [s1] at this; exact this
  · have := heap_alloc_new (((w.alloc (.cells #[.slice o n cap] 22)).alloc (.cells zc 27)).alloc (.map #[] 0)) (.cells #[.map (some (w.heap.size + 1 + 1))] 56); rw [s3] at this; exact this
theorem grown_refl (w : World) (r : Option Nat) : w.grownBy w r := ⟨rfl, rfl, rfl, Nat.le_refl _, fun _ _ _ => rfl⟩
theorem grown_trans {a b c : World} {r : Option Nat} (h : a.grownBy b r) (k : b.grownBy c r) : a.grownBy c r := ⟨k.os.trans h.os, k.tape.trans h.tape, k.output.trans h.output, Nat.le_trans h.size k.size, fun i hi hr => (k.block i (Nat.lt_of_lt_of_le hi h.size) hr).trans (h.block i hi hr)⟩
theorem wf_nat {j : Nat} (h : j ≤ 60000) : (Lit.int .i64 (j : Int)).wf = true := Go.WalkArith.wf_i64 (by omega)
set_option maxRecDepth 100000 in
set_option maxHeartbeats 2000000 in
theorem make_any {n : Nat} {w : World} {ks : List ByteArray} {l : List Val} {oK o : Option Addr} {capK cap : Nat} {c : Nat → Nat → Value} (hk : ks.length ≤ 60000) (hl : szL l ≤ 60000) (hR1 : Row n w oK capK ks.length 1 (fun j _ => .string (ks.getD j default))) (hs : ∀ s, s ∈ ks → s.size ≤ maxLen)
    (hR : Row n w o cap l.length 8 c) (hE : ∀ j x, l[j]? = some x → Lies n w x (.agg #[c j 0, c j 1, c j 2, c j 3, c j 4, c j 5, c j 6, c j 7])) (hn : n ≤ w.heap.size) :
    Calls Try.prog 20 #[.slice oK ks.length capK, .slice o l.length cap] w (MkPost ks l w) := by
  have hlen := szL_len l
  have l1 := hR.1
  have l2 := hR.2.1
  have l3 := hR1.1
  have l4 := hR1.2.1
  unfold maxLen at l2 l4
  have W2 : Below w.heap.size w ((w.alloc (.cells #[.slice o l.length cap] 22)).alloc (.cells zc 27)) := ((Below.refl _ _).alloc (Nat.le_refl _) _).alloc (by simp) _
  have Q1 : Hid (((w.alloc (.cells #[.slice o l.length cap] 22)).alloc (.cells zc 27)).heap[w.heap.size + 1]? = some (.cells zc 27 (0, 0))) := by have := heap_alloc_new (w.alloc (.cells #[.slice o l.length cap] 22)) (.cells zc 27); rw [World.size_alloc] at this; exact this
  have HW2 := Lib.hid W2
  have HF := Lib.hid (And.intro hR1 (And.intro hR (And.intro hE hs)))
  clear hR1 hR hE hs W2
  by_cases heq : ks.length = l.length
  · have gk : ((ks.length : Int) != (l.length : Int)) = false := by simp [heq]
    have HEQ := Lib.hid heq
    have hmk := run_mk56
    clear heq
    have HM := Lib.hid (m4_made ks w o l.length cap)
    unfold w4of at HM
    clear Q1 HW2
    go_enter Try.func20, Try.ntmps20
    go_wp2_with fail
    generalize (((w.alloc _).alloc _).alloc _).alloc _ = w4 at *
    clear hmk gk
    go_loopw [22] (fun i wr => ∃ j : Nat, j ≤ ks.length ∧ i = .int .i64 j ∧ Hid (wr.ownsMap Try.prog 9 (plainElem Try.prog 3) (w.heap.size + 1 + 1) j (pm ks j)) ∧ Hid (w4.grownBy wr (some (w.heap.size + 1 + 1)))) (fun i _ => ks.length - (intOf i).toNat)
    case atStart => exact ⟨0, Nat.zero_le _, rfl, HM.out.own, grown_refl _ _⟩
    case round =>
      obtain ⟨j, hj, rfl, hown, hgr⟩ := hrel
      have BW : Hid (Below w.heap.size w wr) := HM.out.bel.grown hgr.out (by have := HM.out.size; omega) (fun k hk => by injection hk with hk; omega)
      have HBK : Hid (∀ k, k < w4.heap.size → k ≠ w.heap.size + 1 + 1 → wr.heap[k]? = w4.heap[k]?) := fun k h1 h2 => hgr.out.block k h1 (fun e => h2 (by injection e))
      have y6 : wr.cell? ⟨w.heap.size + 1 + 1 + 1, 0, none⟩ = some (.map (some (w.heap.size + 1 + 1))) := by rw [cell_of_row wr _ 0 _ 56 (0, 0) ((HBK.out _ (by have := HM.out.size; omega) (by omega)).trans HM.out.b6)]; rfl
      by_cases hlt : j < ks.length
      · obtain ⟨b', off', e1, hb', y0⟩ := (HF.out.1.below (BW.out.mono hn)).key hlt
        subst e1
        obtain ⟨w', hrun, r1, r2⟩ := hown.out.update (string_keyed Try.underlying9) Try.underlying56 (by unfold maxLen; omega) (WideMaps.keyOf_string_mk Try.underlying9 (HF.out.2.2.2 _ (kk_mem hlt))) (plainElem_int Try.underlying3 (wf_nat (j := j) (by omega)))
        have HN := Lib.hid (And.intro r1 (grown_trans hgr.out r2))
        clear r1 r2
        go_wp2_with fail
        go_roundw
        case rel => exact ⟨j + 1, by omega, by go_num, HN.out.1, HN.out.2⟩
        case measure => simp [intOf]; omega
      · have hjl : j = ks.length := by omega
        subst hjl
        have hln := hown.out.len Try.underlying56 3
        have Q1 : Hid (wr.heap[w.heap.size + 1]? = some (.cells zc 27 (0, 0))) := (HBK.out _ (by have := HM.out.size; omega) (by omega)).trans HM.out.b4
        by_cases hd : Dst ks ks.length
        · have HD := Lib.hid hd
          rw [(pm_size ks ks.length).2 hd] at hln
          clear hd
          have h1 := HM.out.size
          have h2 := hgr.out.size
          go_wp2_with fail
          refine (keys_51 _ _).mono ?_
          rintro e w' ⟨rfl, rfl⟩
          go_wp2_with fail
          refine (sorted_50 _ _ _ _ wr hown.out (by rw [(pm_size ks ks.length).2 HD.out]; exact hk)).mono ?_
          rintro e w2 ⟨v, ss, rfl, hp, hrow, _, hb2⟩
          obtain ⟨oR, cR, rfl, rR, ouR⟩ := keys_row hrow
          have hsort : Srt ks (srt ss) := srt_of HD.out hp
          clear hrow hp hln y6
          generalize srt ss = rs at *
          obtain ⟨xs, hx1, hx2⟩ := xs_exist hsort HD.out HEQ.out
          simp only [World.size_alloc] at hb2 rR ouR
          have KB : Hid (∀ k, k < wr.heap.size → w2.heap[k]? = wr.heap[k]?) := fun k hk => (hb2.block k (by omega)).trans (Below.heap_alloc _ _ _ hk)
          have hs2 := hb2.size
          simp only [World.size_alloc] at hs2
          have B2 : Hid (Below w.heap.size w w2) := BW.out.trans (((Below.refl wr.heap.size wr).alloc (Nat.le_refl _) _).trans (hb2.mono (by omega)) |>.mono (by omega))
          have HS := Lib.hid (And.intro hsort (And.intro hx1 (And.intro hx2 (And.intro rR ouR))))
          have hrl : rs.length ≤ 60000 := by have := hsort.len; omega
          clear hb2 rR ouR hsort hx1 hx2
          go_wp2_with fail
          refine (danew_53 (n := w2.heap.size) (l := xs) hrl HS.out.2.1.symm (HS.out.2.2.2.1.mono fun b hb => hb.2) (Nat.le_refl _) (fun j X hX W bW => ?_)).mono ?_
          · have hj : j < rs.length := by have := (List.getElem?_eq_some_iff.1 hX).1; have := HS.out.2.1; omega
            obtain ⟨i, hi, he⟩ := HS.out.1.fro j hj
            have hXi : l[i]? = some X := by rw [← HS.out.2.2.1 i j hi hj he]; exact hX
            have KW : ∀ k, k < wr.heap.size → W.heap[k]? = wr.heap[k]? := fun k hk => (bW.block k (by omega)).trans (KB.out k hk)
            have BWW : Below w.heap.size w W := B2.out.trans (bW.mono (by omega))
            have := bW.size
            rw [he]
            exact closure_53 (n := n) hl HEQ.out (HF.out.2.1.below (BWW.mono hn)) (fun j x hx => (HF.out.2.2.1 j x hx).kept (BWW.mono hn)) (by omega)
              (by rw [cell_of_row W _ 0 _ 22 (0, 0) ((KW _ (by omega)).trans ((HBK.out _ (by omega) (by omega)).trans HM.out.b3))]; rfl)
              (by rw [cell_of_row W _ 0 _ 56 (0, 0) ((KW _ (by omega)).trans ((HBK.out _ (by omega) (by omega)).trans HM.out.b6))]; rfl) (by omega) (by omega) (own_same hown.out (KW _ (by omega))) HD.out hXi (HF.out.2.2.2 _ (kk_mem hi))
          · rintro e w3 ⟨o3, cap3, c3, rfl, r3, e3, m3, b3⟩
            have hs3 := b3.size
            have Q3 : Hid (w3.heap[w.heap.size + 1]? = some (.cells zc 27 (0, 0))) := by unfold Hid; rw [b3.block _ (by omega), KB.out _ (by omega)]; exact Q1.out
            have R := Lib.hid (store_box Q3.out (#[.int .i64 5, .int .i64 0, .string ⟨#[]⟩, .slice o3 xs.length cap3, .slice oR rs.length cR, .int .i64 0, .int .i64 0, .bool false]) rfl)
            have B5 := Lib.hid (below_setRow (B2.out.trans (b3.mono (by omega))) (Nat.le_succ _) (over zc (#[.int .i64 5, .int .i64 0, .string ⟨#[]⟩, .slice o3 xs.length cap3, .slice oR rs.length cR, .int .i64 0, .int .i64 0, .bool false])))
            have K5 : Hid (∀ k, w.heap.size + 4 ≤ k → (w3.setRow (w.heap.size + 1) (over zc (#[.int .i64 5, .int .i64 0, .string ⟨#[]⟩, .slice o3 xs.length cap3, .slice oR rs.length cR, .int .i64 0, .int .i64 0, .bool false]))).heap[k]? = w3.heap[k]?) := fun k hk => setRow_other _ _ _ _ (by omega)
            have S5 : Hid ((w3.setRow (w.heap.size + 1) (over zc (#[.int .i64 5, .int .i64 0, .string ⟨#[]⟩, .slice o3 xs.length cap3, .slice oR rs.length cR, .int .i64 0, .int .i64 0, .bool false]))).heap.size = w3.heap.size) := size_setRow _ _ _
            have M := Lib.hid (And.intro r3 (And.intro e3 (And.intro m3 b3)))
            clear r3 e3 m3 b3
            go_wp2_with ((with_reducible refine wpList_store_at rfl 27 (.tmp 4) (.tmp 45) rfl (w.heap.size + 1) 0 rfl _ rfl 27 zc Q3.out ?st1 ?st2 ?st3 ?st4); case' st4 => generalize World.setRow _ _ _ = w5 at *)
            case st1 => simp
            case st2 => have := size27; simpa using this
            case st3 => simp [Value.oneCell']
            obtain ⟨p0, p1, p2, p3, p4, p5, p6, p7⟩ := cells8 R.out
            refine bodyPost_ret (v := .tuple #[mapv o3 xs.length cap3 oR rs.length cR, .int .i64 0]) (by simp [results, Try.results20, go_sem, p0, p1, p2, p3, p4, p5, p6, p7]) rfl ?_
            have hS5 := S5.out
            have kM : ∀ k, w2.heap.size ≤ k → k < w3.heap.size → w5.heap[k]? = w3.heap[k]? := fun k h1 _ => K5.out k (by omega)
            have kR : ∀ k, (wr.heap.size + 1 ≤ k ∧ k < w2.heap.size) → (w.heap.size ≤ k ∧ k < w5.heap.size) ∧ w5.heap[k]? = w2.heap[k]? := fun k h => ⟨⟨by omega, by omega⟩, (K5.out k (by omega)).trans (M.out.2.2.2.block k h.2)⟩
            refine .inr (.inr ⟨HEQ.out, HD.out, rs, xs, o3, oR, cap3, cR, c3, HS.out.1, HS.out.2.1, HS.out.2.2.1, rfl, M.out.1.keptP (fun k h => ⟨⟨by have := h.1; omega, by have := h.2; omega⟩, kM k h.1 h.2⟩), fun j x hx => ((M.out.2.1 j x hx).kept (by omega) kM).mono (by omega), (M.out.2.2.1.keptP kM).mono (by omega), HS.out.2.2.2.1.keptP kR, ?_, B5.out⟩)
            exact (HS.out.2.2.2.2.keptP (w' := w5) fun k h1 h2 => (kR k ⟨h1, h2⟩).2).mono (by omega)
        · have HD := Lib.hid hd
          have hne : Maps.size (pm ks ks.length) ≠ ks.length := fun e => hd ((pm_size ks ks.length).1 e)
          have gk2 : ((Maps.size (pm ks ks.length) : Int) != (ks.length : Int)) = true := by simp; omega
          have R := Lib.hid (store_box Q1.out zc rfl)
          have B4 := Lib.hid (below_setRow BW.out (Nat.le_succ _) (over zc zc))
          clear hd hne
          go_upto_region 10 with fail
          clear hln y6 gk2
          go_wp2_with ((with_reducible refine wpList_store_at rfl 27 (.tmp 4) (.tmp 36) rfl (w.heap.size + 1) 0 rfl _ rfl 27 zc Q1.out ?sa1 ?sa2 ?sa3 ?sa4); case' sa4 => generalize World.setRow _ _ _ = w5 at *)
          case sa2 => have := size27; simpa using this
          case sa3 => simp [Value.oneCell']
          obtain ⟨p0, p1, p2, p3, p4, p5, p6, p7⟩ := cells8 R.out
          refine bodyPost_ret (v := .tuple #[zv, .int .i64 10]) (by simp [results, Try.results20, go_sem, p0, p1, p2, p3, p4, p5, p6, p7]) rfl ?_
          exact .inr (.inl ⟨HEQ.out, HD.out, rfl, B4.out⟩)
  · have gk : ((ks.length : Int) != (l.length : Int)) = true := by simp; omega
    have HEQ := Lib.hid heq
    clear heq
    have R := Lib.hid (store_box Q1.out zc rfl)
    have B4 := Lib.hid (below_setRow HW2.out (Nat.le_succ _) (over zc zc))
    go_enter Try.func20, Try.ntmps20
    go_wp2_with ((with_reducible refine wpList_store_at rfl 27 (.tmp 4) (.tmp 16) rfl (w.heap.size + 1) 0 rfl _ rfl 27 zc Q1.out ?sb1 ?sb2 ?sb3 ?sb4); case' sb4 => generalize World.setRow _ _ _ = w5 at *)
    case sb2 => have := size27; simpa using this
    case sb3 => simp [Value.oneCell']
    obtain ⟨p0, p1, p2, p3, p4, p5, p6, p7⟩ := cells8 R.out
    refine bodyPost_ret (v := .tuple #[zv, .int .i64 1]) (by simp [results, Try.results20, go_sem, p0, p1, p2, p3, p4, p5, p6, p7]) rfl ?_
    exact .inl ⟨HEQ.out, rfl, B4.out⟩
end Go.Proofs.Ytfgkkccgecnchaa
