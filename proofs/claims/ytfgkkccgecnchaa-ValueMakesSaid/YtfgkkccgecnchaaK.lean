/- Bool, Int, Str, Unknown, List. -/
import Derived.Test.YtfgkkccgecnchaaJ
import Derived.Test.YtfgkkccgecnchaaTd
namespace Go.Proofs.Ytfgkkccgecnchaa
open Go.RowKit

/-- a value without elements and keys -/
def flat (k i : Int) (s : ByteArray) (t1 t2 : Int) : Val := .mk k i s [] [] t1 t2 false
theorem flat_lies (P : Nat → Prop) (w : World) {k i t1 t2 : Int} {s : ByteArray} (hk : (Lit.int .i64 k).wf = true) (hi : (Lit.int .i64 i).wf = true) (h1 : (Lit.int .i64 t1).wf = true) (h2 : (Lit.int .i64 t2).wf = true) (hs : s.size ≤ maxLen) :
    LiesP P w (flat k i s t1 t2) (vv k i s (.slice none 0 0) (.slice none 0 0) t1 t2 false) :=
  .mk (flat k i s t1 t2) none none 0 0 (fun _ _ => undef) hk hi h1 h2 hs (fun s h => by cases h) (RowP.nil _ _ _ _) (RowP.nil _ _ _ _) (fun j x h => by simp [flat, Val.l] at h)
theorem cells8 {w : World} {b : Nat} {a0 a1 a2 a3 a4 a5 a6 a7 : Value} (h : w.heap[b]? = some (.cells #[a0, a1, a2, a3, a4, a5, a6, a7] 27 (0, 0))) :
    w.cell? ⟨b, 0, none⟩ = some a0 ∧ w.cell? ⟨b, 1, none⟩ = some a1 ∧ w.cell? ⟨b, 2, none⟩ = some a2 ∧ w.cell? ⟨b, 3, none⟩ = some a3 ∧ w.cell? ⟨b, 4, none⟩ = some a4 ∧ w.cell? ⟨b, 5, none⟩ = some a5 ∧ w.cell? ⟨b, 6, none⟩ = some a6 ∧ w.cell? ⟨b, 7, none⟩ = some a7 := by
  refine ⟨?_, ?_, ?_, ?_, ?_, ?_, ?_, ?_⟩ <;> rw [cell_of_row w b _ _ 27 (0, 0) h] <;> rfl
abbrev lst8 (o : Option Addr) (n cap : Nat) : Array Value := #[.int .i64 4, .int .i64 0, .string ⟨#[]⟩, .slice o n cap, .slice none 0 0, .int .i64 0, .int .i64 0, .bool false]
/-- what is stored whole over a box -/
abbrev over (old part : Array Value) : Array Value := (old.toList.take 0 ++ part.toList ++ old.toList.drop (0 + part.size)).toArray
theorem ret_v {v v' : Value} (h : v = v') : Ending.returned v = .returned v' := by rw [h]
set_option maxRecDepth 100000 in
theorem int_any (i : Int) (w : World) : Calls Try.prog 37 #[.int .i64 i] w fun e w' => e = .returned (vv 2 i ⟨#[]⟩ (.slice none 0 0) (.slice none 0 0) 0 0 false) ∧ Below w.heap.size w w' := by
  go_enter Try.func37, Try.ntmps37
  go_wp2
  exact bodyPost_ret (v := vv 2 i ⟨#[]⟩ (.slice none 0 0) (.slice none 0 0) 0 0 false) (by simp [results, Try.results37, go_sem]) rfl ⟨rfl, (Below.refl _ _).alloc (Nat.le_refl _) _⟩
set_option maxRecDepth 100000 in
theorem str_any (s : ByteArray) (w : World) : Calls Try.prog 38 #[.string s] w fun e w' => e = .returned (vv 3 0 s (.slice none 0 0) (.slice none 0 0) 0 0 false) ∧ Below w.heap.size w w' := by
  go_enter Try.func38, Try.ntmps38
  go_wp2
  exact bodyPost_ret (v := vv 3 0 s (.slice none 0 0) (.slice none 0 0) 0 0 false) (by simp [results, Try.results38, go_sem]) rfl ⟨rfl, (Below.refl _ _).alloc (Nat.le_refl _) _⟩
set_option maxRecDepth 100000 in
theorem unk_any (a b : Int) (w : World) : Calls Try.prog 26 #[Typ.ty a b] w fun e w' => e = .returned (vv 6 0 ⟨#[]⟩ (.slice none 0 0) (.slice none 0 0) a b false) ∧ Below w.heap.size w w' := by
  go_enter Try.func26, Try.ntmps26
  go_wp2
  exact bodyPost_ret (v := vv 6 0 ⟨#[]⟩ (.slice none 0 0) (.slice none 0 0) a b false) (by simp [results, Try.results26, go_sem]) rfl ⟨rfl, ((Below.refl _ _).alloc (Nat.le_refl _) _).alloc (by simp) _⟩
theorem num_any (b : Bool) (w : World) : Calls Try.prog 66 #[.bool b] w fun e w' => e = .returned (.int .i64 (if b then 1 else 0)) ∧ w = w' := by
  cases b
  all_goals
    go_enter Try.func66, Try.ntmps66
    go_wp2
    go_ret
    exact ⟨rfl, rfl⟩
set_option maxRecDepth 100000 in
theorem bool_any (b : Bool) (w : World) : Calls Try.prog 36 #[.bool b] w fun e w' => e = .returned (vv 1 (if b then 1 else 0) ⟨#[]⟩ (.slice none 0 0) (.slice none 0 0) 0 0 false) ∧ Below w.heap.size w w' := by
  have HN := Lib.hid (num_any b)
  obtain ⟨i, hi⟩ : ∃ i : Int, i = if b then 1 else 0 := ⟨_, rfl⟩
  rw [← hi] at HN ⊢
  clear hi
  go_enter Try.func36, Try.ntmps36
  go_wp2_with fail
  refine (HN.out _).mono ?_
  rintro e w1 ⟨rfl, rfl⟩
  go_wp2
  exact bodyPost_ret (v := vv 1 i ⟨#[]⟩ (.slice none 0 0) (.slice none 0 0) 0 0 false) (by simp [results, Try.results36, go_sem]) rfl ⟨rfl, (Below.refl _ _).alloc (Nat.le_refl _) _⟩
/-- a list -/
def lst (l : List Val) : Val := .mk 4 0 ⟨#[]⟩ l [] 0 0 false
set_option maxHeartbeats 2000000 in
set_option maxRecDepth 100000 in
theorem list_any {n : Nat} {w : World} {l : List Val} {o : Option Addr} {cap : Nat} {c : Nat → Nat → Value} (hl : szL l ≤ 60000) (hR : Row n w o cap l.length 8 c) (hE : ∀ j x, l[j]? = some x → Lies n w x (.agg #[c j 0, c j 1, c j 2, c j 3, c j 4, c j 5, c j 6, c j 7])) (hn : n ≤ w.heap.size) :
    Calls Try.prog 19 #[.slice o l.length cap] w (CpPost (lst l) w) := by
  have HF := Lib.hid (And.intro hR hE)
  have HB1 : Hid ((w.alloc (.cells zc 27)).heap[w.heap.size]? = some (.cells zc 27 (0, 0))) := heap_alloc_new w _
  have HW := Lib.hid ((Below.refl w.heap.size w).alloc (Nat.le_refl _) (.cells zc 27))
  have HZ : Hid ((w.alloc (.cells zc 27)).heap.size = w.heap.size + 1) := by simp [Hid]
  clear hR hE
  go_enter Try.func19, Try.ntmps19
  go_wp2_with fail
  generalize w.alloc _ = w0 at *
  refine (anew_18 id 60000 (Nat.le_refl _) (copy_any 60000 (Nat.le_refl _)) hl (HF.out.1.below (HW.out.mono hn)) (fun j x hx => (HF.out.2 j x hx).kept (HW.out.mono hn)) (by have := HZ.out; omega)).mono ?_
  rw [List.map_id]
  rintro e w1 ⟨o1, cap1, c1, rfl, r1, e1, m1, b1⟩
  have Q1 : Hid (w1.heap[w.heap.size]? = some (.cells zc 27 (0, 0))) := by unfold Hid; rw [b1.block _ (by have := HZ.out; omega)]; exact HB1.out
  have R := Lib.hid (store_box Q1.out (lst8 o1 l.length cap1) rfl)
  have B1 := HW.out.trans (b1.mono (by have := HZ.out; omega))
  have A4 := Lib.hid (Aft.setRow w1 w.heap.size (over zc (lst8 o1 l.length cap1)) (Nat.lt_succ_self _))
  have B4 := Lib.hid (below_setRow B1 (Nat.le_refl _) (over zc (lst8 o1 l.length cap1)))
  have M := Lib.hid (And.intro r1 (And.intro e1 m1))
  clear B1 b1 r1 e1 m1
  go_wp2_with ((with_reducible refine wpList_store_at rfl 27 (.tmp 2) (.tmp 5) rfl w.heap.size 0 rfl _ rfl 27 zc Q1.out ?st1 ?st2 ?st3 ?st4); case' st4 => generalize World.setRow _ _ _ = w5 at *)
  case st1 => simp
  case st2 => have := size27; simpa using this
  case st3 => simp [Value.oneCell']
  obtain ⟨p0, p1, p2, p3, p4, p5, p6, p7⟩ := cells8 R.out
  refine bodyPost_ret (v := vv 4 0 ⟨#[]⟩ (.slice o1 l.length cap1) (.slice none 0 0) 0 0 false) (by simp [results, Try.results19, go_sem, p0, p1, p2, p3, p4, p5, p6, p7]) rfl ?_
  exact cp_shift (V := lst l) (w1 := w1) ⟨rfl, rfl, rfl, rfl, Nat.zero_le _, (fun s h => by cases h), M.out.1, RowP.nil _ _ _ _, M.out.2.1⟩ M.out.2.2 (.inl ⟨rfl, rfl⟩) A4.out (by have := HZ.out; omega) (by have := HZ.out; omega) B4.out rfl
end Go.Proofs.Ytfgkkccgecnchaa
