/- Texts taken apart at a byte: the library's Cut, CutPrefix, TrimSuffix, at one byte. -/
import Derived.Test.YtakoghdkllfhlaaDoorH
import Derived.Test.YtakoghdkllfhlaaDoorShelf
namespace Go.Proofs.YtakoghdkllfhlaaDoor
open Go.RowKit

abbrev lb (s : ByteArray) : List UInt8 := s.data.toList
abbrev tx (l : List UInt8) : ByteArray := ⟨l.toArray⟩
theorem tx_lb (s : ByteArray) : tx (lb s) = s := rfl
theorem lb_tx (l : List UInt8) : lb (tx l) = l := rfl
theorem lb_inj {s t : ByteArray} (h : lb s = lb t) : s = t := by rw [← tx_lb s, ← tx_lb t, h]
theorem extract_lb (s : ByteArray) (a b : Nat) : lb (s.extract a b) = ((lb s).take b).drop a := by
  show (s.extract a b).data.toList = _
  rw [ByteArray.data_extract, Array.toList_extract, List.drop_take]
/-- what stands ahead of the first c, and behind it -/
def cutA (c : UInt8) (l : List UInt8) : List UInt8 := l.takeWhile (· != c)
def cutB (c : UInt8) (l : List UInt8) : List UInt8 := (l.dropWhile (· != c)).drop 1
def trim (c : UInt8) (l : List UInt8) : List UInt8 := if l.getLast? = some c then l.dropLast else l
theorem index_in {c : UInt8} : ∀ {l : List UInt8}, c ∈ l → Lib.indexByte l c = ((cutA c l).length : Int) ∧ l = cutA c l ++ c :: cutB c l
  | [], h => by cases h
  | b :: l, h => by
    unfold Lib.indexByte cutA cutB
    rw [List.takeWhile_cons, List.dropWhile_cons]
    by_cases hb : b = c
    · subst hb; simp
    · have hb' : (b == c) = false := by simpa using hb
      have hm : c ∈ l := by rcases List.mem_cons.1 h with rfl | h; exact absurd rfl hb; exact h
      obtain ⟨e1, e2⟩ := index_in hm
      unfold cutA at e1
      unfold cutA cutB at e2
      have hn : (b != c) = true := by simpa using hb
      have h0 : ((((l.takeWhile (· != c)).length : Int)) == -1) = false := by rw [beq_eq_false_iff_ne]; omega
      rw [hb', hn, if_neg (by simp), e1, h0, if_neg (by simp), if_pos rfl, if_pos rfl]
      exact ⟨by simp, congrArg (List.cons b) e2⟩
theorem index_out {c : UInt8} : ∀ {l : List UInt8}, c ∉ l → Lib.indexByte l c = -1 ∧ cutA c l = l ∧ cutB c l = []
  | [], _ => ⟨rfl, rfl, rfl⟩
  | b :: l, h => by
    rw [List.mem_cons, not_or] at h
    obtain ⟨e1, e2, e3⟩ := index_out h.2
    unfold cutA at e2
    unfold cutB at e3
    unfold Lib.indexByte cutA cutB
    have hb : (b == c) = false := by simpa using fun e => h.1 (Eq.symm e)
    have hn : (b != c) = true := by simpa using fun e => h.1 (Eq.symm e)
    rw [List.takeWhile_cons, List.dropWhile_cons, hb, hn, if_neg (by simp), e1, if_pos rfl, if_pos rfl, e2]
    exact ⟨rfl, rfl, e3⟩
theorem one_size (c : UInt8) : (⟨#[c]⟩ : ByteArray).size = 1 := rfl
theorem index_any (s : ByteArray) (c : UInt8) (w : World) : Calls Tryd.prog 109 #[.string s, .string ⟨#[c]⟩] w fun e w' => e = .returned (.int .i64 (Lib.indexByte (lb s) c)) ∧ w = w' := by
  have C := Tryd.stringslite_IndexByte s (c.toNat : Int) w
  rw [show (c.toNat : Int).toNat.toUInt8 = c by simp] at C
  have C := Lib.hid C
  have hz : ∀ h, (⟨#[c]⟩ : ByteArray)[0]'h = c := fun _ => rfl
  have h1 : (⟨#[c]⟩ : ByteArray).size = 1 := rfl
  have he : (⟨#[c]⟩ : ByteArray) = s → Lib.indexByte (lb s) c = 0 := fun h => by subst h; show Lib.indexByte [c] c = 0; unfold Lib.indexByte; simp
  generalize (⟨#[c]⟩ : ByteArray) = d at *
  by_cases hd : d = s
  · have hb := str_eq hd
    have hE := Lib.hid (he hd)
    clear hd he C hz
    go_enter Tryd.func109, Tryd.ntmps109
    go_wp2_with fail
    go_ret
    exact ⟨ret_int hE.out.symm, rfl⟩
  · have hb := str_ne hd
    clear hd he
    go_enter Tryd.func109, Tryd.ntmps109
    go_wp2_with fail
    refine C.out.mono ?_
    rintro e w' ⟨rfl, rfl⟩
    go_wp2_with fail
    go_ret
    exact ⟨rfl, rfl⟩
/-- cut at the first c -/
theorem cut_any (s : ByteArray) (c : UInt8) (w : World) (hs : s.size ≤ 9223372036854775807) : Calls Tryd.prog 72 #[.string s, .string ⟨#[c]⟩] w fun e w' => e = .returned (.tuple #[.string (tx (cutA c (lb s))), .string (tx (cutB c (lb s))), .bool (decide (c ∈ lb s))]) ∧ Below w.heap.size w w' := by
  have C : Calls Tryd.prog 90 #[.string s, .string ⟨#[c]⟩] w fun e w' => e = .returned (.tuple #[.string (tx (cutA c (lb s))), .string (tx (cutB c (lb s))), .bool (decide (c ∈ lb s))]) ∧ Below w.heap.size w w' := by
    have I := index_any s c w
    have h1 : (⟨#[c]⟩ : ByteArray).size = 1 := rfl
    by_cases hm : c ∈ lb s
    · obtain ⟨e1, e2⟩ := index_in hm
      rw [e1] at I
      have hl := congrArg List.length e2
      rw [List.length_append, List.length_cons, L_len] at hl
      have hA : s.extract 0 (cutA c (lb s)).length = tx (cutA c (lb s)) := lb_inj (by
        rw [extract_lb, List.drop_zero, lb_tx]
        have : ∀ (a b : List UInt8), lb s = a ++ b → (lb s).take a.length = a := fun a b h => by rw [h, List.take_left]
        exact this _ _ e2)
      have hB : s.extract ((cutA c (lb s)).length + 1) s.size = tx (cutB c (lb s)) := lb_inj (by
        rw [extract_lb, lb_tx, ← L_len s, List.take_length]
        have : ∀ (a b : List UInt8), lb s = a ++ c :: b → (lb s).drop (a.length + 1) = b := fun a b h => by rw [h, ← List.drop_drop, List.drop_left]; rfl
        exact this _ _ e2)
      have hd : decide (c ∈ lb s) = true := decide_eq_true hm
      rw [hd]
      generalize tx (cutA c (lb s)) = A at *
      generalize tx (cutB c (lb s)) = B at *
      generalize (cutA c (lb s)).length = n at *
      have I := Lib.hid I
      have hn : n < s.size := by omega
      have hn' : (n : Int) ≤ s.size := by omega
      have hn1' : (n : Int) + 1 ≤ s.size := by omega
      clear e1 e2 hl hm hd
      generalize (⟨#[c]⟩ : ByteArray) = d at *
      go_enter Tryd.func90, Tryd.ntmps90
      go_wp2_with fail
      refine I.out.mono ?_
      rintro e w' ⟨rfl, rfl⟩
      go_upto_region 3 with fail
      go_quiet (fail)
      go_wp2_with fail
      exact bodyPost_ret (v := .tuple #[.string A, .string B, .bool true]) (by simp [results, Tryd.results90, go_sem]) rfl ⟨rfl, below_drewN (Below.refl _ _) _⟩
    · obtain ⟨e1, e2, e3⟩ := index_out hm
      rw [e1] at I
      rw [e2, e3, decide_eq_false hm]
      have I := Lib.hid I
      clear e1 e2 e3 hm
      generalize (⟨#[c]⟩ : ByteArray) = d at *
      go_enter Tryd.func90, Tryd.ntmps90
      go_wp2_with fail
      refine I.out.mono ?_
      rintro e w' ⟨rfl, rfl⟩
      go_wp2_with fail
      exact bodyPost_ret (v := .tuple #[.string s, .string ⟨#[]⟩, .bool false]) (by simp [results, Tryd.results90, go_sem]) rfl ⟨rfl, Below.refl _ _⟩
  generalize (⟨#[c]⟩ : ByteArray) = d at *
  generalize tx (cutA c (lb s)) = A at *
  generalize tx (cutB c (lb s)) = B at *
  generalize decide (c ∈ lb s) = b at *
  go_enter Tryd.func72, Tryd.ntmps72
  go_wp2_with fail
  refine C.mono ?_
  rintro e w' ⟨rfl, hB⟩
  have HB := Lib.hid hB
  clear hB
  go_wp2_with fail
  exact bodyPost_ret (v := .tuple #[.string A, .string B, .bool b]) (by simp [results, Tryd.results72, go_sem]) rfl ⟨rfl, HB.out⟩
theorem pre_yes {s : ByteArray} {c : UInt8} (h : (lb s).head? = some c) : 0 < s.size ∧ s.extract 0 1 = ⟨#[c]⟩ ∧ s.extract 1 s.size = tx (lb s).tail := by
  have hl : (lb s).length = s.size := L_len s
  cases hs : lb s with
  | nil => rw [hs] at h; cases h
  | cons a r =>
    rw [hs] at h hl
    simp only [List.head?_cons, Option.some.injEq] at h
    subst h
    simp only [List.length_cons] at hl
    refine ⟨by omega, lb_inj ?_, lb_inj ?_⟩
    · rw [extract_lb, hs]; rfl
    · rw [extract_lb, hs, ← hl]; simp
theorem pre_no {s : ByteArray} {c : UInt8} (h : (lb s).head? ≠ some c) (h0 : 0 < s.size) : s.extract 0 1 ≠ ⟨#[c]⟩ := fun e => by
  have e := congrArg lb e
  rw [extract_lb] at e
  cases hs : lb s with
  | nil => have : (lb s).length = s.size := L_len s; rw [hs] at this; simp at this; omega
  | cons a r =>
    rw [hs] at h e
    have e : [a] = [c] := e
    simp only [List.cons.injEq, and_true] at e
    exact h (by rw [e]; rfl)
/-- a byte ahead -/
theorem hasPre_any (s : ByteArray) (c : UInt8) (w : World) (hs : s.size ≤ 9223372036854775807) : Calls Tryd.prog 129 #[.string s, .string ⟨#[c]⟩] w fun e w' => e = .returned (.bool (decide ((lb s).head? = some c))) ∧ w = w' := by
  by_cases h0 : s.size = 0
  · have he : (lb s).head? ≠ some c := fun e => by have := (pre_yes e).1; omega
    rw [decide_eq_false he]
    have h1 : (⟨#[c]⟩ : ByteArray).size = 1 := rfl
    have h0' : ¬ (1 : Int) ≤ s.size := by omega
    clear he h0
    generalize (⟨#[c]⟩ : ByteArray) = d at *
    go_enter Tryd.func129, Tryd.ntmps129
    go_wp2_with fail
    go_ret
    exact ⟨rfl, rfl⟩
  · have h1 : (⟨#[c]⟩ : ByteArray).size = 1 := rfl
    have h0' : (1 : Int) ≤ s.size := by omega
    obtain ⟨E, hE⟩ : ∃ E, s.extract 0 1 = E := ⟨_, rfl⟩
    have hb : (E.toList == (⟨#[c]⟩ : ByteArray).toList) = decide ((lb s).head? = some c) := by
      by_cases h : (lb s).head? = some c
      · rw [decide_eq_true h]; exact str_eq (hE.symm.trans (pre_yes h).2.1)
      · rw [decide_eq_false h]; exact str_ne fun e => pre_no h (by omega) (hE.trans e)
    generalize decide ((lb s).head? = some c) = b at *
    generalize (⟨#[c]⟩ : ByteArray) = d at *
    clear h0
    go_enter Tryd.func129, Tryd.ntmps129
    go_wp2_with fail
    go_ret
    exact ⟨rfl, rfl⟩
theorem cutPre_any (s : ByteArray) (c : UInt8) (w : World) (hs : s.size ≤ 9223372036854775807) : Calls Tryd.prog 91 #[.string s, .string ⟨#[c]⟩] w fun e w' => e = .returned (.tuple #[.string (if (lb s).head? = some c then tx (lb s).tail else s), .bool (decide ((lb s).head? = some c))]) ∧ w = w' := by
  have C : Calls Tryd.prog 110 #[.string s, .string ⟨#[c]⟩] w fun e w' => e = .returned (.tuple #[.string (if (lb s).head? = some c then tx (lb s).tail else s), .bool (decide ((lb s).head? = some c))]) ∧ w = w' := by
    have P := Lib.hid (hasPre_any s c w hs)
    have h1 : (⟨#[c]⟩ : ByteArray).size = 1 := rfl
    by_cases h : (lb s).head? = some c
    · obtain ⟨h0, -, hE⟩ := pre_yes h
      rw [decide_eq_true h] at P ⊢
      rw [if_pos h]
      have h0' : (1 : Int) ≤ s.size := by omega
      generalize tx (lb s).tail = T at *
      generalize (⟨#[c]⟩ : ByteArray) = d at *
      clear h h0
      go_enter Tryd.func110, Tryd.ntmps110
      go_wp2_with fail
      refine P.out.mono ?_
      rintro e w' ⟨rfl, rfl⟩
      go_wp2_with fail
      exact bodyPost_ret (v := .tuple #[.string T, .bool true]) (by simp [results, Tryd.results110, go_sem]) rfl ⟨rfl, rfl⟩
    · rw [decide_eq_false h] at P ⊢
      rw [if_neg h]
      generalize (⟨#[c]⟩ : ByteArray) = d at *
      clear h
      go_enter Tryd.func110, Tryd.ntmps110
      go_wp2_with fail
      refine P.out.mono ?_
      rintro e w' ⟨rfl, rfl⟩
      go_wp2_with fail
      exact bodyPost_ret (v := .tuple #[.string s, .bool false]) (by simp [results, Tryd.results110, go_sem]) rfl ⟨rfl, rfl⟩
  have C := Lib.hid C
  generalize (if (lb s).head? = some c then tx (lb s).tail else s) = T at *
  generalize decide ((lb s).head? = some c) = b at *
  generalize (⟨#[c]⟩ : ByteArray) = d at *
  go_enter Tryd.func91, Tryd.ntmps91
  go_wp2_with fail
  refine C.out.mono ?_
  rintro e w' ⟨rfl, rfl⟩
  go_wp2_with fail
  exact bodyPost_ret (v := .tuple #[.string T, .bool b]) (by simp [results, Tryd.results91, go_sem]) rfl ⟨rfl, rfl⟩
theorem last_of (l : List UInt8) (c : UInt8) (h : l.getLast? = some c) : ∃ r, l = r ++ [c] := by
  rcases List.eq_nil_or_concat l with rfl | ⟨r, a, rfl⟩
  · cases h
  · simp only [List.concat_eq_append, List.getLast?_append, List.getLast?_singleton, Option.some_or, Option.some.injEq] at h
    exact ⟨r, by rw [h]; simp⟩
theorem suf_yes {s : ByteArray} {c : UInt8} (h : (lb s).getLast? = some c) : 0 < s.size ∧ s.extract (s.size - 1) s.size = ⟨#[c]⟩ ∧ s.extract 0 (s.size - 1) = tx (lb s).dropLast := by
  have hl : (lb s).length = s.size := L_len s
  obtain ⟨r, hr⟩ := last_of _ _ h
  rw [hr, List.length_append, List.length_singleton] at hl
  refine ⟨by omega, lb_inj ?_, lb_inj ?_⟩
  · rw [extract_lb, hr, ← hl, Nat.add_sub_cancel, List.take_of_length_le (by simp), List.drop_left]
  · rw [extract_lb, hr, ← hl, Nat.add_sub_cancel, List.take_left, List.drop_zero, List.dropLast_concat]
theorem suf_no {s : ByteArray} {c : UInt8} (h : (lb s).getLast? ≠ some c) (h0 : 0 < s.size) : s.extract (s.size - 1) s.size ≠ ⟨#[c]⟩ := fun e => by
  have hl : (lb s).length = s.size := L_len s
  have e := congrArg lb e
  rw [extract_lb] at e
  rcases List.eq_nil_or_concat (lb s) with hr | ⟨r, a, hr⟩
  · rw [hr] at hl; simp at hl; omega
  · rw [List.concat_eq_append] at hr
    rw [hr] at hl h
    rw [List.length_append, List.length_singleton] at hl
    rw [hr, ← hl, Nat.add_sub_cancel, List.take_of_length_le (by simp), List.drop_left] at e
    have e : [a] = [c] := e
    simp only [List.cons.injEq, and_true] at e
    exact h (by rw [e]; simp)
/-- a byte at the end -/
theorem hasSuf_any (s : ByteArray) (c : UInt8) (w : World) (hs : s.size ≤ 9223372036854775807) : Calls Tryd.prog 113 #[.string s, .string ⟨#[c]⟩] w fun e w' => e = .returned (.bool (decide ((lb s).getLast? = some c))) ∧ w = w' := by
  by_cases h0 : s.size = 0
  · have he : (lb s).getLast? ≠ some c := fun e => by have := (suf_yes e).1; omega
    rw [decide_eq_false he]
    have h1 : (⟨#[c]⟩ : ByteArray).size = 1 := rfl
    have h0' : ¬ (1 : Int) ≤ s.size := by omega
    clear he h0
    generalize (⟨#[c]⟩ : ByteArray) = d at *
    go_enter Tryd.func113, Tryd.ntmps113
    go_wp2_with fail
    go_ret
    exact ⟨rfl, rfl⟩
  · have h1 : (⟨#[c]⟩ : ByteArray).size = 1 := rfl
    have h0' : (1 : Int) ≤ s.size := by omega
    have h0'' : 1 ≤ s.size := by omega
    obtain ⟨E, hE⟩ : ∃ E, s.extract (s.size - 1) s.size = E := ⟨_, rfl⟩
    have hb : (E.toList == (⟨#[c]⟩ : ByteArray).toList) = decide ((lb s).getLast? = some c) := by
      by_cases h : (lb s).getLast? = some c
      · rw [decide_eq_true h]; exact str_eq (hE.symm.trans (suf_yes h).2.1)
      · rw [decide_eq_false h]; exact str_ne fun e => suf_no h (by omega) (hE.trans e)
    generalize decide ((lb s).getLast? = some c) = b at *
    generalize (⟨#[c]⟩ : ByteArray) = d at *
    clear h0
    go_enter Tryd.func113, Tryd.ntmps113
    go_wp2_with fail
    go_ret
    exact ⟨rfl, rfl⟩
theorem trim_any (s : ByteArray) (c : UInt8) (w : World) (hs : s.size ≤ 9223372036854775807) : Calls Tryd.prog 74 #[.string s, .string ⟨#[c]⟩] w fun e w' => e = .returned (.string (tx (trim c (lb s)))) ∧ w = w' := by
  have C : Calls Tryd.prog 93 #[.string s, .string ⟨#[c]⟩] w fun e w' => e = .returned (.string (tx (trim c (lb s)))) ∧ w = w' := by
    have P := Lib.hid (hasSuf_any s c w hs)
    have h1 : (⟨#[c]⟩ : ByteArray).size = 1 := rfl
    unfold trim
    by_cases h : (lb s).getLast? = some c
    · obtain ⟨h0, -, hE⟩ := suf_yes h
      rw [decide_eq_true h] at P
      rw [if_pos h]
      have h0' : (1 : Int) ≤ s.size := by omega
      have h0'' : 1 ≤ s.size := by omega
      generalize tx (lb s).dropLast = T at *
      generalize (⟨#[c]⟩ : ByteArray) = d at *
      clear h h0
      go_enter Tryd.func93, Tryd.ntmps93
      go_wp2_with fail
      refine P.out.mono ?_
      rintro e w' ⟨rfl, rfl⟩
      go_wp2_with fail
      go_ret
      exact ⟨rfl, rfl⟩
    · rw [decide_eq_false h] at P
      rw [if_neg h]
      generalize (⟨#[c]⟩ : ByteArray) = d at *
      clear h
      go_enter Tryd.func93, Tryd.ntmps93
      go_wp2_with fail
      refine P.out.mono ?_
      rintro e w' ⟨rfl, rfl⟩
      go_wp2_with fail
      go_ret
      exact ⟨rfl, rfl⟩
  have C := Lib.hid C
  generalize tx (trim c (lb s)) = T at *
  generalize (⟨#[c]⟩ : ByteArray) = d at *
  go_enter Tryd.func74, Tryd.ntmps74
  go_wp2_with fail
  refine C.out.mono ?_
  rintro e w' ⟨rfl, rfl⟩
  go_wp2_with fail
  go_ret
  exact ⟨rfl, rfl⟩
end Go.Proofs.YtakoghdkllfhlaaDoor
