/- Contracts: isText and Parse of package num, Parse of the reference. -/
import Derived.Test.YtakoghdkllfhlaaDoorTpm
import Derived.Test.YtakoghdkllfhlaaDoorTn
import Derived.Below
import Derived.WalkSmall
import Derived.Deep.DeepMust
import Derived.Lib.RabinKarpLaws
import Derived.LoopTactic
namespace Go.Proofs.YtakoghdkllfhlaaDoor
open Go.ChangeShapes Go.WideShapes Go.ChangeAt Go.RowKit

theorem tp_toList_is (s : ByteArray) : s.toList = s.data.toList := by
  obtain ⟨⟨l⟩⟩ := s
  exact ByteArray.toList_mk l
theorem tp_L_get (s : ByteArray) (k : Nat) (h : k < s.size) : s.data.toList[k]'(by simpa using h) = s[k] := by simp; rfl
theorem tp_L_len (s : ByteArray) : s.data.toList.length = s.size := by simp
theorem tp_empty_iff (s : ByteArray) (h : 0 < s.size) : s.toList.isEmpty = false ∧ ¬ s.toList = [] := by
  rw [tp_toList_is]
  have : s.data.toList ≠ [] := by intro e; have := tp_L_len s; rw [e] at this; simp at this; omega
  exact ⟨by cases hl : s.data.toList with | nil => exact absurd hl this | cons a l => rfl, this⟩
theorem tp_size_zero (s : ByteArray) (h : s.size = 0) : s = ⟨#[]⟩ := by
  have : s = ByteArray.empty := by simpa using h
  rw [this]; rfl
theorem L_head (s : ByteArray) (h : 0 < s.size) : s.data.toList.head? = some (s[0]) := by
  rw [List.head?_eq_getElem?, List.getElem?_eq_getElem (by rw [tp_L_len]; exact h), tp_L_get s 0 h]
theorem L_all (s : ByteArray) (h : ∀ j (h : j < s.size), isDig s[j]) : ∀ c ∈ s.data.toList, isDig c := by
  intro c hc
  obtain ⟨j, hj, rfl⟩ := List.getElem_of_mem hc
  have hj' : j < s.size := by simpa using hj
  rw [tp_L_get s j hj']; exact h j hj'
theorem u8_48 (c : UInt8) : c = 48 ↔ (c.toNat : Int) = 48 := by
  constructor
  · rintro rfl; rfl
  · intro h
    apply UInt8.toNat_inj.1
    have : (48 : UInt8).toNat = 48 := rfl
    omega
/-- what isText tells -/
def TextPost (s : ByteArray) (m : Bool) (w : World) (e : Ending) (w' : World) : Prop := (∃ b : Bool, e = .returned (.bool b) ∧ (b = true ↔ IsT s.data.toList m)) ∧ w = w'
theorem text_no {s : ByteArray} {m : Bool} {w w' : World} {e : Ending} (he : e = .returned (.bool false)) (h : ¬ IsT s.data.toList m) (hw : w = w') : TextPost s m w e w' := ⟨⟨false, he, by simp [h]⟩, hw⟩
theorem text_yes {s : ByteArray} {m : Bool} {w w' : World} {e : Ending} (he : e = .returned (.bool true)) (h : IsT s.data.toList m) (hw : w = w') : TextPost s m w e w' := ⟨⟨true, he, by simp [h]⟩, hw⟩
/-- 1 for a sign -/
def mi (m : Bool) : Int := if m then 1 else 0
set_option maxHeartbeats 1000000 in
theorem isText_loop (s : ByteArray) (m : Bool) (w : World) (hs : s.size ≤ 9223372036854775807) (h0 : 0 < s.size) (hz : ¬ ((s[0].toNat : Int) = 48 ∧ (1 < s.size ∨ m = true))) :
    Calls Tryd.prog 111 #[.string s, .int .u64 (mi m)] w (TextPost s m w) := by
  have E := tp_empty_iff s h0
  have E1 := E.1
  have E2 := E.2
  have HZ : Hid (¬ (s.data.toList.head? = some 48 ∧ (1 < s.data.toList.length ∨ m = true))) := by
    rw [L_head s h0, tp_L_len]
    intro h
    exact hz ⟨(u8_48 _).1 (Option.some.inj h.1), h.2⟩
  have HE := Lib.hid E2
  clear E
  by_cases c0 : (s[0].toNat : Int) = 48
  · have c1 : ¬ 1 < s.size := fun h => hz ⟨c0, .inl h⟩
    have c2 : m = false := by cases m with | false => rfl | true => exact absurd ⟨c0, .inr rfl⟩ hz
    subst c2
    have t0 : (((s[0]'h0).toNat : Int) == 48) = true := by simpa using c0
    have t1 : decide (1 < (s.size : Int)) = false := decide_eq_false (by omega)
    have t2 : (mi false != 0) = false := rfl
    have t3 : (s.size : Int) ≤ 1 := by omega
    clear hz c0 E2
    go_enter Tryd.func111, Tryd.ntmps111
    go_wp2
    go_loop [24] (fun i => ∃ k : Nat, k ≤ s.size ∧ i = .int .i64 k ∧ Hid (∀ j (h : j < s.size), j < k → isDig s[j])) (fun i => s.size - (intOf i).toNat)
    case atStart => exact ⟨0, Nat.zero_le _, rfl, fun j h hj => by omega⟩
    case round =>
      obtain ⟨k, hk, rfl, hj⟩ := hrel
      by_cases hlt : k < s.size
      · by_cases hd : isDig s[k]
        · have hd1 : ¬ ((s[k].toNat : Int) < 48) := by unfold isDig at hd; omega
          have hd2 : ¬ (57 < (s[k].toNat : Int)) := by unfold isDig at hd; omega
          have HD := Lib.hid hd
          clear hd
          go_wp2
          go_round
          case rel => exact ⟨k + 1, by omega, by go_num, fun j h hjk => by rcases Nat.lt_succ_iff_lt_or_eq.1 hjk with h' | rfl; exact hj.out j h h'; exact HD.out⟩
          case measure => simp [intOf]; omega
        · have HD : Hid (¬ IsT s.data.toList false) := fun h => hd (by have := h.2.2 (s.data.toList[k]'(by rw [tp_L_len]; exact hlt)) (List.getElem_mem _); rwa [tp_L_get s k hlt] at this)
          by_cases hd1 : (s[k].toNat : Int) < 48
          · clear hd
            go_wp2
            go_ret
            exact text_no rfl HD.out rfl
          · have hd2 : 57 < (s[k].toNat : Int) := by unfold isDig at hd; omega
            clear hd
            go_wp2
            go_ret
            exact text_no rfl HD.out rfl
      · go_wp2
        go_ret
        exact text_yes rfl ⟨by rw [← tp_toList_is]; exact HE.out, HZ.out, L_all s fun j h => hj.out j h (by omega)⟩ rfl
  · have t0 : (((s[0]'h0).toNat : Int) == 48) = false := by simpa using c0
    clear hz c0 E2
    go_enter Tryd.func111, Tryd.ntmps111
    go_wp2
    go_loop [24] (fun i => ∃ k : Nat, k ≤ s.size ∧ i = .int .i64 k ∧ Hid (∀ j (h : j < s.size), j < k → isDig s[j])) (fun i => s.size - (intOf i).toNat)
    case atStart => exact ⟨0, Nat.zero_le _, rfl, fun j h hj => by omega⟩
    case round =>
      obtain ⟨k, hk, rfl, hj⟩ := hrel
      by_cases hlt : k < s.size
      · by_cases hd : isDig s[k]
        · have hd1 : ¬ ((s[k].toNat : Int) < 48) := by unfold isDig at hd; omega
          have hd2 : ¬ (57 < (s[k].toNat : Int)) := by unfold isDig at hd; omega
          have HD := Lib.hid hd
          clear hd
          go_wp2
          go_round
          case rel => exact ⟨k + 1, by omega, by go_num, fun j h hjk => by rcases Nat.lt_succ_iff_lt_or_eq.1 hjk with h' | rfl; exact hj.out j h h'; exact HD.out⟩
          case measure => simp [intOf]; omega
        · have HD : Hid (¬ IsT s.data.toList m) := fun h => hd (by have := h.2.2 (s.data.toList[k]'(by rw [tp_L_len]; exact hlt)) (List.getElem_mem _); rwa [tp_L_get s k hlt] at this)
          by_cases hd1 : (s[k].toNat : Int) < 48
          · clear hd
            go_wp2
            go_ret
            exact text_no rfl HD.out rfl
          · have hd2 : 57 < (s[k].toNat : Int) := by unfold isDig at hd; omega
            clear hd
            go_wp2
            go_ret
            exact text_no rfl HD.out rfl
      · go_wp2
        go_ret
        exact text_yes rfl ⟨by rw [← tp_toList_is]; exact HE.out, HZ.out, L_all s fun j h => hj.out j h (by omega)⟩ rfl
theorem isText_any (s : ByteArray) (m : Bool) (w : World) (hs : s.size ≤ 9223372036854775807) :
    Calls Tryd.prog 111 #[.string s, .int .u64 (mi m)] w (TextPost s m w) := by
  by_cases h0 : 0 < s.size
  · by_cases hz : (s[0].toNat : Int) = 48 ∧ (1 < s.size ∨ m = true)
    · have E := tp_empty_iff s h0
      have E1 := E.1
      have E2 := E.2
      have HN : Hid (¬ IsT s.data.toList m) := fun h => h.2.1 ⟨by rw [L_head s h0]; exact congrArg some ((u8_48 _).2 hz.1), by rw [tp_L_len]; exact hz.2⟩
      have t0 : (((s[0]'h0).toNat : Int) == 48) = true := by simpa using hz.1
      clear E
      by_cases c1 : 1 < s.size
      · have t1 : (1 : Int) < (s.size : Int) := by omega
        clear hz E2
        go_enter Tryd.func111, Tryd.ntmps111
        go_wp2
        go_ret
        exact text_no rfl HN.out rfl
      · have c2 : m = true := by rcases hz.2 with h | h; exact absurd h c1; exact h
        subst c2
        have t1 : (s.size : Int) ≤ 1 := by omega
        have t2 : (mi true != 0) = true := rfl
        clear hz E2
        go_enter Tryd.func111, Tryd.ntmps111
        go_wp2
        go_ret
        exact text_no rfl HN.out rfl
    · exact isText_loop s m w hs h0 hz
  · have hn : s = ⟨#[]⟩ := tp_size_zero s (by omega)
    subst hn
    go_enter Tryd.func111, Tryd.ntmps111
    go_wp2
    go_ret
    exact text_no rfl (fun h => h.1 rfl) rfl
end Go.Proofs.YtakoghdkllfhlaaDoor
