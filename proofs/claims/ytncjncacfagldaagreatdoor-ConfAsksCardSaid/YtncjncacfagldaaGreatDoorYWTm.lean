import Derived.WalkKit
import Derived.Test.YtncjncacfagldaaGreatDoorRows
import Derived.ProofKit
import Derived.OpenShut
import Derived.Lib.Hide
import Derived.Outline
import Derived.Deep.QuietTactic
import Derived.BigQuiet
import Derived.Lib.ItoaNum
import Derived.Lib.ItoaLen
import Derived.Below
import Derived.WalkSmall
import Derived.Deep.DeepMust
import Derived.Lib.RabinKarpLaws
import Derived.LoopTactic
namespace Go.Proofs.YtncjncacfagldaaGreatDoor
open Go.RowKit

def inI (n : Int) : Bool := decide (-9223372036854775808 ≤ n ∧ n ≤ 9223372036854775807)
def nv (n : Int) : Int := if inI n = true then n else 0
def ne (n : Int) : Int := if inI n = true then 0 else 6
theorem inI_yes {n : Int} (h1 : -9223372036854775808 ≤ n) (h2 : n ≤ 9223372036854775807) : inI n = true := by simp [inI]; omega
theorem inI_no {n : Int} (h : n < -9223372036854775808 ∨ 9223372036854775807 < n) : inI n = false := by simp [inI]; omega
theorem nv_yes {n : Int} (h1 : -9223372036854775808 ≤ n) (h2 : n ≤ 9223372036854775807) : nv n = n := by simp [nv, inI_yes h1 h2]
theorem ne_yes {n : Int} (h1 : -9223372036854775808 ≤ n) (h2 : n ≤ 9223372036854775807) : ne n = 0 := by simp [ne, inI_yes h1 h2]
theorem nv_no {n : Int} (h : n < -9223372036854775808 ∨ 9223372036854775807 < n) : nv n = 0 := by simp [nv, inI_no h]
theorem ne_no {n : Int} (h : n < -9223372036854775808 ∨ 9223372036854775807 < n) : ne n = 6 := by simp [ne, inI_no h]
theorem nv_bd (n : Int) : -9223372036854775808 ≤ nv n ∧ nv n ≤ 9223372036854775807 := by
 by_cases h : inI n = true
 · have : -9223372036854775808 ≤ n ∧ n ≤ 9223372036854775807 := by simpa [inI] using h
   rw [nv_yes this.1 this.2]; exact this
 · simp [nv, h]
theorem ofInt_u64' (x : Int) (h1 : 0 ≤ x) (h2 : x < 18446744073709551616) : (BitVec.ofInt 64 x).toNat = x.toNat := by
 rw [BitVec.toNat_ofInt]; omega
theorem xor_zero (x : Int) (h1 : 0 ≤ x) (h2 : x < 18446744073709551616) : bits .xor .u64 x 0 = x := by
 show IntKind.u64.wrap ((BitVec.ofInt 64 x ^^^ BitVec.ofInt 64 0).toNat : Int) = x
 have : BitVec.ofInt 64 0 = 0#64 := rfl
 rw [this, BitVec.xor_zero, ofInt_u64' x h1 h2, IntKind.wrap_u64]; omega
theorem xor_ones (x : Int) (h1 : 0 ≤ x) (h2 : x < 18446744073709551616) : bits .xor .u64 x 18446744073709551615 = 18446744073709551615 - x := by
 show IntKind.u64.wrap ((BitVec.ofInt 64 x ^^^ BitVec.ofInt 64 18446744073709551615).toNat : Int) = _
 have : BitVec.ofInt 64 18446744073709551615 = BitVec.allOnes 64 := by decide
 rw [this, BitVec.xor_allOnes, BitVec.toNat_not, ofInt_u64' x h1 h2, IntKind.wrap_u64]; omega
open Go.ChangeShapes Go.WideShapes Go.ChangeAt Go.RowKit

theorem tp_ret_int2 {k l : IntKind} {a b c d : Int} (h : a = b) (h' : c = d) : Ending.returned (.tuple #[.int k a, .int l c]) = .returned (.tuple #[.int k b, .int l d]) := by rw [h, h']

def sd (s m : Int) : Int := if m = 0 then s else -s
theorem signed_yes (s m : Int) (w : World) (h1 : 0 ≤ s) (h2 : s ≤ 9223372036854775807 + m) (h3 : m = 0 ∨ m = 1) :
 Calls Tryz.prog 169 #[.int .u64 s, .int .u64 m] w fun e w' => e = .returned (.tuple #[.int .i64 (sd s m), .int .i64 0]) ∧ w = w' := by
 have E0 : m = 0 → wrap64 (IntKind.u64.wrap (bits BinOp.xor IntKind.u64 s 0)) = sd s m := by
  intro h; subst h; rw [xor_zero s h1 (by omega), IntKind.wrap_u64]; unfold wrap64; simp [sd]; omega
 have E1 : m = 1 → wrap64 (IntKind.u64.wrap (bits BinOp.xor IntKind.u64 s (IntKind.u64.wrap (-1)) - IntKind.u64.wrap (-1))) = sd s m := by
  intro h; subst h; rw [show IntKind.u64.wrap (-1) = 18446744073709551615 from by decide, xor_ones s h1 (by omega), IntKind.wrap_u64]; unfold wrap64; simp [sd]; omega
 rcases h3 with rfl | rfl
 · have F := Lib.hid (E0 rfl)
   clear E0 E1
   go_enter Tryz.func169, Tryz.ntmps169
   go_wp2
   go_ret2
   exact ⟨tp_ret_int2 F.out rfl, rfl⟩
 · have F := Lib.hid (E1 rfl)
   clear E0 E1
   go_enter Tryz.func169, Tryz.ntmps169
   go_wp2
   go_ret2
   exact ⟨tp_ret_int2 F.out rfl, rfl⟩
theorem signed_no (s m : Int) (w : World) (h1 : 0 ≤ s) (h2 : 9223372036854775807 + m < s) (h3 : m = 0 ∨ m = 1) (h4 : s ≤ 18446744073709551615) :
 Calls Tryz.prog 169 #[.int .u64 s, .int .u64 m] w fun e w' => e = .returned (.tuple #[.int .i64 0, .int .i64 6]) ∧ w = w' := by
 rcases h3 with rfl | rfl
 all_goals
  go_enter Tryz.func169, Tryz.ntmps169
  go_wp2
  go_ret2
  exact ⟨rfl, rfl⟩
theorem signed_any (s m : Int) (w : World) (h1 : 0 ≤ s) (h3 : m = 0 ∨ m = 1) (h4 : s ≤ 18446744073709551615) :
 Calls Tryz.prog 169 #[.int .u64 s, .int .u64 m] w fun e w' => e = .returned (.tuple #[.int .i64 (nv (sd s m)), .int .i64 (ne (sd s m))]) ∧ w = w' := by
 by_cases h : s ≤ 9223372036854775807 + m
 · have : -9223372036854775808 ≤ sd s m ∧ sd s m ≤ 9223372036854775807 := by unfold sd; split <;> omega
   rw [nv_yes this.1 this.2, ne_yes this.1 this.2]
   exact signed_yes s m w h1 h h3
 · have : sd s m < -9223372036854775808 ∨ 9223372036854775807 < sd s m := by unfold sd; split <;> omega
   rw [nv_no this, ne_no this]
   exact signed_no s m w h1 (by omega) h3 h4
open Go.RowKit

def dval (l : List UInt8) : Int := l.foldl (fun u c => u * 10 + ((c.toNat : Int) - 48)) 0
theorem dval_snoc (l : List UInt8) (c : UInt8) : dval (l ++ [c]) = dval l * 10 + ((c.toNat : Int) - 48) := by simp [dval]
def isDig (c : UInt8) : Prop := 48 ≤ c.toNat ∧ c.toNat ≤ 57
theorem take_snoc_get (l : List UInt8) (k : Nat) (h : k < l.length) : l.take (k + 1) = l.take k ++ [l[k]] := by
 rw [List.take_succ_eq_append_getElem h]
theorem dval_take_bd (l : List UInt8) (h : ∀ c ∈ l, isDig c) : ∀ k, k ≤ l.length → 0 ≤ dval (l.take k) ∧ dval (l.take k) < 10 ^ k := by
 intro k
 induction k with
 | zero => intro _; simp [dval]
 | succ k ih =>
   intro hk
   have i := ih (by omega)
   have d : isDig (l[k]'(by omega)) := h _ (List.getElem_mem _)
   unfold isDig at d
   rw [take_snoc_get l k (by omega), dval_snoc, Int.pow_succ]
   omega
theorem dval_bd (l : List UInt8) (h : ∀ c ∈ l, isDig c) : 0 ≤ dval l ∧ dval l < 10 ^ l.length := by
 have := dval_take_bd l h l.length (Nat.le_refl _)
 rwa [List.take_length] at this
def IsT (l : List UInt8) (m : Bool) : Prop := l ≠ [] ∧ ¬ (l.head? = some 48 ∧ (1 < l.length ∨ m = true)) ∧ ∀ c ∈ l, isDig c
open Go.ChangeShapes Go.WideShapes Go.ChangeAt Go.RowKit

theorem tp_toList_is (s : ByteArray) : s.toList = s.data.toList := by
 obtain ⟨⟨l⟩⟩ := s
 exact ByteArray.toList_mk l
theorem tp_L_get (s : ByteArray) (k : Nat) (h : k < s.size) : s.data.toList[k]'(by simpa using h) = s[k] := by simp; rfl
theorem tp_L_len (s : ByteArray) : s.data.toList.length = s.size := by simp
theorem tp_empty_iff (s : ByteArray) (h : 0 < s.size) : s.toList.isEmpty = false ∧ ¬ s.toList = [] := by
 rw [tp_toList_is]
 have : s.data.toList ≠ [] := by intro e; have := tp_L_len s; rw [e] at this; simp at this; omega
 exact ⟨by cases hl : s.data.toList with | nil => exact absurd hl this | cons a l => rfl, this⟩
theorem tp_size_zero (s : ByteArray) (h : s.size = 0) : s = ⟨#[]⟩ := by
 have : s = ByteArray.empty := by simpa using h
 rw [this]; rfl
theorem L_head (s : ByteArray) (h : 0 < s.size) : s.data.toList.head? = some (s[0]) := by
 rw [List.head?_eq_getElem?, List.getElem?_eq_getElem (by rw [tp_L_len]; exact h), tp_L_get s 0 h]
theorem L_all (s : ByteArray) (h : ∀ j (h : j < s.size), isDig s[j]) : ∀ c ∈ s.data.toList, isDig c := by
 intro c hc
 obtain ⟨j, hj, rfl⟩ := List.getElem_of_mem hc
 have hj' : j < s.size := by simpa using hj
 rw [tp_L_get s j hj']; exact h j hj'
theorem u8_48 (c : UInt8) : c = 48 ↔ (c.toNat : Int) = 48 := by
 constructor
 · rintro rfl; rfl
 · intro h
   apply UInt8.toNat_inj.1
   have : (48 : UInt8).toNat = 48 := rfl
   omega
def TextPost (s : ByteArray) (m : Bool) (w : World) (e : Ending) (w' : World) : Prop := (∃ b : Bool, e = .returned (.bool b) ∧ (b = true ↔ IsT s.data.toList m)) ∧ w = w'
theorem text_no {s : ByteArray} {m : Bool} {w w' : World} {e : Ending} (he : e = .returned (.bool false)) (h : ¬ IsT s.data.toList m) (hw : w = w') : TextPost s m w e w' := ⟨⟨false, he, by simp [h]⟩, hw⟩
theorem text_yes {s : ByteArray} {m : Bool} {w w' : World} {e : Ending} (he : e = .returned (.bool true)) (h : IsT s.data.toList m) (hw : w = w') : TextPost s m w e w' := ⟨⟨true, he, by simp [h]⟩, hw⟩
def mi (m : Bool) : Int := if m then 1 else 0
set_option maxHeartbeats 1000000 in
theorem isText_loop (s : ByteArray) (m : Bool) (w : World) (hs : s.size ≤ 9223372036854775807) (h0 : 0 < s.size) (hz : ¬ ((s[0].toNat : Int) = 48 ∧ (1 < s.size ∨ m = true))) :
 Calls Tryz.prog 168 #[.string s, .int .u64 (mi m)] w (TextPost s m w) := by
 have E := tp_empty_iff s h0
 have E1 := E.1
 have E2 := E.2
 have HZ : Hid (¬ (s.data.toList.head? = some 48 ∧ (1 < s.data.toList.length ∨ m = true))) := by
  rw [L_head s h0, tp_L_len]
  intro h
  exact hz ⟨(u8_48 _).1 (Option.some.inj h.1), h.2⟩
 have HE := Lib.hid E2
 clear E
 by_cases c0 : (s[0].toNat : Int) = 48
 · have c1 : ¬ 1 < s.size := fun h => hz ⟨c0, .inl h⟩
   have c2 : m = false := by cases m with | false => rfl | true => exact absurd ⟨c0, .inr rfl⟩ hz
   subst c2
   have t0 : (((s[0]'h0).toNat : Int) == 48) = true := by simpa using c0
   have t1 : decide (1 < (s.size : Int)) = false := decide_eq_false (by omega)
   have t2 : (mi false != 0) = false := rfl
   have t3 : (s.size : Int) ≤ 1 := by omega
   clear hz c0 E2
   go_enter Tryz.func168, Tryz.ntmps168
   go_wp2
   go_loop [24] (fun i => ∃ k : Nat, k ≤ s.size ∧ i = .int .i64 k ∧ Hid (∀ j (h : j < s.size), j < k → isDig s[j])) (fun i => s.size - (intOf i).toNat)
   case atStart => exact ⟨0, Nat.zero_le _, rfl, fun j h hj => by omega⟩
   case round =>
    obtain ⟨k, hk, rfl, hj⟩ := hrel
    by_cases hlt : k < s.size
    · by_cases hd : isDig s[k]
      · have hd1 : ¬ ((s[k].toNat : Int) < 48) := by unfold isDig at hd; omega
        have hd2 : ¬ (57 < (s[k].toNat : Int)) := by unfold isDig at hd; omega
        have HD := Lib.hid hd
        clear hd
        go_wp2
        go_round
        case rel => exact ⟨k + 1, by omega, by go_num, fun j h hjk => by rcases Nat.lt_succ_iff_lt_or_eq.1 hjk with h' | rfl; exact hj.out j h h'; exact HD.out⟩
        case measure => simp [intOf]; omega
      · have HD : Hid (¬ IsT s.data.toList false) := fun h => hd (by have := h.2.2 (s.data.toList[k]'(by rw [tp_L_len]; exact hlt)) (List.getElem_mem _); rwa [tp_L_get s k hlt] at this)
        by_cases hd1 : (s[k].toNat : Int) < 48
        · clear hd
          go_wp2
          go_ret
          exact text_no rfl HD.out rfl
        · have hd2 : 57 < (s[k].toNat : Int) := by unfold isDig at hd; omega
          clear hd
          go_wp2
          go_ret
          exact text_no rfl HD.out rfl
    · go_wp2
      go_ret
      exact text_yes rfl ⟨by rw [← tp_toList_is]; exact HE.out, HZ.out, L_all s fun j h => hj.out j h (by omega)⟩ rfl
 · have t0 : (((s[0]'h0).toNat : Int) == 48) = false := by simpa using c0
   clear hz c0 E2
   go_enter Tryz.func168, Tryz.ntmps168
   go_wp2
   go_loop [24] (fun i => ∃ k : Nat, k ≤ s.size ∧ i = .int .i64 k ∧ Hid (∀ j (h : j < s.size), j < k → isDig s[j])) (fun i => s.size - (intOf i).toNat)
   case atStart => exact ⟨0, Nat.zero_le _, rfl, fun j h hj => by omega⟩
   case round =>
    obtain ⟨k, hk, rfl, hj⟩ := hrel
    by_cases hlt : k < s.size
    · by_cases hd : isDig s[k]
      · have hd1 : ¬ ((s[k].toNat : Int) < 48) := by unfold isDig at hd; omega
        have hd2 : ¬ (57 < (s[k].toNat : Int)) := by unfold isDig at hd; omega
        have HD := Lib.hid hd
        clear hd
        go_wp2
        go_round
        case rel => exact ⟨k + 1, by omega, by go_num, fun j h hjk => by rcases Nat.lt_succ_iff_lt_or_eq.1 hjk with h' | rfl; exact hj.out j h h'; exact HD.out⟩
        case measure => simp [intOf]; omega
      · have HD : Hid (¬ IsT s.data.toList m) := fun h => hd (by have := h.2.2 (s.data.toList[k]'(by rw [tp_L_len]; exact hlt)) (List.getElem_mem _); rwa [tp_L_get s k hlt] at this)
        by_cases hd1 : (s[k].toNat : Int) < 48
        · clear hd
          go_wp2
          go_ret
          exact text_no rfl HD.out rfl
        · have hd2 : 57 < (s[k].toNat : Int) := by unfold isDig at hd; omega
          clear hd
          go_wp2
          go_ret
          exact text_no rfl HD.out rfl
    · go_wp2
      go_ret
      exact text_yes rfl ⟨by rw [← tp_toList_is]; exact HE.out, HZ.out, L_all s fun j h => hj.out j h (by omega)⟩ rfl
theorem isText_any (s : ByteArray) (m : Bool) (w : World) (hs : s.size ≤ 9223372036854775807) :
 Calls Tryz.prog 168 #[.string s, .int .u64 (mi m)] w (TextPost s m w) := by
 by_cases h0 : 0 < s.size
 · by_cases hz : (s[0].toNat : Int) = 48 ∧ (1 < s.size ∨ m = true)
   · have E := tp_empty_iff s h0
     have E1 := E.1
     have E2 := E.2
     have HN : Hid (¬ IsT s.data.toList m) := fun h => h.2.1 ⟨by rw [L_head s h0]; exact congrArg some ((u8_48 _).2 hz.1), by rw [tp_L_len]; exact hz.2⟩
     have t0 : (((s[0]'h0).toNat : Int) == 48) = true := by simpa using hz.1
     clear E
     by_cases c1 : 1 < s.size
     · have t1 : (1 : Int) < (s.size : Int) := by omega
       clear hz E2
       go_enter Tryz.func168, Tryz.ntmps168
       go_wp2
       go_ret
       exact text_no rfl HN.out rfl
     · have c2 : m = true := by rcases hz.2 with h | h; exact absurd h c1; exact h
       subst c2
       have t1 : (s.size : Int) ≤ 1 := by omega
       have t2 : (mi true != 0) = true := rfl
       clear hz E2
       go_enter Tryz.func168, Tryz.ntmps168
       go_wp2
       go_ret
       exact text_no rfl HN.out rfl
   · exact isText_loop s m w hs h0 hz
 · have hn : s = ⟨#[]⟩ := tp_size_zero s (by omega)
   subst hn
   go_enter Tryz.func168, Tryz.ntmps168
   go_wp2
   go_ret
   exact text_no rfl (fun h => h.1 rfl) rfl
open Go.ChangeShapes Go.WideShapes Go.ChangeAt Go.RowKit

open Classical in
noncomputable def pv (l : List UInt8) (m : Bool) : Int := if IsT l m ∧ l.length ≤ 19 then nv (sd (dval l) (mi m)) else 0
open Classical in
noncomputable def pe (l : List UInt8) (m : Bool) : Int := if IsT l m then (if l.length ≤ 19 then ne (sd (dval l) (mi m)) else 6) else 4
theorem pv_form {l : List UInt8} {m : Bool} (h : ¬ IsT l m) : pv l m = 0 ∧ pe l m = 4 := by unfold pv pe; simp [h]
theorem pv_long {l : List UInt8} {m : Bool} (h : IsT l m) (h2 : 19 < l.length) : pv l m = 0 ∧ pe l m = 6 := by
 unfold pv pe; rw [if_neg (fun x => by omega), if_pos h, if_neg (by omega)]; exact ⟨rfl, rfl⟩
theorem pv_num {l : List UInt8} {m : Bool} (h : IsT l m) (h2 : l.length ≤ 19) : pv l m = nv (sd (dval l) (mi m)) ∧ pe l m = ne (sd (dval l) (mi m)) := by
 unfold pv pe; rw [if_pos ⟨h, h2⟩, if_pos h, if_pos h2]; exact ⟨rfl, rfl⟩
theorem mi_or (m : Bool) : mi m = 0 ∨ mi m = 1 := by cases m <;> simp [mi]
theorem dval_small (l : List UInt8) (h : ∀ c ∈ l, isDig c) (hl : l.length ≤ 19) (k : Nat) (hk : k ≤ l.length) : 0 ≤ dval (l.take k) ∧ dval (l.take k) ≤ 9999999999999999999 ∧ (k < l.length → dval (l.take k) ≤ 999999999999999999) := by
 have b := dval_take_bd l h k hk
 have p : (10 : Int) ^ k ≤ 10 ^ 19 := by
  have : (10 : Nat) ^ k ≤ 10 ^ 19 := Nat.pow_le_pow_right (by decide) (by omega)
  exact_mod_cast this
 refine ⟨b.1, by omega, fun hlt => ?_⟩
 have q : (10 : Int) ^ k ≤ 10 ^ 18 := by
  have : (10 : Nat) ^ k ≤ 10 ^ 18 := Nat.pow_le_pow_right (by decide) (by omega)
  exact_mod_cast this
 omega
theorem dval_next (s : ByteArray) (k : Nat) (h : k < s.size) : dval (s.data.toList.take (k + 1)) = dval (s.data.toList.take k) * 10 + ((s[k].toNat : Int) - 48) := by
 rw [take_snoc_get _ k (by rw [tp_L_len]; exact h), dval_snoc, tp_L_get s k h]
set_option maxHeartbeats 2000000 in
theorem parse_plain (d : ByteArray) (w : World) (hd : d.size ≤ 9223372036854775807) (hc : ∀ h0 : 0 < d.size, (((d[0]'h0).toNat : Int) == 45) = false) :
 Calls Tryz.prog 143 #[.string d] w fun e w' => e = .returned (.tuple #[.int .i64 (pv d.data.toList false), .int .i64 (pe d.data.toList false)]) ∧ w = w' := by
 by_cases h0 : d.size = 0
 · have hn := tp_size_zero d h0
   subst hn
   have HR := Lib.hid (pv_form (l := []) (m := false) (fun h => h.1 rfl))
   clear hc h0
   go_enter Tryz.func143, Tryz.ntmps143
   go_wp2_with (go_at_call 168; go_in)
   go_ret2
   exact ⟨tp_ret_int2 HR.out.1.symm HR.out.2.symm, rfl⟩
 have h0' : (0 : Int) < (d.size : Int) := by omega
 have hc' := hc (by omega)
 clear hc h0
 have T := fun w => isText_any d false w hd
 rw [show mi false = 0 from rfl] at T
 go_enter Tryz.func143, Tryz.ntmps143
 go_wp2_with fail
 refine (T _).mono ?_
 rintro e w' ⟨⟨b, rfl, hb⟩, rfl⟩
 have HB := Lib.hid hb
 clear hb
 cases b with
 | false =>
   have HR := Lib.hid (pv_form (fun h => Bool.noConfusion (HB.out.2 h)))
   go_wp2
   go_ret2
   exact ⟨tp_ret_int2 HR.out.1.symm HR.out.2.symm, rfl⟩
 | true =>
   have HT := Lib.hid (HB.out.1 rfl)
   by_cases h19 : d.size ≤ 19
   · have HR := Lib.hid (pv_num HT.out (by rw [tp_L_len]; exact h19))
     have C := fun w => signed_any (dval d.data.toList) (mi false) w (dval_bd _ HT.out.2.2).1 (mi_or _) (by have := dval_small _ HT.out.2.2 (by rw [tp_L_len]; exact h19) d.size (by rw [tp_L_len]; exact Nat.le_refl _); rw [show d.data.toList.take d.size = d.data.toList by rw [← tp_L_len, List.take_length]] at this; omega)
     rw [show mi false = 0 from rfl] at C
     go_wp2_with fail
     go_loop [6, 28] (fun n i => ∃ k : Nat, k ≤ d.size ∧ i = .int .i64 k ∧ n = .int .u64 (dval (d.data.toList.take k))) (fun _ i => d.size - (intOf i).toNat)
     case atStart => exact ⟨0, Nat.zero_le _, rfl, by simp [dval]⟩
     case round =>
      obtain ⟨k, hk, rfl, rfl⟩ := hrel
      have bd := dval_small _ HT.out.2.2 (by rw [tp_L_len]; exact h19) k (by rw [tp_L_len]; exact hk)
      by_cases hlt : k < d.size
      · have dg : isDig d[k] := by have := HT.out.2.2 (d.data.toList[k]'(by rw [tp_L_len]; exact hlt)) (List.getElem_mem _); rwa [tp_L_get d k hlt] at this
        have dg1 : 48 ≤ (d[k].toNat : Int) ∧ (d[k].toNat : Int) ≤ 57 := by unfold isDig at dg; omega
        have bd2 := bd.2.2 (by rw [tp_L_len]; exact hlt)
        have HN := Lib.hid (dval_next d k hlt)
        obtain ⟨u, hu⟩ : ∃ u, dval (d.data.toList.take k) = u := ⟨_, rfl⟩
        rw [hu] at bd bd2
        have bd1 := bd.1
        rw [hu]
        have HU := Lib.hid hu
        clear bd dg hu
        go_wp2
        go_round
        case rel => exact ⟨k + 1, by omega, by go_num, by rw [HN.out, HU.out]⟩
        case measure => simp [intOf]; omega
      · have hk' : k = d.size := by omega
        have hv : dval (d.data.toList.take k) = dval d.data.toList := by rw [hk', ← tp_L_len, List.take_length]
        rw [hv]
        clear bd hk' hv
        go_wp2_with fail
        refine (C _).mono ?_
        rintro e w' ⟨rfl, rfl⟩
        go_wp2
        go_ret2
        exact ⟨tp_ret_int2 HR.out.1.symm HR.out.2.symm, rfl⟩
   · have HR := Lib.hid (pv_long HT.out (by rw [tp_L_len]; omega))
     have h19' : (19 : Int) < (d.size : Int) := by omega
     clear h19
     go_wp2
     go_ret2
     exact ⟨tp_ret_int2 HR.out.1.symm HR.out.2.symm, rfl⟩
end Go.Proofs.YtncjncacfagldaaGreatDoor
