import Derived.Test.YtncjncacfagldaaGreatDoorYWLC
import Derived.Test.YtncjncacfagldaaGreatDoorYWLShelf
import Derived.Deep.RegionWith
import Derived.Deep.RegionHeld3
import Derived.IntWalk
namespace Go.Proofs.YtncjncacfagldaaGreatDoor
open Go.RowKit

theorem Fr.refl (rb N : Nat) (a : World) : Fr rb N a a := ⟨rfl, rfl, rfl, Nat.le_refl _, fun _ _ _ => rfl⟩
def ixW (c : Nat) : Int := Lib.indexByte [34, 92, 110, 116, 36] (UInt8.ofNat c)
theorem ixW_any (c : Nat) (w : World) : Calls Tryz.prog 133 #[.string ⟨#[34, 92, 110, 116, 36]⟩, .int .u8 c] w fun e w' => e = .returned (.int .i64 (ixW c)) ∧ w = w' :=
 (Tryz.strings_IndexByte ⟨#[34, 92, 110, 116, 36]⟩ (c : Int) w).mono fun _ _ h => ⟨h.1, h.2.symm⟩
theorem esc_no : ∀ d : UInt8, esc d = none → ixW d.toNat = -1 := by
 intro d h
 have key : (List.range 256).all (fun n => (esc (UInt8.ofNat n)).isSome || ixW n == -1) = true := by kernel_rfl
 rw [List.all_eq_true] at key
 have := key d.toNat (List.mem_range.2 (u8_lt d))
 rw [UInt8.ofNat_toNat, h] at this
 simpa using this
theorem esc_yes (d x : UInt8) (h : esc d = some x) : (d = 34 ∧ x = 34) ∨ (d = 92 ∧ x = 92) ∨ (d = 110 ∧ x = 10) ∨ (d = 116 ∧ x = 9) ∨ (d = 36 ∧ x = 36) := by
 unfold esc at h
 by_cases h1 : d = 34
 · rw [if_pos h1] at h; exact .inl ⟨h1, by injection h with h; exact h.symm⟩
 rw [if_neg h1] at h
 by_cases h2 : d = 92
 · rw [if_pos h2] at h; exact .inr (.inl ⟨h2, by injection h with h; exact h.symm⟩)
 rw [if_neg h2] at h
 by_cases h3 : d = 110
 · rw [if_pos h3] at h; exact .inr (.inr (.inl ⟨h3, by injection h with h; exact h.symm⟩))
 rw [if_neg h3] at h
 by_cases h4 : d = 116
 · rw [if_pos h4] at h; exact .inr (.inr (.inr (.inl ⟨h4, by injection h with h; exact h.symm⟩)))
 rw [if_neg h4] at h
 by_cases h5 : d = 36
 · rw [if_pos h5] at h; exact .inr (.inr (.inr (.inr ⟨h5, by injection h with h; exact h.symm⟩)))
 rw [if_neg h5] at h; cases h
def Plk (w : World) (plb sb : Nat) (s : ByteArray) (a : Nat) : Prop := ∃ k, k ≤ a ∧ Pl w plb sb s (plc (lb s) k)
abbrev plF (plb sb : Nat) : Value := .func (.func 107) #[] #[.pointer (some ⟨plb, 0, none⟩), .pointer (some ⟨sb, 0, none⟩)]
def TakePost (w : World) (pb plb sb : Nat) (s : ByteArray) (a : Nat) (ps : List Prt) (b : List UInt8) (n : Nat) (e : Ending) (w' : World) : Prop :=
 match tk ((lb s).drop a) with
 | none => e = .returned (.tuple #[.int .i64 0, .bool false]) ∧ w = w'
 | some (m, q) => e = .returned (.tuple #[.int .i64 ((a + m : Nat) : Int), .bool true]) ∧ (∃ vl vp, Pb w' pb vl vp (tkP (plc (lb s) (a + 2)) ps b q) (tkB b q) (tkN n q)) ∧ Plk w' plb sb s (a + m) ∧ Fr plb pb w w'
theorem drop_cons2 {s : ByteArray} {a : Nat} (h : a < s.size) : (lb s).drop a = s[a] :: (lb s).drop (a + 1) := by
 rw [List.drop_eq_getElem_cons (by rw [tp_L_len]; exact h), lb_get h]
theorem take_inl {w w' : World} {pb plb sb a n m : Nat} {s : ByteArray} {ps : List Prt} {b : List UInt8} {x : UInt8} (ht : tk ((lb s).drop a) = some (m, .inl x)) (K : Plk w plb sb s a) (h1 : plb < pb) (h2 : sb < pb) (hP : ∃ vl vp, Pb w' pb vl vp ps (b ++ [x]) (n + 1)) (hB : Below pb w w') {y : Int} (hy : y = ((a + m : Nat) : Int)) :
 TakePost w pb plb sb s a ps b n (.returned (.tuple #[.int .i64 y, .bool true])) w' := by
 subst hy
 unfold TakePost
 rw [ht]
 obtain ⟨k, hk, hp⟩ := K
 exact ⟨rfl, hP, ⟨k, by omega, hp.kept hB h1 h2⟩, (Fr.refl _ _ _).below hB⟩
set_option maxHeartbeats 2000000 in
theorem take_esc {w : World} {pb plb sb a n : Nat} {s : ByteArray} {vl vp : Value} {ps : List Prt} {b : List UInt8} (P : Pb w pb vl vp ps b n) (K : Plk w plb sb s a) (hs : s.size ≤ 32768) (ha : a < s.size) (hb : b.length ≤ 100000) (hn : n ≤ 100000) (h1 : plb < pb) (h2 : sb < pb) (hc : s[a] = 92) :
 Calls Tryz.prog 145 #[.pointer (some ⟨pb, 0, none⟩), .string s, .int .i64 a, plF plb sb] w (TakePost w pb plb sb s a ps b n) := by
 have hd := drop_cons2 ha
 rw [hc] at hd
 have t1 : ((s[a].toNat : Int) == 92) = true := by rw [hc]; rfl
 have ha' : (a : Int) < s.size := by omega
 have C2 := ixW_any
 by_cases h3 : a + 1 < s.size
 case neg =>
  have ht : tk ((lb s).drop a) = none := by rw [hd, List.drop_eq_nil_of_le (by rw [tp_L_len]; omega)]; rfl
  unfold TakePost
  rw [ht]
  have B := byteAt_out (s := s) (k := a + 1) (by omega)
  rw [Int.natCast_add] at B
  have HB := qh B
  have HI := qh (ixW_any 0)
  rw [show ixW 0 = -1 by decide] at HI
  clear hd ht B C2 hc
  go_enter Tryz.func145, Tryz.ntmps145
  go_wp2_with fail
  refine (HB.out _).mono ?_
  rintro e w1 ⟨rfl, rfl⟩
  go_wp2_with fail
  refine (HI.out _).mono ?_
  rintro e w1 ⟨rfl, rfl⟩
  go_wp2_with fail
  go_ret2
  exact ⟨rfl, rfl⟩
 case pos =>
  have B := byteAt_in (s := s) (k := a + 1) h3
  rw [Int.natCast_add] at B
  have HB := qh B
  rw [drop_cons2 h3] at hd
  cases he : esc s[a + 1] with
  | none =>
    have ht : tk ((lb s).drop a) = none := by rw [hd, tk_e1, he]; rfl
    unfold TakePost
    rw [ht]
    have HI := ixW_any (s[a + 1].toNat)
    rw [esc_no _ he] at HI
    have HI := qh HI
    clear hd ht B C2 hc he
    go_enter Tryz.func145, Tryz.ntmps145
    go_wp2_with fail
    refine (HB.out _).mono ?_
    rintro e w1 ⟨rfl, rfl⟩
    go_wp2_with fail
    refine (HI.out _).mono ?_
    rintro e w1 ⟨rfl, rfl⟩
    go_wp2_with fail
    go_ret2
    exact ⟨rfl, rfl⟩
  | some x =>
    have ht : tk ((lb s).drop a) = some (2, .inl x) := by rw [hd, tk_e1, he]; rfl
    have FIN : Hid (∀ w', (∃ vl vp, Pb w' pb vl vp ps (b ++ [x]) (n + 1)) → Below pb w w' → TakePost w pb plb sb s a ps b n (.returned (.tuple #[.int .i64 ((a : Int) + 2), .bool true])) w') := fun w' hP hB => take_inl ht K h1 h2 hP hB rfl
    have HI := ixW_any (s[a + 1].toNat)
    have HP := qh P
    rcases esc_yes _ _ he with ⟨e1, rfl⟩ | ⟨e1, rfl⟩ | ⟨e1, rfl⟩ | ⟨e1, rfl⟩ | ⟨e1, rfl⟩
    · rw [show ixW (s[a + 1].toNat) = 0 by rw [e1]; decide] at HI
      have HI := qh HI
      have HU := qh (putByte_any P (by omega) (by omega) 34 (by decide))
      clear hd ht B C2 hc he e1 P K
      go_enter Tryz.func145, Tryz.ntmps145
      go_wp2_with fail
      refine (HB.out _).mono ?_
      rintro e w1 ⟨rfl, rfl⟩
      go_wp2_with fail
      refine (HI.out _).mono ?_
      rintro e w1 ⟨rfl, rfl⟩
      go_wp2_with fail
      refine HU.out.mono ?_
      rintro e w1 ⟨rfl, hq, hB⟩
      have HQ := qh (And.intro hq hB)
      clear hq hB
      go_wp2_with fail
      go_ret2
      exact FIN.out _ HQ.out.1 HQ.out.2
    · rw [show ixW (s[a + 1].toNat) = 1 by rw [e1]; decide] at HI
      have HI := qh HI
      have HU := qh (putByte_any P (by omega) (by omega) 92 (by decide))
      clear hd ht B C2 hc he e1 P K
      go_enter Tryz.func145, Tryz.ntmps145
      go_wp2_with fail
      refine (HB.out _).mono ?_
      rintro e w1 ⟨rfl, rfl⟩
      go_wp2_with fail
      refine (HI.out _).mono ?_
      rintro e w1 ⟨rfl, rfl⟩
      go_wp2_with fail
      refine HU.out.mono ?_
      rintro e w1 ⟨rfl, hq, hB⟩
      have HQ := qh (And.intro hq hB)
      clear hq hB
      go_wp2_with fail
      go_ret2
      exact FIN.out _ HQ.out.1 HQ.out.2
    · rw [show ixW (s[a + 1].toNat) = 2 by rw [e1]; decide] at HI
      have HI := qh HI
      have HU := qh (putByte_any P (by omega) (by omega) 10 (by decide))
      clear hd ht B C2 hc he e1 P K
      go_enter Tryz.func145, Tryz.ntmps145
      go_wp2_with fail
      refine (HB.out _).mono ?_
      rintro e w1 ⟨rfl, rfl⟩
      go_wp2_with fail
      refine (HI.out _).mono ?_
      rintro e w1 ⟨rfl, rfl⟩
      go_wp2_with fail
      refine HU.out.mono ?_
      rintro e w1 ⟨rfl, hq, hB⟩
      have HQ := qh (And.intro hq hB)
      clear hq hB
      go_wp2_with fail
      go_ret2
      exact FIN.out _ HQ.out.1 HQ.out.2
    · rw [show ixW (s[a + 1].toNat) = 3 by rw [e1]; decide] at HI
      have HI := qh HI
      have HU := qh (putByte_any P (by omega) (by omega) 9 (by decide))
      clear hd ht B C2 hc he e1 P K
      go_enter Tryz.func145, Tryz.ntmps145
      go_wp2_with fail
      refine (HB.out _).mono ?_
      rintro e w1 ⟨rfl, rfl⟩
      go_wp2_with fail
      refine (HI.out _).mono ?_
      rintro e w1 ⟨rfl, rfl⟩
      go_wp2_with fail
      refine HU.out.mono ?_
      rintro e w1 ⟨rfl, hq, hB⟩
      have HQ := qh (And.intro hq hB)
      clear hq hB
      go_wp2_with fail
      go_ret2
      exact FIN.out _ HQ.out.1 HQ.out.2
    · rw [show ixW (s[a + 1].toNat) = 4 by rw [e1]; decide] at HI
      have HI := qh HI
      have HU := qh (putByte_any P (by omega) (by omega) 36 (by decide))
      clear hd ht B C2 hc he e1 P K
      go_enter Tryz.func145, Tryz.ntmps145
      go_wp2_with fail
      refine (HB.out _).mono ?_
      rintro e w1 ⟨rfl, rfl⟩
      go_wp2_with fail
      refine (HI.out _).mono ?_
      rintro e w1 ⟨rfl, rfl⟩
      go_wp2_with fail
      refine HU.out.mono ?_
      rintro e w1 ⟨rfl, hq, hB⟩
      have HQ := qh (And.intro hq hB)
      clear hq hB
      go_wp2_with fail
      go_ret2
      exact FIN.out _ HQ.out.1 HQ.out.2
set_option maxHeartbeats 2000000 in
theorem take_byte {w : World} {pb plb sb a n : Nat} {s : ByteArray} {vl vp : Value} {ps : List Prt} {b : List UInt8} (P : Pb w pb vl vp ps b n) (K : Plk w plb sb s a) (hs : s.size ≤ 32768) (ha : a < s.size) (hb : b.length ≤ 100000) (hn : n ≤ 100000) (h1 : plb < pb) (h2 : sb < pb) (hc : s[a] ≠ 92) (hx : ¬ (s[a] = 36 ∧ ((lb s).drop (a + 1)).head? = some 123)) :
 Calls Tryz.prog 145 #[.pointer (some ⟨pb, 0, none⟩), .string s, .int .i64 a, plF plb sb] w (TakePost w pb plb sb s a ps b n) := by
 have hd := drop_cons2 ha
 have t1 : ((s[a].toNat : Int) == 92) = false := by rw [beq_eq_false_iff_ne]; exact fun h => hc (UInt8.toNat_inj.1 (by have : (92 : UInt8).toNat = 92 := rfl; omega))
 have ha' : (a : Int) < s.size := by omega
 have ht : tk ((lb s).drop a) = some (1, .inl s[a]) := by rw [hd, tk_b _ _ hc hx]
 have FIN : Hid (∀ w', (∃ vl vp, Pb w' pb vl vp ps (b ++ [s[a]]) (n + 1)) → Below pb w w' → TakePost w pb plb sb s a ps b n (.returned (.tuple #[.int .i64 ((a : Int) + 1), .bool true])) w') := fun w' hP hB => take_inl ht K h1 h2 hP hB rfl
 have U := putByte_any P (by omega) (by omega) (s[a].toNat) (u8_lt _)
 rw [UInt8.ofNat_toNat] at U
 have HU := qh U
 clear U hd ht hc P K
 by_cases h36 : s[a] = 36
 case neg =>
  have t2 : ((s[a].toNat : Int) == 36) = false := by rw [beq_eq_false_iff_ne]; exact fun h => h36 (UInt8.toNat_inj.1 (by have : (36 : UInt8).toNat = 36 := rfl; omega))
  clear hx h36
  go_enter Tryz.func145, Tryz.ntmps145
  go_wp2_with fail
  refine HU.out.mono ?_
  rintro e w1 ⟨rfl, hq, hB⟩
  have HQ := qh (And.intro hq hB)
  clear hq hB
  go_wp2_with fail
  go_ret2
  exact FIN.out _ HQ.out.1 HQ.out.2
 have t2 : ((s[a].toNat : Int) == 36) = true := by rw [h36]; rfl
 by_cases h3 : a + 1 < s.size
 case neg =>
  have B := byteAt_out (s := s) (k := a + 1) (by omega)
  rw [Int.natCast_add] at B
  have HB := qh B
  clear hx h36 B
  go_enter Tryz.func145, Tryz.ntmps145
  go_wp2_with fail
  refine (HB.out _).mono ?_
  rintro e w1 ⟨rfl, rfl⟩
  go_wp2_with fail
  refine HU.out.mono ?_
  rintro e w1 ⟨rfl, hq, hB⟩
  have HQ := qh (And.intro hq hB)
  clear hq hB
  go_wp2_with fail
  go_ret2
  exact FIN.out _ HQ.out.1 HQ.out.2
 have B := byteAt_in (s := s) (k := a + 1) h3
 rw [Int.natCast_add] at B
 have HB := qh B
 have t3 : ((s[a + 1].toNat : Int) == 123) = false := by
  rw [beq_eq_false_iff_ne]
  intro h
  refine hx ⟨h36, ?_⟩
  rw [drop_cons2 h3]
  exact congrArg some (UInt8.toNat_inj.1 (by have : (123 : UInt8).toNat = 123 := rfl; omega))
 clear hx h36 B
 go_enter Tryz.func145, Tryz.ntmps145
 go_wp2_with fail
 refine (HB.out _).mono ?_
 rintro e w1 ⟨rfl, rfl⟩
 go_wp2_with fail
 refine HU.out.mono ?_
 rintro e w1 ⟨rfl, hq, hB⟩
 have HQ := qh (And.intro hq hB)
 clear hq hB
 go_wp2_with fail
 go_ret2
 exact FIN.out _ HQ.out.1 HQ.out.2
theorem take_inr {w w' : World} {pb plb sb a n m : Nat} {s : ByteArray} {ps : List Prt} {b x : List UInt8} (ht : tk ((lb s).drop a) = some (m, .inr x)) (hm : 2 ≤ m) (hP : ∃ vl vp, Pb w' pb vl vp (flush ps b ++ [⟨true, x, plc (lb s) (a + 2)⟩]) [] (n + x.length)) (K : Pl w' plb sb s (plc (lb s) (a + 2))) (hB : Fr plb pb w w') {y : Int} (hy : y = ((a + m : Nat) : Int)) :
 TakePost w pb plb sb s a ps b n (.returned (.tuple #[.int .i64 y, .bool true])) w' := by
 subst hy
 unfold TakePost
 rw [ht]
 exact ⟨rfl, hP, ⟨a + 2, by omega, K⟩, hB⟩
theorem Pb.exc {w w' : World} {pb plb : Nat} {vl vp : Value} {ps : List Prt} {b : List UInt8} {n : Nat} (h : Pb w pb vl vp ps b n) (hx : Exc (some plb) w w') (hp : plb < pb) : Pb w' pb vl vp ps b n := h.keep fun k h1 h2 => hx.block k h2 fun e => by injection e with e; omega
set_option maxRecDepth 100000 in
set_option maxHeartbeats 2000000 in
theorem take_expr {w : World} {pb plb sb a n : Nat} {s : ByteArray} {vl vp : Value} {ps : List Prt} {b : List UInt8} (P : Pb w pb vl vp ps b n) (K : Plk w plb sb s a) (hT : Tab w) (hs : s.size ≤ 32768) (ha : a < s.size) (hb : b.length ≤ 100000) (hp : ps.length ≤ 100000) (hn : n ≤ 100000) (h1 : plb < pb) (h2 : sb < pb) (hc : s[a] = 36) (hx : ((lb s).drop (a + 1)).head? = some 123) :
 Calls Tryz.prog 145 #[.pointer (some ⟨pb, 0, none⟩), .string s, .int .i64 a, plF plb sb] w (TakePost w pb plb sb s a ps b n) := by
 have hd := drop_cons2 ha
 rw [hc] at hd
 have LS : (lb s).length = s.size := tp_L_len s
 have t1 : ((s[a].toNat : Int) == 92) = false := by rw [hc]; rfl
 have t2 : ((s[a].toNat : Int) == 36) = true := by rw [hc]; rfl
 have h3 : a + 1 < s.size := by
  rcases Nat.lt_or_ge (a + 1) s.size with h | h
  · exact h
  · rw [List.drop_eq_nil_of_le (by omega)] at hx; cases hx
 have ha' : (a : Int) < s.size := by omega
 have t3 : ((s[a + 1].toNat : Int) == 123) = true := by
  rw [drop_cons2 h3] at hx
  have : s[a + 1] = 123 := by injection hx
  rw [this]; rfl
 have B := byteAt_in (s := s) (k := a + 1) h3
 rw [Int.natCast_add] at B
 have HB := qh B
 have htl : ((lb s).drop (a + 1)).tail = (lb s).drop (a + 2) := List.tail_drop
 have ht := tk_x _ hx
 rw [← hd, htl, ← drop_bhd] at ht
 have HI := behind_any cls5 s (a + 2) w hT hs (by omega)
 have hE1 := bhd_ge isInner (lb s) (a + 2)
 have hE2 := bhd_le isInner (lb s) (a + 2) (by omega)
 have htk := take_bhd isInner (lb s) (a + 2)
 have hlen : (takeP isInner ((lb s).drop (a + 2))).length = bhd isInner (lb s) (a + 2) - (a + 2) := by unfold bhd; omega
 rw [LS] at hE2
 rw [Int.natCast_add] at HI
 obtain ⟨E, hE⟩ : ∃ E, bhd isInner (lb s) (a + 2) = E := ⟨_, rfl⟩
 rw [hE] at ht HI hE1 hE2 htk hlen
 have HI := qh HI
 clear hd hx htl B hE hc
 by_cases h5 : E < s.size ∧ ∀ h : E < s.size, s[E] = 125
 case neg =>
  have ht2 : tk ((lb s).drop a) = none := by
   rw [ht, if_neg]
   intro h
   refine h5 ?_
   have hlt : E < s.size := by
    rcases Nat.lt_or_ge E s.size with h' | h'
    · exact h'
    · rw [List.drop_eq_nil_of_le (by omega)] at h; cases h
   rw [drop_cons2 hlt] at h
   exact ⟨hlt, fun _ => by injection h⟩
  unfold TakePost
  rw [ht2]
  by_cases h4 : E < s.size
  · have BE := byteAt_in (s := s) (k := E) h4
    have t4 : ((s[E].toNat : Int) != 125) = true := by
     rw [bne_iff_ne]
     exact fun h => h5 ⟨h4, fun _ => UInt8.toNat_inj.1 (by have : (125 : UInt8).toNat = 125 := rfl; omega)⟩
    have HBE := qh BE
    clear BE h5 ht ht2 hT P K LS hlen htk
    go_enter Tryz.func145, Tryz.ntmps145
    go_wp2_with fail
    refine (HB.out _).mono ?_
    rintro e w1 ⟨rfl, rfl⟩
    go_wp2_with fail
    refine HI.out.mono ?_
    rintro e w1 ⟨rfl, rfl⟩
    go_wp2_with fail
    refine (HBE.out _).mono ?_
    rintro e w1 ⟨rfl, rfl⟩
    go_wp2_with fail
    go_ret2
    exact ⟨rfl, rfl⟩
  · have BE := byteAt_out (s := s) (k := E) (by omega)
    have HBE := qh BE
    clear BE h5 ht ht2 hT P K LS hlen htk
    go_enter Tryz.func145, Tryz.ntmps145
    go_wp2_with fail
    refine (HB.out _).mono ?_
    rintro e w1 ⟨rfl, rfl⟩
    go_wp2_with fail
    refine HI.out.mono ?_
    rintro e w1 ⟨rfl, rfl⟩
    go_wp2_with fail
    refine (HBE.out _).mono ?_
    rintro e w1 ⟨rfl, rfl⟩
    go_wp2_with fail
    go_ret2
    exact ⟨rfl, rfl⟩
 case pos =>
  obtain ⟨h4, h5⟩ := h5
  have h5 := h5 h4
  rw [if_pos (by rw [drop_cons2 h4, h5]; rfl)] at ht
  have BE := byteAt_in (s := s) (k := E) h4
  have t4 : ((s[E].toNat : Int) != 125) = false := by rw [h5]; rfl
  have HBE := qh BE
  have e1 : lb (s.extract (a + 2) E) = takeP isInner ((lb s).drop (a + 2)) := by
   rw [← htk]
   show (s.extract (a + 2) E).data.toList = _
   rw [ByteArray.data_extract, Array.toList_extract, List.drop_take]
  have e2 : (s.extract (a + 2) E).size = E - (a + 2) := by rw [ByteArray.size_extract]; omega
  obtain ⟨k, hk, hpl⟩ := K
  have CP := qh (lplace_any (w := w.drew) (j := a + 2) ⟨hpl.row, hpl.str, hpl.ne⟩ (by omega) (by omega) (by omega) (x := (a : Int) + 2) (fun i => by omega))
  have HP : Hid (Pb w.drew pb vl vp ps b n) := ⟨P.row, P.ol, P.op⟩
  have HT2 := qh ht
  have HE1 := qh e1
  have HE2 := qh e2
  have HLEN := qh hlen
  have hE1' : (a : Int) + 2 ≤ E := by omega
  have hE2' : (E : Int) ≤ s.size := by omega
  have hax : (a : Int) + 2 ≤ 40000 := by omega
  clear BE h5 ht hT P LS hlen htk e1 e2 hpl
  go_enter Tryz.func145, Tryz.ntmps145
  go_wp2_with fail
  refine (HB.out _).mono ?_
  rintro e w1 ⟨rfl, rfl⟩
  go_wp2_with fail
  refine HI.out.mono ?_
  rintro e w1 ⟨rfl, rfl⟩
  go_wp2_with fail
  refine (HBE.out _).mono ?_
  rintro e w1 ⟨rfl, rfl⟩
  go_upto_region 11 with fail
  have FIN : Hid (∀ W1 W2, Pl W1 plb sb s (plc (lb s) (a + 2)) → Exc (some plb) w.drew W1 → (∃ vl vp, Pb W2 pb vl vp (flush ps b ++ [⟨true, lb (s.extract (a + 2) E), plc (lb s) (a + 2)⟩]) [] (n + (s.extract (a + 2) E).size)) → Below pb W1 W2 → TakePost w pb plb sb s a ps b n (.returned (.tuple #[.int .i64 ((E : Int) + 1), .bool true])) W2) := fun W1 W2 k1 k2 k3 k4 => by
   rw [HE1.out, HE2.out] at k3
   refine take_inr HT2.out (by omega) ?_ (k1.kept k4 h1 h2) ?_ (by rw [HLEN.out]; omega)
   · rw [HLEN.out]; exact k3
   · have f0 : Fr plb pb w w.drew := ⟨rfl, rfl, rfl, Nat.le_refl _, fun _ _ _ => rfl⟩
     exact (f0.exc (Nat.le_of_lt HP.out.lt) k2).below k4
  have HSZ : (s.extract (a + 2) E).size ≤ 1000000 := by rw [HE2.out]; omega
  have HUF : Hid (∀ W1, Exc (some plb) w.drew W1 → _) := fun W1 hX => lputExpr_any (HP.out.exc (w' := W1) hX h1) (by omega) (by omega) (by omega) (s.extract (a + 2) E) HSZ (plc (lb s) (a + 2))
  clear HSZ
  have g2 : 0 ≤ (a : Int) + 2 := by omega
  have g3 : ((a : Int) + 2).toNat = a + 2 := by omega
  have g1 : IntKind.i64.wrap ((a : Int) + 2) = (a : Int) + 2 := IntWalk.i64_in _ (by omega)
  refine wp_region_noPanic ?_
  refine wp_region_held_drew (S := (fun _ => True)) (by kernel_rfl) ?_ (fun hH => ?_)
  · trivial
  refine wpAnyH_take (i := 0) (oi := { dst := some 50, op := Op.move (Operand.tmp 0), type := 209, pos := _, after := _, guard := none }) (v := ?_) rfl (by kernel_rfl) (by kernel_rfl) (by kernel_rfl) (fun _ _ _ h => h) (Or.inl ⟨by rfl, ?_⟩) (by assumption) ?_
  rotate_left
  · (intro w hSw; (try dsimp only at hSw); go_simp; try with_reducible rfl)
  try simp only [Act.put, sqa, sqb, sqc]
  refine wpAnyH_take (i := 1) (oi := { dst := some 51, op := Op.move (Operand.tmp 1), type := 9, pos := _, after := _, guard := none }) (v := ?_) rfl (by kernel_rfl) (by kernel_rfl) (by kernel_rfl) (fun _ _ _ h => h) (Or.inl ⟨by rfl, ?_⟩) (by assumption) ?_
  rotate_left
  · (intro w hSw; (try dsimp only at hSw); go_simp; try with_reducible rfl)
  try simp only [Act.put, sqa, sqb, sqc]
  refine wpAnyH_take (i := 2) (oi := { dst := some 52, op := Op.move (Operand.tmp 2), type := 3, pos := _, after := _, guard := none }) (v := ?_) rfl (by kernel_rfl) (by kernel_rfl) (by kernel_rfl) (fun _ _ _ h => h) (Or.inl ⟨by rfl, ?_⟩) (by assumption) ?_
  rotate_left
  · (intro w hSw; (try dsimp only at hSw); go_simp; try with_reducible rfl)
  try simp only [Act.put, sqa, sqb, sqc]
  refine wpAnyH_take (i := 3) (oi := { dst := some 53, op := Op.binOp BinOp.add 3 (Operand.tmp 52) (Operand.const (Value.int IntKind.i64 2)) 3, type := 3, pos := _, after := _, guard := none }) (v := ?_) rfl (by kernel_rfl) (by kernel_rfl) (by kernel_rfl) (fun _ _ _ h => h) (Or.inl ⟨by rfl, ?_⟩) (by assumption) ?_
  rotate_left
  · (intro w hSw; (try dsimp only at hSw); go_simp; try with_reducible rfl)
  try simp only [Act.put, sqa, sqb, sqc]
  refine wpAnyH_take (i := 4) (oi := { dst := some 54, op := Op.move (Operand.tmp 11), type := 3, pos := _, after := _, guard := none }) (v := ?_) rfl (by kernel_rfl) (by kernel_rfl) (by kernel_rfl) (fun _ _ _ h => h) (Or.inl ⟨by rfl, ?_⟩) (by assumption) ?_
  rotate_left
  · (intro w hSw; (try dsimp only at hSw); go_simp; try with_reducible rfl)
  try simp only [Act.put, sqa, sqb, sqc]
  refine wpAnyH_take (i := 5) (oi := { dst := some 55, op := Op.slice 9 (Operand.tmp 51) (some (Operand.tmp 53)) (some (Operand.tmp 54)) none, type := 9, pos := _, after := _, guard := none }) (v := ?_) rfl (by kernel_rfl) (by kernel_rfl) (by kernel_rfl) (fun _ _ _ h => h) (Or.inl ⟨by rfl, ?_⟩) (by assumption) ?_
  rotate_left
  · (intro w hSw; (try dsimp only at hSw); go_simp; try with_reducible rfl)
  try simp only [Act.put, sqa, sqb, sqc]
  refine wpAnyH_take (i := 6) (oi := { dst := some 56, op := Op.move (Operand.tmp 3), type := 114, pos := _, after := _, guard := none }) (v := ?_) rfl (by kernel_rfl) (by kernel_rfl) (by kernel_rfl) (fun _ _ _ h => h) (Or.inl ⟨by rfl, ?_⟩) (by assumption) ?_
  rotate_left
  · (intro w hSw; (try dsimp only at hSw); go_simp; try with_reducible rfl)
  try simp only [Act.put, sqa, sqb, sqc]
  refine wpAnyH_take (i := 7) (oi := { dst := some 57, op := Op.move (Operand.tmp 2), type := 3, pos := _, after := _, guard := none }) (v := ?_) rfl (by kernel_rfl) (by kernel_rfl) (by kernel_rfl) (fun _ _ _ h => h) (Or.inl ⟨by rfl, ?_⟩) (by assumption) ?_
  rotate_left
  · (intro w hSw; (try dsimp only at hSw); go_simp; try with_reducible rfl)
  try simp only [Act.put, sqa, sqb, sqc]
  refine wpAnyH_take (i := 8) (oi := { dst := some 58, op := Op.binOp BinOp.add 3 (Operand.tmp 57) (Operand.const (Value.int IntKind.i64 2)) 3, type := 3, pos := _, after := _, guard := none }) (v := ?_) rfl (by kernel_rfl) (by kernel_rfl) (by kernel_rfl) (fun _ _ _ h => h) (Or.inl ⟨by rfl, ?_⟩) (by assumption) ?_
  rotate_left
  · (intro w hSw; (try dsimp only at hSw); go_simp; try with_reducible rfl)
  try simp only [Act.put, sqa, sqb, sqc]
  refine wpAnyH_ready (rs := [9]) (by kernel_rfl) (by simp) ?_
  refine AllReadyH.cons (o := { dst := some 59, op := Op.call { callee := Callee.value (Operand.tmp 56), args := #[Operand.tmp 58], argTypes := #[3] }, type := 36, pos := _, after := _, guard := none }) rfl (fun K hK => ?_) AllReadyH.nil
  go_simp
  refine CP.out.mono ?_
  rintro e W1 ⟨rfl, hq, hX⟩
  have HQ := qh (And.intro hq hX)
  clear hq hX
  have HU := qh (HUF.out _ HQ.out.2)
  refine hK.out _ _ ?_ (fun hH' => ?_)
  · trivial
  clear hK K hH
  have hH := hH'
  clear hH'
  try simp only [Act.put, sqa, sqb, sqc]
  refine wpAnyH_ready (rs := [10]) (by kernel_rfl) (by simp) ?_
  refine AllReadyH.cons (o := { dst := some 60, op := Op.call { callee := Callee.value (Operand.func 173), args := #[Operand.tmp 50, Operand.tmp 55, Operand.tmp 59], argTypes := #[209, 9, 36] }, type := 0, pos := _, after := _, guard := none }) rfl (fun K hK => ?_) AllReadyH.nil
  go_simp
  refine HU.out.mono ?_
  rintro e W2 ⟨rfl, hq2, hB2⟩
  have HQ2 := qh (And.intro hq2 hB2)
  clear hq2 hB2
  refine hK.out _ _ ?_ (fun hH' => ?_)
  · trivial
  clear hK K hH
  have hH := hH'
  clear hH'
  try simp only [Act.put, sqa, sqb, sqc]
  refine wpAnyH_done (by kernel_rfl) ?_ _
  refine NoPanic.normal ?_
  all_goals
   clear g1 g2 g3
   go_wp2_with fail
   go_ret2
   exact FIN.out _ _ HQ.out.1 HQ.out.2 HQ2.out.1 HQ2.out.2
theorem take_any {w : World} {pb plb sb a n : Nat} {s : ByteArray} {vl vp : Value} {ps : List Prt} {b : List UInt8} (P : Pb w pb vl vp ps b n) (K : Plk w plb sb s a) (hT : Tab w) (hs : s.size ≤ 32768) (ha : a < s.size) (hb : b.length ≤ 100000) (hp : ps.length ≤ 100000) (hn : n ≤ 100000) (h1 : plb < pb) (h2 : sb < pb) :
 Calls Tryz.prog 145 #[.pointer (some ⟨pb, 0, none⟩), .string s, .int .i64 a, plF plb sb] w (TakePost w pb plb sb s a ps b n) := by
 by_cases hc : s[a] = 92
 · exact take_esc P K hs ha hb hn h1 h2 hc
 · by_cases hx : s[a] = 36 ∧ ((lb s).drop (a + 1)).head? = some 123
   · exact take_expr P K hT hs ha hb hp hn h1 h2 hx.1 hx.2
   · exact take_byte P K hs ha hb hn h1 h2 hc hx
end Go.Proofs.YtncjncacfagldaaGreatDoor
