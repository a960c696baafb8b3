/- The reference's Short and Str; GetStr of package code. -/
import Derived.Test.YtakoghdkllfhlaaDoorRg
import Derived.Test.YtakoghdkllfhlaaDoorRd
import Derived.Lib.ConvBytes
namespace Go.Proofs.YtakoghdkllfhlaaDoor
open Go.RowKit Go.Lib

set_option maxRecDepth 100000 in
set_option maxHeartbeats 2000000 in
theorem rshort_any (n : Nat) (w : World) (h64 : n < 18446744073709551616) : Calls Tryd.prog 57 #[.int .u64 n] w (NewRow (shrt n) w) := by
  obtain ⟨i, hi, hz, hs, hb⟩ := info_parts info5
  have H : Hid (Begun w (.slice none 0 0) [] w) := ⟨World.ownsRow_nil _ _ _ _, Below.refl _ _⟩
  generalize n = n0 at *
  go_enter Tryd.func57, Tryd.ntmps57
  go_wp2_with fail
  go_loopw [0, 3] (fun x v wr => ∃ (m j : Nat) (N : List Nat), m ≤ n0 ∧ x = .int .u64 m ∧ Hid (Begun w v N wr) ∧ Hid (shrt n0 = N ++ shrt m) ∧ Hid (N.length = j) ∧ j ≤ 100 ∧ m * 128 ^ j ≤ n0) (fun x _ _ => (intOf x).toNat)
  case atStart => exact ⟨n0, 0, [], Nat.le_refl _, rfl, H.out, rfl, rfl, by omega, by simp⟩
  case round =>
    obtain ⟨m, j, N, hm, rfl, HB, HS, HNL, hl, hp⟩ := hrel
    have hms : m < 18446744073709551616 := by omega
    have hNl : N.length ≤ 200000 := by have := HNL.out; omega
    by_cases h128 : m < 128
    · have hz0 : ¬ 128 ≤ (m : Int) := by omega
      have hmod : (m : Int) % 256 = (m : Int) := by omega
      have HO : Hid ((wr.alloc (.cells #[.int .u8 ((m : Nat) : Int)] 5)).ownsRow w.heap.size 5 1 _ N.length (bcs N)) := HB.out.own.alloc _
      go_wp2_with (at_builtin; go_must (refine wpList_append_lies _ rfl (.tmp 15) (.tmp 18) 49 rfl w.heap.size 5 i _ 1 1 Tryd.underlying49 hi hz hs hb rfl (by omega) _ N.length (bcs N) rfl HO.out ⟨wr.heap.size, 0, none⟩ 1 1 [.int .u8 ((m : Nat) : Int)] rfl rfl (World.news_of_block (heap_alloc_new _ _)) (fun u hu => by simp at hu; subst hu; rfl) (by omega) (by unfold maxLen; omega) (by omega) (by have := HB.out.bel.size; simp; omega) (wr.heap.size + 1) (by simp) ?_))
      intro g cp w8 hown hgrow hat hlt8
      have HE := Lib.hid (HB.out.app hown hgrow)
      have HF : Hid (shrt n0 = N ++ [m]) := by unfold Hid; rw [HS.out, shrt_small h128]
      clear hown hgrow hat
      go_wp2_with fail
      go_ret
      refine ⟨_, rfl, ?_, HE.out.bel⟩
      rw [HF.out]
      exact HE.out.own
    · have hz0 : 128 ≤ (m : Int) := by omega
      have hmod : (m : Int) % 128 % 256 = (m : Int) % 128 := by omega
      have hmod2 : ((m : Int) % 128 + 128) % 256 = ((m % 128 + 128 : Nat) : Int) := by omega
      have HO : Hid ((wr.alloc (.cells #[.int .u8 ((m % 128 + 128 : Nat) : Int)] 5)).ownsRow w.heap.size 5 1 _ N.length (bcs N)) := HB.out.own.alloc _
      go_wp2_with (at_builtin; go_must (refine wpList_append_lies _ rfl (.tmp 6) (.tmp 11) 49 rfl w.heap.size 5 i _ 1 1 Tryd.underlying49 hi hz hs hb rfl (by omega) _ N.length (bcs N) rfl HO.out ⟨wr.heap.size, 0, none⟩ 1 1 [.int .u8 ((m % 128 + 128 : Nat) : Int)] rfl rfl (World.news_of_block (heap_alloc_new _ _)) (fun u hu => by simp at hu; subst hu; rfl) (by omega) (by unfold maxLen; omega) (by omega) (by have := HB.out.bel.size; simp; omega) (wr.heap.size + 1) (by simp) ?_))
      intro g cp w8 hown hgrow hat hlt8
      have HE := Lib.hid (HB.out.app hown hgrow)
      have hp2 : m / 128 * 128 ^ (j + 1) ≤ n0 := by
        rw [Nat.pow_succ, Nat.mul_comm (128 ^ j) 128, ← Nat.mul_assoc]
        exact Nat.le_trans (Nat.mul_le_mul_right _ (Nat.div_mul_le_self m 128)) hp
      have hl2 : j + 1 ≤ 100 := by
        refine Decidable.byContradiction fun hh => ?_
        have h5 : j = 100 := by omega
        rw [h5] at hp
        have h6 : 1 * 128 ^ 100 ≤ m * 128 ^ 100 := Nat.mul_le_mul_right _ (by omega)
        have h7 : (18446744073709551616 : Nat) ≤ 1 * 128 ^ 100 := by decide
        omega
      have HS2 : Hid (shrt n0 = (N ++ [m % 128 + 128]) ++ shrt (m / 128)) := by unfold Hid; rw [HS.out, shrt_big h128, List.append_assoc]; rfl
      have HP2 := Lib.hid (And.intro hl2 hp2)
      have HNL2 : Hid ((N ++ [m % 128 + 128]).length = j + 1) := by unfold Hid; rw [List.length_append, HNL.out]; rfl
      clear hown hgrow hat hp hp2 hl2
      go_wp2_with fail
      go_roundw
      case rel => exact ⟨m / 128, j + 1, N ++ [m % 128 + 128], by omega, by go_num, HE, HS2, HNL2, HP2.out.1, HP2.out.2⟩
      case measure => simp [intOf]; omega
theorem sb_bytes' (s : ByteArray) : ∀ c, c ∈ sb s → c < 256 := fun c hc => by
  obtain ⟨u, _, rfl⟩ := List.mem_map.1 hc
  exact u.toNat_lt
theorem below_bytesWorld (w : World) (s : ByteArray) : Below w.heap.size w (bytesWorld w 5 s) :=
  ⟨rfl, rfl, rfl, by rw [bytesWorld_size]; omega, fun k hk => bytesWorld_at_old w 5 s k hk⟩
theorem bts_bytesWorld (w : World) (s : ByteArray) (hs : s.size ≤ 100000) : Bts (w.heap.size + 1) (bytesWorld w 5 s) (some ⟨w.heap.size, 0, none⟩) (grownCap w s.size 0 5) (sb s) := by
  refine ⟨⟨by rw [sb_len]; exact grownCap_ge _ _ _ _, grownCap_le_maxLen _ _ _ _ (by unfold maxLen; omega), (fun h => by cases h), fun _ => ⟨w.heap.size, 0, rfl, by omega, fun j hj m hm => ?_⟩⟩, sb_bytes' s, fun a e => by injection e with e; rw [← e]⟩
  rw [sb_len] at hj
  obtain rfl : m = 0 := by omega
  rw [Nat.zero_add, Nat.mul_one, Nat.add_zero, bytesWorld_cell w 5 s j hj]
  show _ = some (Value.int .u8 (((sb s).getD j 0 : Nat) : Int))
  unfold sb
  rw [List.getD_eq_getElem?_getD, List.getD_eq_getElem?_getD, List.getElem?_map]
  cases h5 : s.data.toList[j]? <;> simp
set_option maxRecDepth 100000 in
/-- a text's bytes, as a slice -/
theorem wpList_conv_bytes {w : World} {ops : Array Oper} {rest : List Oper} {o : Oper} {a : Act} {Q : Exit → Act → World → Prop} (hgd : o.guard = none) (x : Operand) (ho : o.op = .convert 9 49 x) (s : ByteArray) (hx : a.eval x = .string s) (hs : s.size ≤ 100000)
    (h : ∀ w' cap, Bts (w.heap.size + 1) w' (some ⟨w.heap.size, 0, none⟩) cap (sb s) → Below w.heap.size w w' → w.heap.size + 1 ≤ w'.heap.size → wpList Tryd.prog ops Q rest (a.put o.dst (.slice (some ⟨w.heap.size, 0, none⟩) s.size cap)) w') : wpList Tryd.prog ops Q (o :: rest) a w := by
  refine wpList_plain hgd fun K hK => ?_
  have hrun := Go.Lib.run_convert_string_bytes (P := Tryd.prog) w 9 49 5 s Tryd.underlying9 Tryd.underlying49 Tryd.underlying5
  unfold Oper.wp
  simp only [execOp, ho, hx, Sem.run_bind, Sem.run_pure]
  rw [hrun]
  exact hK _ _ (h _ _ (bts_bytesWorld w s hs) (below_bytesWorld w s) (by rw [bytesWorld_size]; omega))
set_option maxRecDepth 100000 in
set_option maxHeartbeats 2000000 in
theorem rstr_any (s : ByteArray) (hs : s.size ≤ 100000) (w : World) : Calls Tryd.prog 56 #[.string s] w (NewRow (shrt s.size ++ sb s) w) := by
  have HS := Lib.hid (fun w => rshort_any s.size w (by omega))
  have hl := shrt_len s.size (by omega)
  have HSL := Lib.hid (sb_len s)
  go_enter Tryd.func56, Tryd.ntmps56
  go_wp2_with fail
  refine (HS.out _).mono ?_
  rintro e w1 ⟨v1, rfl, ho, hbl⟩
  have H := Lib.hid (And.intro ho hbl)
  clear ho hbl HS
  go_wp2_with (refine wpList_conv_bytes rfl (.tmp 7) rfl s rfl hs ?_)
  intro w2 cp hB hb2 hz2
  have H2 : Hid (w2.ownsRow w.heap.size 5 1 v1 (shrt s.size).length (bcs (shrt s.size))) := ownsRow_kept H.out.1 fun g hg => hb2.block g (H.out.1.lt g hg).2
  have HB2 := Lib.hid hB
  have HE2 := Lib.hid (H.out.2.trans (hb2.mono H.out.2.size))
  have hz := HE2.out.size
  rw [← HSL.out]
  clear hB hb2 H
  go_wp2_with (at_builtin; go_must (refine app_bts rfl (.tmp 6) (.tmp 8) rfl (base := w.heap.size) (N := shrt s.size) (M := sb s) rfl rfl H2.out HB2.out (by rw [HSL.out]; omega) hz ?_))
  intro v3 w3 hown3 hb3 hs3
  have H3 := Lib.hid (And.intro hown3 (HE2.out.trans hb3))
  clear hown3 hb3
  go_wp2_with fail
  go_ret
  exact ⟨_, rfl, by rw [List.length_append]; exact H3.out.1, H3.out.2⟩
end Go.Proofs.YtakoghdkllfhlaaDoor
