/- Bytes in memory, copied into a row of the call's own; short forms and texts laid behind them. -/
import Derived.Test.YtakoghdkllfhlaaDoorRf
import Derived.Laws.MakeOwn
namespace Go.Proofs.YtakoghdkllfhlaaDoor
open Go.RowKit Go.Lib

/-- a new row that holds these bytes -/
def NewRow (M : List Nat) (w : World) (e : Ending) (w' : World) : Prop :=
  ∃ v', e = .returned v' ∧ w'.ownsRow w.heap.size 5 1 v' M.length (bcs M) ∧ Below w.heap.size w w'
theorem wpList_make_len {P : Program} (w : World) {ops : Array Oper} {rest : List Oper} {o : Oper} {a : Act} {Q : Exit → Act → World → Prop}
    (hg : o.guard = none) (l c : Operand) (t : TypeId) (hop : o.op = Op.makeSlice t l c)
    (e : TypeId) (i : TypeInfo) (z : Value) (h1 : P.underlying t = some (.slice e)) (h2 : P.info? e = some i) (h3 : i.zero = some z)
    (kl kc : IntKind) (L C : Int) (n m : Nat) (hl : a.eval l = .int kl L) (hc : a.eval c = .int kc C) (hL : L = (n : Int)) (hC : C = (m : Int)) (hnm : n ≤ m) (b2 : i.bytes * m ≤ 281474976710656) (b3 : m ≤ maxLen)
    (hK : ∀ w', Hid (w' = w.alloc (.cells (madeCells z.cells (m * i.size)) e)) → wpList P ops Q rest (a.put o.dst (.slice (some ⟨w.heap.size, 0, none⟩) n m)) w') :
    wpList P ops Q (o :: rest) a w := by
  refine wpList_plain hg fun K hK' => ?_
  unfold maxLen at b3
  have hrun := run_make (P := P) w t e i z h1 h2 h3 kl kc n m (by omega) (by omega) (by rw [← Int.natCast_mul]; omega) (by omega)
  simp only [Int.toNat_natCast] at hrun
  subst hL hC
  unfold Oper.wp
  simp [execOp, hop, hl, hc, hrun, Result.andThen]
  exact hK' _ _ (hK _ rfl)
theorem bcs_one (M : List Nat) : ∀ u ∈ bcs M, u.oneCell' = true := fun u hu => by
  obtain ⟨c, _, rfl⟩ := List.mem_map.1 hu
  rfl
theorem made_list (n : Nat) : madeCells #[Value.int .u8 0] n = (bcs (List.replicate n 0)).toArray := by
  apply Array.toList_inj.1
  rw [made_row n]
  unfold bcs
  simp only [List.map_replicate]
  apply List.ext_getElem?
  intro j
  by_cases hj : j < n
  · rw [List.getElem?_map, List.getElem?_range hj, List.getElem?_replicate, if_pos hj]; rfl
  · rw [List.getElem?_map, List.getElem?_eq_none (by simp; omega), List.getElem?_replicate, if_neg hj]; rfl
set_option maxRecDepth 100000 in
set_option maxHeartbeats 1000000 in
theorem nfreshN_any {nb : Nat} {w : World} {o : Option Addr} {cap : Nat} {N : List Nat} (B : Bts nb w o cap N) (hnb : nb ≤ w.heap.size) (hN : N.length ≤ 100000) :
    Calls Tryd.prog 97 #[.slice o N.length cap, .int .i64 10] w (NewRow N w) := by
  obtain ⟨i, hi, hz, hs, hb⟩ := info_parts info5
  have AL := Lib.hid ((Below.refl w.heap.size w).alloc (Nat.le_refl _) (.cells (bcs (List.replicate (N.length + 10) 0)).toArray 5))
  have B1 := Lib.hid (B.kept (AL.out.mono hnb))
  have HG : Hid ((w.alloc (.cells (bcs (List.replicate (N.length + 10) 0)).toArray 5)).heap[w.heap.size]? = some (.cells (bcs (List.replicate (N.length + 10) 0)).toArray 5 (0, 0))) := heap_alloc_new _ _
  have ML := made_list (N.length + 10)
  have l1 := B.row.1
  have l2 := B.row.2.1
  unfold maxLen at l2
  have HML := Lib.hid ML
  clear B ML
  go_enter Tryd.func97, Tryd.ntmps97
  go_wp2_with (at_make; go_must (refine wpList_make_len _ rfl (.tmp 7) (.tmp 11) 49 rfl 5 i (.int .u8 0) Tryd.underlying49 hi hz .i64 .i64 ((N.length : Nat) : Int) (((N.length : Nat) : Int) + 10) N.length (N.length + 10) rfl rfl rfl (by simp) (by omega) (by rw [hb]; omega) (by unfold maxLen; omega) ?_))
  intro w0 hw1
  have hw0 := hw1.out
  rw [HML.out] at hw0
  rw [← hw0] at AL B1 HG
  clear hw0 hw1
  have hs1 : (Tryd.prog.info? 5).map (·.size) = some 1 := by rw [hi]; simp [hs]
  go_wp2_with (refine wpList_copy_splice rfl (.tmp 13) (.tmp 14) 49 49 rfl 5 Tryd.underlying49 hs1 (some ⟨w.heap.size, 0, none⟩) o N.length (N.length + 10) N.length cap rfl rfl w.heap.size 0 (bcs (List.replicate (N.length + 10) 0)) 5 HG.out (bcs N) (by rw [bcs_len]; simp) (fun h0 => ⟨rfl, ?_⟩) (by rw [bcs_len, bcs_len]; simp) (bcs_one N) w.heap.size w AL.out (Nat.le_refl _) ?_)
  · rw [bcs_len] at h0
    obtain ⟨b, off, e, _, _⟩ := B1.out.at h0
    refine ⟨_, e, fun j v hj => ?_⟩
    have hjl : j < N.length := by
      have := (List.getElem?_eq_some_iff.1 hj).1
      rwa [bcs_len] at this
    obtain ⟨b', off', e', _, c⟩ := B1.out.at hjl
    rw [e] at e'
    injection e' with e'
    injection e' with e1 e2
    subst e1 e2
    have ea : (⟨b, off, none⟩ : Addr).add j = ⟨b, off + j, none⟩ := by unfold Addr.add; split <;> simp_all
    rw [ea, c]
    have h5 := bcs_get N j hjl
    rw [List.getD_eq_getElem?_getD, hj] at h5
    simp only [Option.getD_some] at h5
    rw [h5]
  · intro w' hrow hbel
    go_wp2_with fail
    go_ret
    refine ⟨_, rfl, ⟨by rw [bcs_len, Nat.mul_one], .inr ⟨w.heap.size, N.length + 10, _, rfl, Nat.le_refl _, hrow.out, by omega, by unfold maxLen; omega, ?_, ?_⟩⟩, hbel⟩
    · rw [Nat.mul_one, List.size_toArray, length_splice _ _ _ (by rw [bcs_len, bcs_len]; simp), bcs_len, List.length_replicate]
    · rw [Nat.mul_one]
      unfold splice
      simp only [List.take_zero, List.nil_append]
      rw [List.take_left' (bcs_len N)]
set_option maxRecDepth 100000 in
set_option maxHeartbeats 2000000 in
theorem putShortN_any (n : Nat) {nb : Nat} {w : World} {o : Option Addr} {cap : Nat} {N0 : List Nat} (B : Bts nb w o cap N0) (hnb : nb ≤ w.heap.size) (hN : N0.length ≤ 100000) (h64 : n < 18446744073709551616) :
    Calls Tryd.prog 79 #[.slice o N0.length cap, .int .u64 n] w (NewRow (N0 ++ shrt n) w) := by
  obtain ⟨i, hi, hz, hs, hb⟩ := info_parts info5
  have HF := Lib.hid (nfreshN_any B hnb hN)
  clear B
  generalize n = n0 at *
  go_enter Tryd.func79, Tryd.ntmps79
  go_wp2_with fail
  refine HF.out.mono ?_
  rintro e w1 ⟨v1, rfl, ho, hbl⟩
  have H := Lib.hid (Begun.mk (N := N0) ho hbl)
  clear ho hbl HF
  go_wp2_with fail
  go_loopw [1, 5] (fun x v wr => ∃ (m j : Nat) (N : List Nat), m ≤ n0 ∧ x = .int .u64 m ∧ Hid (Begun w v N wr) ∧ Hid (N0 ++ shrt n0 = N ++ shrt m) ∧ Hid (N.length = N0.length + j) ∧ j ≤ 100 ∧ m * 128 ^ j ≤ n0) (fun x _ _ => (intOf x).toNat)
  case atStart => exact ⟨n0, 0, N0, Nat.le_refl _, rfl, H.out, rfl, rfl, by omega, by simp⟩
  case round =>
    obtain ⟨m, j, N, hm, rfl, HB, HS, HNL, hl, hp⟩ := hrel
    have e1 := u8_or128' m
    have hms : m < 18446744073709551616 := by omega
    have hNl : N.length ≤ 200000 := by have := HNL.out; omega
    by_cases h128 : m < 128
    · have hz0 : ((m : Int) / 128 != 0) = false := by rw [bne_eq_false_iff_eq]; omega
      have hmod : (m : Int) % 256 = (m : Int) := by omega
      have HO : Hid ((wr.alloc (.cells #[.int .u8 ((m : Nat) : Int)] 5)).ownsRow w.heap.size 5 1 _ N.length (bcs N)) := HB.out.own.alloc _
      clear e1
      go_wp2_with (at_builtin; go_must (refine wpList_append_lies _ rfl (.tmp 19) (.tmp 22) 49 rfl w.heap.size 5 i _ 1 1 Tryd.underlying49 hi hz hs hb rfl (by omega) _ N.length (bcs N) rfl HO.out ⟨wr.heap.size, 0, none⟩ 1 1 [.int .u8 ((m : Nat) : Int)] rfl rfl (World.news_of_block (heap_alloc_new _ _)) (fun u hu => by simp at hu; subst hu; rfl) (by omega) (by unfold maxLen; omega) (by omega) (by have := HB.out.bel.size; simp; omega) (wr.heap.size + 1) (by simp) ?_))
      intro g cp w8 hown hgrow hat hlt8
      have HE := Lib.hid (HB.out.app hown hgrow)
      have HF : Hid (N0 ++ shrt n0 = N ++ [m]) := by unfold Hid; rw [HS.out, shrt_small h128]
      clear hown hgrow hat
      go_wp2_with fail
      go_ret
      refine ⟨_, rfl, ?_, HE.out.bel⟩
      rw [HF.out]
      exact HE.out.own
    · have hz0 : ((m : Int) / 128 != 0) = true := by rw [bne_iff_ne]; omega
      have HO : Hid ((wr.alloc (.cells #[.int .u8 ((m % 128 + 128 : Nat) : Int)] 5)).ownsRow w.heap.size 5 1 _ N.length (bcs N)) := HB.out.own.alloc _
      go_wp2_with (at_builtin; go_must (refine wpList_append_lies _ rfl (.tmp 13) (.tmp 17) 49 rfl w.heap.size 5 i _ 1 1 Tryd.underlying49 hi hz hs hb rfl (by omega) _ N.length (bcs N) rfl HO.out ⟨wr.heap.size, 0, none⟩ 1 1 [.int .u8 ((m % 128 + 128 : Nat) : Int)] rfl rfl (World.news_of_block (heap_alloc_new _ _)) (fun u hu => by simp at hu; subst hu; rfl) (by omega) (by unfold maxLen; omega) (by omega) (by have := HB.out.bel.size; simp; omega) (wr.heap.size + 1) (by simp) ?_))
      intro g cp w8 hown hgrow hat hlt8
      have HE := Lib.hid (HB.out.app hown hgrow)
      have hp2 : m / 128 * 128 ^ (j + 1) ≤ n0 := by
        rw [Nat.pow_succ, Nat.mul_comm (128 ^ j) 128, ← Nat.mul_assoc]
        exact Nat.le_trans (Nat.mul_le_mul_right _ (Nat.div_mul_le_self m 128)) hp
      have hl2 : j + 1 ≤ 100 := by
        refine Decidable.byContradiction fun hh => ?_
        have h5 : j = 100 := by omega
        rw [h5] at hp
        have h6 : 1 * 128 ^ 100 ≤ m * 128 ^ 100 := Nat.mul_le_mul_right _ (by omega)
        have h7 : (18446744073709551616 : Nat) ≤ 1 * 128 ^ 100 := by decide
        omega
      have HS2 : Hid (N0 ++ shrt n0 = (N ++ [m % 128 + 128]) ++ shrt (m / 128)) := by unfold Hid; rw [HS.out, shrt_big h128, List.append_assoc]; rfl
      have HP2 := Lib.hid (And.intro hl2 hp2)
      have HNL2 : Hid ((N ++ [m % 128 + 128]).length = N0.length + (j + 1)) := by unfold Hid; rw [List.length_append, HNL.out]; rfl
      clear hown hgrow hat hp hp2 hl2
      go_wp2_with fail
      go_roundw
      case rel => exact ⟨m / 128, j + 1, N ++ [m % 128 + 128], by omega, by go_num, HE, HS2, HNL2, HP2.out.1, HP2.out.2⟩
      case measure => simp [intOf]; omega
set_option maxRecDepth 100000 in
set_option maxHeartbeats 1000000 in
theorem fresh_any {nb : Nat} {w : World} {o : Option Addr} {cap : Nat} {N : List Nat} (B : Bts nb w o cap N) (hnb : nb ≤ w.heap.size) (hN : N.length ≤ 100000) :
    Calls Tryd.prog 96 #[.slice o N.length cap] w (NewRow N w) := by
  have HO := Lib.hid (World.ownsRow_made w #[] 0 (base := w.heap.size) (e := 5) (size := 1) (Nat.le_refl _) (Nat.zero_le _) rfl)
  have AL := Lib.hid ((Below.refl w.heap.size w).alloc (Nat.le_refl _) (.cells #[] 5))
  have HB := Lib.hid (B.kept (AL.out.mono hnb))
  clear B
  go_enter Tryd.func96, Tryd.ntmps96
  go_wp2_with (at_builtin; go_must (refine app_bts rfl (.tmp 3) (.tmp 4) rfl (base := w.heap.size) (N := []) (M := N) rfl rfl HO.out HB.out (by simp; omega) (by simp) ?_))
  intro v1 w1 hown1 hb1 hs1
  have H := Lib.hid (And.intro hown1 (AL.out.trans hb1))
  clear hown1 hb1
  go_wp2_with fail
  go_ret
  exact ⟨_, rfl, H.out.1, H.out.2⟩
set_option maxRecDepth 100000 in
set_option maxHeartbeats 1000000 in
theorem putStrN_any (s : ByteArray) (hs : s.size ≤ 100000) {nb : Nat} {w : World} {o : Option Addr} {cap : Nat} {N : List Nat} (B : Bts nb w o cap N) (hnb : nb ≤ w.heap.size) (hN : N.length ≤ 100000) :
    Calls Tryd.prog 78 #[.slice o N.length cap, .string s] w (NewRow (N ++ (shrt s.size ++ sb s)) w) := by
  have HF := Lib.hid (fresh_any B hnb hN)
  clear B
  go_enter Tryd.func78, Tryd.ntmps78
  go_wp2_with fail
  refine HF.out.mono ?_
  rintro e w1 ⟨v1, rfl, ho, hbl⟩
  have H := Lib.hid (And.intro ho hbl)
  clear ho hbl HF
  go_wp2_with fail
  refine (laidText_any s (by omega) H.out.1 H.out.2.size (by omega)).mono ?_
  rintro e w2 ⟨v2, rfl, ho2, hb2⟩
  have H2 := Lib.hid (And.intro ho2 (H.out.2.trans (hb2.bel H.out.2.size)))
  clear ho2 hb2
  go_wp2_with fail
  go_ret
  refine ⟨_, rfl, ?_, H2.out.2⟩
  have := H2.out.1
  rw [← List.length_append] at this
  exact this
end Go.Proofs.YtakoghdkllfhlaaDoor
