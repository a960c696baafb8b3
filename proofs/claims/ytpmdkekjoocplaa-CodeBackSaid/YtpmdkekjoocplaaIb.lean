/- CodeBack's calls: Put, append, Get of what was laid. -/
import Derived.Test.YtpmdkekjoocplaaIa
import Derived.Test.YtpmdkekjoocplaaHd
import Derived.Test.YtpmdkekjoocplaaHe
import Derived.Test.YtpmdkekjoocplaaHg
import Derived.Test.YtpmdkekjoocplaaGj
namespace Go.Proofs.Ytpmdkekjoocplaa
open Go.RowKit Go.Lib Typ

/-- what Put leaves: bytes in memory -/
def PB (V : Val) (w : World) (e : Ending) (w' : World) : Prop := ∃ o cap, e = .returned (.slice o (enc V).length cap) ∧ Bts w'.heap.size w' o cap (enc V) ∧ Below w.heap.size w w'
theorem put_bts {n : Nat} {V : Val} {xv : Value} {w : World} (h : Lies n w V xv) (hn : n ≤ w.heap.size) (hs : sz V ≤ 600) (hc : chk V = true) :
    Fine tok 8 V ∧ (enc V).length ≤ 660000 ∧ Calls Try.prog 13 #[.slice none 0 0, xv] w (PB V w) := by
  have hf : Fine tok 8 V := fine_of_lies 8 n w V xv h (by unfold chk at hc; rw [Bool.and_eq_true] at hc; exact hc.2)
  have hl := enc_facts 8 V hf
  refine ⟨hf, by omega, (put_any h hn (by omega) hc (laid_any 8 V hf) (by omega)).mono ?_⟩
  rintro e w' ⟨v, rfl, ho, hb⟩
  obtain ⟨o, cap, rfl, hB⟩ := bts_of_own ho hl.1
  exact ⟨o, cap, rfl, hB, hb⟩
theorem getR_enc {V : Val} (hf : Fine tok 8 V) (hc : chk V = true) (r : List Nat) : getR (enc V ++ r) = .ok (V, (enc V).length) := by
  have hw : ¬ 512 < weight V := by
    unfold chk at hc
    simp only [Bool.and_eq_true, decide_eq_true_eq] at hc
    omega
  unfold getR
  rw [dec_enc tok 8 V hf r]
  simp only
  rw [if_neg hw]
/-- bytes in memory are laid behind a row of the call's own -/
theorem app_bts {w : World} {ops : Array Oper} {rest : List Oper} {o : Oper} {a : Act} {Q : Exit → Act → World → Prop} (hgd : o.guard = none) (s x : Operand)
    (ho : o.op = .call { callee := .builtin .append, args := #[s, x], argTypes := #[22, 22] }) {base nb : Nat} {v : Value} {N M : List Nat} {sp : Option Addr} {cap : Nat} (hs : a.eval s = v) (hx : a.eval x = .slice sp M.length cap)
    (hown : w.ownsRow base 5 1 v N.length (bcs N)) (B : Bts nb w sp cap M) (hlen : N.length + M.length ≤ 4000000000) (hbase : base ≤ w.heap.size)
    (h : ∀ v' w', w'.ownsRow base 5 1 v' (N ++ M).length (bcs (N ++ M)) → Below base w w' → w.heap.size ≤ w'.heap.size → wpList Try.prog ops Q rest (a.put o.dst v') w') : wpList Try.prog ops Q (o :: rest) a w := by
  obtain ⟨i, hi, hz, hs1, hb⟩ := info_parts info5
  have hr : ∀ k, v.ownBlock = some k → base ≤ k := fun k hk => (hown.lt k hk).1
  cases sp with
  | none =>
    have h0 : M.length = 0 := by have := B.row.2.2.1 rfl; have := B.row.1; omega
    have hc0 : cap = 0 := B.row.2.2.1 rfl
    obtain rfl := List.length_eq_zero_iff.1 h0
    refine wpList_append_own_none hgd s x 22 ho base 5 i 1 Try.underlying22 hi v N.length (bcs N) hs hown (by rw [hx, hc0]; rfl) (h v w ?_ (Below.refl _ _) (Nat.le_refl _))
    rw [List.append_nil]; exact hown
  | some ad =>
    have hsp := B.sp ad rfl
    refine wpList_append_own w hgd s x 22 ho base 5 i (.int .u8 0) 1 1 Try.underlying22 hi hz hs1 hb rfl (by omega) v N.length (bcs N) hs hown ad M.length cap (bcs M) hx (by rw [bcs_len, Nat.mul_one]) (fun j u hu => ?_) (fun u hu => ?_) (by unfold maxLen; omega) (by omega) hbase (fun v' w' h1 h2 _ => h v' w' ?_ ((Below.refl base w).grown h2 hbase hr) h2.size)
    · have hj : j < M.length := by
        have := (List.getElem?_eq_some_iff.1 hu).1
        rwa [bcs_len] at this
      obtain ⟨b, off, e, _, c⟩ := B.at hj
      injection e with e
      subst e
      have ea : (⟨b, off, none⟩ : Addr).add j = ⟨b, off + j, none⟩ := by unfold Addr.add; split <;> simp_all
      rw [ea, c]
      have h5 := bcs_get M j hj
      rw [List.getD_eq_getElem?_getD, hu] at h5
      simp only [Option.getD_some] at h5
      rw [h5]
    · obtain ⟨c, _, rfl⟩ := List.mem_map.1 hu
      rfl
    · rw [List.length_append, bcs_app]; exact h1
/-- of bytes in memory the first ones -/
theorem Bts.take {n : Nat} {w : World} {o : Option Addr} {cap : Nat} {M : List Nat} (h : Bts n w o cap M) (k : Nat) (hk : k ≤ M.length) : Bts n w o cap (M.take k) := by
  have hl : (M.take k).length = k := by rw [List.length_take]; omega
  refine ⟨⟨by rw [hl]; have := h.row.1; omega, h.row.2.1, h.row.2.2.1, fun h0 => ?_⟩, fun c hc => h.b c (List.mem_of_mem_take hc), h.sp⟩
  rw [hl] at h0
  obtain ⟨b, off, e, hb, hc⟩ := h.row.2.2.2 (by omega)
  refine ⟨b, off, e, hb, fun j hj m hm => ?_⟩
  rw [hl] at hj
  rw [hc j (by omega) m hm]
  show some (Value.int .u8 ((M.getD j 0 : Nat) : Int)) = some (Value.int .u8 (((M.take k).getD j 0 : Nat) : Int))
  rw [List.getD_eq_getElem?_getD, List.getD_eq_getElem?_getD, List.getElem?_take_of_lt hj]
end Go.Proofs.Ytpmdkekjoocplaa
