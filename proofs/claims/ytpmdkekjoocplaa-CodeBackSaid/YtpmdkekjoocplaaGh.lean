/- The reader: elements, if one value of them is told. -/
import Derived.Test.YtpmdkekjoocplaaGg
namespace Go.Proofs.Ytpmdkekjoocplaa
open Go.RowKit Typ

/-- a value's call -/
def ValPost (f : List Nat → Except Nat (Val × Nat)) (rb : Nat) (o : Option Addr) (cap : Nat) (M : List Nat) (at' wt : Nat) (w : World) (e : Ending) (w' : World) : Prop :=
  ∃ x wt2, Rdr w' rb o cap M x wt2 ∧ Exc (some rb) w w' ∧ ∃ k i s oL nL cL oK nK cK tk to m y, e = .returned (.tuple #[vv k i s (.slice oL nL cL) (.slice oK nK cK) tk to m, .int .i64 y]) ∧
    match f (M.drop at') with
    | .error z => y = z ∧ 0 < z
    | .ok (V, u) => y = 0 ∧ x = at' + u ∧ wt2 = wt + weight V ∧ ∃ V', LiesP (fun b => w.heap.size ≤ b ∧ b < w'.heap.size) w' V' (vv k i s (.slice oL nL cL) (.slice oK nK cK) tk to m) ∧ (wt2 ≤ 512 → V' = V)
def ValHolds (d : Int) (f : List Nat → Except Nat (Val × Nat)) : Prop :=
  ∀ (rb : Nat) (o : Option Addr) (cap : Nat) (M : List Nat) (at' wt : Nat) (w : World), Rdr w rb o cap M at' wt → Calls Try.prog 15 #[.pointer (some ⟨rb, 0, none⟩), .int .i64 d] w (ValPost f rb o cap M at' wt w)
theorem decE_key (f : List Nat → Except Nat (Val × Nat)) (n : Nat) (ks : List ByteArray) (l : List Val) (u : Nat) (b : List Nat) : decE f true (n + 1) ks l u b = match keyR ks b with
    | .error e => .error e
    | .ok (s, k) => match f (b.drop k) with
      | .error e => .error e
      | .ok (x, k2) => decE f true n (ks ++ [s]) (l ++ [x]) (u + k + k2) ((b.drop k).drop k2) := by
  unfold keyR
  rw [decE]
  simp only [if_true]
  cases gstr b 1024 with
  | error e => rfl
  | ok p =>
    obtain ⟨s, k⟩ := p
    simp only
    by_cases h : 0 < ks.length ∧ blt (kk ks (ks.length - 1)) s = false
    · rw [if_pos h, if_pos h]
    · rw [if_neg h, if_neg h]
      simp only
      cases f (b.drop k) with
      | error e => rfl
      | ok p => rfl
theorem decE_no (f : List Nat → Except Nat (Val × Nat)) (n : Nat) (ks : List ByteArray) (l : List Val) (u : Nat) (b : List Nat) : decE f false (n + 1) ks l u b = match f b with
      | .error e => .error e
      | .ok (x, k2) => decE f false n ks (l ++ [x]) (u + k2) (b.drop k2) := by
  rw [decE]; rfl
/-- a round's numbers: j of n read -/
structure ElN (f : List Nat → Except Nat (Val × Nat)) (m : Bool) (n : Nat) (M : List Nat) (at0 wt0 : Nat) (j : Nat) (ks : List ByteArray) (l l' : List Val) (x wt : Nat) : Prop where
  kn : ks.length = if m then j else 0
  ln : l.length = j
  ll : l'.length ≤ j
  wte : wt = wt0 + (l.map weight).sum
  same : wt ≤ 512 → l' = l
  ge : at0 ≤ x
  eq : decE f m n [] [] 0 (M.drop at0) = decE f m (n - j) ks l (x - at0) (M.drop x)
/-- elements' answer -/
def elR (f : List Nat → Except Nat (Val × Nat)) (m : Bool) (r : List Nat) : Except Nat (List ByteArray × List Val × Nat) :=
  match gs 0 r with
  | .error e => .error e
  | .ok (n, u) => if 128 < n then .error 3 else match decE f m n [] [] 0 (r.drop u) with
    | .error e => .error e
    | .ok (ks, l, w) => .ok (ks, l, u + w)
def ElPost (f : List Nat → Except Nat (Val × Nat)) (mp : Bool) (rb : Nat) (o : Option Addr) (cap : Nat) (M : List Nat) (at' wt : Nat) (w : World) (e : Ending) (w' : World) : Prop :=
  match elR f mp (M.drop at') with
  | .error z => ∃ x wt2, Rdr w' rb o cap M x wt2 ∧ Exc (some rb) w w' ∧ 0 < z ∧ e = .returned (.tuple #[.slice none 0 0, .slice none 0 0, .int .i64 z])
  | .ok (ks, l, u) => ∃ x wt2 vk vl l' cs, Els w rb o cap M ks l' vk vl cs x wt2 w' ∧ e = .returned (.tuple #[vk, vl, .int .i64 0]) ∧ x = at' + u ∧ wt2 = wt + (l.map weight).sum ∧ (wt2 ≤ 512 → l' = l) ∧ l.length ≤ 128 ∧ l'.length ≤ 128 ∧ ks.length = if mp then l.length else 0
section
variable {f : List Nat → Except Nat (Val × Nat)} {mp : Bool} {rb : Nat} {o : Option Addr} {cap : Nat} {M : List Nat} {at' wt : Nat} {w : World} {e : Ending} {w' : World}
theorem el_err {x wt2 z : Nat} (h : elR f mp (M.drop at') = .error z) (hr : Rdr w' rb o cap M x wt2) (hx : Exc (some rb) w w') (hz : 0 < z) (he : e = .returned (.tuple #[.slice none 0 0, .slice none 0 0, .int .i64 z])) : ElPost f mp rb o cap M at' wt w e w' := by
  unfold ElPost; rw [h]; exact ⟨x, wt2, hr, hx, hz, he⟩
theorem elR_err {n u z : Nat} (hg : gs 0 (M.drop at') = .ok (n, u)) (h1 : ¬ 128 < n) (h : decE f mp n [] [] 0 (M.drop (at' + u)) = .error z) : elR f mp (M.drop at') = .error z := by
  unfold elR; rw [hg]; simp only; rw [if_neg h1, List.drop_drop, h]
theorem elR_ok {n u : Nat} {q : List ByteArray × List Val × Nat} (hg : gs 0 (M.drop at') = .ok (n, u)) (h1 : ¬ 128 < n) (h : decE f mp n [] [] 0 (M.drop (at' + u)) = .ok q) : elR f mp (M.drop at') = .ok (q.1, q.2.1, u + q.2.2) := by
  unfold elR; rw [hg]; simp only; rw [if_neg h1, List.drop_drop, h]
theorem el_ok {n u x wt2 : Nat} {ks : List ByteArray} {l l' : List Val} {vk vl : Value} {cs : List Value} (hg : gs 0 (M.drop at') = .ok (n, u)) (h1 : ¬ 128 < n) (hE : Els w rb o cap M ks l' vk vl cs x wt2 w') (hN : ElN f mp n M (at' + u) wt n ks l l' x wt2)
    (he : e = .returned (.tuple #[vk, vl, .int .i64 0])) : ElPost f mp rb o cap M at' wt w e w' := by
  have h := hN.eq
  rw [Nat.sub_self] at h
  have h2 := elR_ok hg h1 (h.trans (show decE f mp 0 ks l (x - (at' + u)) (M.drop x) = .ok (ks, l, x - (at' + u)) by rw [decE]))
  unfold ElPost; rw [h2]
  have := hN.ge
  exact ⟨x, wt2, vk, vl, l', cs, hE, he, by show x = at' + (u + (x - (at' + u))); omega, hN.wte, hN.same, by have := hN.ln; show l.length ≤ 128; omega, by have := hN.ll; omega, by show ks.length = if mp then l.length else 0; rw [hN.kn, hN.ln]⟩
end
section
variable {f : List Nat → Except Nat (Val × Nat)} {n : Nat} {M : List Nat} {at0 wt0 j : Nat} {ks : List ByteArray} {l l' : List Val} {x wt : Nat}
theorem ElN.err {z : Nat} (h : ElN f false n M at0 wt0 j ks l l' x wt) (hj : j < n) (hf : f (M.drop x) = .error z) : decE f false n [] [] 0 (M.drop at0) = .error z := by
  rw [h.eq, show n - j = n - j - 1 + 1 by omega, decE_no, hf]
theorem ElN.next {V V' : Val} {u : Nat} (h : ElN f false n M at0 wt0 j ks l l' x wt) (hj : j < n) (hf : f (M.drop x) = .ok (V, u)) (hs : wt + weight V ≤ 512 → V' = V) (hw : wt + weight V ≤ 512) : ElN f false n M at0 wt0 (j + 1) ks (l ++ [V]) (l' ++ [V']) (x + u) (wt + weight V) := by
  have hg := h.ge
  refine ⟨by rw [h.kn]; rfl, by rw [List.length_append, h.ln]; rfl, by have := h.ll; simp; omega, by rw [h.wte]; simp; omega, fun _ => ?_, by omega, ?_⟩
  · rw [h.same (by omega), hs hw]
  · rw [h.eq, show n - j = n - (j + 1) + 1 by omega, decE_no, hf]
    simp only
    rw [show x + u - at0 = x - at0 + u by omega, List.drop_drop]
theorem ElN.over {V : Val} {u : Nat} (h : ElN f false n M at0 wt0 j ks l l' x wt) (hj : j < n) (hf : f (M.drop x) = .ok (V, u)) (hw : ¬ wt + weight V ≤ 512) : ElN f false n M at0 wt0 (j + 1) ks (l ++ [V]) l' (x + u) (wt + weight V) := by
  have hg := h.ge
  refine ⟨by rw [h.kn]; rfl, by rw [List.length_append, h.ln]; rfl, by have := h.ll; omega, by rw [h.wte]; simp; omega, fun h5 => absurd h5 hw, by omega, ?_⟩
  rw [h.eq, show n - j = n - (j + 1) + 1 by omega, decE_no, hf]
  simp only
  rw [show x + u - at0 = x - at0 + u by omega, List.drop_drop]
theorem ElN.kerr {z : Nat} (h : ElN f true n M at0 wt0 j ks l l' x wt) (hj : j < n) (hk : keyR ks (M.drop x) = .error z) : decE f true n [] [] 0 (M.drop at0) = .error z := by
  rw [h.eq, show n - j = n - j - 1 + 1 by omega, decE_key, hk]
theorem ElN.kverr {z k : Nat} {s : ByteArray} (h : ElN f true n M at0 wt0 j ks l l' x wt) (hj : j < n) (hk : keyR ks (M.drop x) = .ok (s, k)) (hf : f (M.drop (x + k)) = .error z) : decE f true n [] [] 0 (M.drop at0) = .error z := by
  rw [h.eq, show n - j = n - j - 1 + 1 by omega, decE_key, hk]
  simp only
  rw [List.drop_drop, hf]
theorem ElN.knext {V V' : Val} {u k : Nat} {s : ByteArray} (h : ElN f true n M at0 wt0 j ks l l' x wt) (hj : j < n) (hk : keyR ks (M.drop x) = .ok (s, k)) (hf : f (M.drop (x + k)) = .ok (V, u)) (hs : wt + weight V ≤ 512 → V' = V) (hw : wt + weight V ≤ 512) :
    ElN f true n M at0 wt0 (j + 1) (ks ++ [s]) (l ++ [V]) (l' ++ [V']) (x + k + u) (wt + weight V) := by
  have hg := h.ge
  refine ⟨by rw [List.length_append, h.kn]; rfl, by rw [List.length_append, h.ln]; rfl, by have := h.ll; simp; omega, by rw [h.wte]; simp; omega, fun _ => ?_, by omega, ?_⟩
  · rw [h.same (by omega), hs hw]
  · rw [h.eq, show n - j = n - (j + 1) + 1 by omega, decE_key, hk]
    simp only
    rw [List.drop_drop, hf]
    simp only
    rw [show x + k + u - at0 = x - at0 + k + u by omega, List.drop_drop]
theorem ElN.kover {V : Val} {u k : Nat} {s : ByteArray} (h : ElN f true n M at0 wt0 j ks l l' x wt) (hj : j < n) (hk : keyR ks (M.drop x) = .ok (s, k)) (hf : f (M.drop (x + k)) = .ok (V, u)) (hw : ¬ wt + weight V ≤ 512) :
    ElN f true n M at0 wt0 (j + 1) (ks ++ [s]) (l ++ [V]) l' (x + k + u) (wt + weight V) := by
  have hg := h.ge
  refine ⟨by rw [List.length_append, h.kn]; rfl, by rw [List.length_append, h.ln]; rfl, by have := h.ll; omega, by rw [h.wte]; simp; omega, fun h5 => absurd h5 hw, by omega, ?_⟩
  rw [h.eq, show n - j = n - (j + 1) + 1 by omega, decE_key, hk]
  simp only
  rw [List.drop_drop, hf]
  simp only
  rw [show x + k + u - at0 = x - at0 + k + u by omega, List.drop_drop]
end
theorem info30 : (Try.prog.info? 30).map (fun i => (i.zero, i.size, i.bytes)) = some (some (.agg #[.int .i64 0, .int .i64 0, .string ⟨#[]⟩, .slice none 0 0, .slice none 0 0, .int .i64 0, .int .i64 0, .bool false]), 8, 104) := by kernel_rfl
set_option maxHeartbeats 2000000 in
theorem elements_any {d : Int} {f : List Nat → Except Nat (Val × Nat)} (HV : ValHolds d f) (mp : Bool) {rb : Nat} {o : Option Addr} {cap : Nat} {M : List Nat} {at' wt : Nat} {w : World} (R : Rdr w rb o cap M at' wt) :
    Calls Try.prog 27 #[.pointer (some ⟨rb, 0, none⟩), .bool mp, .int .i64 d] w (ElPost f mp rb o cap M at' wt w) := by
  have S := short_any R
  have hrb := R.lt
  cases hg : gs 0 (M.drop at') with
  | error z =>
    have hx : ((z : Int) != 0) = true := by rw [bne_iff_ne]; have := gs_err _ _ _ hg; omega
    have hz : 0 < z := by have := gs_err _ _ _ hg; omega
    have HQ : Hid (elR f mp (M.drop at') = .error z) := by unfold Hid elR; rw [hg]
    rw [hg] at S
    have HS := Lib.hid S
    clear S R hg HV
    go_enter Try.func27, Try.ntmps27
    go_wp2_with fail
    refine HS.out.mono ?_
    rintro e w1 ⟨rfl, hR⟩
    have HR := Lib.hid hR
    clear hR
    unfold shV
    go_wp2_with fail
    go_ret3
    exact el_err HQ.out HR.out.r HR.out.x hz rfl
  | ok p =>
    obtain ⟨n, u⟩ := p
    rw [hg] at S
    have HG := Lib.hid hg
    by_cases h128 : 128 < n
    · have HQ : Hid (elR f mp (M.drop at') = .error 3) := by unfold Hid elR; rw [hg]; simp only; rw [if_pos h128]
      have HS := Lib.hid S
      clear S R hg HV HG
      go_enter Try.func27, Try.ntmps27
      go_wp2_with fail
      refine HS.out.mono ?_
      rintro e w1 ⟨rfl, hR⟩
      have HR := Lib.hid hR
      clear hR
      unfold shV
      go_wp2_with fail
      go_ret3
      exact el_err HQ.out HR.out.r HR.out.x (by omega) rfl
    · have HS := Lib.hid S
      have HVV := Lib.hid HV
      obtain ⟨i30, hi, hzz⟩ := Option.map_eq_some_iff.1 info30
      simp only [Prod.mk.injEq] at hzz
      obtain ⟨hz, hs1, hb1⟩ := hzz
      clear S R hg HV
      go_enter Try.func27, Try.ntmps27
      go_wp2_with fail
      refine HS.out.mono ?_
      rintro e w1 ⟨rfl, hR⟩
      have HR := Lib.hid (Els.nil hR hrb)
      clear hR
      unfold shV
      go_wp2_with fail
      go_loopw [6, 7, 23] (fun vk vl i wr => ∃ (j x wt1 : Nat) (ks : List ByteArray) (l l' : List Val) (cs : List Value), j ≤ n ∧ i = .int .u64 j ∧ Hid (Els w rb o cap M ks l' vk vl cs x wt1 wr) ∧ Hid (ElN f mp n M (at' + u) wt j ks l l' x wt1)) (fun _ _ i _ => n - (intOf i).toNat)
      case atStart => exact ⟨0, _, _, [], [], [], [], Nat.zero_le _, rfl, HR.out, ⟨by cases mp <;> rfl, rfl, Nat.le_refl _, by simp, fun _ => rfl, Nat.le_refl _, by rw [Nat.sub_zero]; show _ = decE f mp n [] [] (at' + u - (at' + u)) _; rw [Nat.sub_self]; rfl⟩⟩
      case round =>
        obtain ⟨j, x, wt1, ks, l, l', cs, hj, rfl, HE, HN⟩ := hrel
        clear HS
        by_cases hlt : j < n
        · cases mp with
          | true =>
            have hkn : ks.length ≤ 128 := by have := HN.out.kn; simp only [if_true] at this; omega
            cases hk : keyR ks (M.drop x) with
            | error z =>
              have hz0 : 0 < z := by
                unfold keyR at hk
                split at hk
                · rename_i e he; cases hk; have := gstr_err he; omega
                · split at hk
                  · cases hk; omega
                  · cases hk
              have hx : ((z : Int) != 0) = true := by rw [bne_iff_ne]; omega
              have HQ := Lib.hid (elR_err HG.out h128 (HN.out.kerr hlt hk))
              have HK := Lib.hid hk
              clear hk
              go_wp2_with fail
              refine (key_any HE.out.r HE.out.ok HE.out.rlt hkn HE.out.ex.size).mono ?_
              rintro e w2 ⟨x2, hR2, hx2, hm⟩
              rw [HK.out] at hm
              obtain rfl := hm
              have H2 : Hid (Exc (some rb) w w2) := ⟨hx2.os.trans HE.out.ex.os, hx2.tape.trans HE.out.ex.tape, hx2.output.trans HE.out.ex.output, Nat.le_trans HE.out.ex.size hx2.size, fun k hk hc => (hx2.block k (Nat.lt_of_lt_of_le hk HE.out.ex.size) (fun e => hc (by rw [e])) (fun e => by have := (HE.out.ok.lt k e.symm).1; omega)).trans (HE.out.ex.block k hk hc)⟩
              have HR2 := Lib.hid hR2
              clear hR2 hx2
              go_wp2_with fail
              go_ret3
              exact el_err HQ.out HR2.out H2.out hz0 rfl
            | ok p =>
              obtain ⟨sk, kk1⟩ := p
              have HK := Lib.hid hk
              have hsk : sk.size ≤ 1024 := by
                unfold keyR at hk
                split at hk
                · cases hk
                · rename_i s2 k2 he
                  split at hk
                  · cases hk
                  · cases hk; exact gstr_ok he
              clear hk
              go_wp2_with fail
              refine (key_any HE.out.r HE.out.ok HE.out.rlt hkn HE.out.ex.size).mono ?_
              rintro e w9 ⟨x2, hR2, hx2, hm⟩
              rw [HK.out] at hm
              obtain ⟨rfl, g9, c9, rfl, hown9, hat9⟩ := hm
              have HE1 := Lib.hid (HE.out.key hR2 hx2 hown9 hat9 hsk)
              clear hR2 hx2 hown9 hat9
              go_wp2_with fail
              refine (HVV.out _ _ _ _ _ _ _ HE1.out.r).mono ?_
              rintro e w2 ⟨x2, wt2, hR2, hx2, k, i, s, oL, nL, cL, oK, nK, cK, tk, to, m, y, rfl, hm⟩
              cases hf : f (M.drop (x + kk1)) with
              | error z =>
                rw [hf] at hm
                obtain ⟨rfl, hz0⟩ := hm
                have hx : ((z : Int) != 0) = true := by rw [bne_iff_ne]; omega
                have HQ := Lib.hid (elR_err HG.out h128 (HN.out.kverr hlt HK.out hf))
                have H2 := Lib.hid (HE1.out.val hR2 hx2)
                clear hR2 hx2 hf
                go_wp2_with fail
                go_ret3
                exact el_err HQ.out (H2.out.more ((Below.refl _ _).alloc (Nat.le_refl _) _)).r (H2.out.more ((Below.refl _ _).alloc (Nat.le_refl _) _)).ex hz0 rfl
              | ok p => 
                obtain ⟨V, u2⟩ := p
                rw [hf] at hm
                obtain ⟨rfl, rfl, rfl, V', hl', hsame⟩ := hm
                have H2 := Lib.hid (HE1.out.val hR2 hx2)
                obtain ⟨q0, q1, q2, q3, q4, q5⟩ := hR2.rc
                have HX := Lib.hid (And.intro hl' (And.intro hsame hf))
                have HX2 := Lib.hid hx2
                clear hR2 hx2 hf hl' hsame
                by_cases hw : wt1 + weight V ≤ 512
                · have HN2 := Lib.hid (HN.out.knext hlt HK.out HX.out.2.2 HX.out.2.1 hw)
                  have H3 : Hid (Els w rb o cap M (ks ++ [sk]) l' _ _ cs _ _ ((w2.alloc (.cells #[.int .i64 k, .int .i64 i, .string s, .slice oL nL cL, .slice oK nK cK, .int .i64 tk, .int .i64 to, .bool m] 30)).alloc (.cells #[.int .i64 k, .int .i64 i, .string s, .slice oL nL cL, .slice oK nK cK, .int .i64 tk, .int .i64 to, .bool m] 30))) := (H2.out.more ((Below.refl _ _).alloc (Nat.le_refl _) _)).more ((Below.refl _ _).alloc (Nat.le_refl _) _)
                  have HNB : Hid (((w2.alloc (.cells #[.int .i64 k, .int .i64 i, .string s, .slice oL nL cL, .slice oK nK cK, .int .i64 tk, .int .i64 to, .bool m] 30)).alloc (.cells #[.int .i64 k, .int .i64 i, .string s, .slice oL nL cL, .slice oK nK cK, .int .i64 tk, .int .i64 to, .bool m] 30)).heap[w2.heap.size + 1]? = some (.cells #[.int .i64 k, .int .i64 i, .string s, .slice oL nL cL, .slice oK nK cK, .int .i64 tk, .int .i64 to, .bool m] 30 (0, 0))) := by
                    have := heap_alloc_new (w2.alloc (.cells #[.int .i64 k, .int .i64 i, .string s, .slice oL nL cL, .slice oK nK cK, .int .i64 tk, .int .i64 to, .bool m] 30)) (.cells #[.int .i64 k, .int .i64 i, .string s, .slice oL nL cL, .slice oK nK cK, .int .i64 tk, .int .i64 to, .bool m] 30)
                    simpa [Hid] using this
                  go_wp2_with (at_builtin; go_must (refine wpList_append_lies _ rfl (.tmp 49) (.tmp 51) 25 rfl w.heap.size 30 i30 _ 8 104 Try.underlying25 hi hz hs1 hb1 rfl (by omega) _ l'.length cs rfl H3.out.ol ⟨w2.heap.size + 1, 0, none⟩ 1 1 [.int .i64 k, .int .i64 i, .string s, .slice oL nL cL, .slice oK nK cK, .int .i64 tk, .int .i64 to, .bool m] rfl rfl (World.news_of_block HNB.out) (fun u hu => by simp at hu; rcases hu with rfl | rfl | rfl | rfl | rfl | rfl | rfl | rfl <;> rfl) (by omega) (by have := HN.out.ll; unfold maxLen; omega) (by have := HN.out.ll; omega) (by have := H3.out.ex.size; exact this) (w2.heap.size + 2) (by simp) ?_))
                  intro g cp w5 hown hgrow hat hlt5
                  have H5 := Lib.hid (H3.out.app (X := V') hgrow hown (by simpa using hat) (HX.out.1.keptP fun b ⟨h1, h2⟩ => ⟨⟨h1, by simp; omega⟩, (Below.heap_alloc _ _ _ (by simp; omega)).trans (Below.heap_alloc _ _ _ h2)⟩) HE1.out.ex.size (fun g hg => (HE1.out.ok.lt g hg).2) (fun g hg => (HE1.out.ol.lt g hg).2))
                  clear hown hgrow hat
                  go_wp2_with fail
                  go_roundw
                  case rel => exact ⟨j + 1, _, _, ks ++ [sk], l ++ [V], l' ++ [V'], _, by omega, by go_num, H5.out, HN2.out⟩
                  case measure => simp [intOf]; omega
                · have HN2 := Lib.hid (HN.out.kover hlt HK.out HX.out.2.2 hw)
                  go_wp2_with fail
                  go_roundw
                  case rel => exact ⟨j + 1, _, _, ks ++ [sk], l ++ [V], l', cs, by omega, by go_num, H2.out.more ((Below.refl _ _).alloc (Nat.le_refl _) _), HN2.out⟩
                  case measure => simp [intOf]; omega
          | false =>
            go_wp2_with fail
            refine (HVV.out _ _ _ _ _ _ _ HE.out.r).mono ?_
            rintro e w2 ⟨x2, wt2, hR2, hx2, k, i, s, oL, nL, cL, oK, nK, cK, tk, to, m, y, rfl, hm⟩
            cases hf : f (M.drop x) with
            | error z =>
              rw [hf] at hm
              obtain ⟨rfl, hz0⟩ := hm
              have hx : ((z : Int) != 0) = true := by rw [bne_iff_ne]; omega
              have HQ := Lib.hid (elR_err HG.out h128 (HN.out.err hlt hf))
              have H2 := Lib.hid (HE.out.val hR2 hx2)
              clear hR2 hx2 hf
              go_wp2_with fail
              go_ret3
              exact el_err HQ.out (H2.out.more ((Below.refl _ _).alloc (Nat.le_refl _) _)).r (H2.out.more ((Below.refl _ _).alloc (Nat.le_refl _) _)).ex hz0 rfl
            | ok p => 
              obtain ⟨V, u2⟩ := p
              rw [hf] at hm
              obtain ⟨rfl, rfl, rfl, V', hl', hsame⟩ := hm
              have H2 := Lib.hid (HE.out.val hR2 hx2)
              obtain ⟨q0, q1, q2, q3, q4, q5⟩ := hR2.rc
              have HX := Lib.hid (And.intro hl' (And.intro hsame hf))
              have HX2 := Lib.hid hx2
              clear hR2 hx2 hf hl' hsame
              by_cases hw : wt1 + weight V ≤ 512
              · have HN2 := Lib.hid (HN.out.next hlt HX.out.2.2 HX.out.2.1 hw)
                have H3 : Hid (Els w rb o cap M ks l' _ _ cs _ _ ((w2.alloc (.cells #[.int .i64 k, .int .i64 i, .string s, .slice oL nL cL, .slice oK nK cK, .int .i64 tk, .int .i64 to, .bool m] 30)).alloc (.cells #[.int .i64 k, .int .i64 i, .string s, .slice oL nL cL, .slice oK nK cK, .int .i64 tk, .int .i64 to, .bool m] 30))) := (H2.out.more ((Below.refl _ _).alloc (Nat.le_refl _) _)).more ((Below.refl _ _).alloc (Nat.le_refl _) _)
                have HNB : Hid (((w2.alloc (.cells #[.int .i64 k, .int .i64 i, .string s, .slice oL nL cL, .slice oK nK cK, .int .i64 tk, .int .i64 to, .bool m] 30)).alloc (.cells #[.int .i64 k, .int .i64 i, .string s, .slice oL nL cL, .slice oK nK cK, .int .i64 tk, .int .i64 to, .bool m] 30)).heap[w2.heap.size + 1]? = some (.cells #[.int .i64 k, .int .i64 i, .string s, .slice oL nL cL, .slice oK nK cK, .int .i64 tk, .int .i64 to, .bool m] 30 (0, 0))) := by
                  have := heap_alloc_new (w2.alloc (.cells #[.int .i64 k, .int .i64 i, .string s, .slice oL nL cL, .slice oK nK cK, .int .i64 tk, .int .i64 to, .bool m] 30)) (.cells #[.int .i64 k, .int .i64 i, .string s, .slice oL nL cL, .slice oK nK cK, .int .i64 tk, .int .i64 to, .bool m] 30)
                  simpa [Hid] using this
                go_wp2_with (at_builtin; go_must (refine wpList_append_lies _ rfl (.tmp 49) (.tmp 51) 25 rfl w.heap.size 30 i30 _ 8 104 Try.underlying25 hi hz hs1 hb1 rfl (by omega) _ l'.length cs rfl H3.out.ol ⟨w2.heap.size + 1, 0, none⟩ 1 1 [.int .i64 k, .int .i64 i, .string s, .slice oL nL cL, .slice oK nK cK, .int .i64 tk, .int .i64 to, .bool m] rfl rfl (World.news_of_block HNB.out) (fun u hu => by simp at hu; rcases hu with rfl | rfl | rfl | rfl | rfl | rfl | rfl | rfl <;> rfl) (by omega) (by have := HN.out.ll; unfold maxLen; omega) (by have := HN.out.ll; omega) (by have := H3.out.ex.size; exact this) (w2.heap.size + 2) (by simp) ?_))
                intro g cp w5 hown hgrow hat hlt5
                have H5 := Lib.hid (H3.out.app (X := V') hgrow hown (by simpa using hat) (HX.out.1.keptP fun b ⟨h1, h2⟩ => ⟨⟨h1, by simp; omega⟩, (Below.heap_alloc _ _ _ (by simp; omega)).trans (Below.heap_alloc _ _ _ h2)⟩) HE.out.ex.size (fun g hg => (HE.out.ok.lt g hg).2) (fun g hg => (HE.out.ol.lt g hg).2))
                clear hown hgrow hat
                go_wp2_with fail
                go_roundw
                case rel => exact ⟨j + 1, _, _, ks, l ++ [V], l' ++ [V'], _, by omega, by go_num, H5.out, HN2.out⟩
                case measure => simp [intOf]; omega
              · have HN2 := Lib.hid (HN.out.over hlt HX.out.2.2 hw)
                go_wp2_with fail
                go_roundw
                case rel => exact ⟨j + 1, _, _, ks, l ++ [V], l', cs, by omega, by go_num, H2.out.more ((Below.refl _ _).alloc (Nat.le_refl _) _), HN2.out⟩
                case measure => simp [intOf]; omega
        · have hjn : j = n := by omega
          subst hjn
          go_wp2_with fail
          go_ret3
          exact el_ok HG.out h128 HE.out HN.out rfl
end Go.Proofs.Ytpmdkekjoocplaa
