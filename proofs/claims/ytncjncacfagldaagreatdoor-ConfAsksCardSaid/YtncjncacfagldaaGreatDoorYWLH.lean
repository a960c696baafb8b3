import Derived.Test.YtncjncacfagldaaGreatDoorYWLF
namespace Go.Proofs.YtncjncacfagldaaGreatDoor
open Go.RowKit

theorem extract_lb (s : ByteArray) (a b : Nat) : lb (s.extract a b) = ((lb s).take b).drop a := by
 show (s.extract a b).data.toList = _
 rw [ByteArray.data_extract, Array.toList_extract, List.drop_take]
theorem extract_bhd (p : Nat → Bool) (s : ByteArray) (a E : Nat) (h : bhd p (lb s) a = E) : s.extract a E = tx (takeP p ((lb s).drop a)) := by
 rw [← take_bhd, h, ← extract_lb]
 rfl
theorem below_alloc {w : World} {N : Nat} (h : N = w.heap.size) (o : Obj) : Below N w (w.alloc o) := (Below.refl N w).alloc (by omega) o
def NmPost (w : World) (N : Nat) (r : Ending) (e : Ending) (w' : World) : Prop := e = r ∧ Below N w w'
set_option maxHeartbeats 1000000 in
theorem name_any {w : World} {s : ByteArray} {a : Nat} (hT : Tab w) (hs : s.size ≤ 32768) (ha : a ≤ s.size) :
 Calls Tryz.prog 110 #[.string s, .int .i64 a] w (NmPost w w.heap.size (if 24 < (takeP isWord ((lb s).drop a)).length then badT 3 else okT 1 (tx (takeP isWord ((lb s).drop a))) 0 (.slice none 0 0) ((bhd isWord (lb s) a : Nat) : Int))) := by
 obtain ⟨N, hN⟩ : ∃ N, N = w.heap.size := ⟨_, rfl⟩
 have LS : (lb s).length = s.size := tp_L_len s
 have hE1 := bhd_ge isWord (lb s) a
 have hE2 := bhd_le isWord (lb s) a (by omega)
 have hlen : (takeP isWord ((lb s).drop a)).length = bhd isWord (lb s) a - a := by unfold bhd; omega
 have hW := below_alloc hN (.cells tkz 89)
 have HI := behind_any cls3 s a (w.alloc (.cells tkz 89)) (hT.below hW (by rw [hN]; exact hT.1)) hs ha
 have hx := extract_bhd isWord s a _ rfl
 obtain ⟨E, hE⟩ : ∃ E, bhd isWord (lb s) a = E := ⟨_, rfl⟩
 rw [LS] at hE2
 rw [hE] at HI hE1 hE2 hlen hx ⊢
 rw [← hx, hlen]
 have HI := qh HI
 have HN := qh hN
 have e1 : (a : Int) ≤ E := by omega
 have e2 : (E : Int) ≤ s.size := by omega
 clear hE hx hlen hW hT LS hN
 by_cases h : 24 < E - a
 · rw [if_pos h]
   have h' : (24 : Int) < (E : Int) - a := by omega
   go_enter Tryz.func110, Tryz.ntmps110
   go_wp2_with fail
   refine HI.out.mono ?_
   rintro e w1 ⟨rfl, rfl⟩
   go_wp2_with fail
   refine bodyPost_ret (v := .tuple #[.agg tkz, .int .i64 0, .int .i64 3]) (by simp [results, Tryz.results110, go_sem]) rfl ?_
   exact ⟨rfl, by rw [← HN.out]; exact below_alloc HN.out _⟩
 · rw [if_neg h]
   have h' : ¬ (24 : Int) < (E : Int) - a := by omega
   go_enter Tryz.func110, Tryz.ntmps110
   go_wp2_with fail
   refine HI.out.mono ?_
   rintro e w1 ⟨rfl, rfl⟩
   go_wp2_with fail
   refine bodyPost_ret (v := .tuple #[.agg (tkc 1 (s.extract a E) 0 (.slice none 0 0) noP), .int .i64 E, .int .i64 0]) (by simp [results, Tryz.results110, go_sem, noP]) rfl ?_
   exact ⟨rfl, by rw [← HN.out]; exact below_alloc HN.out _⟩
set_option maxHeartbeats 1000000 in
theorem number_any {w : World} {s : ByteArray} {a : Nat} (hT : Tab w) (hs : s.size ≤ 32768) (ha : a < s.size) (hd : isDgt (s[a].toNat) = true) :
 Calls Tryz.prog 111 #[.string s, .int .i64 a] w (NmPost w w.heap.size (if pe (takeP isWord ((lb s).drop a)) false = 0 then okT 2 ⟨#[]⟩ (pv (takeP isWord ((lb s).drop a)) false) (.slice none 0 0) ((bhd isWord (lb s) a : Nat) : Int) else badT (pe (takeP isWord ((lb s).drop a)) false))) := by
 obtain ⟨N, hN⟩ : ∃ N, N = w.heap.size := ⟨_, rfl⟩
 have LS : (lb s).length = s.size := tp_L_len s
 have hE1 := bhd_ge isWord (lb s) a
 have hE2 := bhd_le isWord (lb s) a (by omega)
 have hW := below_alloc hN (.cells tkz 89)
 have HI := behind_any cls3 s a (w.alloc (.cells tkz 89)) (hT.below hW (by rw [hN]; exact hT.1)) hs (by omega)
 have hx := extract_bhd isWord s a _ rfl
 have hq : takeP isWord ((lb s).drop a) = s[a] :: takeP isWord ((lb s).drop (a + 1)) := by
  rw [drop_cons2 ha]
  unfold takeP
  rw [List.takeWhile_cons, if_pos (by unfold isWord; rw [hd]; rfl)]
 obtain ⟨E, hE⟩ : ∃ E, bhd isWord (lb s) a = E := ⟨_, rfl⟩
 rw [LS] at hE2
 rw [hE] at HI hE1 hE2 hx ⊢
 have hP := parse_plain (s.extract a E) (w.alloc (.cells tkz 89)) (by rw [ByteArray.size_extract]; omega) (fun h0 => by
  rw [beq_eq_false_iff_ne]
  intro h
  have h1 : (lb (s.extract a E))[0]'(by rw [tp_L_len]; exact h0) = s[a] := by
   have : lb (s.extract a E) = s[a] :: takeP isWord ((lb s).drop (a + 1)) := by rw [hx, ← hq]; rfl
   simp only [this, List.getElem_cons_zero]
  rw [lb_get h0] at h1
  rw [h1] at h
  unfold isDgt at hd
  simp only [Bool.and_eq_true, decide_eq_true_eq] at hd
  omega)
 have hlx : lb (s.extract a E) = takeP isWord ((lb s).drop a) := by rw [hx]; rfl
 rw [show (s.extract a E).data.toList = takeP isWord ((lb s).drop a) from hlx] at hP
 generalize pv (takeP isWord ((lb s).drop a)) false = V at *
 generalize pe (takeP isWord ((lb s).drop a)) false = Z at *
 have HI := qh HI
 have HN := qh hN
 have HP := qh hP
 have e1 : (a : Int) ≤ E := by omega
 have e2 : (E : Int) ≤ s.size := by omega
 clear hE hx hW hT LS hN hP hq hlx hd
 by_cases h : Z = 0
 · rw [if_pos h]
   subst h
   go_enter Tryz.func111, Tryz.ntmps111
   go_wp2_with fail
   refine HI.out.mono ?_
   rintro e w1 ⟨rfl, rfl⟩
   go_wp2_with fail
   refine HP.out.mono ?_
   rintro e w1 ⟨rfl, rfl⟩
   go_wp2_with fail
   refine bodyPost_ret (v := .tuple #[.agg (tkc 2 ⟨#[]⟩ V (.slice none 0 0) noP), .int .i64 E, .int .i64 0]) (by simp [results, Tryz.results111, go_sem, noP]) rfl ?_
   exact ⟨rfl, by rw [← HN.out]; exact below_alloc HN.out _⟩
 · rw [if_neg h]
   have h' : (Z != 0) = true := by rw [bne_iff_ne]; exact h
   clear h
   go_enter Tryz.func111, Tryz.ntmps111
   go_wp2_with fail
   refine HI.out.mono ?_
   rintro e w1 ⟨rfl, rfl⟩
   go_wp2_with fail
   refine HP.out.mono ?_
   rintro e w1 ⟨rfl, rfl⟩
   go_wp2_with fail
   refine bodyPost_ret (v := .tuple #[.agg tkz, .int .i64 0, .int .i64 Z]) (by simp [results, Tryz.results111, go_sem]) rfl ?_
   exact ⟨rfl, by rw [← HN.out]; exact below_alloc HN.out _⟩
theorem pre2 (t : ByteArray) : (t.extract 0 (min 2 (t.size : Int)).toNat).toList = (lb t).take 2 := by
 rw [tp_toList_is, show (t.extract 0 (min 2 (t.size : Int)).toNat).data.toList = lb (t.extract 0 (min 2 (t.size : Int)).toNat) from rfl, extract_lb, List.drop_zero]
 have LS : (lb t).length = t.size := tp_L_len t
 rcases Nat.le_total 2 t.size with h | h
 · rw [show (min 2 (t.size : Int)).toNat = 2 by omega]
 · rw [show (min 2 (t.size : Int)).toNat = t.size by omega, List.take_of_length_le (by omega), List.take_of_length_le (by omega)]
theorem sgn_two {t : ByteArray} {x y : UInt8} (h : ((t.extract 0 (min 2 (t.size : Int)).toNat).toList == [x, y]) = true) (hxy : two x y = true) : sgn (lb t) = 2 := by
 have h := eq_of_beq h
 rw [pre2] at h
 obtain ⟨c, d, r, hr⟩ : ∃ c d r, lb t = c :: d :: r := by
  cases hl : lb t with
  | nil => rw [hl] at h; cases h
  | cons c r =>
    cases r with
    | nil => rw [hl] at h; cases h
    | cons d r => exact ⟨c, d, r, rfl⟩
 rw [hr] at h ⊢
 simp only [List.take_succ_cons, List.take_zero, List.cons.injEq, and_true] at h
 obtain ⟨rfl, rfl⟩ := h
 unfold sgn
 simp only
 rw [if_pos hxy]
theorem sgn_one {t : ByteArray} (ht : 0 < t.size) (h0 : ((t.extract 0 (min 2 (t.size : Int)).toNat).toList == [61, 61]) = false) (h1 : ((t.extract 0 (min 2 (t.size : Int)).toNat).toList == [33, 61]) = false) (h2 : ((t.extract 0 (min 2 (t.size : Int)).toNat).toList == [60, 61]) = false) (h3 : ((t.extract 0 (min 2 (t.size : Int)).toNat).toList == [62, 61]) = false) (h4 : ((t.extract 0 (min 2 (t.size : Int)).toNat).toList == [38, 38]) = false) (h5 : ((t.extract 0 (min 2 (t.size : Int)).toNat).toList == [124, 124]) = false) (h6 : ((t.extract 0 (min 2 (t.size : Int)).toNat).toList == [61, 62]) = false) : sgn (lb t) = if isMark (t[0].toNat) then 1 else 0 := by
 rw [pre2] at h0 h1 h2 h3 h4 h5 h6
 have hc := drop_cons2 (s := t) (a := 0) ht
 rw [List.drop_zero] at hc
 rw [hc] at h0 h1 h2 h3 h4 h5 h6 ⊢
 cases hr : (lb t).drop (0 + 1) with
 | nil => rfl
 | cons d r =>
   rw [hr] at h0 h1 h2 h3 h4 h5 h6
   simp only [List.take_succ_cons, List.take_zero, List.cons_beq_cons, BEq.rfl, Bool.and_true] at h0 h1 h2 h3 h4 h5 h6
   have key : two t[0] d = false := by
    unfold two
    rw [h0, h1, h2, h3, h4, h5, h6]
    rfl
   unfold sgn
   simp only [key]
   rfl
set_option maxHeartbeats 2000000 in
theorem size_any (t : ByteArray) (ht : 0 < t.size) (hs : t.size ≤ 40000) (w : World) (hT : Tab w) : Calls Tryz.prog 146 #[.string t] w (IsN w (sgn (lb t))) := by
 have C := in_any cls4 (t[0].toNat) (u8_lt _) w hT
 have ht' : 0 < (t.size : Int) := by omega
 have g1 : (min 2 (t.size : Int)).toNat ≤ t.size := by omega
 have g2 : 0 ≤ min 2 (t.size : Int) := by omega
 have g3 : min 2 (t.size : Int) ≤ t.size := by omega
 cases h0 : ((t.extract 0 (min 2 (t.size : Int)).toNat).toList == [61, 61]) with
 | true =>
   have HS := qh (sgn_two h0 (by decide))
   clear C
   go_enter Tryz.func146, Tryz.ntmps146
   go_wp2_with fail
   go_ret
   exact ⟨ret_nat HS.out.symm, rfl⟩
 | false =>
   cases h1 : ((t.extract 0 (min 2 (t.size : Int)).toNat).toList == [33, 61]) with
   | true =>
     have HS := qh (sgn_two h1 (by decide))
     clear C
     go_enter Tryz.func146, Tryz.ntmps146
     go_wp2_with fail
     go_ret
     exact ⟨ret_nat HS.out.symm, rfl⟩
   | false =>
     cases h2 : ((t.extract 0 (min 2 (t.size : Int)).toNat).toList == [60, 61]) with
     | true =>
       have HS := qh (sgn_two h2 (by decide))
       clear C
       go_enter Tryz.func146, Tryz.ntmps146
       go_wp2_with fail
       go_ret
       exact ⟨ret_nat HS.out.symm, rfl⟩
     | false =>
       cases h3 : ((t.extract 0 (min 2 (t.size : Int)).toNat).toList == [62, 61]) with
       | true =>
         have HS := qh (sgn_two h3 (by decide))
         clear C
         go_enter Tryz.func146, Tryz.ntmps146
         go_wp2_with fail
         go_ret
         exact ⟨ret_nat HS.out.symm, rfl⟩
       | false =>
         cases h4 : ((t.extract 0 (min 2 (t.size : Int)).toNat).toList == [38, 38]) with
         | true =>
           have HS := qh (sgn_two h4 (by decide))
           clear C
           go_enter Tryz.func146, Tryz.ntmps146
           go_wp2_with fail
           go_ret
           exact ⟨ret_nat HS.out.symm, rfl⟩
         | false =>
           cases h5 : ((t.extract 0 (min 2 (t.size : Int)).toNat).toList == [124, 124]) with
           | true =>
             have HS := qh (sgn_two h5 (by decide))
             clear C
             go_enter Tryz.func146, Tryz.ntmps146
             go_wp2_with fail
             go_ret
             exact ⟨ret_nat HS.out.symm, rfl⟩
           | false =>
             cases h6 : ((t.extract 0 (min 2 (t.size : Int)).toNat).toList == [61, 62]) with
             | true =>
               have HS := qh (sgn_two h6 (by decide))
               clear C
               go_enter Tryz.func146, Tryz.ntmps146
               go_wp2_with fail
               go_ret
               exact ⟨ret_nat HS.out.symm, rfl⟩
             | false =>
               have HS := qh (sgn_one ht h0 h1 h2 h3 h4 h5 h6)
               cases hm : isMark (t[0].toNat) with
               | true =>
                 rw [hm] at HS C
                 have HC := qh C
                 clear hm C
                 go_enter Tryz.func146, Tryz.ntmps146
                 go_wp2_with fail
                 refine HC.out.mono ?_
                 rintro e w1 ⟨rfl, rfl⟩
                 go_wp2_with fail
                 go_ret
                 exact ⟨ret_nat HS.out.symm, rfl⟩
               | false =>
                 rw [hm] at HS C
                 have HC := qh C
                 clear hm C
                 go_enter Tryz.func146, Tryz.ntmps146
                 go_wp2_with fail
                 refine HC.out.mono ?_
                 rintro e w1 ⟨rfl, rfl⟩
                 go_wp2_with fail
                 go_ret
                 exact ⟨ret_nat HS.out.symm, rfl⟩
open Go.RowKit

theorem sgn_le (l : List UInt8) : sgn l ≤ l.length := by
 cases l with
 | nil => exact Nat.le_refl _
 | cons c r =>
   cases r with
   | nil => unfold sgn; simp only [Bool.false_eq_true, if_false]; split <;> simp
   | cons d r =>
     show (if two c d = true then 2 else if isMark c.toNat = true then 1 else 0) ≤ _
     split
     · simp
     · split <;> simp
set_option maxHeartbeats 1000000 in
theorem lsign_any {w : World} {s : ByteArray} {a : Nat} (hT : Tab w) (hs : s.size ≤ 32768) (ha : a < s.size) :
 Calls Tryz.prog 113 #[.string s, .int .i64 a] w (NmPost w w.heap.size (if sgn ((lb s).drop a) = 0 then badT 23 else okT 4 (tx (((lb s).drop a).take (sgn ((lb s).drop a)))) 0 (.slice none 0 0) ((a + sgn ((lb s).drop a) : Nat) : Int))) := by
 obtain ⟨N, hN⟩ : ∃ N, N = w.heap.size := ⟨_, rfl⟩
 have LS : (lb s).length = s.size := tp_L_len s
 have hW := below_alloc hN (.cells tkz 89)
 have hlx : lb (s.extract a s.size) = (lb s).drop a := by rw [extract_lb, ← LS, List.take_length]
 have hsz : (s.extract a s.size).size = s.size - a := by rw [ByteArray.size_extract]; omega
 have HI := size_any (s.extract a s.size) (by omega) (by omega) (w.alloc (.cells tkz 89)) (hT.below hW (by rw [hN]; exact hT.1))
 rw [hlx] at HI
 have hle := sgn_le ((lb s).drop a)
 rw [List.length_drop, LS] at hle
 have hx : s.extract a (a + sgn ((lb s).drop a)) = tx (((lb s).drop a).take (sgn ((lb s).drop a))) := by
  have := extract_lb s a (a + sgn ((lb s).drop a))
  rw [List.drop_take, Nat.add_sub_cancel_left] at this
  rw [← this]
  rfl
 rw [← hx]
 generalize sgn ((lb s).drop a) = k at *
 have HI := qh HI
 have HN := qh hN
 have e1 : (a : Int) ≤ s.size := by omega
 have e2 : (a : Int) + k ≤ s.size := by omega
 have e3 : s.size ≤ 40000 := by omega
 clear hx hlx hsz hW hT LS hN
 by_cases h : k = 0
 · subst h
   rw [if_pos rfl]
   go_enter Tryz.func113, Tryz.ntmps113
   go_wp2_with fail
   refine HI.out.mono ?_
   rintro e w1 ⟨rfl, rfl⟩
   go_wp2_with fail
   refine bodyPost_ret (v := .tuple #[.agg tkz, .int .i64 0, .int .i64 23]) (by simp [results, Tryz.results113, go_sem]) rfl ?_
   exact ⟨rfl, by rw [← HN.out]; exact below_alloc HN.out _⟩
 · rw [if_neg h]
   have h' : ((k : Int) == 0) = false := by rw [beq_eq_false_iff_ne]; omega
   clear h
   go_enter Tryz.func113, Tryz.ntmps113
   go_wp2_with fail
   refine HI.out.mono ?_
   rintro e w1 ⟨rfl, rfl⟩
   go_wp2_with fail
   refine bodyPost_ret (v := .tuple #[.agg (tkc 4 (s.extract a (a + k)) 0 (.slice none 0 0) noP), .int .i64 ((a : Int) + k), .int .i64 0]) (by simp [results, Tryz.results113, go_sem, noP]) rfl ?_
   exact ⟨rfl, by rw [← HN.out]; exact below_alloc HN.out _⟩
def TokPost (w : World) (plb sb : Nat) (s : ByteArray) (N : Nat) (R : Except Nat (Tkn × List UInt8)) (e : Ending) (w' : World) : Prop :=
 Fr plb N w w' ∧ match R with
  | .error x => e = badT x ∧ Plk w' plb sb s s.size
  | .ok (t, r) => ∃ vl, e = okT t.k (tx t.s) t.n vl ((s.size - r.length : Nat) : Int) ∧ w'.ownsRow N 130 5 vl t.ps.length (pcs t.ps) ∧ Plk w' plb sb s (s.size - r.length)
theorem Fr.mono {rb N M : Nat} {a b : World} (h : Fr rb N a b) (hM : M ≤ N) : Fr rb M a b := ⟨h.os, h.tape, h.output, h.size, fun k hk hp => h.block k (by omega) hp⟩
theorem Fr.trans {rb N : Nat} {a b c : World} (h : Fr rb N a b) (k : Fr rb N b c) : Fr rb N a c :=
 ⟨k.os.trans h.os, k.tape.trans h.tape, k.output.trans h.output, Nat.le_trans h.size k.size, fun i hi hp => (k.block i hi hp).trans (h.block i hi hp)⟩
theorem tok_nm {w w1 w2 : World} {plb sb a N : Nat} {s : ByteArray} (K : Plk w plb sb s a) (hN : N = w.heap.size) (h1 : w1 = w.alloc (.cells tkz 89)) (hB : Below w1.heap.size w1 w2) :
 w2.heap[N]? = some (.cells tkz 89 (0, 0)) ∧ Below N w w2 ∧ Plk w2 plb sb s a := by
 subst h1 hN
 have b1 : Below w.heap.size w (w.alloc (.cells tkz 89)) := (Below.refl _ _).alloc (Nat.le_refl _) _
 have b2 : Below w.heap.size w w2 := b1.trans (hB.mono (by simp))
 obtain ⟨k, hk, hp⟩ := K
 exact ⟨(hB.block _ (by simp)).trans (heap_alloc_new w _), b2, ⟨k, hk, hp.kept b2 hp.lt hp.ltS⟩⟩
theorem nm_fin {w w2 : World} {plb sb a N k : Nat} {s : ByteArray} {v0 v1 v2 v3 v4 v5 v6 : Value} {t : Tkn} {r : List UInt8} {S : ByteArray} {z : Int} (hB : Below N w w2) (K : Plk w2 plb sb s a) (h1 : plb < N) (h2 : sb < N) (ht : t.ps = []) (hS : S = tx t.s) (hk : k = t.k) (hz : z = ((s.size - r.length : Nat) : Int)) (har : a ≤ s.size - r.length) {n : Int} (hn : n = t.n) :
 TokPost w plb sb s N (.ok (t, r)) (okT k S n (.slice none 0 0) z) (((((((w2.setCell ⟨N, 0, none⟩ v0).setCell ⟨N, 1, none⟩ v1).setCell ⟨N, 2, none⟩ v2).setCell ⟨N, 3, none⟩ v3).setCell ⟨N, 4, none⟩ v4).setCell ⟨N, 5, none⟩ v5).setCell ⟨N, 6, none⟩ v6) := by
 subst hS hk hz hn
 have hb := below_set7 (v0 := v0) (v1 := v1) (v2 := v2) (v3 := v3) (v4 := v4) (v5 := v5) (v6 := v6) hB (Nat.le_refl N)
 have hb2 := below_set7 (v0 := v0) (v1 := v1) (v2 := v2) (v3 := v3) (v4 := v4) (v5 := v5) (v6 := v6) (Below.refl N w2) (Nat.le_refl N)
 refine ⟨(Fr.refl plb N w).below hb, .slice none 0 0, rfl, ?_, (K.kept hb2 h1 h2).mono har⟩
 rw [ht]; exact World.ownsRow_nil _ _ _ _
theorem nm_bad {w w2 : World} {plb sb a N x : Nat} {s : ByteArray} {v0 v1 v2 v3 v4 v5 v6 : Value} (hB : Below N w w2) (K : Plk w2 plb sb s a) (h1 : plb < N) (h2 : sb < N) (ha : a ≤ s.size) {z : Int} (hz : z = x) :
 TokPost w plb sb s N (.error x) (badT z) (((((((w2.setCell ⟨N, 0, none⟩ v0).setCell ⟨N, 1, none⟩ v1).setCell ⟨N, 2, none⟩ v2).setCell ⟨N, 3, none⟩ v3).setCell ⟨N, 4, none⟩ v4).setCell ⟨N, 5, none⟩ v5).setCell ⟨N, 6, none⟩ v6) := by
 subst hz
 have hb := below_set7 (v0 := v0) (v1 := v1) (v2 := v2) (v3 := v3) (v4 := v4) (v5 := v5) (v6 := v6) hB (Nat.le_refl N)
 have hb2 := below_set7 (v0 := v0) (v1 := v1) (v2 := v2) (v3 := v3) (v4 := v4) (v5 := v5) (v6 := v6) (Below.refl N w2) (Nat.le_refl N)
 exact ⟨(Fr.refl plb N w).below hb, rfl, (K.kept hb2 h1 h2).mono ha⟩
def strE (p : Plc) : Option (List Prt × Nat × List UInt8) → Except Nat (Tkn × List UInt8)
 | none => .error 4
 | some (ps, n, r') => if 1024 < n then .error 3 else .ok (⟨3, [], 0, ps, p⟩, r')
theorem strE_long {p : Plc} {ps : List Prt} {n : Nat} {r : List UInt8} (h : 1024 < n) : strE p (some (ps, n, r)) = .error 3 := if_pos h
theorem strE_ok {p : Plc} {ps : List Prt} {n : Nat} {r : List UInt8} (h : ¬ 1024 < n) : strE p (some (ps, n, r)) = .ok (⟨3, [], 0, ps, p⟩, r) := if_neg h
theorem pe_nn (l : List UInt8) : 0 ≤ pe l false := by
 unfold pe
 split
 · split
   · unfold ne; split <;> omega
   · omega
 · omega
set_option maxRecDepth 100000 in
set_option maxHeartbeats 2000000 in
theorem token_name {w : World} {plb sb a : Nat} {s : ByteArray} (K : Plk w plb sb s a) (hT : Tab w) (hs : s.size ≤ 32768) (ha : a < s.size) (hl : isLetter (s[a].toNat) = true) :
 Calls Tryz.prog 73 #[.string s, .int .i64 a, plF plb sb] w (TokPost w plb sb s w.heap.size (tokL (plc (lb s) a) ((lb s).drop a))) := by
 obtain ⟨N, hN⟩ : ∃ N, N = w.heap.size := ⟨_, rfl⟩
 obtain ⟨w1, hw1⟩ : ∃ w1, w1 = w.alloc (.cells tkz 89) := ⟨_, rfl⟩
 have LS : (lb s).length = s.size := tp_L_len s
 have hplb : plb < N := by obtain ⟨k, _, hp⟩ := K; rw [hN]; exact hp.lt
 have hsb : sb < N := by obtain ⟨k, _, hp⟩ := K; rw [hN]; exact hp.ltS
 have hb1 : Below N w w1 := by rw [hw1]; exact below_alloc hN _
 have hT1 : Tab w1 := hT.below hb1 (by rw [hN]; exact hT.1)
 have ha' : (a : Int) < s.size := by omega
 have hc2 := drop_cons2 ha
 have C1 := in_any cls1 (s[a].toNat) (u8_lt _) w1 hT1
 have HTM := qh (fun w2 (hB : Below w1.heap.size w1 w2) => tok_nm K hN hw1 hB)
 rw [hl] at C1
 have HC1 := qh C1
 have HM := name_any hT1 hs (Nat.le_of_lt ha)
 have hR : tokL (plc (lb s) a) ((lb s).drop a) = if 24 < (takeP isWord ((lb s).drop a)).length then .error 3 else .ok (⟨1, takeP isWord ((lb s).drop a), 0, [], plc (lb s) a⟩, dropP isWord ((lb s).drop a)) := by
  rw [hc2]; show (if isLetter _ = true then _ else _) = _; rw [if_pos hl]
 rw [hR, ← hN]
 have hpos := bhd_le isWord (lb s) a (by omega)
 have hlen := congrArg List.length (drop_bhd isWord (lb s) a)
 have hge := bhd_ge isWord (lb s) a
 rw [List.length_drop] at hlen
 generalize takeP isWord ((lb s).drop a) = tk at *
 generalize dropP isWord ((lb s).drop a) = dr at *
 generalize bhd isWord (lb s) a = E at *
 clear hR hc2 hl C1 hT hT1 K
 by_cases h : 24 < tk.length
 · rw [if_pos h] at HM ⊢
   have HM := qh HM
   clear h
   go_enter Tryz.func73, Tryz.ntmps73
   go_upto_region 1 with fail
   rw [← hw1, ← hN]
   clear hw1 hN
   go_wp2_with fail
   refine HC1.out.mono ?_
   rintro e w1' ⟨rfl, rfl⟩
   go_wp2_with fail
   refine HM.out.mono ?_
   rintro e w2 ⟨rfl, hB⟩
   obtain ⟨hrow, hB2, hK⟩ := HTM.out w2 hB
   have HF := qh (And.intro hB2 hK)
   obtain ⟨⟨r0, r1, r2, r3, r4, r5, r6⟩, ⟨g0, g1, g2, g3, g4, g5, g6⟩, lN⟩ := rc7 hrow
   clear hrow hB2 hK hB
   go_wp2_with fail
   refine bodyPost_ret (v := .tuple #[.agg tkz, .int .i64 0, .int .i64 3]) (by simp [results, Tryz.results73, go_sem, r0, r1, r2, r3, r4, r5, r6]) rfl ?_
   exact nm_bad HF.out.1 HF.out.2 hplb hsb (by omega) rfl
 · rw [if_neg h] at HM ⊢
   have HM := qh HM
   have HLN : Hid (s.size - dr.length = E) := by unfold Hid; omega
   clear h hlen
   go_enter Tryz.func73, Tryz.ntmps73
   go_upto_region 1 with fail
   rw [← hw1, ← hN]
   clear hw1 hN
   go_wp2_with fail
   refine HC1.out.mono ?_
   rintro e w1' ⟨rfl, rfl⟩
   go_wp2_with fail
   refine HM.out.mono ?_
   rintro e w2 ⟨rfl, hB⟩
   obtain ⟨hrow, hB2, hK⟩ := HTM.out w2 hB
   have HF := qh (And.intro hB2 hK)
   obtain ⟨⟨r0, r1, r2, r3, r4, r5, r6⟩, ⟨g0, g1, g2, g3, g4, g5, g6⟩, lN⟩ := rc7 hrow
   clear hrow hB2 hK hB
   go_wp2_with fail
   refine bodyPost_ret (v := .tuple #[.agg (tkc 1 (tx tk) 0 (.slice none 0 0) noP), .int .i64 (E : Int), .int .i64 0]) (by simp [results, Tryz.results73, go_sem, r0, r1, r2, r3, r4, r5, r6, noP]) rfl ?_
   exact nm_fin HF.out.1 HF.out.2 hplb hsb rfl rfl rfl (by rw [HLN.out]) (by rw [HLN.out]; exact hge) rfl
set_option maxRecDepth 100000 in
set_option maxHeartbeats 2000000 in
theorem token_number {w : World} {plb sb a : Nat} {s : ByteArray} (K : Plk w plb sb s a) (hT : Tab w) (hs : s.size ≤ 32768) (ha : a < s.size) (hl : isLetter (s[a].toNat) = false) (hd : isDgt (s[a].toNat) = true) :
 Calls Tryz.prog 73 #[.string s, .int .i64 a, plF plb sb] w (TokPost w plb sb s w.heap.size (tokL (plc (lb s) a) ((lb s).drop a))) := by
 obtain ⟨N, hN⟩ : ∃ N, N = w.heap.size := ⟨_, rfl⟩
 obtain ⟨w1, hw1⟩ : ∃ w1, w1 = w.alloc (.cells tkz 89) := ⟨_, rfl⟩
 have LS : (lb s).length = s.size := tp_L_len s
 have hplb : plb < N := by obtain ⟨k, _, hp⟩ := K; rw [hN]; exact hp.lt
 have hsb : sb < N := by obtain ⟨k, _, hp⟩ := K; rw [hN]; exact hp.ltS
 have hb1 : Below N w w1 := by rw [hw1]; exact below_alloc hN _
 have hT1 : Tab w1 := hT.below hb1 (by rw [hN]; exact hT.1)
 have ha' : (a : Int) < s.size := by omega
 have hc2 := drop_cons2 ha
 have C1 := in_any cls1 (s[a].toNat) (u8_lt _) w1 hT1
 have HTM := qh (fun w2 (hB : Below w1.heap.size w1 w2) => tok_nm K hN hw1 hB)
 have C2 := in_any cls2 (s[a].toNat) (u8_lt _) w1 hT1
 rw [hd] at C2
 have HC2 := qh C2
 rw [hl] at C1
 have HC1 := qh C1
 have HM := number_any hT1 hs ha hd
 have hR : tokL (plc (lb s) a) ((lb s).drop a) = if pe (takeP isWord ((lb s).drop a)) false = 0 then .ok (⟨2, [], pv (takeP isWord ((lb s).drop a)) false, [], plc (lb s) a⟩, dropP isWord ((lb s).drop a)) else .error (pe (takeP isWord ((lb s).drop a)) false).toNat := by
  rw [hc2]; show (if isLetter _ = true then _ else if isDgt _ = true then _ else _) = _; rw [if_neg (by rw [hl]; decide), if_pos hd]
 rw [hR, ← hN]
 have hpos := bhd_le isWord (lb s) a (by omega)
 have hlen := congrArg List.length (drop_bhd isWord (lb s) a)
 have hge := bhd_ge isWord (lb s) a
 rw [List.length_drop] at hlen
 have hpe := pe_nn (takeP isWord ((lb s).drop a))
 generalize pv (takeP isWord ((lb s).drop a)) false = V at *
 generalize pe (takeP isWord ((lb s).drop a)) false = Z at *
 generalize dropP isWord ((lb s).drop a) = dr at *
 generalize bhd isWord (lb s) a = E at *
 clear hR hc2 hl hd C1 C2 hT hT1 K
 by_cases h : Z = 0
 · rw [if_pos h] at HM ⊢
   have HM := qh HM
   have HLN : Hid (s.size - dr.length = E) := by unfold Hid; omega
   clear h hlen hpe
   go_enter Tryz.func73, Tryz.ntmps73
   go_upto_region 1 with fail
   rw [← hw1, ← hN]
   clear hw1 hN
   go_wp2_with fail
   refine HC1.out.mono ?_
   rintro e w1' ⟨rfl, rfl⟩
   go_wp2_with fail
   refine HC2.out.mono ?_
   rintro e w1' ⟨rfl, rfl⟩
   go_wp2_with fail
   refine HM.out.mono ?_
   rintro e w2 ⟨rfl, hB⟩
   obtain ⟨hrow, hB2, hK⟩ := HTM.out w2 hB
   have HF := qh (And.intro hB2 hK)
   obtain ⟨⟨r0, r1, r2, r3, r4, r5, r6⟩, ⟨g0, g1, g2, g3, g4, g5, g6⟩, lN⟩ := rc7 hrow
   clear hrow hB2 hK hB
   go_wp2_with fail
   refine bodyPost_ret (v := .tuple #[.agg (tkc 2 ⟨#[]⟩ V (.slice none 0 0) noP), .int .i64 (E : Int), .int .i64 0]) (by simp [results, Tryz.results73, go_sem, r0, r1, r2, r3, r4, r5, r6, noP]) rfl ?_
   exact nm_fin HF.out.1 HF.out.2 hplb hsb rfl rfl rfl (by rw [HLN.out]) (by rw [HLN.out]; exact hge) rfl
 · rw [if_neg h] at HM ⊢
   have HM := qh HM
   have HZ : Hid (Z = ((Z.toNat : Nat) : Int)) := by unfold Hid; omega
   have h' : (Z != 0) = true := by rw [bne_iff_ne]; exact h
   clear h hpe
   go_enter Tryz.func73, Tryz.ntmps73
   go_upto_region 1 with fail
   rw [← hw1, ← hN]
   clear hw1 hN
   go_wp2_with fail
   refine HC1.out.mono ?_
   rintro e w1' ⟨rfl, rfl⟩
   go_wp2_with fail
   refine HC2.out.mono ?_
   rintro e w1' ⟨rfl, rfl⟩
   go_wp2_with fail
   refine HM.out.mono ?_
   rintro e w2 ⟨rfl, hB⟩
   obtain ⟨hrow, hB2, hK⟩ := HTM.out w2 hB
   have HF := qh (And.intro hB2 hK)
   obtain ⟨⟨r0, r1, r2, r3, r4, r5, r6⟩, ⟨g0, g1, g2, g3, g4, g5, g6⟩, lN⟩ := rc7 hrow
   clear hrow hB2 hK hB
   go_wp2_with fail
   refine bodyPost_ret (v := .tuple #[.agg tkz, .int .i64 0, .int .i64 Z]) (by simp [results, Tryz.results73, go_sem, r0, r1, r2, r3, r4, r5, r6]) rfl ?_
   exact nm_bad HF.out.1 HF.out.2 hplb hsb (by omega) HZ.out
set_option maxRecDepth 100000 in
set_option maxHeartbeats 2000000 in
theorem token_sign {w : World} {plb sb a : Nat} {s : ByteArray} (K : Plk w plb sb s a) (hT : Tab w) (hs : s.size ≤ 32768) (ha : a < s.size) (hl : isLetter (s[a].toNat) = false) (hd : isDgt (s[a].toNat) = false) (hq : s[a] ≠ 34) :
 Calls Tryz.prog 73 #[.string s, .int .i64 a, plF plb sb] w (TokPost w plb sb s w.heap.size (tokL (plc (lb s) a) ((lb s).drop a))) := by
 obtain ⟨N, hN⟩ : ∃ N, N = w.heap.size := ⟨_, rfl⟩
 obtain ⟨w1, hw1⟩ : ∃ w1, w1 = w.alloc (.cells tkz 89) := ⟨_, rfl⟩
 have LS : (lb s).length = s.size := tp_L_len s
 have hplb : plb < N := by obtain ⟨k, _, hp⟩ := K; rw [hN]; exact hp.lt
 have hsb : sb < N := by obtain ⟨k, _, hp⟩ := K; rw [hN]; exact hp.ltS
 have hb1 : Below N w w1 := by rw [hw1]; exact below_alloc hN _
 have hT1 : Tab w1 := hT.below hb1 (by rw [hN]; exact hT.1)
 have ha' : (a : Int) < s.size := by omega
 have hc2 := drop_cons2 ha
 have C1 := in_any cls1 (s[a].toNat) (u8_lt _) w1 hT1
 have HTM := qh (fun w2 (hB : Below w1.heap.size w1 w2) => tok_nm K hN hw1 hB)
 have C2 := in_any cls2 (s[a].toNat) (u8_lt _) w1 hT1
 rw [hd] at C2
 have HC2 := qh C2
 have t3 : ((s[a].toNat : Int) == 34) = false := by rw [beq_eq_false_iff_ne]; exact fun h => hq (UInt8.toNat_inj.1 (by have : (34 : UInt8).toNat = 34 := rfl; omega))
 rw [hl] at C1
 have HC1 := qh C1
 have HM := lsign_any hT1 hs ha
 have hR : tokL (plc (lb s) a) ((lb s).drop a) = if sgn ((lb s).drop a) = 0 then .error 23 else .ok (⟨4, ((lb s).drop a).take (sgn ((lb s).drop a)), 0, [], plc (lb s) a⟩, ((lb s).drop a).drop (sgn ((lb s).drop a))) := by
  rw [hc2]; show (if isLetter _ = true then _ else if isDgt _ = true then _ else if _ = (34 : UInt8) then _ else if sgn _ = 0 then _ else _) = _; rw [if_neg (by rw [hl]; decide), if_neg (by rw [hd]; decide), if_neg hq]
 rw [hR, ← hN]
 have hle := sgn_le ((lb s).drop a)
 have hlen : (((lb s).drop a).drop (sgn ((lb s).drop a))).length = (lb s).length - a - sgn ((lb s).drop a) := by rw [List.length_drop, List.length_drop]
 rw [List.length_drop] at hle
 generalize ((lb s).drop a).take (sgn ((lb s).drop a)) = tk at *
 generalize ((lb s).drop a).drop (sgn ((lb s).drop a)) = dr at *
 generalize sgn ((lb s).drop a) = k at *
 clear hR hc2 hl hd hq C1 C2 hT hT1 K
 by_cases h : k = 0
 · rw [if_pos h] at HM ⊢
   have HA := qh (Nat.le_of_lt ha)
   have HM := qh HM
   clear h hle hlen
   go_enter Tryz.func73, Tryz.ntmps73
   go_upto_region 1 with fail
   rw [← hw1, ← hN]
   clear hw1 hN
   go_wp2_with fail
   refine HC1.out.mono ?_
   rintro e w1' ⟨rfl, rfl⟩
   go_wp2_with fail
   refine HC2.out.mono ?_
   rintro e w1' ⟨rfl, rfl⟩
   go_wp2_with fail
   refine HM.out.mono ?_
   rintro e w2 ⟨rfl, hB⟩
   obtain ⟨hrow, hB2, hK⟩ := HTM.out w2 hB
   have HF := qh (And.intro hB2 hK)
   obtain ⟨⟨r0, r1, r2, r3, r4, r5, r6⟩, ⟨g0, g1, g2, g3, g4, g5, g6⟩, lN⟩ := rc7 hrow
   clear hrow hB2 hK hB
   go_wp2_with fail
   refine bodyPost_ret (v := .tuple #[.agg tkz, .int .i64 0, .int .i64 23]) (by simp [results, Tryz.results73, go_sem, r0, r1, r2, r3, r4, r5, r6]) rfl ?_
   exact nm_bad HF.out.1 HF.out.2 hplb hsb HA.out rfl
 · rw [if_neg h] at HM ⊢
   have HM := qh HM
   have HLN : Hid (s.size - dr.length = a + k) := by unfold Hid; omega
   clear h hlen hle
   go_enter Tryz.func73, Tryz.ntmps73
   go_upto_region 1 with fail
   rw [← hw1, ← hN]
   clear hw1 hN
   go_wp2_with fail
   refine HC1.out.mono ?_
   rintro e w1' ⟨rfl, rfl⟩
   go_wp2_with fail
   refine HC2.out.mono ?_
   rintro e w1' ⟨rfl, rfl⟩
   go_wp2_with fail
   refine HM.out.mono ?_
   rintro e w2 ⟨rfl, hB⟩
   obtain ⟨hrow, hB2, hK⟩ := HTM.out w2 hB
   have HF := qh (And.intro hB2 hK)
   obtain ⟨⟨r0, r1, r2, r3, r4, r5, r6⟩, ⟨g0, g1, g2, g3, g4, g5, g6⟩, lN⟩ := rc7 hrow
   clear hrow hB2 hK hB
   go_wp2_with fail
   refine bodyPost_ret (v := .tuple #[.agg (tkc 4 (tx tk) 0 (.slice none 0 0) noP), .int .i64 ((a + k : Nat) : Int), .int .i64 0]) (by simp [results, Tryz.results73, go_sem, r0, r1, r2, r3, r4, r5, r6, noP]) rfl ?_
   exact nm_fin HF.out.1 HF.out.2 hplb hsb rfl rfl rfl (by rw [HLN.out]) (by rw [HLN.out]; omega) rfl
set_option maxRecDepth 100000 in
set_option maxHeartbeats 2000000 in
theorem token_text {w : World} {plb sb a : Nat} {s : ByteArray} (K : Plk w plb sb s a) (hT : Tab w) (hs : s.size ≤ 32768) (ha : a < s.size) (hl : isLetter (s[a].toNat) = false) (hd : isDgt (s[a].toNat) = false) (hq : s[a] = 34) :
 Calls Tryz.prog 73 #[.string s, .int .i64 a, plF plb sb] w (TokPost w plb sb s w.heap.size (tokL (plc (lb s) a) ((lb s).drop a))) := by
 obtain ⟨N, hN⟩ : ∃ N, N = w.heap.size := ⟨_, rfl⟩
 obtain ⟨w1, hw1⟩ : ∃ w1, w1 = w.alloc (.cells tkz 89) := ⟨_, rfl⟩
 have LS : (lb s).length = s.size := tp_L_len s
 have hplb : plb < N := by obtain ⟨k, _, hp⟩ := K; rw [hN]; exact hp.lt
 have hsb : sb < N := by obtain ⟨k, _, hp⟩ := K; rw [hN]; exact hp.ltS
 have hb1 : Below N w w1 := by rw [hw1]; exact below_alloc hN _
 have hT1 : Tab w1 := hT.below hb1 (by rw [hN]; exact hT.1)
 have ha' : (a : Int) < s.size := by omega
 have hc2 := drop_cons2 ha
 have C1 := in_any cls1 (s[a].toNat) (u8_lt _) w1 hT1
 have HTM := qh (fun w2 (hB : Below w1.heap.size w1 w2) => tok_nm K hN hw1 hB)
 have C2 := in_any cls2 (s[a].toNat) (u8_lt _) w1 hT1
 rw [hd] at C2
 have HC2 := qh C2
 have t3 : ((s[a].toNat : Int) == 34) = true := by rw [hq]; rfl
 rw [hl] at C1
 have HC1 := qh C1
 have hps : plc (lb s) (a + 1) = (plc (lb s) a).step s[a] := by rw [plc_succ (lb s) a (by omega), lb_get ha]
 obtain ⟨S0, hS⟩ : ∃ S0, strL (((lb s).drop (a + 1)).length + 1) ((lb s).drop (a + 1)) (plc (lb s) (a + 1)) [] [] 0 = S0 := ⟨_, rfl⟩
 have HM := ltext_any (K.kept hb1 hplb hsb |>.mono (Nat.le_succ a)) hT1 hs ha hS
 have hR : tokL (plc (lb s) a) ((lb s).drop a) = strE (plc (lb s) a) S0 := by
  rw [hc2]; show (if isLetter _ = true then _ else if isDgt _ = true then _ else if _ = (34 : UInt8) then _ else _) = _
  rw [if_neg (by rw [hl]; decide), if_neg (by rw [hd]; decide), if_pos hq, ← hps, hS]
  clear hS HM
  cases S0 with
  | none => rfl
  | some S => rfl
 rw [hR, ← hN]
 have HN1 : Hid (N + 1 = w1.heap.size) := by unfold Hid; rw [hw1, hN]; simp
 have HR1 : Hid (w1.heap[N]? = some (.cells tkz 89 (0, 0))) := by unfold Hid; rw [hw1, hN]; exact heap_alloc_new _ _
 rw [← HN1.out] at HM
 have HM := qh HM
 have HB1 := qh hb1
 clear hR hc2 hl hd hq C1 C2 hT hT1 K hS hps LS HTM hb1
 go_enter Tryz.func73, Tryz.ntmps73
 go_upto_region 1 with fail
 rw [← hw1, ← hN]
 clear hw1 hN
 go_wp2_with fail
 refine HC1.out.mono ?_
 rintro e w1' ⟨rfl, rfl⟩
 go_wp2_with fail
 refine HC2.out.mono ?_
 rintro e w1' ⟨rfl, rfl⟩
 go_wp2_with fail
 refine HM.out.mono ?_
 rintro e w2 ⟨hF, hQ⟩
 have hrow := (hF.block N (Nat.lt_succ_self N) (by omega)).trans HR1.out
 have HF : Hid (Fr plb N w w2) := ((Fr.refl plb N w).below HB1.out).trans (hF.mono (Nat.le_succ N))
 clear hF
 cases S0 with
 | none =>
   obtain ⟨rfl, hK⟩ := hQ
   have HK := qh hK
   obtain ⟨⟨r0, r1, r2, r3, r4, r5, r6⟩, ⟨g0, g1, g2, g3, g4, g5, g6⟩, lN⟩ := rc7 hrow
   clear hrow hK
   go_wp2_with fail
   refine bodyPost_ret (v := .tuple #[.agg tkz, .int .i64 0, .int .i64 4]) (by simp [results, Tryz.results73, go_sem, r0, r1, r2, r3, r4, r5, r6]) rfl ?_
   have hb2 := below_set7 (v0 := .int .i64 0) (v1 := .string ⟨#[]⟩) (v2 := .int .i64 0) (v3 := .slice none 0 0) (v4 := .int .i64 0) (v5 := .int .i64 0) (v6 := .int .i64 0) (Below.refl N w2) (Nat.le_refl N)
   exact ⟨HF.out.below hb2, rfl, HK.out.kept hb2 hplb hsb⟩
 | some S =>
   obtain ⟨ps, n, r⟩ := S
   simp only at hQ
   by_cases h : 1024 < n
   · rw [if_pos h] at hQ
     have H24 := qh h
     obtain ⟨rfl, hK⟩ := hQ
     have HK := qh hK
     obtain ⟨⟨r0, r1, r2, r3, r4, r5, r6⟩, ⟨g0, g1, g2, g3, g4, g5, g6⟩, lN⟩ := rc7 hrow
     clear hrow hK h
     go_wp2_with fail
     refine bodyPost_ret (v := .tuple #[.agg tkz, .int .i64 0, .int .i64 3]) (by simp [results, Tryz.results73, go_sem, r0, r1, r2, r3, r4, r5, r6]) rfl ?_
     have hb2 := below_set7 (v0 := .int .i64 0) (v1 := .string ⟨#[]⟩) (v2 := .int .i64 0) (v3 := .slice none 0 0) (v4 := .int .i64 0) (v5 := .int .i64 0) (v6 := .int .i64 0) (Below.refl N w2) (Nat.le_refl N)
     refine ⟨HF.out.below hb2, ?_⟩
     rw [strE_long H24.out]
     exact ⟨rfl, HK.out.kept hb2 hplb hsb⟩
   · rw [if_neg h] at hQ
     have H24 := qh h
     obtain ⟨z, hz⟩ : ∃ z, s.size - r.length = z := ⟨_, rfl⟩
     rw [hz] at hQ
     obtain ⟨vl, rfl, hO, hK⟩ := hQ
     obtain ⟨vo, vn, vc, rfl⟩ := own_slice hO
     have HK := qh hK
     have HO := qh (And.intro hO (own_ty hO hrow (by decide)))
     obtain ⟨⟨r0, r1, r2, r3, r4, r5, r6⟩, ⟨g0, g1, g2, g3, g4, g5, g6⟩, lN⟩ := rc7 hrow
     have HZ := qh hz
     clear hrow hK h hO hz
     go_wp2_with fail
     refine bodyPost_ret (v := .tuple #[.agg (tkc 3 ⟨#[]⟩ 0 (.slice vo vn vc) noP), .int .i64 (z : Int), .int .i64 0]) (by simp [results, Tryz.results73, go_sem, r0, r1, r2, r3, r4, r5, r6, noP]) rfl ?_
     have hb2 := below_set7 (v0 := .int .i64 3) (v1 := .string ⟨#[]⟩) (v2 := .int .i64 0) (v3 := .slice vo vn vc) (v4 := .int .i64 0) (v5 := .int .i64 0) (v6 := .int .i64 0) (Below.refl N w2) (Nat.le_refl N)
     refine ⟨HF.out.below hb2, ?_⟩
     rw [strE_ok H24.out]
     exact ⟨.slice vo vn vc, by rw [HZ.out]; rfl, ownsRow_kept (ownsRow_base HO.out.1 (Nat.le_succ N)) fun g hg => set7_other (HO.out.2 g hg), by rw [HZ.out]; exact HK.out.kept hb2 hplb hsb⟩
theorem token_any {w : World} {plb sb a : Nat} {s : ByteArray} (K : Plk w plb sb s a) (hT : Tab w) (hs : s.size ≤ 32768) (ha : a < s.size) :
 Calls Tryz.prog 73 #[.string s, .int .i64 a, plF plb sb] w (TokPost w plb sb s w.heap.size (tokL (plc (lb s) a) ((lb s).drop a))) := by
 cases hl : isLetter (s[a].toNat) with
 | true => exact token_name K hT hs ha hl
 | false =>
   cases hd : isDgt (s[a].toNat) with
   | true => exact token_number K hT hs ha hl hd
   | false =>
     by_cases hq : s[a] = 34
     · exact token_text K hT hs ha hl hd hq
     · exact token_sign K hT hs ha hl hd hq
end Go.Proofs.YtncjncacfagldaaGreatDoor
