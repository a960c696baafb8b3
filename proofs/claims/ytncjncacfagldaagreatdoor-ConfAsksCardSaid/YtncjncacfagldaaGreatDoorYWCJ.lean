import Derived.Test.YtncjncacfagldaaGreatDoorYWCH
namespace Go.Proofs.YtncjncacfagldaaGreatDoor
open Go.RowKit Go.Lib
attribute [local go_sem] field66_0 field66_1 field66_2 field66_3 field66_4

def ItPost (w : World) (R mb : Nat) (K : Kz) (acc : List It) : Except (Nat × Ps) (It × Nat) → Ending → World → Prop
 | .ok (x, q), e, w' => ItOk w R K x q e w' ∧ Ft R mb w w' ∧ ∃ f', Mo Tryz.prog 9 w' mb f' ∧ Ms f' (attrs (acc ++ [x]))
 | .error (c, q), e, w' => ItErr c q e ∧ Ft R mb w w' ∧ c ≠ 0
theorem ItPost.err {w : World} {R mb : Nat} {K : Kz} {acc : List It} {m : Except (Nat × Ps) (It × Nat)} {c : Nat} {q : Ps} (hm : m = .error (c, q)) (hc : c ≠ 0) {w' : World} (h : Ft R mb w w') : ItPost w R mb K acc m (.returned (.tuple #[zi, dgv c q])) w' := by
 subst hm; exact ⟨rfl, h, hc⟩
theorem attrs_add (l : List It) (x : It) : attrs (l ++ [x]) = if x.b then attrs l else attrs l ++ [x.nm] := by
 unfold attrs
 rw [List.filter_append, List.map_append]
 cases h : x.b <;> simp [h]
theorem attributeM_ne {C : Cx} {t : Tkn} {met : List (List UInt8)} {p c : Nat} {q : Ps} (h : attributeM C t met p = .error (c, q)) : c ≠ 0 := by
 unfold attributeM at h
 split at h
 · injection h with h; injection h with h1; omega
 · split at h
   · cases h
   · rename_i hn
     injection h with h
     rw [h] at hn; exact hn
theorem labelsM_ge (C : Cx) : ∀ (f p : Nat) (acc lb : List (List UInt8)) (q : Nat), labelsM C f p acc = .ok (lb, q) → p ≤ q := by
 intro f
 induction f with
 | zero => intro p acc lb q h; simp [labelsM] at h; omega
 | succ f ih =>
   intro p acc lb q h
   rw [labelsM_succ] at h
   repeat' split at h
   · cases h
   · cases h
   · have := ih _ _ _ _ h; omega
   · injection h with h; injection h with _ h2; omega
def SubP (w : World) (R mb : Nat) (K : Kz) (acc : List It) (W : World) (m : Except (Nat × Ps) (It × Nat)) (cs : Array Value) (c : Nat) (q : Ps) : Prop := Ft R mb w W ∧ match m with
 | .ok (x, p) => c = 0 ∧ q = ps0 ∧ cs.size = 22 ∧ cs.all (·.oneCell') = true ∧ (∃ oL cL oV cV oK cK o cap oI cI, cs = ic x oL cL oV cV oK cK o cap oI cI) ∧ IP (fun k => w.heap.size + 2 ≤ k ∧ k < W.heap.size) W x (.agg cs) ∧ Kd W R K p ∧ p < K.acc.length ∧ ∃ f', Mo Tryz.prog 9 W mb f' ∧ Ms f' (attrs (acc ++ [x]))
 | .error (c', q') => cs = z22 ∧ c = c' ∧ q = q' ∧ c' ≠ 0
theorem SubP.cs {w : World} {R mb : Nat} {K : Kz} {acc : List It} {W : World} {m : Except (Nat × Ps) (It × Nat)} {cs : Array Value} {c : Nat} {q : Ps} (h : SubP w R mb K acc W m cs c q) : cs.size = 22 ∧ cs.all (·.oneCell') = true := by
 obtain ⟨-, h⟩ := h
 cases m with
 | ok x => exact ⟨h.2.2.1, h.2.2.2.1⟩
 | error x => rw [h.1]; exact ⟨rfl, by kernel_rfl⟩
theorem ic_one {P : Nat → Prop} {W : World} {x : It} {cs : Array Value} (h : IP P W x (.agg cs)) : cs.size = 22 ∧ cs.all (·.oneCell') = true := by
 obtain ⟨c', hc, h1, h2⟩ := h.size
 obtain rfl : c' = cs := by injection hc with e; exact e.symm
 exact ⟨h1, by rw [Array.all_eq_true_iff_forall_mem]; intro u hu; exact h2 u (by simpa using hu)⟩
theorem sub_at {w w4 W : World} {R mb : Nat} {K : Kz} {acc : List It} {m : Except (Nat × Ps) (It × Nat)} (hne : ∀ c q, m = .error (c, q) → c ≠ 0) {e : Ending} (h : AtPost w4 R mb K (attrs acc) m e W) (f : Ft R mb w w4) (hs : w.heap.size + 2 ≤ w4.heap.size) : ∃ cs c q, e = .returned (.tuple #[.agg cs, dgv c q]) ∧ SubP w R mb K acc W m cs c q := by
 cases m with
 | error x => obtain ⟨rfl, h2⟩ := h; exact ⟨_, _, _, rfl, f.tr h2, rfl, rfl, rfl, hne _ _ rfl⟩
 | ok x =>
   obtain ⟨⟨oL, cL, oV, cV, oK, cK, o, cap, oI, cI, rfl, hip, hk, hl⟩, hf, hb, f', hm, hs'⟩ := h
   exact ⟨_, 0, ps0, rfl, f.tr hf, rfl, rfl, (ic_one hip).1, (ic_one hip).2, ⟨oL, cL, oV, cV, oK, cK, o, cap, oI, cI, rfl⟩, hip.mono fun k hk => ⟨by have := hk.1; omega, hk.2⟩, hk, hl, f', hm, by rw [attrs_add, hb]; exact hs'⟩
theorem sub_bk {w w4 W : World} {R mb : Nat} {K : Kz} {acc : List It} {m : Except (Nat × Ps) (It × Nat)} {e : Ending} (h : BkPost w4 R K m e W) (f : Ft R mb w w4) (hs : w.heap.size + 2 ≤ w4.heap.size) (hmR : mb ≠ R) {g : Value → Option Value} (hm : Mo Tryz.prog 9 w4 mb g) (hg : Ms g (attrs acc)) : ∃ cs c q, e = .returned (.tuple #[.agg cs, dgv c q]) ∧ SubP w R mb K acc W m cs c q := by
 cases m with
 | error x => obtain ⟨rfl, h2, h3⟩ := h; exact ⟨_, _, _, rfl, f.tr (Ft.fm h2), rfl, rfl, rfl, h3⟩
 | ok x =>
   obtain ⟨⟨oL, cL, oV, cV, oK, cK, o, cap, oI, cI, rfl, hip, hk, hl⟩, hf, hb⟩ := h
   exact ⟨_, 0, ps0, rfl, f.tr (Ft.fm hf), rfl, rfl, (ic_one hip).1, (ic_one hip).2, ⟨oL, cL, oV, cV, oK, cK, o, cap, oI, cI, rfl⟩, hip.mono fun k hk => ⟨by have := hk.1; omega, hk.2⟩, hk, hl, g, hm.kept (hf.block mb hm.lt fun e => hmR (Option.some.inj e)), by rw [attrs_add, hb]; exact hg⟩
theorem at_ft {w W : World} {R mb : Nat} {K : Kz} {met : List (List UInt8)} {m : Except (Nat × Ps) (It × Nat)} {e : Ending} (h : AtPost w R mb K met m e W) : Ft R mb w W := by
 cases m with
 | ok x => exact h.2.1
 | error x => exact h.2
theorem bk_ft {w W : World} {R mb : Nat} {K : Kz} {m : Except (Nat × Ps) (It × Nat)} {e : Ending} (h : BkPost w R K m e W) : Ft R mb w W := by
 cases m with
 | ok x => exact Ft.fm h.2.1
 | error x => exact Ft.fm h.2.1
theorem sub_end {w W W' : World} {R mb : Nat} {K : Kz} {acc : List It} {m : Except (Nat × Ps) (It × Nat)} {cs : Array Value} {c : Nat} {q : Ps} (h : SubP w R mb K acc W m cs c q) (hR : R < w.heap.size) (hn : K.n0 ≤ w.heap.size) (hmb : mb < w.heap.size) (b : Below w.heap.size W W') (hO : ∀ k, k ≠ w.heap.size → k ≠ w.heap.size + 1 → W'.heap[k]? = W.heap[k]?) : ItPost w R mb K acc m (.returned (.tuple #[.agg cs, dgv c q])) W' := by
 obtain ⟨h0, h⟩ := h
 cases m with
 | error x => obtain ⟨rfl, rfl, rfl, h4⟩ := h; exact ⟨rfl, h0.bel b, h4⟩
 | ok x =>
   obtain ⟨rfl, rfl, -, -, ⟨oL, cL, oV, cV, oK, cK, o, cap, oI, cI, rfl⟩, hip, hk, hl, f', hm, hs⟩ := h
   exact ⟨⟨oL, cL, oV, cV, oK, cK, o, cap, oI, cI, rfl, hip.keptP fun k hk => ⟨⟨by have := hk.1; omega, Nat.lt_of_lt_of_le hk.2 b.size⟩, hO k (by have := hk.1; omega) (by have := hk.1; omega)⟩, hk.low b hR hn, hl⟩, h0.bel b, f', hm.kept (b.block mb hmb), hs⟩
set_option maxRecDepth 100000 in
set_option maxHeartbeats 8000000 in
theorem item_any {w : World} {R mb : Nat} {KZ : Kz} {p : Nat} {f : Value → Option Value} {acc : List It} {rec : Nat → Res (List It)} (h : Kd w R KZ p) (hlt : p < KZ.acc.length) (hE : Ends KZ) (hm : Mo Tryz.prog 9 w mb f) (hs : Ms f (attrs acc)) (hmb : KZ.n0 ≤ mb) (hmR : mb ≠ R) (_ : acc.length ≤ 1000)
 (hread : ∀ p m, readM KZ.cx p = m → m.2.2.1 = 0 → m.2.1 < KZ.acc.length)
 (hrec : ∀ (W : World) (q : Nat), p < q → Kd W R KZ q → q < KZ.acc.length → Calls Tryz.prog 43 #[.pointer (some ⟨R, 0, none⟩), .int .i64 4, .string ⟨#[125]⟩] W (RdP PayI W R KZ (rec q))) :
 Calls Tryz.prog 87 #[.pointer (some ⟨R, 0, none⟩), .int .i64 acc.length, .map (some mb)] w (ItPost w R mb KZ acc (itemM KZ.cx rec acc p)) := by
 obtain ⟨M, hM⟩ : ∃ M, itemM KZ.cx rec acc p = M := ⟨_, rfl⟩
 rw [hM]
 unfold itemM at hM
 rw [Kz.tk_eq] at hM
 have HTS : Hid ((KZ.tz p).1.s.length ≤ 40000) := (h.sz.tk _ (by unfold Kz.tz; rw [List.getElem?_eq_getElem hlt]; exact List.getElem_mem _)).1
 have HNX := qh hE
 have HEP := qh (hE p hlt)
 have B0 : Below w.heap.size w ((w.alloc (.cells z22 40)).alloc (.cells #[.int .i64 0, .int .i64 0, .int .i64 0, .int .i64 0, .string ⟨#[]⟩] 53)) := ((Below.refl _ _).alloc (Nat.le_refl _) _).alloc (by simp) _
 have HK0 := qh (h.below B0)
 have HM0 := qh (hm.keep B0)
 have HF0 := qh (Ft.of (R := R) (mb := mb) B0)
 have k22 : Hid (((w.alloc (.cells z22 40)).alloc (.cells #[.int .i64 0, .int .i64 0, .int .i64 0, .int .i64 0, .string ⟨#[]⟩] 53)).heap[w.heap.size]? = some (.cells z22 40 (0, 0))) := (heap_alloc_old _ _ (by simp)).trans (heap_alloc_new w _)
 have k36 : Hid (((w.alloc (.cells z22 40)).alloc (.cells #[.int .i64 0, .int .i64 0, .int .i64 0, .int .i64 0, .string ⟨#[]⟩] 53)).heap[w.heap.size + 1]? = some (.cells #[.int .i64 0, .int .i64 0, .int .i64 0, .int .i64 0, .string ⟨#[]⟩] 53 (0, 0))) := by rw [show w.heap.size + 1 = (w.alloc (.cells z22 40)).heap.size by simp]; exact heap_alloc_new _ _
 have HW0 : Hid (((w.alloc (.cells z22 40)).alloc (.cells #[.int .i64 0, .int .i64 0, .int .i64 0, .int .i64 0, .string ⟨#[]⟩] 53)).heap.size = w.heap.size + 2) := by unfold Hid; simp
 have HN62 : Hid (Calls Tryz.prog 124 #[.pointer (some ⟨R, 0, none⟩)] ((w.alloc (.cells z22 40)).alloc (.cells #[.int .i64 0, .int .i64 0, .int .i64 0, .int .i64 0, .string ⟨#[]⟩] 53)) fun e w' => e = .returned (tv (KZ.tz p)) ∧ Below ((w.alloc (.cells z22 40)).alloc (.cells #[.int .i64 0, .int .i64 0, .int .i64 0, .int .i64 0, .string ⟨#[]⟩] 53)).heap.size ((w.alloc (.cells z22 40)).alloc (.cells #[.int .i64 0, .int .i64 0, .int .i64 0, .int .i64 0, .string ⟨#[]⟩] 53)) w') := next_any HK0.out hlt
 obtain ⟨X, hX⟩ : ∃ X, KZ.tz p = X := ⟨_, rfl⟩
 rw [hX] at hM HTS HEP HN62
 clear hX
 have HRL := qh h.lt
 have HNN := qh h.nn
 have HML := qh hm.lt
 have HMB := qh (And.intro hmb hmR)
 have HS := qh hs
 have HRD := qh hread
 have HRC := qh hrec
 have HLT := qh hlt
 have HM := qh hM
 have HGE : Hid (∀ p lb q, labelsM KZ.cx (KZ.acc.length + 1) p [] = .ok (lb, q) → p ≤ q) := fun p lb q => labelsM_ge _ _ _ _ _ _
 clear h hlt hE hm hs hmb hmR hread hrec hM B0
 have hgi : Hid (w.heap.size ≤ w.heap.size ∧ w.heap.size ≤ w.heap.size + 1) := ⟨by omega, by omega⟩
 go_enter Tryz.func87, Tryz.ntmps87
 go_upto_region 1 with fail
 generalize ((w.alloc (Obj.cells z22 40)).alloc (Obj.cells #[.int .i64 0, .int .i64 0, .int .i64 0, .int .i64 0, .string ⟨#[]⟩] 53)) = w0 at *
 go_wp2_with fail
 refine HN62.out.mono ?_
 rintro e w1 ⟨rfl, b1⟩
 have b2 : Below w0.heap.size w0 (w1.alloc (.cells #[.int .i64 X.1.k, .string (tx X.1.s), .int .i64 X.1.n, psv X, .int .i64 X.1.p.a, .int .i64 X.1.p.l, .int .i64 X.1.p.c] 89)) := b1.alloc b1.size _
 have HK2 := qh (HK0.out.below b2)
 have HM2 := qh (HM0.out.keep b2)
 have HF2 := qh (HF0.out.tr (Ft.of b2))
 have q22 := qh ((b2.block _ (Array.getElem?_eq_some_iff.1 k22.out).1).trans k22.out)
 have q36 := qh ((b2.block _ (Array.getElem?_eq_some_iff.1 k36.out).1).trans k36.out)
 have q7 := qh (heap_alloc_new w1 (.cells #[.int .i64 X.1.k, .string (tx X.1.s), .int .i64 X.1.n, psv X, .int .i64 X.1.p.a, .int .i64 X.1.p.l, .int .i64 X.1.p.c] 89))
 have hgt : w.heap.size + 2 ≤ w1.heap.size := by rw [← HW0.out]; exact b1.size
 have hsz : w1.heap.size < (w1.alloc (.cells #[.int .i64 X.1.k, .string (tx X.1.s), .int .i64 X.1.n, psv X, .int .i64 X.1.p.a, .int .i64 X.1.p.l, .int .i64 X.1.p.c] 89)).heap.size := by simp
 have HB := qh (And.intro hgt hsz)
 clear hgt hsz b2 b1 k22 k36 HK0 HM0 HF0 HW0 HN62
 by_cases hk : X.1.k ≠ 1
 · have HQE : Hid (M = .error (4, KZ.cx.at p)) := by have := HM.out; rw [if_pos hk] at this; exact this.symm
   have en : ((X.1.k : Int) != 1) = true := by rw [bne_iff_ne]; omega
   clear hk HM HRC HRD HGE HM2 HS
   obtain ⟨⟨t0, t1, t2, t3, t4, t5, t6⟩, -, hbt⟩ := rc7 q7.out
   clear t1 t2 t3 t4 t5 t6
   go_wp2_with fail
   refine (wrong_any HK2.out HLT.out 4).mono ?_
   rintro e w5 ⟨rfl, b5⟩
   generalize KZ.cx.at p = qa at *
   have FM5 := qh (HF2.out.tr (Ft.of b5))
   replace q22 := qh ((b5.block _ (Array.getElem?_eq_some_iff.1 q22.out).1).trans q22.out)
   replace q36 := qh ((b5.block _ (Array.getElem?_eq_some_iff.1 q36.out).1).trans q36.out)
   clear b5 HF2 HK2 q7
   go_wp2_with (first
    | (refine wpList_store_row rfl 40 (.tmp 6) (.tmp 14) rfl w.heap.size z22 rfl (by kernel_rfl) 40 _ q22.out (info22 rfl) rfl (by kernel_rfl) ?_
       have s22 : Hid ((w5.setRow w.heap.size z22).heap[w.heap.size]? = some (.cells z22 40 (0, 0))) := setRow_heap _ _ _ _ _ _ q22.out
       have s36 := qh ((setRow_other w5 w.heap.size (w.heap.size + 1) z22 (by omega)).trans q36.out)
       have sO : Hid (∀ k, k ≠ w.heap.size → (w5.setRow w.heap.size z22).heap[k]? = w5.heap[k]?) := fun k hk => setRow_other w5 w.heap.size k z22 hk
       have sB := qh (Below.row (b := w.heap.size) (Below.refl w.heap.size w5) hgi.out.1 z22)
       generalize w5.setRow w.heap.size z22 = wy at *)
    | (refine wpList_store_row rfl 53 (.tmp 7) (.tmp 16) rfl (w.heap.size + 1) #[.int .i64 ((4 : Nat) : Int), .int .i64 qa.a, .int .i64 qa.l, .int .i64 qa.c, .string ⟨#[]⟩] rfl (by kernel_rfl) 53 _ s36.out (info36 rfl) rfl (by kernel_rfl) ?_
       have r36 : Hid ((wy.setRow (w.heap.size + 1) #[.int .i64 ((4 : Nat) : Int), .int .i64 qa.a, .int .i64 qa.l, .int .i64 qa.c, .string ⟨#[]⟩]).heap[(w.heap.size + 1)]? = some (.cells #[.int .i64 ((4 : Nat) : Int), .int .i64 qa.a, .int .i64 qa.l, .int .i64 qa.c, .string ⟨#[]⟩] 53 (0, 0))) := setRow_heap _ _ _ _ _ _ s36.out
       have r22 := qh ((setRow_other wy (w.heap.size + 1) w.heap.size #[.int .i64 ((4 : Nat) : Int), .int .i64 qa.a, .int .i64 qa.l, .int .i64 qa.c, .string ⟨#[]⟩] (by omega)).trans s22.out)
       have rO : Hid (∀ k, k ≠ w.heap.size → k ≠ (w.heap.size + 1) → (wy.setRow (w.heap.size + 1) #[.int .i64 ((4 : Nat) : Int), .int .i64 qa.a, .int .i64 qa.l, .int .i64 qa.c, .string ⟨#[]⟩]).heap[k]? = w5.heap[k]?) := fun k h1 h2 => (setRow_other wy (w.heap.size + 1) k #[.int .i64 ((4 : Nat) : Int), .int .i64 qa.a, .int .i64 qa.l, .int .i64 qa.c, .string ⟨#[]⟩] h2).trans (sO.out k h1)
       have rB := qh (Below.row (b := (w.heap.size + 1)) sB.out hgi.out.2 #[.int .i64 ((4 : Nat) : Int), .int .i64 qa.a, .int .i64 qa.l, .int .i64 qa.c, .string ⟨#[]⟩])
       clear s22 s36 sO sB
       generalize wy.setRow (w.heap.size + 1) #[.int .i64 ((4 : Nat) : Int), .int .i64 qa.a, .int .i64 qa.l, .int .i64 qa.c, .string ⟨#[]⟩] = wz at *))
   refine bodyPost_ret (v := .tuple #[.agg z22, .agg #[.int .i64 ((4 : Nat) : Int), .int .i64 qa.a, .int .i64 qa.l, .int .i64 qa.c, .string ⟨#[]⟩]]) (results_rows (p := 6) (q := 7) rfl _ _ _ _ _ _ rfl rfl r22.out r36.out rfl rfl) rfl ?_
   exact ItPost.err HQE.out (by decide) (FM5.out.bel rB.out)
 · have en : ((X.1.k : Int) != 1) = false := by simp only [bne_eq_false_iff_eq]; omega
   have HK1 : Hid (X.1.k = 1) := by unfold Hid; omega
   have HM1 := qh (HM.out)
   rw [if_neg hk] at HM1
   clear HM hk
   obtain ⟨⟨t0, t1, t2, t3, t4, t5, t6⟩, -, hbt⟩ := rc7 q7.out
   clear t1 t2 t3 t4 t5 t6
   by_cases ha : acc.length = 128
   · have HQE : Hid (M = .error (3, KZ.cx.at p)) := by have := HM1.out; rw [if_pos ha] at this; exact this.symm
     have ea : ((acc.length : Int) == 128) = true := by simp [ha]
     have ea2 : ((acc.length : Int) = 128) = True := by simp [ha]
     clear ha HM1 HRC HRD HGE HM2 HS
     go_wp2_with fail
     refine (wrong_any HK2.out HLT.out 3).mono ?_
     rintro e w5 ⟨rfl, b5⟩
     generalize KZ.cx.at p = qa at *
     have FM5 := qh (HF2.out.tr (Ft.of b5))
     replace q22 := qh ((b5.block _ (Array.getElem?_eq_some_iff.1 q22.out).1).trans q22.out)
     replace q36 := qh ((b5.block _ (Array.getElem?_eq_some_iff.1 q36.out).1).trans q36.out)
     clear b5 HF2 HK2 q7
     go_wp2_with (first
      | (refine wpList_store_row rfl 40 (.tmp 6) (.tmp 19) rfl w.heap.size z22 rfl (by kernel_rfl) 40 _ q22.out (info22 rfl) rfl (by kernel_rfl) ?_
         have s22 : Hid ((w5.setRow w.heap.size z22).heap[w.heap.size]? = some (.cells z22 40 (0, 0))) := setRow_heap _ _ _ _ _ _ q22.out
         have s36 := qh ((setRow_other w5 w.heap.size (w.heap.size + 1) z22 (by omega)).trans q36.out)
         have sO : Hid (∀ k, k ≠ w.heap.size → (w5.setRow w.heap.size z22).heap[k]? = w5.heap[k]?) := fun k hk => setRow_other w5 w.heap.size k z22 hk
         have sB := qh (Below.row (b := w.heap.size) (Below.refl w.heap.size w5) hgi.out.1 z22)
         generalize w5.setRow w.heap.size z22 = wy at *)
      | (refine wpList_store_row rfl 53 (.tmp 7) (.tmp 21) rfl (w.heap.size + 1) #[.int .i64 ((3 : Nat) : Int), .int .i64 qa.a, .int .i64 qa.l, .int .i64 qa.c, .string ⟨#[]⟩] rfl (by kernel_rfl) 53 _ s36.out (info36 rfl) rfl (by kernel_rfl) ?_
         have r36 : Hid ((wy.setRow (w.heap.size + 1) #[.int .i64 ((3 : Nat) : Int), .int .i64 qa.a, .int .i64 qa.l, .int .i64 qa.c, .string ⟨#[]⟩]).heap[(w.heap.size + 1)]? = some (.cells #[.int .i64 ((3 : Nat) : Int), .int .i64 qa.a, .int .i64 qa.l, .int .i64 qa.c, .string ⟨#[]⟩] 53 (0, 0))) := setRow_heap _ _ _ _ _ _ s36.out
         have r22 := qh ((setRow_other wy (w.heap.size + 1) w.heap.size #[.int .i64 ((3 : Nat) : Int), .int .i64 qa.a, .int .i64 qa.l, .int .i64 qa.c, .string ⟨#[]⟩] (by omega)).trans s22.out)
         have rO : Hid (∀ k, k ≠ w.heap.size → k ≠ (w.heap.size + 1) → (wy.setRow (w.heap.size + 1) #[.int .i64 ((3 : Nat) : Int), .int .i64 qa.a, .int .i64 qa.l, .int .i64 qa.c, .string ⟨#[]⟩]).heap[k]? = w5.heap[k]?) := fun k h1 h2 => (setRow_other wy (w.heap.size + 1) k #[.int .i64 ((3 : Nat) : Int), .int .i64 qa.a, .int .i64 qa.l, .int .i64 qa.c, .string ⟨#[]⟩] h2).trans (sO.out k h1)
         have rB := qh (Below.row (b := (w.heap.size + 1)) sB.out hgi.out.2 #[.int .i64 ((3 : Nat) : Int), .int .i64 qa.a, .int .i64 qa.l, .int .i64 qa.c, .string ⟨#[]⟩])
         clear s22 s36 sO sB
         generalize wy.setRow (w.heap.size + 1) #[.int .i64 ((3 : Nat) : Int), .int .i64 qa.a, .int .i64 qa.l, .int .i64 qa.c, .string ⟨#[]⟩] = wz at *))
     refine bodyPost_ret (v := .tuple #[.agg z22, .agg #[.int .i64 ((3 : Nat) : Int), .int .i64 qa.a, .int .i64 qa.l, .int .i64 qa.c, .string ⟨#[]⟩]]) (results_rows (p := 6) (q := 7) rfl _ _ _ _ _ _ rfl rfl r22.out r36.out rfl rfl) rfl ?_
     exact ItPost.err HQE.out (by decide) (FM5.out.bel rB.out)
   · have HQ1 : Hid ((if KZ.cx.has (p + 1) 4 [61] then attributeM KZ.cx X.1 (attrs acc) (p + 1 + 1) else blockM KZ.cx rec X.1 (p + 1)) = M) := by have := HM1.out; rw [if_neg ha] at this; exact this
     have ea : ((acc.length : Int) == 128) = false := by simp only [beq_eq_false_iff_ne, ne_eq]; omega
     have ea2 : ((acc.length : Int) = 128) = False := by simp; omega
     have HL1 : Hid (p + 1 < KZ.acc.length) := HEP.out (by rw [HK1.out]; decide)
     clear ha HM1
     go_wp2_with fail
     generalize (w1.alloc (Obj.cells #[.int .i64 X.1.k, .string (tx X.1.s), .int .i64 X.1.n, psv X, .int .i64 X.1.p.a, .int .i64 X.1.p.l, .int .i64 X.1.p.c] 89)) = w2 at *
     obtain ⟨g, hg⟩ : ∃ g, w1.heap.size = g := ⟨_, rfl⟩
     rw [hg] at HB q7 ⊢
     clear hg t0 hbt
     refine (kpass_any HK2.out HLT.out).mono ?_
     rintro e w3 ⟨rfl, hk3, hf3⟩
     have HK3 := qh hk3
     have HF3 := qh (HF2.out.tr (Ft.fm hf3))
     have HM3 := qh (HM2.out.kept (hf3.block mb (by have := HM2.out.lt; exact this) (fun e => HMB.out.2 (Option.some.inj e))))
     replace q7 := qh ((hf3.block _ (Array.getElem?_eq_some_iff.1 q7.out).1 (fun e => by have := Option.some.inj e; have := HRL.out; have := HB.out; omega)).trans q7.out)
     replace q22 := qh ((hf3.block _ (Array.getElem?_eq_some_iff.1 q22.out).1 (fun e => by have := Option.some.inj e; have := HRL.out; have := HB.out; omega)).trans q22.out)
     replace q36 := qh ((hf3.block _ (Array.getElem?_eq_some_iff.1 q36.out).1 (fun e => by have := Option.some.inj e; have := HRL.out; have := HB.out; omega)).trans q36.out)
     clear hk3 hf3 HK2 HF2 HM2
     go_wp2_with fail
     refine (ktakes_any HK3.out HL1.out 4 [61]).mono ?_
     rintro e w4 ⟨rfl, hk4, hf4⟩
     have HF4 := qh (HF3.out.tr (Ft.fm hf4))
     have HM4 := qh (HM3.out.kept (hf4.block mb (by have := HM3.out.lt; exact this) (fun e => HMB.out.2 (Option.some.inj e))))
     replace q7 := qh ((hf4.block _ (Array.getElem?_eq_some_iff.1 q7.out).1 (fun e => by have := Option.some.inj e; have := HRL.out; have := HB.out; omega)).trans q7.out)
     replace q22 := qh ((hf4.block _ (Array.getElem?_eq_some_iff.1 q22.out).1 (fun e => by have := Option.some.inj e; have := HRL.out; have := HB.out; omega)).trans q22.out)
     replace q36 := qh ((hf4.block _ (Array.getElem?_eq_some_iff.1 q36.out).1 (fun e => by have := Option.some.inj e; have := HRL.out; have := HB.out; omega)).trans q36.out)
     have HS4 : Hid (w.heap.size + 2 ≤ w4.heap.size) := by have := (Array.getElem?_eq_some_iff.1 q7.out).1; have := HB.out; unfold Hid; omega
     clear hf4 HK3 HF3 HM3
     obtain ⟨⟨t0, t1, t2, t3, t4, t5, t6⟩, -, hbt⟩ := rc7 q7.out
     obtain ⟨bb, hbb⟩ : ∃ b, KZ.cx.has (p + 1) 4 [61] = b := ⟨_, rfl⟩
     rw [hbb] at hk4 HQ1 ⊢
     clear hbb
     cases bb with
     | true =>
       have HK4 : Hid (Kd w4 R KZ (p + 1 + 1)) := hk4
       have HQ2 : Hid (attributeM KZ.cx X.1 (attrs acc) (p + 1 + 1) = M) := HQ1.out
       clear hk4 HQ1
       go_wp2_with fail
       clear t0 t1 t2 t3 t4 t5 t6 hbt
       refine (attribute_any HK4.out HM4.out HS.out HMB.out.1 HMB.out.2 X HTS.out (fun m => HRD.out (p + 1 + 1) m)).mono ?_
       rintro e w5 hAt
       rw [HQ2.out] at hAt
       obtain ⟨cs, c, q, rfl, hsub⟩ := sub_at (w := w) (fun c q hc => attributeM_ne (HQ2.out.trans hc)) hAt HF4.out HS4.out
       have hft := at_ft hAt
       have HFT := qh hft
       clear hAt hft
       have HSUB := qh hsub
       have HCS := qh hsub.cs
       clear hsub
       replace q22 := qh ((HFT.out.block _ (Array.getElem?_eq_some_iff.1 q22.out).1 (by have := HRL.out; omega) (by have := HML.out; omega)).trans q22.out)
       replace q36 := qh ((HFT.out.block _ (Array.getElem?_eq_some_iff.1 q36.out).1 (by have := HRL.out; omega) (by have := HML.out; omega)).trans q36.out)
       clear HFT HK4 HM4 HF4 q7
       go_wp2_with (first
        | (refine wpList_store_row rfl 40 (.tmp 6) (.tmp 32) rfl w.heap.size cs rfl (by kernel_rfl) 40 _ q22.out (info22 HCS.out.1) (by rw [HCS.out.1]; rfl) (HCS.out.2) ?_
           have s22 : Hid ((w5.setRow w.heap.size cs).heap[w.heap.size]? = some (.cells cs 40 (0, 0))) := setRow_heap _ _ _ _ _ _ q22.out
           have s36 := qh ((setRow_other w5 w.heap.size (w.heap.size + 1) cs (by omega)).trans q36.out)
           have sO : Hid (∀ k, k ≠ w.heap.size → (w5.setRow w.heap.size cs).heap[k]? = w5.heap[k]?) := fun k hk => setRow_other w5 w.heap.size k cs hk
           have sB := qh (Below.row (b := w.heap.size) (Below.refl w.heap.size w5) hgi.out.1 cs)
           generalize w5.setRow w.heap.size cs = wy at *)
        | (refine wpList_store_row rfl 53 (.tmp 7) (.tmp 33) rfl (w.heap.size + 1) #[.int .i64 (c : Int), .int .i64 q.a, .int .i64 q.l, .int .i64 q.c, .string ⟨#[]⟩] rfl (by kernel_rfl) 53 _ s36.out (info36 rfl) rfl (by kernel_rfl) ?_
           have r36 : Hid ((wy.setRow (w.heap.size + 1) #[.int .i64 (c : Int), .int .i64 q.a, .int .i64 q.l, .int .i64 q.c, .string ⟨#[]⟩]).heap[(w.heap.size + 1)]? = some (.cells #[.int .i64 (c : Int), .int .i64 q.a, .int .i64 q.l, .int .i64 q.c, .string ⟨#[]⟩] 53 (0, 0))) := setRow_heap _ _ _ _ _ _ s36.out
           have r22 := qh ((setRow_other wy (w.heap.size + 1) w.heap.size #[.int .i64 (c : Int), .int .i64 q.a, .int .i64 q.l, .int .i64 q.c, .string ⟨#[]⟩] (by omega)).trans s22.out)
           have rO : Hid (∀ k, k ≠ w.heap.size → k ≠ (w.heap.size + 1) → (wy.setRow (w.heap.size + 1) #[.int .i64 (c : Int), .int .i64 q.a, .int .i64 q.l, .int .i64 q.c, .string ⟨#[]⟩]).heap[k]? = w5.heap[k]?) := fun k h1 h2 => (setRow_other wy (w.heap.size + 1) k #[.int .i64 (c : Int), .int .i64 q.a, .int .i64 q.l, .int .i64 q.c, .string ⟨#[]⟩] h2).trans (sO.out k h1)
           have rB := qh (Below.row (b := (w.heap.size + 1)) sB.out hgi.out.2 #[.int .i64 (c : Int), .int .i64 q.a, .int .i64 q.l, .int .i64 q.c, .string ⟨#[]⟩])
           clear s22 s36 sO sB
           generalize wy.setRow (w.heap.size + 1) #[.int .i64 (c : Int), .int .i64 q.a, .int .i64 q.l, .int .i64 q.c, .string ⟨#[]⟩] = wz at *))
       refine bodyPost_ret (v := .tuple #[.agg cs, .agg #[.int .i64 (c : Int), .int .i64 q.a, .int .i64 q.l, .int .i64 q.c, .string ⟨#[]⟩]]) (results_rows (p := 6) (q := 7) rfl _ _ _ _ _ _ rfl rfl r22.out r36.out HCS.out.1 rfl) rfl ?_
       exact sub_end HSUB.out HRL.out HNN.out HML.out rB.out rO.out
     | false =>
       have HK4 : Hid (Kd w4 R KZ (p + 1)) := hk4
       have HQ2 : Hid (blockM KZ.cx rec X.1 (p + 1) = M) := HQ1.out
       clear hk4 HQ1
       go_wp2_with fail
       clear t0 t1 t2 t3 t4 t5 t6 hbt
       refine (block_any HK4.out HL1.out HNX.out X (fun W q hq => HRC.out W q (by omega)) (fun lb q => HGE.out (p + 1) lb q)).mono ?_
       rintro e w5 hBk
       rw [HQ2.out] at hBk
       obtain ⟨cs, c, q, rfl, hsub⟩ := sub_bk (w := w) hBk HF4.out HS4.out HMB.out.2 HM4.out HS.out
       have hft : Ft R mb w4 w5 := bk_ft hBk
       have HFT := qh hft
       clear hBk hft
       have HSUB := qh hsub
       have HCS := qh hsub.cs
       clear hsub
       replace q22 := qh ((HFT.out.block _ (Array.getElem?_eq_some_iff.1 q22.out).1 (by have := HRL.out; omega) (by have := HML.out; omega)).trans q22.out)
       replace q36 := qh ((HFT.out.block _ (Array.getElem?_eq_some_iff.1 q36.out).1 (by have := HRL.out; omega) (by have := HML.out; omega)).trans q36.out)
       clear HFT HK4 HM4 HF4 q7
       go_wp2_with (first
        | (refine wpList_store_row rfl 40 (.tmp 6) (.tmp 37) rfl w.heap.size cs rfl (by kernel_rfl) 40 _ q22.out (info22 HCS.out.1) (by rw [HCS.out.1]; rfl) (HCS.out.2) ?_
           have s22 : Hid ((w5.setRow w.heap.size cs).heap[w.heap.size]? = some (.cells cs 40 (0, 0))) := setRow_heap _ _ _ _ _ _ q22.out
           have s36 := qh ((setRow_other w5 w.heap.size (w.heap.size + 1) cs (by omega)).trans q36.out)
           have sO : Hid (∀ k, k ≠ w.heap.size → (w5.setRow w.heap.size cs).heap[k]? = w5.heap[k]?) := fun k hk => setRow_other w5 w.heap.size k cs hk
           have sB := qh (Below.row (b := w.heap.size) (Below.refl w.heap.size w5) hgi.out.1 cs)
           generalize w5.setRow w.heap.size cs = wy at *)
        | (refine wpList_store_row rfl 53 (.tmp 7) (.tmp 38) rfl (w.heap.size + 1) #[.int .i64 (c : Int), .int .i64 q.a, .int .i64 q.l, .int .i64 q.c, .string ⟨#[]⟩] rfl (by kernel_rfl) 53 _ s36.out (info36 rfl) rfl (by kernel_rfl) ?_
           have r36 : Hid ((wy.setRow (w.heap.size + 1) #[.int .i64 (c : Int), .int .i64 q.a, .int .i64 q.l, .int .i64 q.c, .string ⟨#[]⟩]).heap[(w.heap.size + 1)]? = some (.cells #[.int .i64 (c : Int), .int .i64 q.a, .int .i64 q.l, .int .i64 q.c, .string ⟨#[]⟩] 53 (0, 0))) := setRow_heap _ _ _ _ _ _ s36.out
           have r22 := qh ((setRow_other wy (w.heap.size + 1) w.heap.size #[.int .i64 (c : Int), .int .i64 q.a, .int .i64 q.l, .int .i64 q.c, .string ⟨#[]⟩] (by omega)).trans s22.out)
           have rO : Hid (∀ k, k ≠ w.heap.size → k ≠ (w.heap.size + 1) → (wy.setRow (w.heap.size + 1) #[.int .i64 (c : Int), .int .i64 q.a, .int .i64 q.l, .int .i64 q.c, .string ⟨#[]⟩]).heap[k]? = w5.heap[k]?) := fun k h1 h2 => (setRow_other wy (w.heap.size + 1) k #[.int .i64 (c : Int), .int .i64 q.a, .int .i64 q.l, .int .i64 q.c, .string ⟨#[]⟩] h2).trans (sO.out k h1)
           have rB := qh (Below.row (b := (w.heap.size + 1)) sB.out hgi.out.2 #[.int .i64 (c : Int), .int .i64 q.a, .int .i64 q.l, .int .i64 q.c, .string ⟨#[]⟩])
           clear s22 s36 sO sB
           generalize wy.setRow (w.heap.size + 1) #[.int .i64 (c : Int), .int .i64 q.a, .int .i64 q.l, .int .i64 q.c, .string ⟨#[]⟩] = wz at *))
       refine bodyPost_ret (v := .tuple #[.agg cs, .agg #[.int .i64 (c : Int), .int .i64 q.a, .int .i64 q.l, .int .i64 q.c, .string ⟨#[]⟩]]) (results_rows (p := 6) (q := 7) rfl _ _ _ _ _ _ rfl rfl r22.out r36.out HCS.out.1 rfl) rfl ?_
       exact sub_end HSUB.out HRL.out HNN.out HML.out rB.out rO.out
end Go.Proofs.YtncjncacfagldaaGreatDoor
