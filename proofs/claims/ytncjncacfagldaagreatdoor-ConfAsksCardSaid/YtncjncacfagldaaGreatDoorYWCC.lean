import Derived.Test.YtncjncacfagldaaGreatDoorYWC0
namespace Go.Proofs.YtncjncacfagldaaGreatDoor
open Go.RowKit Go.Lib
attribute [local go_sem] field66_0 field66_1 field66_3 field66_4

theorem Kd.fr {w W : World} {R : Nat} {K : Kz} {p q : Nat} (h : Kd w R K p) (f : Fm R w W) (hb : W.heap[R]? = some (.cells #[K.vl, .int .i64 q] 95 (0, 0))) (hle : q ≤ K.acc.length) : Kd W R K q :=
 ⟨hb, h.kt.kept fun k hk hn => f.block k (Nat.lt_of_lt_of_le hk h.nn) (fun e => hn (Option.some.inj e)), h.sz, h.iq, hle, Nat.le_trans h.nn f.size⟩
set_option maxRecDepth 100000 in
set_option maxHeartbeats 1000000 in
theorem kpass_any {w : World} {R : Nat} {K : Kz} {p : Nat} (h : Kd w R K p) (hlt : p < K.acc.length) : Calls Tryz.prog 125 #[.pointer (some ⟨R, 1, none⟩)] w fun e w' => e = .returned (.tuple #[]) ∧ Kd w' R K (p + 1) ∧ Fm R w w' := by
 have hn := h.sz.n
 have hn : K.acc.length ≤ 40000 := hn
 have HH := qh h
 obtain ⟨⟨r0, r1⟩, ⟨f0, f1⟩, hR⟩ := rc2 h.blk
 have e1 : IntKind.i64.wrap ((p : Int) + 1) = (p : Int) + 1 := IntWalk.i64_in _ (by omega)
 have HL := qh hlt
 clear h r0 f0 hn hlt
 go_enter Tryz.func125, Tryz.ntmps125
 go_wp2_with fail
 refine bodyPost_end (v := .tuple #[]) (results_none rfl _ _ _) rfl ⟨rfl, ?_⟩
 have F2 : Fm R w (w.setCell ⟨R, 1, none⟩ (.int .i64 ((p : Int) + 1))) := (Fm.of (Below.refl _ _)).st 1 _
 refine ⟨HH.out.fr F2 ?_ HL.out, F2⟩
 rw [heap_setCell_same _ R 1 _ _ _ HH.out.blk]
 rfl
theorem Kz.has_eq (K : Kz) (p k : Nat) (x : List UInt8) : K.cx.has p k x = (decide ((K.tz p).1.k = k) && decide ((K.tz p).1.s = x)) := by
 unfold Cx.has Cx.is
 rw [Kz.tk_eq]
set_option maxRecDepth 100000 in
set_option maxHeartbeats 2000000 in
theorem ktakes_any {w : World} {R : Nat} {K : Kz} {p : Nat} (h : Kd w R K p) (hlt : p < K.acc.length) (k : Nat) (x : List UInt8) : Calls Tryz.prog 86 #[.pointer (some ⟨R, 0, none⟩), .int .i64 k, .string (tx x)] w fun e w' => e = .returned (.bool (K.cx.has p k x)) ∧ Kd w' R K (if K.cx.has p k x then p + 1 else p) ∧ Fm R w w' := by
 have H := qh h
 have HL := qh hlt
 have HI := qh (K.has_eq p k x)
 have HN : Hid (∀ W, Below w.heap.size w W → Calls Tryz.prog 124 #[.pointer (some ⟨R, 0, none⟩)] W fun e w' => e = .returned (tv (K.tz p)) ∧ Below W.heap.size W w') := fun W hW => next_any (h.below hW) hlt
 have hR := h.lt
 generalize K.tz p = X at HI HN
 clear h hlt
 by_cases h1 : X.1.k = k
 · have e1 := nat_eq h1
   have e1b : ((X.1.k : Int) != (k : Int)) = false := by simp [h1]
   have e1c : ((X.1.k : Int) = (k : Int)) = True := by simp [h1]
   by_cases h2 : X.1.s = x
   · have e2 := tx_eq h2
     have e2b : ((tx X.1.s).toList != (tx x).toList) = false := by simp [h2]
     have HF : Hid (K.cx.has p k x = true) := by unfold Hid; rw [HI.out]; simp [h1, h2]
     clear h1 h2 HI
     rw [HF.out]
     simp only [if_true]
     go_enter Tryz.func86, Tryz.ntmps86
     go_wp2_with fail
     refine (HN.out w (Below.refl _ _)).mono ?_
     rintro e w1 ⟨rfl, c1⟩
     have H1 := qh (H.out.below c1)
     have HC := qh c1
     clear c1
     go_wp2_with fail
     refine (kpass_any (H1.out.below ((Below.refl _ _).alloc (Nat.le_refl _) _)) HL.out).mono ?_
     rintro e w2 ⟨rfl, k2, f2⟩
     have HK := qh k2
     have HFM := qh ((Fm.of (HC.out.trans (((Below.refl _ _).alloc (Nat.le_refl _) _).mono HC.out.size))).tr f2)
     clear k2 f2
     go_wp2_with fail
     go_ret
     exact ⟨rfl, HK.out, HFM.out⟩
   · have e2 := tx_ne h2
     have e2b : ((tx X.1.s).toList != (tx x).toList) = true := by simp [bne, e2]
     have HF : Hid (K.cx.has p k x = false) := by unfold Hid; rw [HI.out]; simp [h2]
     clear h1 h2 HI
     rw [HF.out]
     simp only [Bool.false_eq_true, if_false]
     go_enter Tryz.func86, Tryz.ntmps86
     go_wp2_with fail
     refine (HN.out w (Below.refl _ _)).mono ?_
     rintro e w1 ⟨rfl, c1⟩
     have H1 := qh (H.out.below c1)
     have HC := qh c1
     clear c1
     go_wp2_with fail
     go_ret
     exact ⟨rfl, H1.out.below ((Below.refl _ _).alloc (Nat.le_refl _) _), Fm.of (HC.out.trans (((Below.refl _ _).alloc (Nat.le_refl _) _).mono HC.out.size))⟩
 · have e1 := nat_ne h1
   have e1b : ((X.1.k : Int) != (k : Int)) = true := by simp [bne, e1]
   have e1c : ((X.1.k : Int) = (k : Int)) = False := by simp; omega
   have HF : Hid (K.cx.has p k x = false) := by unfold Hid; rw [HI.out]; simp [h1]
   clear h1 HI
   rw [HF.out]
   simp only [Bool.false_eq_true, if_false]
   go_enter Tryz.func86, Tryz.ntmps86
   go_wp2_with fail
   refine (HN.out w (Below.refl _ _)).mono ?_
   rintro e w1 ⟨rfl, c1⟩
   have H1 := qh (H.out.below c1)
   have HC := qh c1
   clear c1
   go_wp2_with fail
   go_ret
   exact ⟨rfl, H1.out.below ((Below.refl _ _).alloc (Nat.le_refl _) _), Fm.of (HC.out.trans (((Below.refl _ _).alloc (Nat.le_refl _) _).mono HC.out.size))⟩
abbrev dgv (e : Nat) (q : Ps) : Value := .agg #[.int .i64 e, .int .i64 q.a, .int .i64 q.l, .int .i64 q.c, .string ⟨#[]⟩]
set_option maxRecDepth 100000 in
set_option maxHeartbeats 1000000 in
theorem wrong_any {w : World} {R : Nat} {K : Kz} {p : Nat} (h : Kd w R K p) (hlt : p < K.acc.length) (c : Nat) : Calls Tryz.prog 126 #[.pointer (some ⟨R, 0, none⟩), .int .i64 c] w fun e w' => e = .returned (dgv c (K.cx.at p)) ∧ Below w.heap.size w w' := by
 have B0 : Below w.heap.size w (w.alloc (.cells #[.int .i64 0, .int .i64 0, .int .i64 0, .int .i64 0, .string ⟨#[]⟩] 53)) := (Below.refl _ _).alloc (Nat.le_refl _) _
 have HB0 := qh B0
 have HN := qh (next_any (h.below B0) hlt)
 have HQ : Hid (K.cx.at p = (K.tz p).1.p.ps) := by unfold Hid Cx.at; rw [Kz.tk_eq]
 have R1 := qh (heap_alloc_new w (.cells #[.int .i64 0, .int .i64 0, .int .i64 0, .int .i64 0, .string ⟨#[]⟩] 53))
 generalize K.tz p = X at HQ HN
 clear h hlt B0
 go_enter Tryz.func126, Tryz.ntmps126
 go_wp2_with fail
 refine HN.out.mono ?_
 rintro e w1 ⟨rfl, c1⟩
 have HB1 := qh (HB0.out.trans (c1.mono HB0.out.size))
 have R2 := (c1.block w.heap.size (by simp)).trans R1.out
 obtain ⟨⟨q0, q1, q2, q3, q4⟩, ⟨g0, g1, g2, g3, g4⟩, hz⟩ := rc5 R2
 clear c1 R2
 go_wp2_with fail
 refine bodyPost_ret (v := dgv c X.1.p.ps) (by simp [results, Tryz.results126, go_sem, q0, q1, q2, q3, q4, Plc.ps]) rfl ⟨by rw [HQ.out], ?_⟩
 exact set5_b HB1.out (Nat.le_refl _) _ _ _ _ _
open Go.RowKit Go.Lib
attribute [local go_sem] field66_0 field66_1 field66_3 field66_4

def kbS (l : List Prt) : ByteArray := if l.any (·.ex) then ⟨#[]⟩ else tx (l.flatMap (·.s))
def kbB (l : List Prt) : Bool := !l.any (·.ex)
set_option maxRecDepth 100000 in
set_option maxHeartbeats 2000000 in
theorem kbytes_any {P : Nat → Prop} {w : World} {o : Option Addr} {cap : Nat} {l : List Prt} (h : Pts P w o cap l) (hP : ∀ k, P k → k < w.heap.size) (hl : l.length ≤ 100000) (hs : (l.flatMap (·.s)).length ≤ 1000000) : Calls Tryz.prog 179 #[.slice o l.length cap] w fun e w' => e = .returned (.tuple #[.string (kbS l), .bool (kbB l)]) ∧ Below w.heap.size w w' := by
 obtain ⟨i5, hi, hz, hs1, hb⟩ := info_parts info5
 have H := qh h
 have HPP := qh hP
 have HS := qh hs
 have hcm := h.2.1
 have hlc := h.1
 unfold maxLen at hcm
 clear h hP hs
 go_enter Tryz.func179, Tryz.ntmps179
 go_wp2_with fail
 go_loopw [4, 9] (fun v4 v9 wr => ∃ k : Nat, k ≤ l.length ∧ v9 = .int .i64 k ∧ Hid (∀ j y, j < k → l[j]? = some y → y.ex = false) ∧ Hid (wr.ownsRow w.heap.size 5 1 v4 (byt l k).length (bcs (byt l k))) ∧ Hid (Below w.heap.size w wr)) (fun _ v _ => l.length - (RowKit.intOf v).toNat)
 case atStart => exact ⟨0, Nat.zero_le _, rfl, fun j y hj => absurd hj (Nat.not_lt_zero _), ⟨rfl, .inl ⟨rfl, rfl⟩⟩, Below.refl _ _⟩
 case round =>
  obtain ⟨k, hk, rfl, HN, HO, HB⟩ := hrel
  by_cases hlt : k < l.length
  · have e1 : (k : Int) < (l.length : Int) := by omega
    have hx := List.getElem?_eq_getElem hlt
    generalize l[k] = x at hx
    have HX := qh hx
    obtain ⟨b, off, rfl, hPb, c0, c1, c2, c3, c4⟩ := (H.out.kp (fun j hj => HB.out.block j (HPP.out j hj))).at hx
    have hbs : b < wr.heap.size := Nat.lt_of_lt_of_le (HPP.out b hPb) HB.out.size
    have hk0 : ¬ (k : Int) < 0 := by omega
    have e2 : IntKind.i64.wrap ((k : Int) + 1) = ((k + 1 : Nat) : Int) := by rw [IntWalk.i64_in _ (by omega)]; rfl
    have hlen := byt_len l k
    have hlen2 := byt_len l (k + 1)
    rw [byt_succ hx, List.length_append] at hlen2
    have HLN := qh (And.intro hlen hlen2)
    clear hx hPb hlen hlen2
    obtain ⟨bx, hbx⟩ : ∃ bx, x.ex = bx := ⟨_, rfl⟩
    have HBX := qh hbx
    rw [hbx] at c0
    clear hbx
    cases bx with
    | true =>
      have HA : Hid (l.any (·.ex) = true) := List.any_eq_true.2 ⟨x, List.mem_of_getElem? HX.out, HBX.out⟩
      go_wp2_with fail
      exact bodyPost_ret (v := .tuple #[.string ⟨#[]⟩, .bool false]) (by simp [results, Tryz.results179, go_sem]) rfl ⟨by unfold kbS kbB; rw [HA.out]; rfl, HB.out.alloc HB.out.size _⟩
    | false =>
      have HO1 := qh (own_kept HO.out ((Below.refl _ _).alloc (Nat.le_refl _) (.cells #[.bool false, .string (tx x.s), .int .i64 x.p.a, .int .i64 x.p.l, .int .i64 x.p.c] 130)))
      have HB1 : Hid (Below w.heap.size w (wr.alloc (.cells #[.bool false, .string (tx x.s), .int .i64 x.p.a, .int .i64 x.p.l, .int .i64 x.p.c] 130))) := HB.out.alloc HB.out.size _
      go_wp2_with (at_builtin; go_must (refine wpList_append_own_string _ rfl (.tmp 15) (.tmp 17) 67 9 rfl w.heap.size 5 i5 Tryz.underlying67 Tryz.underlying9 hi hz hs1 hb _ (byt l k).length (bcs (byt l k)) rfl HO1.out (tx x.s) rfl (by have := HLN.out; have := HS.out; rw [tx_size]; unfold maxLen; omega) (by have := HLN.out; have := HS.out; rw [tx_size]; omega) HB1.out.size ?_))
      intro v' w2 hown hgrow hnil
      have HE : Hid (w2.ownsRow w.heap.size 5 1 v' (byt l (k + 1)).length (bcs (byt l (k + 1))) ∧ Below w.heap.size w w2) := by
       rw [strCells_tx, ← bcs_app, ← byt_succ HX.out, tx_size, ← List.length_append, ← byt_succ HX.out] at hown
       exact ⟨hown, HB1.out.grown hgrow HB1.out.size (fun g hg => (HO1.out.lt g hg).1)⟩
      clear hown hgrow hnil
      go_wp2_with fail
      go_roundw
      case rel => exact ⟨k + 1, hlt, rfl, fun j y hj hy => by
       by_cases hjk : j = k
       · subst hjk
         obtain rfl := Option.some.inj (HX.out.symm.trans hy)
         exact HBX.out
       · exact HN.out j y (by omega) hy, HE.out.1, HE.out.2⟩
      case measure => simp only [RowKit.intOf]; omega
  · have e1 : ¬ (k : Int) < (l.length : Int) := by omega
    obtain rfl : k = l.length := by omega
    have HA : Hid (l.any (·.ex) = false) := by
     unfold Hid
     rw [List.any_eq_false]
     intro y hy
     obtain ⟨j, hj, e⟩ := List.mem_iff_getElem.1 hy
     have := HN.out j y hj (by rw [List.getElem?_eq_getElem hj, e])
     simp [this]
    have hcv := conv_own HO.out
    rw [byt_all] at hcv
    go_wp2_with fail
    exact bodyPost_ret (v := .tuple #[.string (tx (l.flatMap (·.s))), .bool true]) (by simp [results, Tryz.results179, go_sem]) rfl ⟨by unfold kbS kbB; rw [HA.out]; rfl, HB.out⟩
open Go.RowKit Go.Lib
attribute [local go_sem] field66_0 field66_1 field66_3 field66_4

def Ends (K : Kz) : Prop := ∀ i, i < K.acc.length → (K.tz i).1.k ≠ 0 → i + 1 < K.acc.length
theorem kAt_eq {w : World} {R : Nat} {K : Kz} {p : Nat} (h : Kd w R K p) : pAt R w = p := by
 unfold pAt
 rw [(rc2 h.blk).1.2]
 show ((p : Int)).toNat = p
 omega
theorem Kd.app {n : Nat} {w w2 : World} {R : Nat} {K : Kz} {p : Nat} {e : TypeId} {z m : Nat} {v : Value} {xs : List Value} (h : Kd w R K p) (ho : w.ownsRow n e z v m xs) (hR : R < n) (hn : K.n0 ≤ n) (hnw : n ≤ w.heap.size) {o : Obj} (hg : (w.alloc o).grownBy w2 v.ownBlock) : Kd w2 R K p ∧ Fn n R w w2 := by
 have hsz : w.heap.size ≤ w2.heap.size := by have := hg.size; simp at this; omega
 have hb : ∀ k, k < w.heap.size → v.ownBlock ≠ some k → w2.heap[k]? = w.heap[k]? := fun k hk hv => (hg.block k (by simp; omega) (fun e => hv e.symm)).trans (heap_alloc_old w _ hk)
 have hlo : ∀ k, k < n → k < w.heap.size → w2.heap[k]? = w.heap[k]? := fun k hk hkw => hb k hkw fun e => by have := (ho.lt k e).1; omega
 exact ⟨⟨(hlo R hR (by omega)).trans h.blk, h.kt.kept fun k hk _ => hlo k (by omega) (Nat.lt_of_lt_of_le hk h.nn), h.sz, h.iq, h.le, Nat.le_trans h.nn hsz⟩, hg.os, hg.tape, hg.output, hsz, fun k hk _ => hlo k hk (by omega)⟩
theorem Kt.parts {w : World} {R : Nat} {K : Kz} (h : Kt w R K) {i : Nat} (hi : i < K.acc.length) : Pts (Ok K.n0 R) w (K.tz i).2.1 (K.tz i).2.2 (K.tz i).1.ps := by
 have : K.tz i ∈ K.acc := by unfold Kz.tz; rw [List.getElem?_eq_getElem hi]; exact List.getElem_mem hi
 exact h.pt _ this
theorem Kz.szp {K : Kz} (h : Sz (K.z 0 0)) {i : Nat} (hi : i < K.acc.length) : (K.tz i).1.ps.length ≤ 40000 ∧ ((K.tz i).1.ps.flatMap (·.s)).length ≤ 40000 := by
 have hm : K.tz i ∈ K.acc := by unfold Kz.tz; rw [List.getElem?_eq_getElem hi]; exact List.getElem_mem hi
 have := h.pt _ hm
 exact ⟨this.1, this.2.1⟩
theorem own_sl {w : World} {B e z n : Nat} {v : Value} {xs : List Value} (h : w.ownsRow B e z v n xs) : ∃ o c, v = .slice o n c := by
 rcases h.2 with h | ⟨g, c, _, h, _⟩
 · exact ⟨none, 0, by rw [h.1, h.2]⟩
 · exact ⟨_, _, h⟩
def LbPost (w : World) (R : Nat) (K : Kz) (p : Nat) : Except (Nat × Ps) (List (List UInt8) × Nat) → Ending → World → Prop
 | .ok (lb, q), e, w' => ∃ v, e = .returned (.tuple #[v, dgv 0 ps0]) ∧ w'.ownsRow (w.heap.size + 1) 9 1 v lb.length (lb.map fun s => Value.string (tx s)) ∧ Kd w' R K q ∧ q < K.acc.length ∧ p ≤ q ∧ Fm R w w'
 | .error (c, q), e, w' => e = .returned (.tuple #[.slice none 0 0, dgv c q]) ∧ Fm R w w'
theorem LbPost.ok {w : World} {R : Nat} {K : Kz} {p : Nat} {m : Except (Nat × Ps) (List (List UInt8) × Nat)} {lb : List (List UInt8)} {q : Nat} (hm : m = .ok (lb, q)) {v : Value} {w' : World} (h : w'.ownsRow (w.heap.size + 1) 9 1 v lb.length (lb.map fun s => Value.string (tx s))) (h2 : Kd w' R K q) (h3 : q < K.acc.length) (h4 : p ≤ q) (h5 : Fm R w w') : LbPost w R K p m (.returned (.tuple #[v, dgv 0 ps0])) w' := by
 subst hm; exact ⟨v, rfl, h, h2, h3, h4, h5⟩
theorem LbPost.err {w : World} {R : Nat} {K : Kz} {p : Nat} {m : Except (Nat × Ps) (List (List UInt8) × Nat)} {c : Nat} {q : Ps} (hm : m = .error (c, q)) {w' : World} (h5 : Fm R w w') : LbPost w R K p m (.returned (.tuple #[.slice none 0 0, dgv c q])) w' := by
 subst hm; exact ⟨rfl, h5⟩
theorem labelsM_succ (C : Cx) (f p : Nat) (acc : List (List UInt8)) : labelsM C (f + 1) p acc = if (C.tk p).k = 3 then (if (C.tk p).ps.any (·.ex) then .error (4, C.at p) else if acc.length = 4 then .error (3, C.at p) else labelsM C f (p + 1) (acc ++ [(C.tk p).ps.flatMap (·.s)])) else .ok (acc, p) := rfl
theorem info9 : (Tryz.prog.info? 9).map (fun i => (i.zero, i.size, i.bytes)) = some (some (.string ⟨#[]⟩), 1, 16) := by kernel_rfl
set_option maxRecDepth 100000 in
set_option maxHeartbeats 4000000 in
theorem labels_any {w : World} {R : Nat} {K : Kz} {p : Nat} (h : Kd w R K p) (hlt : p < K.acc.length) (hE : Ends K) : Calls Tryz.prog 158 #[.pointer (some ⟨R, 0, none⟩)] w (LbPost w R K p (labelsM K.cx (K.acc.length + 1) p [])) := by
 obtain ⟨i9, hi, hz, hs1, hb⟩ := info_parts info9
 have B0 : Below w.heap.size w (w.alloc (.cells #[.int .i64 0, .int .i64 0, .int .i64 0, .int .i64 0, .string ⟨#[]⟩] 53)) := (Below.refl _ _).alloc (Nat.le_refl _) _
 have HK0 := qh (h.below B0)
 have HF0 := qh (Fm.of (R := R) B0)
 have R1 := qh (heap_alloc_new w (.cells #[.int .i64 0, .int .i64 0, .int .i64 0, .int .i64 0, .string ⟨#[]⟩] 53))
 have HS0 : Hid ((w.alloc (.cells #[.int .i64 0, .int .i64 0, .int .i64 0, .int .i64 0, .string ⟨#[]⟩] 53)).heap.size = w.heap.size + 1) := by unfold Hid; simp
 have HRL := qh h.lt
 have HN0 : Hid (K.n0 ≤ w.heap.size + 1) := Nat.le_trans h.nn (Nat.le_succ _)
 have HNN : Hid (K.n0 ≤ w.heap.size) := h.nn
 have HL := qh hlt
 have HE := qh hE
 obtain ⟨M, hM⟩ : ∃ M, labelsM K.cx (K.acc.length + 1) p [] = M := ⟨_, rfl⟩
 rw [hM]
 have HM := qh hM
 clear hM
 clear h hlt hE B0
 go_enter Tryz.func158, Tryz.ntmps158
 go_upto_region 1 with fail
 generalize w.alloc (Obj.cells #[.int .i64 0, .int .i64 0, .int .i64 0, .int .i64 0, .string ⟨#[]⟩] 53) = w0 at *
 have HG : Hid (w.heap.size < w0.heap.size ∧ R ≠ w.heap.size) := ⟨by rw [HS0.out]; exact Nat.lt_succ_self _, Nat.ne_of_lt HRL.out⟩
 go_wp2_with fail
 go_loopw [4] (fun v4 wr => ∃ (q f : Nat) (acc : List (List UInt8)), p ≤ q ∧ q < K.acc.length ∧ K.acc.length < f + q ∧ acc.length ≤ 4 ∧ Hid (labelsM K.cx f q acc = M) ∧ Hid (wr.ownsRow (w.heap.size + 1) 9 1 v4 acc.length (acc.map fun s => Value.string (tx s))) ∧ Hid (Kd wr R K q) ∧ Hid (Fm R w0 wr)) (fun _ wr => K.acc.length - pAt R wr)
 case atStart => exact ⟨p, K.acc.length + 1, [], Nat.le_refl _, HL.out, by omega, Nat.zero_le _, HM.out, ⟨rfl, .inl ⟨rfl, rfl⟩⟩, HK0.out, Fm.of (Below.refl _ _)⟩
 case round =>
  obtain ⟨q, f, acc, hpq, hql, hf, hac, HQ, HO, HK, HF⟩ := hrel
  obtain ⟨f, rfl⟩ : ∃ k, f = k + 1 := ⟨f - 1, by omega⟩
  have HPA := qh (kAt_eq HK.out)
  have HQ2 := HQ.out
  rw [labelsM_succ, Kz.tk_eq] at HQ2
  have HPT : Hid (∀ W, Below wr.heap.size wr W → Pts (Ok K.n0 R) W (K.tz q).2.1 (K.tz q).2.2 (K.tz q).1.ps ∧ ∀ k, Ok K.n0 R k → k < W.heap.size) := fun W hW => ⟨(HK.out.below hW).kt.parts hql, fun k hk => Nat.lt_of_lt_of_le hk.1 (HK.out.below hW).nn⟩
  have HSP := qh (Kz.szp HK.out.sz hql)
  have HNX : Hid (∀ W, Below wr.heap.size wr W → Calls Tryz.prog 124 #[.pointer (some ⟨R, 0, none⟩)] W fun e w' => e = .returned (tv (K.tz q)) ∧ Below W.heap.size W w') := fun W hW => next_any (HK.out.below hW) hql
  have HEQ := qh (HE.out q hql)
  generalize K.tz q = X at *
  have HQ3 := qh HQ2
  clear HQ2 HQ
  by_cases hk : X.1.k = 3
  · have e1 : ((X.1.k : Int) == 3) = true := by simp [hk]
    have HX1 := qh (HEQ.out (by rw [hk]; decide))
    have HQ4 := HQ3.out
    rw [if_pos hk] at HQ4
    have HQ5 := qh HQ4
    clear HQ4 HQ3 hk
    go_wp2_with fail
    refine (HNX.out _ (Below.refl _ _)).mono ?_
    rintro e w1 ⟨rfl, b1⟩
    have HB1 := qh b1
    clear b1
    go_wp2_with fail
    refine (HNX.out _ HB1.out).mono ?_
    rintro e w2 ⟨rfl, b2⟩
    have HB2 := qh (HB1.out.trans (b2.mono HB1.out.size))
    clear b2
    go_wp2_with fail
    refine (kbytes_any (HPT.out w2 HB2.out).1 (HPT.out w2 HB2.out).2 (by have := HSP.out.1; omega) (by have := HSP.out.2; omega)).mono ?_
    rintro e w3 ⟨rfl, b3⟩
    have HB3 := qh (HB2.out.trans (b3.mono HB2.out.size))
    have HK3 := qh (HK.out.below HB3.out)
    have HF3 := qh (HF.out.tr (Fm.of HB3.out))
    have HO3 := qh (own_kept HO.out HB3.out)
    clear b3 HB1 HB2 HNX HPT HB3 HK HF HO
    have HKB : Hid (kbB X.1.ps = !(X.1.ps.any (·.ex)) ∧ (X.1.ps.any (·.ex) = false → kbS X.1.ps = tx (X.1.ps.flatMap (·.s)))) := ⟨rfl, fun h => by unfold kbS; rw [h]; rfl⟩
    obtain ⟨bb, hbb⟩ : ∃ b, X.1.ps.any (·.ex) = b := ⟨_, rfl⟩
    rw [hbb] at HKB HQ5
    generalize kbS X.1.ps = sb at *
    generalize kbB X.1.ps = fb at *
    clear hbb
    cases bb with
    | true =>
      obtain rfl : fb = false := HKB.out.1
      go_wp2_with fail
      refine (wrong_any HK3.out hql 4).mono ?_
      rintro e w9 ⟨rfl, b9⟩
      have HF9 := qh (HF3.out.tr (Fm.of b9))
      have HG9 := (HF9.out.block _ HG.out.1 (fun e => HG.out.2 (Option.some.inj e).symm)).trans R1.out
      obtain ⟨⟨q0, q1, q2, q3, q4⟩, ⟨g0, g1, g2, g3, g4⟩, hzz⟩ := rc5 HG9
      clear b9 HG9
      go_wp2_with fail
      refine bodyPost_ret (v := .tuple #[.slice none 0 0, dgv 4 (K.cx.at q)]) (by simp [results, Tryz.results158, go_sem, q0, q1, q2, q3, q4]) rfl (LbPost.err (by have := HQ5.out; simpa using this.symm) ?_)
      exact (((((HF0.out.tr HF9.out).hi (Nat.le_refl _) 0 _).hi (Nat.le_refl _) 1 _).hi (Nat.le_refl _) 2 _).hi (Nat.le_refl _) 3 _).hi (Nat.le_refl _) 4 _
    | false =>
      obtain rfl : fb = true := HKB.out.1
      obtain rfl : sb = tx (X.1.ps.flatMap (·.s)) := HKB.out.2 rfl
      by_cases ha : acc.length = 4
      · have ea : ((acc.length : Int) == 4) = true := by simp [ha]
        have ea2 : ((acc.length : Int) = 4) = True := by simp [ha]
        have HQ6 : Hid (M = .error (3, K.cx.at q)) := by have := HQ5.out; rw [if_neg (by simp), if_pos ha] at this; exact this.symm
        obtain ⟨oo, cc, rfl⟩ := own_sl HO3.out
        clear ha HQ5
        go_wp2_with fail
        refine (wrong_any HK3.out hql 3).mono ?_
        rintro e w9 ⟨rfl, b9⟩
        have HF9 := qh (HF3.out.tr (Fm.of b9))
        have HG9 := (HF9.out.block _ HG.out.1 (fun e => HG.out.2 (Option.some.inj e).symm)).trans R1.out
        obtain ⟨⟨q0, q1, q2, q3, q4⟩, ⟨g0, g1, g2, g3, g4⟩, hzz⟩ := rc5 HG9
        clear b9 HG9
        go_wp2_with fail
        refine bodyPost_ret (v := .tuple #[.slice none 0 0, dgv 3 (K.cx.at q)]) (by simp [results, Tryz.results158, go_sem, q0, q1, q2, q3, q4]) rfl (LbPost.err HQ6.out ?_)
        exact (((((HF0.out.tr HF9.out).hi (Nat.le_refl _) 0 _).hi (Nat.le_refl _) 1 _).hi (Nat.le_refl _) 2 _).hi (Nat.le_refl _) 3 _).hi (Nat.le_refl _) 4 _
      · have ea : ((acc.length : Int) == 4) = false := by simp; omega
        have ea2 : ((acc.length : Int) = 4) = False := by simp; omega
        have HQ6 : Hid (labelsM K.cx f (q + 1) (acc ++ [X.1.ps.flatMap (·.s)]) = M) := by have := HQ5.out; rw [if_neg (by simp), if_neg ha] at this; exact this
        obtain ⟨oo, cc, rfl⟩ := own_sl HO3.out
        clear HQ5
        have B4 : Below w3.heap.size w3 (w3.alloc (.cells #[.string (tx (X.1.ps.flatMap (·.s)))] 9)) := (Below.refl _ _).alloc (Nat.le_refl _) _
        have HO4 := qh (own_kept HO3.out B4)
        have HSZ3 : Hid (w.heap.size + 1 ≤ w3.heap.size) := by rw [← HS0.out]; exact HF3.out.size
        have HBS : Hid (w.heap.size + 1 ≤ (w3.alloc (.cells #[.string (tx (X.1.ps.flatMap (·.s)))] 9)).heap.size) := Nat.le_trans HSZ3.out B4.size
        have HLIT := qh (cells_lit w3 #[.string (tx (X.1.ps.flatMap (·.s)))] 9)
        clear B4
        generalize X.1.ps.flatMap (·.s) = sx at *
        go_wp2_with (at_builtin; go_must (refine wpList_append_own _ rfl (.tmp 27) (.tmp 29) 28 rfl (w.heap.size + 1) 9 i9 (.string ⟨#[]⟩) 1 16 Tryz.underlying28 hi hz hs1 hb rfl (by decide) _ acc.length (acc.map fun s => Value.string (tx s)) rfl HO4.out ⟨w3.heap.size, 0, none⟩ 1 1 [.string (tx sx)] rfl rfl HLIT.out (fun u hu => by rw [List.mem_singleton] at hu; subst hu; rfl) (by unfold maxLen; omega) (by omega) HBS.out ?_))
        intro v' w4 hown hgrow hnil
        have HA := qh (HK3.out.app HO3.out (Nat.lt_succ_of_lt HRL.out) HN0.out HSZ3.out hgrow)
        have HO5 : Hid (w4.ownsRow (w.heap.size + 1) 9 1 v' (acc ++ [sx]).length ((acc ++ [sx]).map fun s => Value.string (tx s))) := by
         unfold Hid
         rw [List.length_append, List.map_append]
         exact hown
        clear hown hgrow hnil HO4 HBS HLIT HO3
        go_wp2_with fail
        refine (kpass_any HA.out.1 hql).mono ?_
        rintro e w5 ⟨rfl, k5, f5⟩
        have HK5 := qh k5
        have HF5 : Hid (Fm R w0 w5) := by
         have n0 : w0.heap.size = w.heap.size + 1 := HS0.out
         have a1 : Fn w0.heap.size R w0 w3 := Fn.of HF3.out (Nat.le_refl _)
         have a2 : Fn w0.heap.size R w3 w4 := by rw [n0]; exact HA.out.2
         have a3 : Fn w0.heap.size R w4 w5 := Fn.of f5 (Nat.le_trans a1.size a2.size)
         exact ((a1.tr a2).tr a3).fm
        have HO6 : Hid (w5.ownsRow (w.heap.size + 1) 9 1 v' (acc ++ [sx]).length ((acc ++ [sx]).map fun s => Value.string (tx s))) := by
         refine ownsRow_kept HO5.out fun g hg => ?_
         have := HO5.out.lt g hg
         have := HRL.out
         exact f5.block g (by omega) (fun e => by have := Option.some.inj e; omega)
        clear k5 f5
        go_wp2_with fail
        go_roundw
        case rel => exact ⟨q + 1, f, acc ++ [sx], by omega, HX1.out, by omega, by rw [List.length_append]; simp; omega, HQ6.out, HO6.out, HK5.out, HF5.out⟩
        case measure => rw [kAt_eq HK5.out, HPA.out]; have := HX1.out; omega
  · have e1 : ((X.1.k : Int) == 3) = false := by simp; omega
    have HQ4 := HQ3.out
    rw [if_neg hk] at HQ4
    have HQ5 := qh HQ4
    clear HQ4 HQ3 hk
    go_wp2_with fail
    refine (HNX.out _ (Below.refl _ _)).mono ?_
    rintro e w1 ⟨rfl, b1⟩
    have HK1 := qh (HK.out.below b1)
    have HF1 := qh (HF.out.tr (Fm.of b1))
    have HO1 := qh (own_kept HO.out b1)
    have HG9 := (HF1.out.block _ HG.out.1 (fun e => HG.out.2 (Option.some.inj e).symm)).trans R1.out
    obtain ⟨⟨q0, q1, q2, q3, q4⟩, ⟨g0, g1, g2, g3, g4⟩, hzz⟩ := rc5 HG9
    clear b1 HG9 HK HF HO
    go_wp2_with fail
    obtain ⟨oo, cc, rfl⟩ := own_sl HO1.out
    refine bodyPost_ret (v := .tuple #[.slice oo acc.length cc, dgv 0 ps0]) (by simp [results, Tryz.results158, go_sem, q0, q1, q2, q3, q4, ps0]) rfl ?_
    have hgR : R ≠ w.heap.size := HG.out.2
    have kR := set5_o hgR (w := w1) (.int .i64 0) (.int .i64 0) (.int .i64 0) (.int .i64 0) (.string ⟨#[]⟩)
    have F9 := (((((HF0.out.tr HF1.out).hi (Nat.le_refl _) 0 (.int .i64 0)).hi (Nat.le_refl _) 1 (.int .i64 0)).hi (Nat.le_refl _) 2 (.int .i64 0)).hi (Nat.le_refl _) 3 (.int .i64 0)).hi (Nat.le_refl _) 4 (.string ⟨#[]⟩)
    have hS := (set5_b (b := w.heap.size) (Below.refl 0 w1) (Nat.zero_le _) (.int .i64 0) (.int .i64 0) (.int .i64 0) (.int .i64 0) (.string ⟨#[]⟩)).size
    refine LbPost.ok HQ5.out.symm (ownsRow_kept HO1.out fun g hg => ?_) ⟨kR.trans HK1.out.blk, HK1.out.kt.kept fun k hk hn => ?_, HK1.out.sz, HK1.out.iq, HK1.out.le, Nat.le_trans HK1.out.nn hS⟩ hql hpq F9
    · have := HO1.out.lt g hg
      exact set5_o (show g ≠ w.heap.size by omega) _ _ _ _ _
    · have := HNN.out
      exact set5_o (show k ≠ w.heap.size by omega) _ _ _ _ _
end Go.Proofs.YtncjncacfagldaaGreatDoor
