import Derived.Test.YtncjncacfagldaaGreatDoorYWZe
import Derived.Test.YtncjncacfagldaaGreatDoorYWPVS
import Derived.StillTailTactics
namespace Go.Proofs.YtncjncacfagldaaGreatDoor
open Go.RowKit Go.Lib

theorem xp_at2 {P : Nat → Prop} {w : World} {X : Ex} {oV : Option Addr} {cV : Nat} {oK : Option Addr} {cK : Nat} {o : Option Addr} {cap : Nat} (h : XP P w X (.agg (xc X oV cV oK cK o cap))) : X.l.length ≤ cap ∧ cap ≤ maxLen ∧ LiesP P w X.v (vv X.v.k X.v.i X.v.s (.slice oV X.v.l.length cV) (.slice oK X.v.ks.length cK) X.v.tk X.v.to X.v.x) ∧ ∀ j x, X.l[j]? = some x → ∃ b off oV' cV' oK' cK' o' cap', o = some ⟨b, off, none⟩ ∧ P b ∧ XP P w x (.agg (xc x oV' cV' oK' cK' o' cap')) ∧
 (w.cell? ⟨b, off + j * 15, none⟩ = some (.int .i64 x.op) ∧ w.cell? ⟨b, off + j * 15 + 1, none⟩ = some (.string x.s) ∧ w.cell? ⟨b, off + j * 15 + 2, none⟩ = some (.string x.s2) ∧ w.cell? ⟨b, off + j * 15 + 3, none⟩ = some (.int .i64 x.v.k) ∧ w.cell? ⟨b, off + j * 15 + 4, none⟩ = some (.int .i64 x.v.i) ∧ w.cell? ⟨b, off + j * 15 + 5, none⟩ = some (.string x.v.s) ∧ w.cell? ⟨b, off + j * 15 + 6, none⟩ = some (.slice oV' x.v.l.length cV') ∧ w.cell? ⟨b, off + j * 15 + 7, none⟩ = some (.slice oK' x.v.ks.length cK') ∧ w.cell? ⟨b, off + j * 15 + 8, none⟩ = some (.int .i64 x.v.tk) ∧ w.cell? ⟨b, off + j * 15 + 9, none⟩ = some (.int .i64 x.v.to) ∧ w.cell? ⟨b, off + j * 15 + 10, none⟩ = some (.bool x.v.x) ∧ w.cell? ⟨b, off + j * 15 + 11, none⟩ = some (.slice o' x.l.length cap') ∧ w.cell? ⟨b, off + j * 15 + 12, none⟩ = some (.int .i64 x.a) ∧ w.cell? ⟨b, off + j * 15 + 13, none⟩ = some (.int .i64 x.ln) ∧ w.cell? ⟨b, off + j * 15 + 14, none⟩ = some (.int .i64 x.c)) := by
 obtain ⟨oV2, cV2, oK2, cK2, o2, cap2, e, h1, h2, h3, h4⟩ := xp_at h
 simp only [xc, Value.agg.injEq, Array.mk.injEq, List.cons.injEq, and_true, true_and, Value.slice.injEq] at e
 obtain ⟨⟨rfl, rfl⟩, ⟨rfl, rfl⟩, rfl, rfl⟩ := e
 exact ⟨h1, h2, h3, h4⟩
def eqX (r : Ex → Ex → Bool) : List Ex → List Ex → Bool
 | [], [] => true
 | a :: x, b :: y => r a b && eqX r x y
 | _, _ => false
theorem eqX_len {r : Ex → Ex → Bool} : ∀ {x y : List Ex}, x.length ≠ y.length → eqX r x y = false
 | [], [], h => absurd rfl h
 | [], _ :: _, _ => rfl
 | _ :: _, [], _ => rfl
 | a :: x, b :: y, h => by rw [eqX, eqX_len (x := x) (y := y) (fun e => h (by simp [e]))]; simp
theorem eqX_no {r : Ex → Ex → Bool} : ∀ {x y : List Ex} (j : Nat) {X Y : Ex}, x[j]? = some X → y[j]? = some Y → r X Y = false → eqX r x y = false
 | [], _, j, _, _, h, _, _ => by simp at h
 | _ :: _, [], j, _, _, _, h, _ => by simp at h
 | a :: x, b :: y, 0, X, Y, h1, h2, h => by simp at h1 h2; subst h1 h2; rw [eqX, h]; rfl
 | a :: x, b :: y, j + 1, X, Y, h1, h2, h => by rw [eqX, eqX_no (x := x) (y := y) j (by simpa using h1) (by simpa using h2) h]; simp
theorem eqX_yes {r : Ex → Ex → Bool} : ∀ {x y : List Ex}, x.length = y.length → (∀ (j : Nat) (X Y : Ex), x[j]? = some X → y[j]? = some Y → r X Y = true) → eqX r x y = true
 | [], [], _, _ => rfl
 | [], _ :: _, h, _ => by simp at h
 | _ :: _, [], h, _ => by simp at h
 | a :: x, b :: y, hl, h => by
   rw [eqX, h 0 a b rfl rfl, eqX_yes (x := x) (y := y) (by simpa using hl) (fun j X Y h1 h2 => h (j + 1) X Y (by simpa using h1) (by simpa using h2))]; rfl
def eqXF : List (Ex → Bool) → List Ex → Bool
 | [], [] => true
 | f :: x, b :: y => f b && eqXF x y
 | _, _ => false
theorem eqXF_map (r : Ex → Ex → Bool) : ∀ x y, eqXF (x.map r) y = eqX r x y
 | [], [] => rfl
 | [], _ :: _ => rfl
 | _ :: _, [] => rfl
 | a :: x, b :: y => by rw [List.map_cons, eqXF, eqX, eqXF_map r x y]
theorem sizeOf_mem_xl {X x : Ex} (h : x ∈ X.l) : SizeOf.sizeOf x < SizeOf.sizeOf X := by
 cases X
 have := List.sizeOf_lt_of_mem h
 simp [Ex.l] at *
 omega
def sameX (pl : Bool) (A B : Ex) : Bool := decide (A.op = B.op) && (decide (A.s = B.s) && (decide (A.s2 = B.s2) && (sameV true A.v B.v && ((!pl || (decide (A.a = B.a) && (decide (A.ln = B.ln) && decide (A.c = B.c)))) && eqXF (A.l.attach.map fun x => fun Y => sameX pl x.1 Y) B.l))))
termination_by SizeOf.sizeOf A
decreasing_by exact sizeOf_mem_xl x.2
theorem sameX_eq (pl : Bool) (A B : Ex) : sameX pl A B = (decide (A.op = B.op) && (decide (A.s = B.s) && (decide (A.s2 = B.s2) && (sameV true A.v B.v && ((!pl || (decide (A.a = B.a) && (decide (A.ln = B.ln) && decide (A.c = B.c)))) && eqX (sameX pl) A.l B.l))))) := by
 rw [sameX]
 have : (A.l.attach.map fun x => fun Y => sameX pl x.1 Y) = A.l.map (sameX pl) := by
  rw [show (fun x : { x // x ∈ A.l } => fun Y => sameX pl x.1 Y) = fun x => sameX pl x.1 from rfl]
  simp
 rw [this, eqXF_map]
theorem xszL_mem {l : List Ex} {x : Ex} (h : x ∈ l) : xsz x ≤ xszL l := xsz_mem h
theorem xsz_eq (X : Ex) : xsz X = 1 + xszL X.l := by cases X; rw [xsz]; rfl
theorem lie15 (w : World) (c c' : Array Value) : ((w.alloc (.cells c 38)).alloc (.cells c' 38)).heap[w.heap.size]? = some (.cells c 38 (0, 0)) ∧ ((w.alloc (.cells c 38)).alloc (.cells c' 38)).heap[w.heap.size + 1]? = some (.cells c' 38 (0, 0)) := by
 refine ⟨(heap_alloc_old _ _ (by simp)).trans (heap_alloc_new w _), ?_⟩
 have := heap_alloc_new (w.alloc (.cells c 38)) (.cells c' 38)
 rw [World.size_alloc] at this
 exact this
set_option maxRecDepth 100000 in
set_option maxHeartbeats 4000000 in
theorem equalX_any (r : Ex → Ex → Bool) (N : Nat) (hf : ∀ (n : Nat) (A B : Ex) (a b : Value) (w : World), xsz A + xsz B ≤ N → XL n w A a → XL n w B b → n ≤ w.heap.size → Calls Tryz.prog 46 #[a, b] w fun e w' => e = .returned (.bool (r A B)) ∧ Below w.heap.size w w')
 {n : Nat} {w : World} {A B : Ex} {oV : Option Addr} {cV : Nat} {oK : Option Addr} {cK : Nat} {o : Option Addr} {cap : Nat} {oV' : Option Addr} {cV' : Nat} {oK' : Option Addr} {cK' : Nat} {o' : Option Addr} {cap' : Nat} (hs : xszL A.l + xszL B.l ≤ N) (hA : XL n w A (.agg (xc A oV cV oK cK o cap))) (hB : XL n w B (.agg (xc B oV' cV' oK' cK' o' cap'))) (hn : n ≤ w.heap.size) :
 Calls Tryz.prog 89 #[.slice o A.l.length cap, .slice o' B.l.length cap', .func (.func 46) #[] #[]] w fun e w' => e = .returned (.bool (eqX r A.l B.l)) ∧ Below w.heap.size w w' := by
 obtain ⟨l1, l2, -, hat⟩ := xp_at2 hA
 obtain ⟨l3, l4, -, hat'⟩ := xp_at2 hB
 unfold maxLen at l2 l4
 have HF := qh hf
 have HR := qh (And.intro hat hat')
 generalize A.l = l at *
 generalize B.l = l' at *
 clear hA hB hat hat' hf
 by_cases hl : l.length = l'.length
 · have HL := qh hl
   have g1 : ((l.length : Int) != (l'.length : Int)) = false := by simp [hl]
   clear hl
   go_enter Tryz.func89, Tryz.ntmps89
   go_wp2_with fail
   go_loopw [17] (fun i wr => ∃ j : Nat, j ≤ l.length ∧ i = .int .i64 j ∧ Hid (∀ m X Y, m < j → l[m]? = some X → l'[m]? = some Y → r X Y = true) ∧ Hid (Below w.heap.size w wr)) (fun i _ => l.length - (RowKit.intOf i).toNat)
   case atStart => exact ⟨0, Nat.zero_le _, rfl, fun _ _ _ h => absurd h (Nat.not_lt_zero _), Below.refl _ _⟩
   case round =>
    obtain ⟨j, hj, rfl, hok, hbr⟩ := hrel
    by_cases hlt : j < l.length
    · have hlt2 : j < l'.length := by have := HL.out; omega
      obtain ⟨X, hX⟩ : ∃ X, l[j]? = some X := ⟨_, List.getElem?_eq_getElem hlt⟩
      obtain ⟨Y, hY⟩ : ∃ Y, l'[j]? = some Y := ⟨_, List.getElem?_eq_getElem hlt2⟩
      obtain ⟨b1, off, pV, pcV, pK, pcK, q, qc, e1, hb1, OX, y0, y1, y2, y3, y4, y5, y6, y7, y8, y9, y10, y11, y12, y13, y14⟩ := HR.out.1 j X hX
      obtain ⟨b2, off', pV', pcV', pK', pcK', q', qc', e2, hb2, OY, u0, u1, u2, u3, u4, u5, u6, u7, u8, u9, u10, u11, u12, u13, u14⟩ := HR.out.2 j Y hY
      have t : ∀ b i, b < n → wr.cell? ⟨b, i, none⟩ = w.cell? ⟨b, i, none⟩ := fun b i hb => World.cell?_of_block (hbr.out.block b (by omega))
      rw [← t b1 _ hb1] at y0 y1 y2 y3 y4 y5 y6 y7 y8 y9 y10 y11 y12 y13 y14
      rw [← t b2 _ hb2] at u0 u1 u2 u3 u4 u5 u6 u7 u8 u9 u10 u11 u12 u13 u14
      have hm1 := xszL_mem (List.mem_of_getElem? hX)
      have hm2 := xszL_mem (List.mem_of_getElem? hY)
      have HX := qh (And.intro hX hY)
      have HW := qh (((Below.refl wr.heap.size wr).alloc (Nat.le_refl _) (.cells (xc X pV pcV pK pcK q qc) 38)).alloc (by simp) (.cells (xc Y pV' pcV' pK' pcK' q' qc') 38))
      have hsz := hbr.out.size
      have hb3 : b2 < wr.heap.size := by omega
      have hb4 : b1 < wr.heap.size := by omega
      have OX2 := qh (And.intro ((OX.bl (fun k hk => hk) (hbr.out.mono hn)).bl (fun k hk => hk) (HW.out.mono (by omega))) ((OY.bl (fun k hk => hk) (hbr.out.mono hn)).bl (fun k hk => hk) (HW.out.mono (by omega))))
      subst e1 e2
      clear hX hY OX OY t
      go_wp2_with fail
      with_reducible refine (HF.out n X Y _ _ _ (by omega) OX2.out.1 OX2.out.2 (by simp; omega)).mono ?_
      rintro e w2 ⟨rfl, b2⟩
      have B2 := qh (hbr.out.trans ((HW.out.trans (b2.mono (by simp; omega))).mono hsz))
      clear b2
      cases hr : r X Y with
      | true =>
        have HE := qh hr
        clear hr
        go_wp2_with fail
        go_roundw
        case rel => exact ⟨j + 1, by omega, by go_num, (fun m X' Y' hm h1 h2 => by
         by_cases e : m = j
         · subst e; rw [HX.out.1] at h1; rw [HX.out.2] at h2; injection h1 with h1; injection h2 with h2; subst h1 h2; exact HE.out
         · exact hok.out m X' Y' (by omega) h1 h2), B2⟩
        case measure => simp [RowKit.intOf]; omega
      | false =>
        have HE := qh (eqX_no (r := r) j HX.out.1 HX.out.2 hr)
        clear hr
        go_wp2_with fail
        go_ret
        exact ⟨by rw [HE.out]; rfl, B2.out⟩
    · have HX : Hid (eqX r l l' = true) := eqX_yes HL.out (fun m X Y h1 h2 => hok.out m X Y (by have := (List.getElem?_eq_some_iff.1 h1).1; omega) h1 h2)
      go_wp2_with fail
      go_ret
      exact ⟨by rw [HX.out]; rfl, hbr.out⟩
 · have HX : Hid (eqX r l l' = false) := eqX_len hl
   have g1 : ((l.length : Int) != (l'.length : Int)) = true := by simp; omega
   clear hl
   go_enter Tryz.func89, Tryz.ntmps89
   go_wp2_with fail
   go_ret
   exact ⟨by rw [HX.out]; rfl, Below.refl _ _⟩
open Go.RowKit Go.Lib

theorem xszL_take {l : List Ex} {k : Nat} {x : Ex} (h : l[k]? = some x) : xszL (l.take (k + 1)) = xszL (l.take k) + xsz x := by
 have app : ∀ (a : List Ex), xszL (a ++ [x]) = xszL a + xsz x := by
  intro a
  induction a with
  | nil => show xsz x + 0 = 0 + xsz x; omega
  | cons c r ih => show xsz c + xszL (r ++ [x]) = xsz c + xszL r + xsz x; rw [ih]; omega
 rw [List.take_add_one, h]
 exact app _
open Go.RowKit Go.Lib

theorem sz_fin {l : List Ex} {j g : Nat} (h1 : g ≤ 1300) (h2 : g ≤ 600 → 1 + xszL (l.take j) ≤ g) (hx : j = l.length ∨ 600 < g) : min g 601 ≤ 601 ∧ (min g 601 ≤ 600 → 1 + xszL l ≤ min g 601) := by
 refine ⟨by omega, fun h => ?_⟩
 have hg : g ≤ 600 := by omega
 have := h2 hg
 rcases hx with rfl | hx
 · rw [List.take_length] at this; omega
 · omega
open Go.RowKit Go.Lib

theorem sx_op {pl : Bool} {A B : Ex} (h : A.op ≠ B.op) : sameX pl A B = false := by rw [sameX_eq, decide_eq_false h]; rfl
theorem sx_s {pl : Bool} {A B : Ex} (h : A.s ≠ B.s) : sameX pl A B = false := by rw [sameX_eq, decide_eq_false h]; simp
theorem sx_s2 {pl : Bool} {A B : Ex} (h : A.s2 ≠ B.s2) : sameX pl A B = false := by rw [sameX_eq, decide_eq_false h]; simp
theorem sx_v {pl : Bool} {A B : Ex} (h : sameV true A.v B.v = false) : sameX pl A B = false := by rw [sameX_eq, h]; simp
theorem sx_l {pl : Bool} {A B : Ex} (h : eqX (sameX pl) A.l B.l = false) : sameX pl A B = false := by rw [sameX_eq, h]; simp
theorem sx_yes {A B : Ex} (h0 : A.op = B.op) (h1 : A.s = B.s) (h2 : A.s2 = B.s2) (h3 : sameV true A.v B.v = true) : sameX false A B = eqX (sameX false) A.l B.l := by rw [sameX_eq, decide_eq_true h0, decide_eq_true h1, decide_eq_true h2, h3]; rfl
set_option maxRecDepth 100000 in
set_option maxHeartbeats 4000000 in
theorem same12_any (N : Nat) : ∀ (n : Nat) (A B : Ex) (a b : Value) (w : World), xsz A + xsz B ≤ N → XL n w A a → XL n w B b → n ≤ w.heap.size → Calls Tryz.prog 46 #[a, b] w fun e w' => e = .returned (.bool (sameX false A B)) ∧ Below w.heap.size w w' := by
 induction N with
 | zero => intro n A B a b w hs; have := xsz_pos A; omega
 | succ N ih =>
   intro n A B a b w hs ha hb hn
   have hsA := xsz_eq A
   have hsB := xsz_eq B
   obtain ⟨oV, cV, oK, cK, o, cap, rfl, -⟩ := xp_at ha
   obtain ⟨oV', cV', oK', cK', o', cap', rfl, -⟩ := xp_at hb
   obtain ⟨-, -, hva, -⟩ := xp_at2 ha
   obtain ⟨-, -, hvb, -⟩ := xp_at2 hb
   have hV : ∀ w', Below w.heap.size w w' → Calls Tryz.prog 88 #[vv A.v.k A.v.i A.v.s (.slice oV A.v.l.length cV) (.slice oK A.v.ks.length cK) A.v.tk A.v.to A.v.x, vv B.v.k B.v.i B.v.s (.slice oV' B.v.l.length cV') (.slice oK' B.v.ks.length cK') B.v.tk B.v.to B.v.x] w' fun e w2 => e = .returned (.bool (sameV true A.v B.v)) ∧ Below w'.heap.size w' w2 :=
    fun w' bl => same26_any (sz A.v + sz B.v) n A.v B.v _ _ w' (Nat.le_refl _) (LiesP.kept hva (bl.mono hn)) (LiesP.kept hvb (bl.mono hn)) (by have := bl.size; omega)
   have hE : ∀ w', Below w.heap.size w w' → Calls Tryz.prog 89 #[.slice o A.l.length cap, .slice o' B.l.length cap', .func (.func 46) #[] #[]] w' fun e w2 => e = .returned (.bool (eqX (sameX false) A.l B.l)) ∧ Below w'.heap.size w' w2 :=
    fun w' bl => equalX_any (sameX false) N ih (by omega) (ha.bl (fun k hk => hk) (bl.mono hn)) (hb.bl (fun k hk => hk) (bl.mono hn)) (by have := bl.size; omega)
   have HH := qh (And.intro hV hE)
   have HB := qh (lie15 w (xc A oV cV oK cK o cap) (xc B oV' cV' oK' cK' o' cap'))
   have HW : Hid (Below w.heap.size w ((w.alloc (.cells (xc A oV cV oK cK o cap) 38)).alloc (.cells (xc B oV' cV' oK' cK' o' cap') 38))) := ((Below.refl w.heap.size w).alloc (Nat.le_refl _) _).alloc (by simp) _
   have HZ : Hid (((w.alloc (.cells (xc A oV cV oK cK o cap) 38)).alloc (.cells (xc B oV' cV' oK' cK' o' cap') 38)).heap.size = w.heap.size + 2) := by simp [Hid]
   have N0 := qh (fun h => sx_op (pl := false) (A := A) (B := B) h)
   have N1 := qh (fun h => sx_s (pl := false) (A := A) (B := B) h)
   have N2 := qh (fun h => sx_s2 (pl := false) (A := A) (B := B) h)
   have N3 := qh (fun h => sx_v (pl := false) (A := A) (B := B) h)
   have N4 : Hid (A.op = B.op → A.s = B.s → A.s2 = B.s2 → sameV true A.v B.v = true → sameX false A B = eqX (sameX false) A.l B.l) := fun h0 h1 h2 h3 => sx_yes h0 h1 h2 h3
   generalize sameX false A B = R at *
   generalize eqX (sameX false) A.l B.l = Q at *
   generalize sameV true A.v B.v = V at *
   clear ha hb ih hV hE hva hvb hsA hsB
   go_enter Tryz.func46, Tryz.ntmps46
   go_upto_region 1 with fail
   generalize (w.alloc _).alloc _ = w0 at *
   obtain ⟨⟨c0, c1, c2, c3, c4, c5, c6, c7, c8, c9, c10, c11, c12, c13, c14⟩, -, hb1⟩ := rc15 HB.out.1
   obtain ⟨⟨d0, d1, d2, d3, d4, d5, d6, d7, d8, d9, d10, d11, d12, d13, d14⟩, -, hb2⟩ := rc15 HB.out.2
   by_cases h0 : A.op = B.op
   case neg =>
    have HR : Hid (R = false) := N0.out h0
    obtain ⟨g1, g2⟩ := int_ne h0
    clear h0
    go_wp2_with fail
    go_ret
    exact ⟨ret_b4 HR.out.symm, HW.out⟩
   have H0 := qh h0
   obtain ⟨g1, g2⟩ := int_eq h0
   clear h0
   by_cases h0 : A.s = B.s
   case neg =>
    have HR : Hid (R = false) := N1.out h0
    obtain ⟨g3, g4⟩ := str_ne h0
    clear h0
    go_wp2_with fail
    go_ret
    exact ⟨ret_b4 HR.out.symm, HW.out⟩
   have H1 := qh h0
   obtain ⟨g3, g4⟩ := str_eq h0
   clear h0
   by_cases h0 : A.s2 = B.s2
   case neg =>
    have HR : Hid (R = false) := N2.out h0
    obtain ⟨g5, g6⟩ := str_ne h0
    clear h0
    go_wp2_with fail
    go_ret
    exact ⟨ret_b4 HR.out.symm, HW.out⟩
   have H2 := qh h0
   obtain ⟨g5, g6⟩ := str_eq h0
   clear h0
   go_wp2_with fail
   refine (HH.out.1 _ HW.out).mono ?_
   rintro e w1 ⟨rfl, b1⟩
   have B1 := qh (HW.out.trans (b1.mono HW.out.size))
   have HB1 := qh (And.intro ((b1.block _ hb1).trans HB.out.1) ((b1.block _ hb2).trans HB.out.2))
   clear c0 c1 c2 c3 c4 c5 c6 c7 c8 c9 c10 c11 c12 c13 c14 hb1 d0 d1 d2 d3 d4 d5 d6 d7 d8 d9 d10 d11 d12 d13 d14 hb2 b1
   obtain ⟨⟨c0, c1, c2, c3, c4, c5, c6, c7, c8, c9, c10, c11, c12, c13, c14⟩, -, hb1⟩ := rc15 HB1.out.1
   obtain ⟨⟨d0, d1, d2, d3, d4, d5, d6, d7, d8, d9, d10, d11, d12, d13, d14⟩, -, hb2⟩ := rc15 HB1.out.2
   cases V with
   | false =>
     have HR : Hid (R = false) := N3.out rfl
     go_wp2_with fail
     go_ret
     exact ⟨ret_b4 HR.out.symm, B1.out⟩
   | true =>
     have HR : Hid (R = Q) := N4.out H0.out H1.out H2.out rfl
     go_wp2_with fail
     refine (HH.out.2 _ B1.out).mono ?_
     rintro e w2 ⟨rfl, b2⟩
     have B2 := qh (B1.out.trans (b2.mono B1.out.size))
     clear b2
     go_wp2_with fail
     go_ret
     exact ⟨ret_b4 HR.out.symm, B2.out⟩
open Go.RowKit Go.Lib

set_option maxRecDepth 100000 in
set_option maxHeartbeats 8000000 in
theorem same10_any (N : Nat) : ∀ (n : Nat) (A B : Ex) (a b : Value) (w : World), xsz A + xsz B ≤ N → XL n w A a → XL n w B b → n ≤ w.heap.size → Calls Tryz.prog 22 #[a, b, .bool false] w fun e w' => e = .returned (.bool (sameX false A B)) ∧ Below w.heap.size w w' := by
 induction N with
 | zero => intro n A B a b w hs; have := xsz_pos A; omega
 | succ N ih =>
   intro n A B a b w hs ha hb hn
   obtain ⟨oV, cV, oK, cK, o, cap, rfl, -⟩ := xp_at ha
   obtain ⟨oV', cV', oK', cK', o', cap', rfl, -⟩ := xp_at hb
   obtain ⟨l1, l2, hva, hat⟩ := xp_at2 ha
   obtain ⟨l3, l4, hvb, hat'⟩ := xp_at2 hb
   unfold maxLen at l2 l4
   have hV : ∀ w', Below w.heap.size w w' → Calls Tryz.prog 40 #[vv A.v.k A.v.i A.v.s (.slice oV A.v.l.length cV) (.slice oK A.v.ks.length cK) A.v.tk A.v.to A.v.x, vv B.v.k B.v.i B.v.s (.slice oV' B.v.l.length cV') (.slice oK' B.v.ks.length cK') B.v.tk B.v.to B.v.x, .bool true] w' fun e w2 => e = .returned (.bool (sameV true A.v B.v)) ∧ Below w'.heap.size w' w2 :=
    fun w' bl => same24_any (sz A.v + sz B.v) n A.v B.v _ _ w' (Nat.le_refl _) (LiesP.kept hva (bl.mono hn)) (LiesP.kept hvb (bl.mono hn)) (by have := bl.size; omega)
   have HSZ : Hid (∀ x y, x ∈ A.l → y ∈ B.l → xsz x + xsz y ≤ N) := fun x y hx hy => by have := xsz_lt hx; have := xsz_lt hy; omega
   have IH := qh ih
   have HAT := qh (And.intro hat hat')
   have HV := qh hV
   have HB := qh (lie15 w (xc A oV cV oK cK o cap) (xc B oV' cV' oK' cK' o' cap'))
   have HW : Hid (Below w.heap.size w ((w.alloc (.cells (xc A oV cV oK cK o cap) 38)).alloc (.cells (xc B oV' cV' oK' cK' o' cap') 38))) := ((Below.refl w.heap.size w).alloc (Nat.le_refl _) _).alloc (by simp) _
   have HZ : Hid (((w.alloc (.cells (xc A oV cV oK cK o cap) 38)).alloc (.cells (xc B oV' cV' oK' cK' o' cap') 38)).heap.size = w.heap.size + 2) := by simp [Hid]
   have N0 := qh (fun h => sx_op (pl := false) (A := A) (B := B) h)
   have N1 := qh (fun h => sx_s (pl := false) (A := A) (B := B) h)
   have N2 := qh (fun h => sx_s2 (pl := false) (A := A) (B := B) h)
   have N3 := qh (fun h => sx_v (pl := false) (A := A) (B := B) h)
   have N5 := qh (fun h => sx_l (pl := false) (A := A) (B := B) h)
   have N4 : Hid (A.op = B.op → A.s = B.s → A.s2 = B.s2 → sameV true A.v B.v = true → sameX false A B = eqX (sameX false) A.l B.l) := fun h0 h1 h2 h3 => sx_yes h0 h1 h2 h3
   generalize sameX false A B = R at *
   generalize sameV true A.v B.v = V at *
   clear ha hb ih hV hva hvb hat hat' hs
   go_enter Tryz.func22, Tryz.ntmps22
   go_upto_region 1 with fail
   generalize (w.alloc _).alloc _ = w0 at *
   obtain ⟨⟨c0, c1, c2, c3, c4, c5, c6, c7, c8, c9, c10, c11, c12, c13, c14⟩, -, hb1⟩ := rc15 HB.out.1
   obtain ⟨⟨d0, d1, d2, d3, d4, d5, d6, d7, d8, d9, d10, d11, d12, d13, d14⟩, -, hb2⟩ := rc15 HB.out.2
   by_cases h0 : A.op = B.op
   case neg =>
    have HR : Hid (R = false) := N0.out h0
    obtain ⟨g1, g2⟩ := int_ne h0
    clear h0
    go_wp2_with fail
    go_ret
    exact ⟨ret_b4 HR.out.symm, HW.out⟩
   have H0 := qh h0
   obtain ⟨g1, g2⟩ := int_eq h0
   clear h0
   by_cases h0 : A.s = B.s
   case neg =>
    have HR : Hid (R = false) := N1.out h0
    obtain ⟨g3, g4⟩ := str_ne h0
    clear h0
    go_wp2_with fail
    go_ret
    exact ⟨ret_b4 HR.out.symm, HW.out⟩
   have H1 := qh h0
   obtain ⟨g3, g4⟩ := str_eq h0
   clear h0
   by_cases h0 : A.s2 = B.s2
   case neg =>
    have HR : Hid (R = false) := N2.out h0
    obtain ⟨g5, g6⟩ := str_ne h0
    clear h0
    go_wp2_with fail
    go_ret
    exact ⟨ret_b4 HR.out.symm, HW.out⟩
   have H2 := qh h0
   obtain ⟨g5, g6⟩ := str_eq h0
   clear h0
   go_wp2_with fail
   refine (HV.out _ HW.out).mono ?_
   rintro e w1 ⟨rfl, b1⟩
   have B1 := qh (HW.out.trans (b1.mono HW.out.size))
   have HB1 := qh (And.intro ((b1.block _ hb1).trans HB.out.1) ((b1.block _ hb2).trans HB.out.2))
   have HS1 : Hid (w.heap.size + 2 ≤ w1.heap.size) := by have := b1.size; have := HZ.out; unfold Hid; omega
   clear c0 c1 c2 c3 c4 c5 c6 c7 c8 c9 c10 c11 c12 c13 c14 hb1 d0 d1 d2 d3 d4 d5 d6 d7 d8 d9 d10 d11 d12 d13 d14 hb2 b1 g1 g2 g3 g4 g5 g6 HW HZ HB HV
   obtain ⟨⟨c0, c1, c2, c3, c4, c5, c6, c7, c8, c9, c10, c11, c12, c13, c14⟩, -, hb1⟩ := rc15 HB1.out.1
   obtain ⟨⟨d0, d1, d2, d3, d4, d5, d6, d7, d8, d9, d10, d11, d12, d13, d14⟩, -, hb2⟩ := rc15 HB1.out.2
   cases V with
   | false =>
     have HR : Hid (R = false) := N3.out rfl
     go_wp2_with fail
     go_ret
     exact ⟨ret_b4 HR.out.symm, B1.out⟩
   | true =>
     have HR : Hid (R = eqX (sameX false) A.l B.l) := N4.out H0.out H1.out H2.out rfl
     clear N0 N1 N2 N3 N4 H0 H1 H2
     by_cases h0 : A.l.length = B.l.length
     case neg =>
      have HR2 : Hid (R = false) := N5.out (eqX_len h0)
      obtain ⟨g11, g12⟩ := int_ne (a := (A.l.length : Int)) (b := (B.l.length : Int)) (by omega)
      clear h0
      go_wp2_with fail
      go_ret
      exact ⟨ret_b4 HR2.out.symm, B1.out⟩
     have H5 := qh h0
     obtain ⟨g11, g12⟩ := int_eq (a := (A.l.length : Int)) (b := (B.l.length : Int)) (by omega)
     clear h0
     go_wp2_with fail
     clear c0 c1 c2 c3 c4 c5 c6 c7 c8 c9 c10 c11 c12 c13 c14 hb1 d0 d1 d2 d3 d4 d5 d6 d7 d8 d9 d10 d11 d12 d13 d14 hb2 g11 g12
     go_loopw [7] (fun i wr => ∃ j : Nat, j ≤ A.l.length ∧ i = .int .i64 j ∧ Hid (∀ m X Y, m < j → A.l[m]? = some X → B.l[m]? = some Y → sameX false X Y = true) ∧ Hid (Below w1.heap.size w1 wr)) (fun i _ => A.l.length - (RowKit.intOf i).toNat)
     case atStart => exact ⟨0, by omega, rfl, (fun _ _ _ h => absurd h (Nat.not_lt_zero _)), Below.refl _ _⟩
     case round =>
      obtain ⟨j, hj, rfl, hok, hbr⟩ := hrel
      have HBr := qh (And.intro ((hbr.out.block _ (Array.getElem?_eq_some_iff.1 HB1.out.1).1).trans HB1.out.1) ((hbr.out.block _ (Array.getElem?_eq_some_iff.1 HB1.out.2).1).trans HB1.out.2))
      obtain ⟨⟨c0, c1, c2, c3, c4, c5, c6, c7, c8, c9, c10, c11, c12, c13, c14⟩, -, hb1⟩ := rc15 HBr.out.1
      obtain ⟨⟨d0, d1, d2, d3, d4, d5, d6, d7, d8, d9, d10, d11, d12, d13, d14⟩, -, hb2⟩ := rc15 HBr.out.2
      by_cases hlt : j < A.l.length
      · have hlt2 : j < B.l.length := by have := H5.out; omega
        obtain ⟨X, hX⟩ : ∃ X, A.l[j]? = some X := ⟨_, List.getElem?_eq_getElem hlt⟩
        obtain ⟨Y, hY⟩ : ∃ Y, B.l[j]? = some Y := ⟨_, List.getElem?_eq_getElem hlt2⟩
        obtain ⟨b1, off, pV, pcV, pK, pcK, q, qc, e1, hbb1, OX, y0, y1, y2, y3, y4, y5, y6, y7, y8, y9, y10, y11, y12, y13, y14⟩ := HAT.out.1 j X hX
        obtain ⟨b2, off', pV', pcV', pK', pcK', q', qc', e2, hbb2, OY, u0, u1, u2, u3, u4, u5, u6, u7, u8, u9, u10, u11, u12, u13, u14⟩ := HAT.out.2 j Y hY
        have hs1 := HS1.out
        have hsr := hbr.out.size
        have bwr : Below w.heap.size w wr := B1.out.trans (hbr.out.mono (by omega))
        have t : ∀ b i, b < n → wr.cell? ⟨b, i, none⟩ = w.cell? ⟨b, i, none⟩ := fun b i hb => World.cell?_of_block (bwr.block b (by omega))
        rw [← t b1 _ hbb1] at y0 y1 y2 y3 y4 y5 y6 y7 y8 y9 y10 y11 y12 y13 y14
        rw [← t b2 _ hbb2] at u0 u1 u2 u3 u4 u5 u6 u7 u8 u9 u10 u11 u12 u13 u14
        have HXY := qh (And.intro hX hY)
        have HSXY := qh (HSZ.out X Y (List.mem_of_getElem? hX) (List.mem_of_getElem? hY))
        have OX2 := qh (And.intro (OX.bl (fun k hk => hk) (bwr.mono hn)) (OY.bl (fun k hk => hk) (bwr.mono hn)))
        have HBR := hbr
        have hnr0 : n ≤ wr.heap.size := by omega
        have hnr : n ≤ wr.drew.heap.size := hnr0
        clear hnr0
        subst e1 e2
        clear hX hY OX OY t hbr bwr
        go_wp2_with fail
        go_still_tail 11, (by kernel_rfl)
        change wpList _ _ _ _ _ wr.drew
        go_wp2_with fail
        with_reducible refine (IH.out n X Y _ _ _ HSXY.out (OX2.out.1.bl (fun k hk => hk) ((Below.refl n wr).drew)) (OX2.out.2.bl (fun k hk => hk) ((Below.refl n wr).drew)) hnr).mono ?_
        rintro e w2 ⟨rfl, b2⟩
        have B2 := qh (HBR.out.drew.trans (b2.mono hsr))
        clear b2
        cases hr : sameX false X Y with
        | true =>
          have HE : Hid (∀ m X' Y', m < j + 1 → A.l[m]? = some X' → B.l[m]? = some Y' → sameX false X' Y' = true) := fun m X' Y' hm h1 h2 => by
           by_cases e : m = j
           · subst e; rw [HXY.out.1] at h1; rw [HXY.out.2] at h2; injection h1 with h1; injection h2 with h2; subst h1 h2; exact hr
           · exact hok.out m X' Y' (by omega) h1 h2
          clear hr hok
          go_wp2_with fail
          go_roundw
          case rel => exact ⟨j + 1, by omega, by go_num, HE, B2⟩
          case measure => simp [RowKit.intOf]; omega
        | false =>
          have HR2 : Hid (R = false) := N5.out (eqX_no (r := sameX false) j HXY.out.1 HXY.out.2 hr)
          clear hr hok
          go_wp2_with fail
          go_ret
          exact ⟨ret_b4 HR2.out.symm, B1.out.trans (B2.out.mono (by omega))⟩
      · have HR2 : Hid (R = true) := by unfold Hid; rw [HR.out]; exact eqX_yes H5.out (fun m X Y h1 h2 => hok.out m X Y (by have := (List.getElem?_eq_some_iff.1 h1).1; omega) h1 h2)
        have hs1 := HS1.out
        clear hok
        go_wp2_with fail
        go_ret
        exact ⟨ret_b4 HR2.out.symm, B1.out.trans (hbr.out.mono (by omega))⟩
end Go.Proofs.YtncjncacfagldaaGreatDoor
