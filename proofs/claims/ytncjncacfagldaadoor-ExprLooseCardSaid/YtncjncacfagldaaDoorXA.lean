/- Trees: the same; EqualFunc of trees, expr.Same. -/
import Derived.Test.YtncjncacfagldaaDoorVS
import Derived.Test.YtncjncacfagldaaDoorVG
import Derived.Test.YtncjncacfagldaaDoorZe
namespace Go.Proofs.YtncjncacfagldaaDoor
open Go.RowKit Go.Lib

abbrev XL (n : Nat) (w : World) (X : Ex) (v : Value) : Prop := XP (fun b => b < n) w X v
theorem xp_at2 {P : Nat → Prop} {w : World} {X : Ex} {oV : Option Addr} {cV : Nat} {oK : Option Addr} {cK : Nat} {o : Option Addr} {cap : Nat} (h : XP P w X (.agg (xc X oV cV oK cK o cap))) : X.l.length ≤ cap ∧ cap ≤ maxLen ∧ LiesP P w X.v (vv X.v.k X.v.i X.v.s (.slice oV X.v.l.length cV) (.slice oK X.v.ks.length cK) X.v.tk X.v.to X.v.x) ∧ ∀ j x, X.l[j]? = some x → ∃ b off oV' cV' oK' cK' o' cap', o = some ⟨b, off, none⟩ ∧ P b ∧ XP P w x (.agg (xc x oV' cV' oK' cK' o' cap')) ∧
    (w.cell? ⟨b, off + j * 15, none⟩ = some (.int .i64 x.op) ∧ w.cell? ⟨b, off + j * 15 + 1, none⟩ = some (.string x.s) ∧ w.cell? ⟨b, off + j * 15 + 2, none⟩ = some (.string x.s2) ∧ w.cell? ⟨b, off + j * 15 + 3, none⟩ = some (.int .i64 x.v.k) ∧ w.cell? ⟨b, off + j * 15 + 4, none⟩ = some (.int .i64 x.v.i) ∧ w.cell? ⟨b, off + j * 15 + 5, none⟩ = some (.string x.v.s) ∧ w.cell? ⟨b, off + j * 15 + 6, none⟩ = some (.slice oV' x.v.l.length cV') ∧ w.cell? ⟨b, off + j * 15 + 7, none⟩ = some (.slice oK' x.v.ks.length cK') ∧ w.cell? ⟨b, off + j * 15 + 8, none⟩ = some (.int .i64 x.v.tk) ∧ w.cell? ⟨b, off + j * 15 + 9, none⟩ = some (.int .i64 x.v.to) ∧ w.cell? ⟨b, off + j * 15 + 10, none⟩ = some (.bool x.v.x) ∧ w.cell? ⟨b, off + j * 15 + 11, none⟩ = some (.slice o' x.l.length cap') ∧ w.cell? ⟨b, off + j * 15 + 12, none⟩ = some (.int .i64 x.a) ∧ w.cell? ⟨b, off + j * 15 + 13, none⟩ = some (.int .i64 x.ln) ∧ w.cell? ⟨b, off + j * 15 + 14, none⟩ = some (.int .i64 x.c)) := by
  obtain ⟨oV2, cV2, oK2, cK2, o2, cap2, e, h1, h2, h3, h4⟩ := xp_at h
  simp only [xc, Value.agg.injEq, Array.mk.injEq, List.cons.injEq, and_true, true_and, Value.slice.injEq] at e
  obtain ⟨⟨rfl, rfl⟩, ⟨rfl, rfl⟩, rfl, rfl⟩ := e
  exact ⟨h1, h2, h3, h4⟩
def eqX (r : Ex → Ex → Bool) : List Ex → List Ex → Bool
  | [], [] => true
  | a :: x, b :: y => r a b && eqX r x y
  | _, _ => false
theorem eqX_len {r : Ex → Ex → Bool} : ∀ {x y : List Ex}, x.length ≠ y.length → eqX r x y = false
  | [], [], h => absurd rfl h
  | [], _ :: _, _ => rfl
  | _ :: _, [], _ => rfl
  | a :: x, b :: y, h => by rw [eqX, eqX_len (x := x) (y := y) (fun e => h (by simp [e]))]; simp
theorem eqX_no {r : Ex → Ex → Bool} : ∀ {x y : List Ex} (j : Nat) {X Y : Ex}, x[j]? = some X → y[j]? = some Y → r X Y = false → eqX r x y = false
  | [], _, j, _, _, h, _, _ => by simp at h
  | _ :: _, [], j, _, _, _, h, _ => by simp at h
  | a :: x, b :: y, 0, X, Y, h1, h2, h => by simp at h1 h2; subst h1 h2; rw [eqX, h]; rfl
  | a :: x, b :: y, j + 1, X, Y, h1, h2, h => by rw [eqX, eqX_no (x := x) (y := y) j (by simpa using h1) (by simpa using h2) h]; simp
theorem eqX_yes {r : Ex → Ex → Bool} : ∀ {x y : List Ex}, x.length = y.length → (∀ (j : Nat) (X Y : Ex), x[j]? = some X → y[j]? = some Y → r X Y = true) → eqX r x y = true
  | [], [], _, _ => rfl
  | [], _ :: _, h, _ => by simp at h
  | _ :: _, [], h, _ => by simp at h
  | a :: x, b :: y, hl, h => by
    rw [eqX, h 0 a b rfl rfl, eqX_yes (x := x) (y := y) (by simpa using hl) (fun j X Y h1 h2 => h (j + 1) X Y (by simpa using h1) (by simpa using h2))]; rfl
def eqXF : List (Ex → Bool) → List Ex → Bool
  | [], [] => true
  | f :: x, b :: y => f b && eqXF x y
  | _, _ => false
theorem eqXF_map (r : Ex → Ex → Bool) : ∀ x y, eqXF (x.map r) y = eqX r x y
  | [], [] => rfl
  | [], _ :: _ => rfl
  | _ :: _, [] => rfl
  | a :: x, b :: y => by rw [List.map_cons, eqXF, eqX, eqXF_map r x y]
theorem sizeOf_mem_xl {X x : Ex} (h : x ∈ X.l) : SizeOf.sizeOf x < SizeOf.sizeOf X := by
  cases X
  have := List.sizeOf_lt_of_mem h
  simp [Ex.l] at *
  omega
/-- the same, with places (pl) or without -/
def sameX (pl : Bool) (A B : Ex) : Bool := decide (A.op = B.op) && (decide (A.s = B.s) && (decide (A.s2 = B.s2) && (sameV true A.v B.v && ((!pl || (decide (A.a = B.a) && (decide (A.ln = B.ln) && decide (A.c = B.c)))) && eqXF (A.l.attach.map fun x => fun Y => sameX pl x.1 Y) B.l))))
termination_by SizeOf.sizeOf A
decreasing_by exact sizeOf_mem_xl x.2
theorem sameX_eq (pl : Bool) (A B : Ex) : sameX pl A B = (decide (A.op = B.op) && (decide (A.s = B.s) && (decide (A.s2 = B.s2) && (sameV true A.v B.v && ((!pl || (decide (A.a = B.a) && (decide (A.ln = B.ln) && decide (A.c = B.c)))) && eqX (sameX pl) A.l B.l))))) := by
  rw [sameX]
  have : (A.l.attach.map fun x => fun Y => sameX pl x.1 Y) = A.l.map (sameX pl) := by
    rw [show (fun x : { x // x ∈ A.l } => fun Y => sameX pl x.1 Y) = fun x => sameX pl x.1 from rfl]
    simp
  rw [this, eqXF_map]
theorem xszL_mem {l : List Ex} {x : Ex} (h : x ∈ l) : xsz x ≤ xszL l := xsz_mem h
theorem xsz_eq (X : Ex) : xsz X = 1 + xszL X.l := by cases X; rw [xsz]; rfl
/-- two boxes of trees -/
theorem lie15 (w : World) (c c' : Array Value) : ((w.alloc (.cells c 33)).alloc (.cells c' 33)).heap[w.heap.size]? = some (.cells c 33 (0, 0)) ∧ ((w.alloc (.cells c 33)).alloc (.cells c' 33)).heap[w.heap.size + 1]? = some (.cells c' 33 (0, 0)) := by
  refine ⟨(heap_alloc_old _ _ (by simp)).trans (heap_alloc_new w _), ?_⟩
  have := heap_alloc_new (w.alloc (.cells c 33)) (.cells c' 33)
  rw [World.size_alloc] at this
  exact this
set_option maxRecDepth 100000 in
set_option maxHeartbeats 4000000 in
theorem equalX_any (r : Ex → Ex → Bool) (N : Nat) (hf : ∀ (n : Nat) (A B : Ex) (a b : Value) (w : World), xsz A + xsz B ≤ N → XL n w A a → XL n w B b → n ≤ w.heap.size → Calls Tryd.prog 12 #[a, b] w fun e w' => e = .returned (.bool (r A B)) ∧ Below w.heap.size w w')
    {n : Nat} {w : World} {A B : Ex} {oV : Option Addr} {cV : Nat} {oK : Option Addr} {cK : Nat} {o : Option Addr} {cap : Nat} {oV' : Option Addr} {cV' : Nat} {oK' : Option Addr} {cK' : Nat} {o' : Option Addr} {cap' : Nat} (hs : xszL A.l + xszL B.l ≤ N) (hA : XL n w A (.agg (xc A oV cV oK cK o cap))) (hB : XL n w B (.agg (xc B oV' cV' oK' cK' o' cap'))) (hn : n ≤ w.heap.size) :
    Calls Tryd.prog 27 #[.slice o A.l.length cap, .slice o' B.l.length cap', .func (.func 12) #[] #[]] w fun e w' => e = .returned (.bool (eqX r A.l B.l)) ∧ Below w.heap.size w w' := by
  obtain ⟨l1, l2, -, hat⟩ := xp_at2 hA
  obtain ⟨l3, l4, -, hat'⟩ := xp_at2 hB
  unfold maxLen at l2 l4
  have HF := Lib.hid hf
  have HR := Lib.hid (And.intro hat hat')
  generalize A.l = l at *
  generalize B.l = l' at *
  clear hA hB hat hat' hf
  by_cases hl : l.length = l'.length
  · have HL := Lib.hid hl
    have g1 : ((l.length : Int) != (l'.length : Int)) = false := by simp [hl]
    clear hl
    go_enter Tryd.func27, Tryd.ntmps27
    go_wp2_with fail
    go_loopw [17] (fun i wr => ∃ j : Nat, j ≤ l.length ∧ i = .int .i64 j ∧ Hid (∀ m X Y, m < j → l[m]? = some X → l'[m]? = some Y → r X Y = true) ∧ Hid (Below w.heap.size w wr)) (fun i _ => l.length - (RowKit.intOf i).toNat)
    case atStart => exact ⟨0, Nat.zero_le _, rfl, fun _ _ _ h => absurd h (Nat.not_lt_zero _), Below.refl _ _⟩
    case round =>
      obtain ⟨j, hj, rfl, hok, hbr⟩ := hrel
      by_cases hlt : j < l.length
      · have hlt2 : j < l'.length := by have := HL.out; omega
        obtain ⟨X, hX⟩ : ∃ X, l[j]? = some X := ⟨_, List.getElem?_eq_getElem hlt⟩
        obtain ⟨Y, hY⟩ : ∃ Y, l'[j]? = some Y := ⟨_, List.getElem?_eq_getElem hlt2⟩
        obtain ⟨b1, off, pV, pcV, pK, pcK, q, qc, e1, hb1, OX, y0, y1, y2, y3, y4, y5, y6, y7, y8, y9, y10, y11, y12, y13, y14⟩ := HR.out.1 j X hX
        obtain ⟨b2, off', pV', pcV', pK', pcK', q', qc', e2, hb2, OY, u0, u1, u2, u3, u4, u5, u6, u7, u8, u9, u10, u11, u12, u13, u14⟩ := HR.out.2 j Y hY
        have t : ∀ b i, b < n → wr.cell? ⟨b, i, none⟩ = w.cell? ⟨b, i, none⟩ := fun b i hb => World.cell?_of_block (hbr.out.block b (by omega))
        rw [← t b1 _ hb1] at y0 y1 y2 y3 y4 y5 y6 y7 y8 y9 y10 y11 y12 y13 y14
        rw [← t b2 _ hb2] at u0 u1 u2 u3 u4 u5 u6 u7 u8 u9 u10 u11 u12 u13 u14
        have hm1 := xszL_mem (List.mem_of_getElem? hX)
        have hm2 := xszL_mem (List.mem_of_getElem? hY)
        have HX := Lib.hid (And.intro hX hY)
        have HW := Lib.hid (((Below.refl wr.heap.size wr).alloc (Nat.le_refl _) (.cells (xc X pV pcV pK pcK q qc) 33)).alloc (by simp) (.cells (xc Y pV' pcV' pK' pcK' q' qc') 33))
        have hsz := hbr.out.size
        have hb3 : b2 < wr.heap.size := by omega
        have hb4 : b1 < wr.heap.size := by omega
        have OX2 := Lib.hid (And.intro ((OX.bl (fun k hk => hk) (hbr.out.mono hn)).bl (fun k hk => hk) (HW.out.mono (by omega))) ((OY.bl (fun k hk => hk) (hbr.out.mono hn)).bl (fun k hk => hk) (HW.out.mono (by omega))))
        subst e1 e2
        clear hX hY OX OY t
        go_wp2_with fail
        with_reducible refine (HF.out n X Y _ _ _ (by omega) OX2.out.1 OX2.out.2 (by simp; omega)).mono ?_
        rintro e w2 ⟨rfl, b2⟩
        have B2 := Lib.hid (hbr.out.trans ((HW.out.trans (b2.mono (by simp; omega))).mono hsz))
        clear b2
        cases hr : r X Y with
        | true =>
          have HE := Lib.hid hr
          clear hr
          go_wp2_with fail
          go_roundw
          case rel => exact ⟨j + 1, by omega, by go_num, (fun m X' Y' hm h1 h2 => by
            by_cases e : m = j
            · subst e; rw [HX.out.1] at h1; rw [HX.out.2] at h2; injection h1 with h1; injection h2 with h2; subst h1 h2; exact HE.out
            · exact hok.out m X' Y' (by omega) h1 h2), B2⟩
          case measure => simp [RowKit.intOf]; omega
        | false =>
          have HE := Lib.hid (eqX_no (r := r) j HX.out.1 HX.out.2 hr)
          clear hr
          go_wp2_with fail
          go_ret
          exact ⟨by rw [HE.out]; rfl, B2.out⟩
      · have HX : Hid (eqX r l l' = true) := eqX_yes HL.out (fun m X Y h1 h2 => hok.out m X Y (by have := (List.getElem?_eq_some_iff.1 h1).1; omega) h1 h2)
        go_wp2_with fail
        go_ret
        exact ⟨by rw [HX.out]; rfl, hbr.out⟩
  · have HX : Hid (eqX r l l' = false) := eqX_len hl
    have g1 : ((l.length : Int) != (l'.length : Int)) = true := by simp; omega
    clear hl
    go_enter Tryd.func27, Tryd.ntmps27
    go_wp2_with fail
    go_ret
    exact ⟨by rw [HX.out]; rfl, Below.refl _ _⟩
end Go.Proofs.YtncjncacfagldaaDoor
