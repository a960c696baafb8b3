/- Rows made anew, whose elements have rows of their own: by Copy, and by Make's closure. -/
import Derived.Test.YtfgkkccgecnchaaK
import Derived.Test.YtfgkkccgecnchaaMa
import Derived.Maps.Own
namespace Go.Proofs.Ytfgkkccgecnchaa
open Go.RowKit

theorem Mine.keptP {lo : Nat} {w w' : World} {o : Option Addr} {T : TypeId} {len z : Nat} (h : Mine lo w o T len z) (b : ∀ k, lo ≤ k → k < w.heap.size → w'.heap[k]? = w.heap[k]?) : Mine lo w' o T len z := by
  rcases h with h | ⟨g, C, e, hg, hO⟩
  · exact .inl h
  · exact .inr ⟨g, C, e, hg, hO.same (b g hg hO.lt)⟩
theorem Mine.mono {lo lo' : Nat} {w : World} {o : Option Addr} {T : TypeId} {len z : Nat} (h : Mine lo w o T len z) (hl : lo' ≤ lo) : Mine lo' w o T len z := by
  rcases h with h | ⟨g, C, e, hg, hO⟩
  · exact .inl h
  · exact .inr ⟨g, C, e, by omega, hO⟩
/-- a value with rows of its own, all from block lo on -/
def Deep (lo : Nat) (w : World) (X : Val) (v : Value) : Prop :=
  ∃ (oL oK : Option Addr) (cL cK : Nat) (c : Nat → Nat → Value), v = vv X.k X.i X.s (.slice oL X.l.length cL) (.slice oK X.ks.length cK) X.tk X.to X.x ∧ OpnP (fun b => lo ≤ b ∧ b < w.heap.size) w X oL oK cL cK c ∧ Mine lo w oL 27 X.l.length 8 ∧ Mine lo w oK 9 X.ks.length 1
theorem Deep.kept {lo : Nat} {w w' : World} {X : Val} {v : Value} (h : Deep lo w X v) (hs : w.heap.size ≤ w'.heap.size) (b : ∀ k, lo ≤ k → k < w.heap.size → w'.heap[k]? = w.heap[k]?) : Deep lo w' X v := by
  obtain ⟨oL, oK, cL, cK, c, e, O, m1, m2⟩ := h
  have kP : ∀ k, (lo ≤ k ∧ k < w.heap.size) → (lo ≤ k ∧ k < w'.heap.size) ∧ w'.heap[k]? = w.heap[k]? := fun k hk => ⟨⟨hk.1, by omega⟩, b k hk.1 hk.2⟩
  exact ⟨oL, oK, cL, cK, c, e, ⟨O.wk, O.wi, O.wtk, O.wto, O.ws, O.wks, O.L.keptP kP, O.K.keptP kP, fun j x hx => (O.el j x hx).keptP kP⟩, m1.keptP b, m2.keptP b⟩
theorem Deep.mono {lo lo' : Nat} {w : World} {X : Val} {v : Value} (h : Deep lo w X v) (hl : lo' ≤ lo) : Deep lo' w X v := by
  obtain ⟨oL, oK, cL, cK, c, e, O, m1, m2⟩ := h
  exact ⟨oL, oK, cL, cK, c, e, O.mono fun k hk => ⟨by omega, hk.2⟩, m1.mono hl, m2.mono hl⟩
theorem Deep.lies {lo : Nat} {w : World} {X : Val} {v : Value} (h : Deep lo w X v) : LiesP (fun b => lo ≤ b ∧ b < w.heap.size) w X v := by
  obtain ⟨oL, oK, cL, cK, c, rfl, O, _, _⟩ := h
  exact O.lies
theorem deep_of_cp {X : Val} {w w' : World} {e : Ending} (h : CpPost X w e w') : ∃ v, e = .returned v ∧ Deep w.heap.size w' X v ∧ Below w.heap.size w w' := by
  obtain ⟨oL, oK, cL, cK, c, rfl, O, m1, m2, b⟩ := h
  exact ⟨_, rfl, ⟨oL, oK, cL, cK, c, rfl, O, m1, m2⟩, b⟩
/-- a row made anew, with such elements -/
def DnPost (xs : List Val) (w : World) (e : Ending) (w' : World) : Prop :=
  ∃ (o : Option Addr) (cap : Nat) (c : Nat → Nat → Value), e = .returned (.slice o xs.length cap) ∧ RowP (Fr w w') w' o cap xs.length 8 c ∧ (∀ j x, xs[j]? = some x → Deep w.heap.size w' x (.agg #[c j 0, c j 1, c j 2, c j 3, c j 4, c j 5, c j 6, c j 7])) ∧ Mine w.heap.size w' o 27 xs.length 8 ∧ Below w.heap.size w w'
def DnRel (xs : List Val) (g : Nat) (w0 : World) (j : Nat) (wr : World) : Prop :=
  Below g w0 wr ∧ ∃ C, Out wr g 27 xs.length 8 j C ∧ ∀ i x, i < j → xs[i]? = some x → Deep (g + 1) wr x (.agg #[C i 0, C i 1, C i 2, C i 3, C i 4, C i 5, C i 6, C i 7])
theorem dn_end {xs : List Val} {w wr : World} (h : DnRel xs w.heap.size w xs.length wr) (hl : xs.length ≤ 60000) : DnPost xs w (.returned (.slice (some ⟨w.heap.size, 0, none⟩) xs.length xs.length)) wr := by
  obtain ⟨hb, C, hO, hE⟩ := h
  refine ⟨some ⟨w.heap.size, 0, none⟩, xs.length, C, rfl, ⟨Nat.le_refl _, by unfold maxLen; omega, (fun h => by cases h), fun _ => ?_⟩, fun j x hx => ?_, .inr ⟨w.heap.size, C, rfl, Nat.le_refl _, hO⟩, hb⟩
  · refine ⟨_, _, rfl, ⟨Nat.le_refl _, hO.lt⟩, fun j hj m hm => ?_⟩
    obtain ⟨cs, h1, h2, h3⟩ := hO
    rw [cell_of_row wr w.heap.size _ cs 27 (0, 0) h1, Nat.zero_add]
    exact h3 j hj m hm
  · exact (hE j x (List.getElem?_eq_some_iff.1 hx).1 hx).mono (Nat.le_succ _)
theorem DnRel.step {xs : List Val} {g : Nat} {w0 wr w1 : World} {j : Nat} {C : Nat → Nat → Value} {cs : Array Value} {X : Val} {a0 a1 a2 a3 a4 a5 a6 a7 : Value} (hX : xs[j]? = some X)
    (hb : Below g w0 w1) (hD : Deep (g + 1) w1 X (.agg #[a0, a1, a2, a3, a4, a5, a6, a7])) (h1 : w1.heap[g]? = some (.cells cs 27 (0, 0))) (h2 : cs.size = xs.length * 8) (h3 : ∀ i, i < j → ∀ m, m < 8 → cs[i * 8 + m]? = some (C i m))
    (hold : ∀ i x, i < j → xs[i]? = some x → Deep (g + 1) wr x (.agg #[C i 0, C i 1, C i 2, C i 3, C i 4, C i 5, C i 6, C i 7])) (hB : wr.heap.size ≤ w1.heap.size) (hw : ∀ k, k < wr.heap.size → w1.heap[k]? = wr.heap[k]?) :
    DnRel xs g w0 (j + 1) (w1.setRow g (cs.toList.take (j * 8) ++ (#[a0, a1, a2, a3, a4, a5, a6, a7] : Array Value).toList ++ cs.toList.drop (j * 8 + (#[a0, a1, a2, a3, a4, a5, a6, a7] : Array Value).size)).toArray) := by
  have hj : j < xs.length := by obtain ⟨h, _⟩ := List.getElem?_eq_some_iff.1 hX; exact h
  have hoth : ∀ (cs' : Array Value) k, g + 1 ≤ k → k < w1.heap.size → (w1.setRow g cs').heap[k]? = w1.heap[k]? := fun cs' k h _ => setRow_other _ _ _ _ (by omega)
  generalize hp : (#[a0, a1, a2, a3, a4, a5, a6, a7] : Array Value) = part at *
  refine ⟨below_setRow hb (Nat.le_refl _) _, _, Out.store h1 h2 h3 hj (by rw [← hp]; rfl) (fun m => part[m]?.getD undef) (fun m hm => ?_), fun i x hi hx => ?_⟩
  · have : m < part.size := by rw [← hp]; exact hm
    simp [this]
  · by_cases e : i = j
    · subst e
      rw [hX] at hx; injection hx with hx; subst hx
      simp only [if_true]
      subst hp
      refine Deep.kept (w := w1) ?_ ?_ (fun k h5 h6 => hoth _ k h5 h6)
      · exact hD
      · rw [size_setRow]; exact Nat.le_refl _
    · simp only [if_neg e]
      refine (hold i x (by omega) hx).kept (by rw [size_setRow]; omega) fun k h5 h6 => ?_
      rw [hoth _ k h5 (by omega), hw k h6]
end Go.Proofs.Ytfgkkccgecnchaa

/- anew by Copy, told with the elements' own rows; List; Make's closure; anew by it. -/
namespace Go.Proofs.Ytfgkkccgecnchaa
open Go.RowKit Go.Maps

abbrev zrow (n : Nat) : Obj := .cells (madeCells #[.int .i64 0, .int .i64 0, .string ⟨#[]⟩, .slice none 0 0, .slice none 0 0, .int .i64 0, .int .i64 0, .bool false] (n * 8)) 27
theorem dn_start (xs : List Val) (w : World) : DnRel xs w.heap.size w 0 (w.alloc (zrow xs.length)) := ⟨(Below.refl _ _).alloc (Nat.le_refl _) _, fun _ _ => undef, Out.made _ _ _ _ _ _, fun _ _ h => absurd h (Nat.not_lt_zero _)⟩
set_option maxRecDepth 100000 in
set_option maxHeartbeats 2000000 in
theorem danew_18 {n : Nat} {w : World} {l : List Val} {o : Option Addr} {cap : Nat} {c : Nat → Nat → Value} (hl : szL l ≤ 60000) (hR : Row n w o cap l.length 8 c) (hE : ∀ j x, l[j]? = some x → Lies n w x (.agg #[c j 0, c j 1, c j 2, c j 3, c j 4, c j 5, c j 6, c j 7])) (hn : n ≤ w.heap.size) :
    Calls Try.prog 49 #[.slice o l.length cap, .func (.func 18) #[] #[]] w (DnPost l w) := by
  have hlen := szL_len l
  have hc := hR.1
  have hm := hR.2.1
  have hnil := fun (w : World) (a : Option Addr) (n c : Nat) => Lib.run_eql_slice_nil (P := Try.prog) w 22 27 a n c 0 0 Try.underlying22
  unfold maxLen at hm
  cases o with
  | none =>
    have h0 : cap = 0 := hR.2.2.1 rfl
    have h1 : l.length = 0 := by omega
    have h2 : l = [] := List.length_eq_zero_iff.1 h1
    subst h2
    subst h0
    clear hR hE hl hlen h1 hc hm
    go_enter Try.func49, Try.ntmps49
    go_wp2
    go_ret
    exact ⟨none, 0, c, rfl, RowP.nil _ _ _ _, fun j x h => by simp at h, .inl ⟨rfl, rfl⟩, Below.refl _ _⟩
  | some a =>
    have HF := Lib.hid (And.intro hR hE)
    have hmk := make27 l.length (by omega)
    clear hR hE
    have HO := Lib.hid (dn_start l w)
    go_enter Try.func49, Try.ntmps49
    go_wp2_with fail
    generalize w.alloc (.cells (madeCells _ _) 27) = w0 at *
    clear hmk
    go_loopw [15] (fun i wr => ∃ j : Nat, j ≤ l.length ∧ i = .int .i64 j ∧ Hid (DnRel l w.heap.size w j wr)) (fun i _ => l.length - (intOf i).toNat)
    case atStart => exact ⟨0, Nat.zero_le _, rfl, HO⟩
    case round =>
      obtain ⟨j, hj, rfl, HR⟩ := hrel
      by_cases hlt : j < l.length
      · obtain ⟨X, hX⟩ : ∃ X, l[j]? = some X := ⟨_, List.getElem?_eq_getElem hlt⟩
        have BN := Lib.hid (HR.out.1.mono hn)
        obtain ⟨b', off', oL3, oK3, cL3, cK3, c3, e1, hb', ⟨y0, y1, y2, y3, y4, y5, y6, y7⟩, OX⟩ := (HF.out.1.below BN.out).elv hlt ((HF.out.2 j X hX).kept BN.out)
        injection e1 with e1
        subst e1
        have HX := Lib.hid hX
        have hmem := szL_mem (List.mem_of_getElem? hX)
        have OX2 := Lib.hid OX
        have HW3 := Lib.hid ((Below.refl wr.heap.size wr).alloc (Nat.le_refl _) (bx X oL3 oK3 cL3 cK3))
        clear hX OX
        go_wp2_with fail
        have hsz := HR.out.1.size
        refine (copy_any 60000 (Nat.le_refl _) n X _ _ (by omega) (OX2.out.kept (HW3.out.mono (by omega))).lies (by simp; omega)).mono ?_
        rintro e w1 ⟨oL, oK, cL, cK, c1, rfl, hO, m1, m2, b1⟩
        have hs1 := b1.size
        simp only [World.size_alloc] at hs1 m1 m2
        obtain ⟨hb2, C, ⟨cs, h1, h2, h3⟩, hold⟩ := HR.out
        have hgl : w.heap.size < wr.heap.size := (Array.getElem?_eq_some_iff.1 h1).1
        have hk : ∀ k, k < wr.heap.size → w1.heap[k]? = wr.heap[k]? := fun k hk => (b1.block k (by simp; omega)).trans (Below.heap_alloc _ _ _ hk)
        have h1' : w1.heap[w.heap.size]? = some (.cells cs 27 (0, 0)) := (hk _ hgl).trans h1
        have hD : Deep (w.heap.size + 1) w1 X (vv X.k X.i X.s (.slice oL X.l.length cL) (.slice oK X.ks.length cK) X.tk X.to X.x) := ⟨oL, oK, cL, cK, c1, rfl, hO.mono fun k h => ⟨by have := h.1; simp at this; omega, h.2⟩, m1.mono (by omega), m2.mono (by omega)⟩
        have HS := Lib.hid (DnRel.step HX.out ((hb2.trans (HW3.out.mono (by omega))).trans (b1.mono (by simp; omega))) hD h1' h2 h3 hold (by omega) hk)
        have H1 := Lib.hid (And.intro h1' h2)
        clear h1 h1' h2 h3 hold hb2 hO hk b1 hD m1 m2
        go_wp2_with ((with_reducible refine wpList_store_at rfl 27 (.tmp 25) (.tmp 24) rfl w.heap.size (j * 8) rfl _ rfl 27 cs H1.out.1 ?st1 ?st2 ?st3 ?st4); case' st4 => generalize World.setRow _ _ _ = W at *)
        case st1 => have := H1.out.2; have : (j + 1) * 8 ≤ l.length * 8 := Nat.mul_le_mul_right 8 hlt; simp; omega
        case st2 => kernel_rfl
        case st3 => exact oneCell8 _ _ _ _ _ _ _
        go_roundw
        case rel => exact ⟨j + 1, by omega, by go_num, HS⟩
        case measure => simp [intOf]; omega
      · have hjl : j = l.length := by omega
        subst hjl
        go_wp2_with fail
        go_ret
        exact dn_end HR.out (by omega)
/-- a list with elements of its own -/
def LsPost (l : List Val) (w : World) (e : Ending) (w' : World) : Prop :=
  ∃ (o : Option Addr) (cap : Nat) (c : Nat → Nat → Value), e = .returned (vv 4 0 ⟨#[]⟩ (.slice o l.length cap) (.slice none 0 0) 0 0 false) ∧ RowP (Fr w w') w' o cap l.length 8 c ∧ (∀ j x, l[j]? = some x → Deep w.heap.size w' x (.agg #[c j 0, c j 1, c j 2, c j 3, c j 4, c j 5, c j 6, c j 7])) ∧ Mine w.heap.size w' o 27 l.length 8 ∧ Below w.heap.size w w'
set_option maxHeartbeats 2000000 in
set_option maxRecDepth 100000 in
theorem dlist_any {n : Nat} {w : World} {l : List Val} {o : Option Addr} {cap : Nat} {c : Nat → Nat → Value} (hl : szL l ≤ 60000) (hR : Row n w o cap l.length 8 c) (hE : ∀ j x, l[j]? = some x → Lies n w x (.agg #[c j 0, c j 1, c j 2, c j 3, c j 4, c j 5, c j 6, c j 7])) (hn : n ≤ w.heap.size) :
    Calls Try.prog 19 #[.slice o l.length cap] w (LsPost l w) := by
  have HF := Lib.hid (And.intro hR hE)
  have HB1 : Hid ((w.alloc (.cells zc 27)).heap[w.heap.size]? = some (.cells zc 27 (0, 0))) := heap_alloc_new w _
  have HW := Lib.hid ((Below.refl w.heap.size w).alloc (Nat.le_refl _) (.cells zc 27))
  have HZ : Hid ((w.alloc (.cells zc 27)).heap.size = w.heap.size + 1) := by simp [Hid]
  clear hR hE
  go_enter Try.func19, Try.ntmps19
  go_wp2_with fail
  generalize w.alloc _ = w0 at *
  refine (danew_18 hl (HF.out.1.below (HW.out.mono hn)) (fun j x hx => (HF.out.2 j x hx).kept (HW.out.mono hn)) (by have := HZ.out; omega)).mono ?_
  rintro e w1 ⟨o1, cap1, c1, rfl, r1, e1, m1, b1⟩
  have Q1 : Hid (w1.heap[w.heap.size]? = some (.cells zc 27 (0, 0))) := by unfold Hid; rw [b1.block _ (by have := HZ.out; omega)]; exact HB1.out
  have R := Lib.hid (store_box Q1.out (lst8 o1 l.length cap1) rfl)
  have B1 := HW.out.trans (b1.mono (by have := HZ.out; omega))
  have K4 : Hid (∀ k, w0.heap.size ≤ k → (w1.setRow w.heap.size (over zc (lst8 o1 l.length cap1))).heap[k]? = w1.heap[k]?) := fun k hk => setRow_other _ _ _ _ (by have := HZ.out; omega)
  have S4 : Hid ((w1.setRow w.heap.size (over zc (lst8 o1 l.length cap1))).heap.size = w1.heap.size) := size_setRow _ _ _
  have B4 := Lib.hid (below_setRow B1 (Nat.le_refl _) (over zc (lst8 o1 l.length cap1)))
  have M := Lib.hid (And.intro r1 (And.intro e1 m1))
  clear B1 b1 r1 e1 m1
  go_wp2_with ((with_reducible refine wpList_store_at rfl 27 (.tmp 2) (.tmp 5) rfl w.heap.size 0 rfl _ rfl 27 zc Q1.out ?st1 ?st2 ?st3 ?st4); case' st4 => generalize World.setRow _ _ _ = w5 at *)
  case st1 => simp
  case st2 => have := size27; simpa using this
  case st3 => simp [Value.oneCell']
  obtain ⟨p0, p1, p2, p3, p4, p5, p6, p7⟩ := cells8 R.out
  refine bodyPost_ret (v := vv 4 0 ⟨#[]⟩ (.slice o1 l.length cap1) (.slice none 0 0) 0 0 false) (by simp [results, Try.results19, go_sem, p0, p1, p2, p3, p4, p5, p6, p7]) rfl ?_
  refine ⟨o1, cap1, c1, rfl, M.out.1.keptP fun k hk => ⟨⟨by have := hk.1; have := HZ.out; omega, by rw [S4.out]; exact hk.2⟩, K4.out k hk.1⟩, fun j x hx => ((M.out.2.1 j x hx).kept (by rw [S4.out]; exact Nat.le_refl _) fun k h5 _ => K4.out k h5).mono (by have := HZ.out; omega), (M.out.2.2.keptP fun k h5 _ => K4.out k h5).mono (by have := HZ.out; omega), B4.out⟩
set_option maxRecDepth 100000 in
/-- Make's closure: a copy of what stands at the key's place -/
theorem place_at {w : World} {mb nn : Nat} {ks : List ByteArray} (h : w.ownsMap Try.prog 9 (plainElem Try.prog 3) mb nn (pm ks ks.length)) (hd : Dst ks ks.length) {i : Nat} (hi : i < ks.length) (hs : (kk ks i).size ≤ maxLen) : (Instr.lookup 56 (.map (some mb)) (.string (kk ks i)) false).run Try.prog w = .ok (.int .i64 i) w := by
  obtain ⟨c, h1, h2, _⟩ := h.lookup_int (string_keyed Try.underlying9) Try.underlying56 Try.underlying3 (Try.zeroValue3 w) (WideMaps.keyOf_string_mk Try.underlying9 hs)
  rw [pm_at ks _ _ i hd hi] at h2
  injection h2 with h2
  injection h2 with _ h2
  rw [h1, h2]
set_option maxHeartbeats 2000000 in
set_option maxRecDepth 100000 in
theorem closure_53 {n : Nat} {w : World} {l : List Val} {o : Option Addr} {cap : Nat} {c : Nat → Nat → Value} {ks : List ByteArray} {b3 b6 mb nn : Nat} (hl : szL l ≤ 60000) (hlen : ks.length = l.length) (hR : Row n w o cap l.length 8 c) (hE : ∀ j x, l[j]? = some x → Lies n w x (.agg #[c j 0, c j 1, c j 2, c j 3, c j 4, c j 5, c j 6, c j 7])) (hn : n ≤ w.heap.size)
    (h3 : w.cell? ⟨b3, 0, none⟩ = some (.slice o l.length cap)) (h6 : w.cell? ⟨b6, 0, none⟩ = some (.map (some mb))) (l3 : b3 < w.heap.size) (l6 : b6 < w.heap.size) (hM : w.ownsMap Try.prog 9 (plainElem Try.prog 3) mb nn (pm ks ks.length)) (hd : Dst ks ks.length) {i : Nat} {X : Val} (hX : l[i]? = some X) (hs : (kk ks i).size ≤ maxLen) :
    Calls Try.prog 53 #[.string (kk ks i), .pointer (some ⟨b3, 0, none⟩), .pointer (some ⟨b6, 0, none⟩)] w (CpPost X w) := by
  have hi : i < l.length := (List.getElem?_eq_some_iff.1 hX).1
  have hlk := place_at (hM.alloc (.cells zc 27)) hd (by omega) hs
  have HB1 : Hid ((w.alloc (.cells zc 27)).heap[w.heap.size]? = some (.cells zc 27 (0, 0))) := heap_alloc_new w _
  have HW := Lib.hid ((Below.refl w.heap.size w).alloc (Nat.le_refl _) (.cells zc 27))
  have HZ : Hid ((w.alloc (.cells zc 27)).heap.size = w.heap.size + 1) := by simp [Hid]
  obtain ⟨b', off', oL3, oK3, cL3, cK3, c3, rfl, hb', ⟨y0, y1, y2, y3, y4, y5, y6, y7⟩, OX⟩ := (hR.below (HW.out.mono hn)).elv hi ((hE i X hX).kept (HW.out.mono hn))
  have h3' : (w.alloc (.cells zc 27)).cell? ⟨b3, 0, none⟩ = some (.slice (some ⟨b', off', none⟩) l.length cap) := (HW.out.cell (p := ⟨b3, 0, none⟩) l3).trans h3
  have h6' : (w.alloc (.cells zc 27)).cell? ⟨b6, 0, none⟩ = some (.map (some mb)) := (HW.out.cell (p := ⟨b6, 0, none⟩) l6).trans h6
  have hmem := szL_mem (List.mem_of_getElem? hX)
  have l1 := hR.1
  have l2 := hR.2.1
  unfold maxLen at l2
  have OX2 := Lib.hid OX
  clear hR hE hM hX hd OX h3 h6
  go_enter Try.func53, Try.ntmps53
  go_wp2_with fail
  generalize w.alloc _ = w0 at *
  refine (copy_any 60000 (Nat.le_refl _) n X _ _ (by omega) OX2.out.lies (by have := HZ.out; omega)).mono ?_
  rintro e w1 ⟨o1, o3, cap1, cap3, c1, rfl, O1, m1, m3, b1⟩
  have Q1 : Hid (w1.heap[w.heap.size]? = some (.cells zc 27 (0, 0))) := by unfold Hid; rw [b1.block _ (by have := HZ.out; omega)]; exact HB1.out
  have R := Lib.hid (store_box Q1.out (c8 X (.slice o1 X.l.length cap1) (.slice o3 X.ks.length cap3)) rfl)
  have B1 := HW.out.trans (b1.mono (by have := HZ.out; omega))
  have A4 := Lib.hid (Aft.setRow w1 w.heap.size ((zc.toList.take 0 ++ (c8 X (.slice o1 X.l.length cap1) (.slice o3 X.ks.length cap3)).toList ++ zc.toList.drop (0 + (c8 X (.slice o1 X.l.length cap1) (.slice o3 X.ks.length cap3)).size)).toArray) (Nat.lt_succ_self _))
  have B4 := Lib.hid (below_setRow B1 (Nat.le_refl _) ((zc.toList.take 0 ++ (c8 X (.slice o1 X.l.length cap1) (.slice o3 X.ks.length cap3)).toList ++ zc.toList.drop (0 + (c8 X (.slice o1 X.l.length cap1) (.slice o3 X.ks.length cap3)).size)).toArray))
  have M := Lib.hid (And.intro O1 (And.intro m1 m3))
  clear B1 b1 O1 m1 m3
  go_wp2_with ((with_reducible refine wpList_store_at rfl 27 (.tmp 4) (.tmp 11) rfl w.heap.size 0 rfl _ rfl 27 zc Q1.out ?st1 ?st2 ?st3 ?st4); case' st4 => generalize World.setRow _ _ _ = w5 at *)
  case st1 => simp
  case st2 => have := size27; simpa using this
  case st3 => simp [Value.oneCell']
  obtain ⟨p8, p0, p1, p2, p3, p4, p5, p6, p7⟩ := (show Wb w5 w.heap.size X (.slice o1 X.l.length cap1) (.slice o3 X.ks.length cap3) from R.out).hd
  refine bodyPost_ret (v := vv X.k X.i X.s (.slice o1 X.l.length cap1) (.slice o3 X.ks.length cap3) X.tk X.to X.x) (by simp [results, Try.results53, go_sem, p0, p1, p2, p3, p4, p5, p6, p7]) rfl ?_
  exact cp_shift M.out.1 M.out.2.1 M.out.2.2 A4.out (by have := HZ.out; omega) (by have := HZ.out; omega) B4.out rfl
end Go.Proofs.Ytfgkkccgecnchaa

/- anew by Make's closure. -/
namespace Go.Proofs.Ytfgkkccgecnchaa
open Go.RowKit Go.Maps

set_option maxRecDepth 100000 in
set_option maxHeartbeats 2000000 in
theorem danew_53 {n : Nat} {w : World} {l : List Val} {rs : List ByteArray} {o : Option Addr} {cap : Nat} {b3 b6 : Nat} (hl : rs.length ≤ 60000) (hrl : rs.length = l.length) (hR : Row n w o cap rs.length 1 (fun j _ => .string (rs.getD j default))) (hn : n ≤ w.heap.size)
    (hf : ∀ (j : Nat) (X : Val), l[j]? = some X → ∀ W, Below w.heap.size w W → Calls Try.prog 53 #[.string (kk rs j), .pointer (some ⟨b3, 0, none⟩), .pointer (some ⟨b6, 0, none⟩)] W (CpPost X W)) :
    Calls Try.prog 52 #[.slice o rs.length cap, .func (.func 53) #[] #[.pointer (some ⟨b3, 0, none⟩), .pointer (some ⟨b6, 0, none⟩)]] w (DnPost l w) := by
  have hc := hR.1
  have hm := hR.2.1
  have hnil := fun (w : World) (a : Option Addr) (n c : Nat) => Lib.run_eql_slice_nil (P := Try.prog) w 23 9 a n c 0 0 Try.underlying23
  unfold maxLen at hm
  cases o with
  | none =>
    have h0 : cap = 0 := hR.2.2.1 rfl
    have h1 : l.length = 0 := by omega
    have h2 : l = [] := List.length_eq_zero_iff.1 h1
    have h3 : rs = [] := List.length_eq_zero_iff.1 (by omega)
    subst h2
    subst h0
    subst h3
    clear hR hf hl h1 hc hm hrl
    go_enter Try.func52, Try.ntmps52
    go_wp2
    go_ret
    exact ⟨none, 0, fun _ _ => undef, rfl, RowP.nil _ _ _ _, fun j x h => by simp at h, .inl ⟨rfl, rfl⟩, Below.refl _ _⟩
  | some a =>
    have HF := Lib.hid (And.intro hR hf)
    have hmk := make27 l.length (by omega)
    rw [← hrl] at hmk
    clear hR hf
    have HO := Lib.hid (dn_start l w)
    rw [← hrl] at HO
    have HRL := Lib.hid hrl
    clear hrl
    go_enter Try.func52, Try.ntmps52
    go_wp2_with fail
    generalize w.alloc (.cells (madeCells _ _) 27) = w0 at *
    clear hmk
    go_loopw [15] (fun i wr => ∃ j : Nat, j ≤ rs.length ∧ i = .int .i64 j ∧ Hid (DnRel l w.heap.size w j wr)) (fun i _ => rs.length - (intOf i).toNat)
    case atStart => exact ⟨0, Nat.zero_le _, rfl, HO⟩
    case round =>
      obtain ⟨j, hj, rfl, HR⟩ := hrel
      by_cases hlt : j < rs.length
      · obtain ⟨X, hX⟩ : ∃ X, l[j]? = some X := ⟨_, List.getElem?_eq_getElem (by have := HRL.out; omega)⟩
        have BN := Lib.hid (HR.out.1.mono hn)
        obtain ⟨b', off', e1, hb', y0⟩ := (HF.out.1.below BN.out).key hlt
        injection e1 with e1
        subst e1
        have HX := Lib.hid hX
        have hcl := Lib.hid (HF.out.2 j X hX wr HR.out.1)
        clear hX
        go_wp2_with fail
        refine hcl.out.mono ?_
        rintro e w1 ⟨oL, oK, cL, cK, c1, rfl, hO, m1, m2, b1⟩
        have hs1 := b1.size
        have hsz := HR.out.1.size
        obtain ⟨hb2, C, ⟨cs, h1, h2, h3⟩, hold⟩ := HR.out
        have hgl : w.heap.size < wr.heap.size := (Array.getElem?_eq_some_iff.1 h1).1
        have hk : ∀ k, k < wr.heap.size → w1.heap[k]? = wr.heap[k]? := fun k hk => b1.block k hk
        have h1' : w1.heap[w.heap.size]? = some (.cells cs 27 (0, 0)) := (hk _ hgl).trans h1
        have hD : Deep (w.heap.size + 1) w1 X (vv X.k X.i X.s (.slice oL X.l.length cL) (.slice oK X.ks.length cK) X.tk X.to X.x) := ⟨oL, oK, cL, cK, c1, rfl, hO.mono fun k h => ⟨by have := h.1; omega, h.2⟩, m1.mono (by omega), m2.mono (by omega)⟩
        have HS := Lib.hid (DnRel.step HX.out (hb2.trans (b1.mono (by omega))) hD h1' h2 h3 hold (by omega) hk)
        have H1 := Lib.hid (And.intro h1' h2)
        clear h1 h1' h2 h3 hold hb2 hO hk b1 hD m1 m2
        go_wp2_with ((with_reducible refine wpList_store_at rfl 27 (.tmp 25) (.tmp 24) rfl w.heap.size (j * 8) rfl _ rfl 27 cs H1.out.1 ?st1 ?st2 ?st3 ?st4); case' st4 => generalize World.setRow _ _ _ = W at *)
        case st1 => have := H1.out.2; have : (j + 1) * 8 ≤ l.length * 8 := Nat.mul_le_mul_right 8 (by have := HRL.out; omega); simp; omega
        case st2 => kernel_rfl
        case st3 => exact oneCell8 _ _ _ _ _ _ _
        go_roundw
        case rel => exact ⟨j + 1, by omega, by go_num, HS⟩
        case measure => simp [intOf]; omega
      · have hjl : j = rs.length := by omega
        subst hjl
        go_wp2_with fail
        go_ret
        have hrl := HRL.out
        rw [hrl] at HR ⊢
        exact dn_end HR.out (by omega)
end Go.Proofs.Ytfgkkccgecnchaa
