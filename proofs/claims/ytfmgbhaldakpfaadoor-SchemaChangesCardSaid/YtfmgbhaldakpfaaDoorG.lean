/- Rows made anew, by Copy. -/
import Derived.Test.YtfmgbhaldakpfaaDoorW
import Derived.Test.YtfmgbhaldakpfaaDoorD
import Derived.OwnWalk
namespace Go.Proofs.YtfmgbhaldakpfaaDoor
open Go.RowKit

/-- new memory -/
abbrev Fr (w w' : World) : Nat → Prop := fun b => w.heap.size ≤ b ∧ b < w'.heap.size
/-- a row that the call made itself, or none -/
def Mine (lo : Nat) (w : World) (o : Option Addr) (T : TypeId) (len z : Nat) : Prop := (o = none ∧ len = 0) ∨ ∃ g C, o = some ⟨g, 0, none⟩ ∧ lo ≤ g ∧ Out w g T len z len C
def CpPost (V : Val) (w : World) (e : Ending) (w' : World) : Prop :=
  ∃ (oL oK : Option Addr) (cL cK : Nat) (c : Nat → Nat → Value), e = .returned (vv V.k V.i V.s (.slice oL V.l.length cL) (.slice oK V.ks.length cK) V.tk V.to V.x) ∧ OpnP (Fr w w') w' V oL oK cL cK c ∧ Mine w.heap.size w' oL 42 V.l.length 8 ∧ Mine w.heap.size w' oK 9 V.ks.length 1 ∧ Below w.heap.size w w'
def AnPost (l : List Val) (w : World) (e : Ending) (w' : World) : Prop :=
  ∃ (o : Option Addr) (cap : Nat) (c : Nat → Nat → Value), e = .returned (.slice o l.length cap) ∧ RowP (Fr w w') w' o cap l.length 8 c ∧ (∀ j x, l[j]? = some x → LiesP (Fr w w') w' x (.agg #[c j 0, c j 1, c j 2, c j 3, c j 4, c j 5, c j 6, c j 7])) ∧ Mine w.heap.size w' o 42 l.length 8 ∧ Below w.heap.size w w'
theorem info42 : (Tryd.prog.info? 42).map (fun i => (i.zero, i.size, i.bytes)) = some (some (.agg #[.int .i64 0, .int .i64 0, .string ⟨#[]⟩, .slice none 0 0, .slice none 0 0, .int .i64 0, .int .i64 0, .bool false]), 8, 104) := by kernel_rfl
theorem make42 (len : Nat) (h : len ≤ 60000) (w : World) : (Instr.makeSlice 40 (.int .i64 len) (.int .i64 len)).run Tryd.prog w = .ok (.slice (some ⟨w.heap.size, 0, none⟩) len len) (w.alloc (.cells (madeCells #[.int .i64 0, .int .i64 0, .string ⟨#[]⟩, .slice none 0 0, .slice none 0 0, .int .i64 0, .int .i64 0, .bool false] (len * 8)) 42)) := by
  obtain ⟨i, hi, hzz⟩ := Option.map_eq_some_iff.1 info42
  simp only [Prod.mk.injEq] at hzz
  obtain ⟨hz, hs, hb⟩ := hzz
  have hr := run_make (P := Tryd.prog) w 40 42 i _ Tryd.underlying40 hi hz .i64 .i64 len len (by omega) (Int.le_refl _) (by rw [hb]; omega) (by omega)
  simp only [Int.toNat_natCast, hs] at hr
  exact hr
/-- what holds at the head of a round -/
def AnRel (l : List Val) (tr : Val → Val) (n g : Nat) (w0 : World) (j : Nat) (wr : World) : Prop :=
  Below n w0 wr ∧ ∃ C, Out wr g 42 l.length 8 j C ∧ ∀ i x, i < j → l[i]? = some x → LiesP (fun b => g < b ∧ b < wr.heap.size) wr (tr x) (.agg #[C i 0, C i 1, C i 2, C i 3, C i 4, C i 5, C i 6, C i 7])
theorem an_end {l : List Val} {tr : Val → Val} {w wr : World} {C : Nat → Nat → Value} (hb : Below w.heap.size w wr) (hO : Out wr w.heap.size 42 l.length 8 l.length C)
    (hE : ∀ i x, i < l.length → l[i]? = some x → LiesP (fun b => w.heap.size < b ∧ b < wr.heap.size) wr (tr x) (.agg #[C i 0, C i 1, C i 2, C i 3, C i 4, C i 5, C i 6, C i 7])) (hl : l.length ≤ 60000) : AnPost (l.map tr) w (.returned (.slice (some ⟨w.heap.size, 0, none⟩) l.length l.length)) wr := by
  refine ⟨some ⟨w.heap.size, 0, none⟩, l.length, C, by rw [List.length_map], ⟨by rw [List.length_map]; exact Nat.le_refl _, by unfold maxLen; omega, (fun h => by cases h), fun _ => ?_⟩, fun j x hx => ?_, .inr ⟨w.heap.size, C, rfl, Nat.le_refl _, by rw [List.length_map]; exact hO⟩, hb⟩
  · refine ⟨_, _, rfl, ⟨Nat.le_refl _, hO.lt⟩, fun j hj m hm => ?_⟩
    rw [List.length_map] at hj
    obtain ⟨cs, h1, h2, h3⟩ := hO
    rw [cell_of_row wr w.heap.size _ cs 42 (0, 0) h1, Nat.zero_add]
    exact h3 j hj m hm
  · rw [List.getElem?_map] at hx
    obtain ⟨y, hy, rfl⟩ := Option.map_eq_some_iff.1 hx
    exact (hE j y (List.getElem?_eq_some_iff.1 hy).1 hy).mono fun k hk => ⟨by omega, hk.2⟩
theorem oneCell8 (X : Val) (oL oK : Option Addr) (a b cL cK : Nat) : (#[Value.int .i64 X.k, .int .i64 X.i, .string X.s, .slice oL a cL, .slice oK b cK, .int .i64 X.tk, .int .i64 X.to, .bool X.x] : Array Value).all (·.oneCell') = true := by simp [Value.oneCell']
theorem OpnP.mono {P P' : Nat → Prop} {w : World} {V : Val} {oL oK : Option Addr} {cL cK : Nat} {c : Nat → Nat → Value} (h : OpnP P w V oL oK cL cK c) (b : ∀ k, P k → P' k) : OpnP P' w V oL oK cL cK c :=
  ⟨h.wk, h.wi, h.wtk, h.wto, h.ws, h.wks, h.L.mono b, h.K.mono b, fun j x hx => (h.el j x hx).mono b⟩
theorem AnRel.step {l : List Val} {tr : Val → Val} {n g : Nat} {w0 wr w1 : World} {j : Nat} {oL oK : Option Addr} {cL cK : Nat} {c : Nat → Nat → Value} {C : Nat → Nat → Value} {cs : Array Value} {X : Val} {B : Nat} (hn : n ≤ g) (hX : l[j]? = some X)
    (hb : Below n w0 w1) (hO : OpnP (fun b => g < b ∧ b < w1.heap.size) w1 (tr X) oL oK cL cK c) (h1 : w1.heap[g]? = some (.cells cs 42 (0, 0))) (h2 : cs.size = l.length * 8) (h3 : ∀ i, i < j → ∀ m, m < 8 → cs[i * 8 + m]? = some (C i m))
    (hold : ∀ i x, i < j → l[i]? = some x → LiesP (fun b => g < b ∧ b < B) wr (tr x) (.agg #[C i 0, C i 1, C i 2, C i 3, C i 4, C i 5, C i 6, C i 7])) (hB : B ≤ w1.heap.size) (hw : ∀ k, k < B → w1.heap[k]? = wr.heap[k]?) (part : Array Value) (hp : part = #[.int .i64 (tr X).k, .int .i64 (tr X).i, .string (tr X).s, .slice oL (tr X).l.length cL, .slice oK (tr X).ks.length cK, .int .i64 (tr X).tk, .int .i64 (tr X).to, .bool (tr X).x]) :
    AnRel l tr n g w0 (j + 1) (w1.setRow g (cs.toList.take (j * 8) ++ part.toList ++ cs.toList.drop (j * 8 + part.size)).toArray) := by
  have hj : j < l.length := by obtain ⟨h, _⟩ := List.getElem?_eq_some_iff.1 hX; exact h
  refine ⟨below_setRow hb hn _, _, Out.store h1 h2 h3 hj (by rw [hp]; rfl) (fun m => part[m]?.getD undef) (fun m hm => ?_), fun i x hi hx => ?_⟩
  · have : m < part.size := by rw [hp]; exact hm
    simp [this]
  · by_cases e : i = j
    · subst e
      rw [hX] at hx; injection hx with hx; subst hx
      simp only [if_true]
      rw [hp]
      exact hO.lies.keptP fun k hk => ⟨⟨hk.1, by simpa using hk.2⟩, setRow_other _ _ _ _ (by omega)⟩
    · simp only [if_neg e]
      exact (hold i x (by omega) hx).keptP fun k hk => ⟨⟨hk.1, by rw [size_setRow]; omega⟩, (setRow_other _ _ _ _ (by omega)).trans (hw k hk.2)⟩
set_option maxRecDepth 100000 in
set_option maxHeartbeats 2000000 in
theorem anew_18 (tr : Val → Val) (N : Nat) (hN : N ≤ 60000) (hf : ∀ (n : Nat) (V : Val) (v : Value) (w : World), sz V ≤ N → Lies n w V v → n ≤ w.heap.size → Calls Tryd.prog 46 #[v] w (CpPost (tr V) w))
    {n : Nat} {w : World} {l : List Val} {o : Option Addr} {cap : Nat} {c : Nat → Nat → Value} (hl : szL l ≤ N) (hR : Row n w o cap l.length 8 c) (hE : ∀ j x, l[j]? = some x → Lies n w x (.agg #[c j 0, c j 1, c j 2, c j 3, c j 4, c j 5, c j 6, c j 7])) (hn : n ≤ w.heap.size) :
    Calls Tryd.prog 77 #[.slice o l.length cap, .func (.func 46) #[] #[]] w (AnPost (l.map tr) w) := by
  have hlen := szL_len l
  have hc := hR.1
  have hm := hR.2.1
  have hnil := fun (w : World) (a : Option Addr) (n c : Nat) => Lib.run_eql_slice_nil (P := Tryd.prog) w 40 42 a n c 0 0 Tryd.underlying40
  unfold maxLen at hm
  cases o with
  | none =>
    have h0 : cap = 0 := hR.2.2.1 rfl
    have h1 : l.length = 0 := by omega
    have h2 : l = [] := List.length_eq_zero_iff.1 h1
    subst h2
    subst h0
    clear hR hE hf hl hlen h1 hc hm
    go_enter Tryd.func77, Tryd.ntmps77
    go_wp2
    go_ret
    exact ⟨none, 0, c, rfl, RowP.nil _ _ _ _, fun j x h => by simp at h, .inl ⟨rfl, rfl⟩, Below.refl _ _⟩
  | some a =>
    have HF := Lib.hid (And.intro hf (And.intro hR hE))
    have hmk := make42 l.length (by omega)
    clear hf hR hE
    have HO : Hid (AnRel l tr w.heap.size w.heap.size w 0 (w.alloc (.cells (madeCells #[.int .i64 0, .int .i64 0, .string ⟨#[]⟩, .slice none 0 0, .slice none 0 0, .int .i64 0, .int .i64 0, .bool false] (l.length * 8)) 42))) :=
      ⟨(Below.refl _ _).alloc (Nat.le_refl _) _, fun _ _ => undef, Out.made _ _ _ _ _ _, fun i x h => absurd h (Nat.not_lt_zero _)⟩
    go_enter Tryd.func77, Tryd.ntmps77
    go_wp2_with fail
    generalize w.alloc (.cells (madeCells _ _) 42) = w0 at *
    clear hmk
    go_loopw [15] (fun i wr => ∃ j : Nat, j ≤ l.length ∧ i = .int .i64 j ∧ Hid (AnRel l tr w.heap.size w.heap.size w j wr)) (fun i _ => l.length - (intOf i).toNat)
    case atStart => exact ⟨0, Nat.zero_le _, rfl, HO⟩
    case round =>
      obtain ⟨j, hj, rfl, HR⟩ := hrel
      by_cases hlt : j < l.length
      · obtain ⟨X, hX⟩ : ∃ X, l[j]? = some X := ⟨_, List.getElem?_eq_getElem hlt⟩
        have BN := Lib.hid (HR.out.1.mono hn)
        obtain ⟨b', off', oL3, oK3, cL3, cK3, c3, e1, hb', ⟨y0, y1, y2, y3, y4, y5, y6, y7⟩, OX⟩ := (HF.out.2.1.below BN.out).elv hlt ((HF.out.2.2 j X hX).kept BN.out)
        injection e1 with e1
        subst e1
        have HX := Lib.hid hX
        have hmem := szL_mem (List.mem_of_getElem? hX)
        have OX2 := Lib.hid OX
        have HW3 := Lib.hid ((Below.refl wr.heap.size wr).alloc (Nat.le_refl _) (bx X oL3 oK3 cL3 cK3))
        clear hX OX
        go_wp2_with fail
        have hsz := HR.out.1.size
        refine (HF.out.1 n X _ _ (by omega) (OX2.out.kept (HW3.out.mono (by omega))).lies (by simp; omega)).mono ?_
        rintro e w1 ⟨oL, oK, cL, cK, c1, rfl, hO, _, _, b1⟩
        have hs1 := b1.size
        simp only [World.size_alloc] at hs1
        obtain ⟨hb2, C, ⟨cs, h1, h2, h3⟩, hold⟩ := HR.out
        have hgl : w.heap.size < wr.heap.size := (Array.getElem?_eq_some_iff.1 h1).1
        have hk : ∀ k, k < wr.heap.size → w1.heap[k]? = wr.heap[k]? := fun k hk => (b1.block k (by simp; omega)).trans (Below.heap_alloc _ _ _ hk)
        have h1' : w1.heap[w.heap.size]? = some (.cells cs 42 (0, 0)) := (hk _ hgl).trans h1
        have HS := Lib.hid (AnRel.step (Nat.le_refl _) HX.out ((hb2.trans (HW3.out.mono (by omega))).trans (b1.mono (by simp; omega))) (hO.mono fun k h => ⟨by have := h.1; simp at this; omega, h.2⟩) h1' h2 h3 hold (by omega) hk _ rfl)
        have H1 := Lib.hid (And.intro h1' h2)
        clear h1 h1' h2 h3 hold hb2 hO hk b1
        go_wp2_with ((with_reducible refine wpList_store_at rfl 42 (.tmp 25) (.tmp 24) rfl w.heap.size (j * 8) rfl _ rfl 42 cs H1.out.1 ?st1 ?st2 ?st3 ?st4); case' st4 => generalize World.setRow _ _ _ = W at *)
        case st1 => have := H1.out.2; have : (j + 1) * 8 ≤ l.length * 8 := Nat.mul_le_mul_right 8 hlt; simp; omega
        case st2 => kernel_rfl
        case st3 => exact oneCell8 _ _ _ _ _ _ _
        go_roundw
        case rel => exact ⟨j + 1, by omega, by go_num, HS⟩
        case measure => simp [intOf]; omega
      · have hjl : j = l.length := by omega
        subst hjl
        obtain ⟨hb2, C, hO, hold⟩ := HR.out
        have HQ := Lib.hid (And.intro hb2 (And.intro hO hold))
        clear hb2 hO hold
        go_wp2_with fail
        go_ret
        exact an_end HQ.out.1 HQ.out.2.1 HQ.out.2.2 (by omega)
end Go.Proofs.YtfmgbhaldakpfaaDoor
