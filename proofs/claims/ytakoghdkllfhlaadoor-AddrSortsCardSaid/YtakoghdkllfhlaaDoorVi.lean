/- Contract: Sort. -/
import Derived.Test.YtakoghdkllfhlaaDoorVh
namespace Go.Proofs.YtakoghdkllfhlaaDoor
open Go.RowKit Go.Shelf

theorem zero3 (w : World) : (zeroValue 3).run Tryd.prog w = .ok (.int .i64 0) w := by kernel_rfl
/-- how often an object stands in a list -/
noncomputable def cnt : List Obt → Value → Int
  | [], _ => 0
  | a :: r, v => open Classical in (if v = kv a then 1 else 0) + cnt r v
theorem cnt_snoc (l : List Obt) (x : Obt) (v : Value) : cnt (l ++ [x]) v = cnt l v + (open Classical in if v = kv x then 1 else 0) := by
  induction l with
  | nil => simp [cnt]
  | cons a r ih => simp only [List.cons_append, cnt, ih]; omega
theorem cnt_bd (l : List Obt) (v : Value) : 0 ≤ cnt l v ∧ cnt l v ≤ l.length := by
  induction l with
  | nil => simp [cnt]
  | cons a r ih => simp only [cnt, List.length_cons]; split <;> omega
theorem cnt_pos {l : List Obt} {x : Obt} (h : x ∈ l) : 1 ≤ cnt l (kv x) := by
  induction l with
  | nil => cases h
  | cons a r ih =>
    have b := (cnt_bd r (kv x)).1
    simp only [cnt]
    rcases List.mem_cons.1 h with rfl | h
    · rw [if_pos rfl]; omega
    · have := ih h; split <;> omega
theorem cnt_put (l : List Obt) (x : Obt) : put (fun v => .int .i64 (cnt l v)) (kv x) (.int .i64 (cnt l (kv x) + 1)) = fun v => .int .i64 (cnt (l ++ [x]) v) := by
  funext v
  unfold put
  rw [cnt_snoc]
  by_cases e : v = kv x
  · rw [if_pos e, if_pos e, e]
  · rw [if_neg e, if_neg e, Int.add_zero]
/-- the keys that may come -/
def KeyOf (l : List Obt) (v : Value) : Prop := ∃ k, k ∈ l ∧ v = kv k
theorem take_snoc {l : List Obt} {j : Nat} {x : Obt} (h : l[j]? = some x) : l.take (j + 1) = l.take j ++ [x] := by rw [List.take_add_one, h]; rfl
set_option maxRecDepth 100000 in
set_option maxHeartbeats 4000000 in
theorem sort_any {p : Option Addr} {cap : Nat} {l : List Obt} {w : World} (hK : Ks w p cap l) (hok : ∀ k, k ∈ l → OkObt k) (hl : l.length ≤ 60) : Calls Tryd.prog 23 #[.slice p l.length cap] w (SrtR l w) := by
  have HK := Lib.hid hK
  have HO := Lib.hid hok
  have HL := Lib.hid hl
  have HG : Hid (∀ v, KeyOf l v → ∃ q, keyOf Tryd.prog 26 v = some q) := fun v hv => by
    obtain ⟨k, hk, rfl⟩ := hv
    exact key_some k (hok k hk)
  have l1 := hK.lc
  have l2 := hK.cm
  unfold maxLen at l2
  have HM : Hid (Has (KeyOf l) 0 (.int .i64 0) (w.alloc (.map #[] 0)) w.heap.size fun v => .int .i64 (cnt (l.take 0) v)) := Has.made w (KeyOf l) (.int .i64 0)
  have B0 : Hid (Below w.heap.size w (w.alloc (.map #[] 0))) := (Below.refl _ w).alloc (Nat.le_refl _) _
  have hmm := @run_makeMap Tryd.prog
  clear hK hok hl
  go_enter Tryd.func23, Tryd.ntmps23
  go_wp2
  clear hmm
  generalize w.alloc _ = w0 at *
  go_loopw [9] (fun i wr => ∃ j : Nat, j ≤ l.length ∧ i = .int .i64 j ∧ Hid (Has (KeyOf l) j (.int .i64 0) wr w.heap.size fun v => .int .i64 (cnt (l.take j) v)) ∧ Hid (Below w.heap.size w wr)) (fun i _ => l.length - (intOf i).toNat)
  case atStart => exact ⟨0, Nat.zero_le _, rfl, HM.out, B0.out⟩
  case round =>
    clear HM B0
    obtain ⟨j, hj, rfl, HM, HW⟩ := hrel
    by_cases hlt : j < l.length
    · have k1 : (j : Int) < (l.length : Int) := by omega
      obtain ⟨b, o, x, rfl, hb, hx, hc⟩ := HK.out.at hlt
      have hxl : x ∈ l := List.mem_of_getElem? hx
      have HXX := Lib.hid hx
      obtain ⟨y0, y1, y2, y3, y4, y5⟩ := hc.kept HW.out hb
      obtain ⟨kl, hkl⟩ := key_some x (HO.out x hxl)
      have H7 : Has (KeyOf l) j (.int .i64 0) (wr.alloc (bk x)).drew w.heap.size fun v => .int .i64 (cnt (l.take j) v) := (HM.out.alloc _).drew
      have l1 := H7.look HG.out law26 Tryd.underlying63 zero3 hkl
      obtain ⟨st, w5, e1, h5, g5, e2⟩ := H7.entry HG.out law26 Tryd.underlying63 zero3 hkl ⟨x, hxl, rfl⟩
      have l2 := h5.look HG.out law26 Tryd.underlying63 zero3 hkl
      obtain ⟨w6, e3, h6, g6⟩ := e2 (.int .i64 (cnt (l.take j) (kv x) + 1))
      have H6 : Hid (Has (KeyOf l) (j + 1) (.int .i64 0) w6 w.heap.size fun v => .int .i64 (cnt (l.take (j + 1)) v)) := by
        rw [cnt_put, ← take_snoc hx] at h6
        exact h6
      have G : Hid (Below w.heap.size w w6) := by
        have b1 : Below w.heap.size w (wr.alloc (bk x)).drew := (HW.out.alloc HW.out.size _).drew
        have b2 := b1.grown g5 b1.size (fun i hi => by injection hi with hi; subst hi; exact Nat.le_refl _)
        exact b2.grown g6 b2.size (fun i hi => by injection hi with hi; subst hi; exact Nat.le_refl _)
      have bd := cnt_bd (l.take j) (kv x)
      rw [List.length_take] at bd
      obtain ⟨bd1, bd2⟩ := bd
      have bd3 : cnt (l.take j) (kv x) ≤ 60 := by have := HL.out; omega
      generalize cnt (l.take j) (kv x) = C at *
      clear H7 e2 h5 h6 g5 g6 hkl HM HW hc hx hxl bd2
      have e3' : (Instr.entryStore 63 (.map (some w.heap.size)) (.int .i64 st) (.int .i64 (IntKind.i64.wrap (C + 1)))).run Tryd.prog w5 = .ok () w6 := by
        rw [IntWalk.i64_in _ (by omega)]; exact e3
      go_wp2
      go_region
      all_goals
        go_wp2
        go_roundw
        case rel => exact ⟨j + 1, by omega, by go_num, H6.out, G.out⟩
        case measure => simp [intOf]; omega
    · have hjl : j = l.length := by omega
      subst hjl
      clear hlt hj
      have hv : ∀ v, KeyOf l v → ∃ c, Value.int .i64 (cnt (l.take l.length) v) = .int .i64 c ∧ (Lit.int .i64 c).wf = true := fun v _ => by
        refine ⟨_, rfl, ?_⟩
        rw [List.take_length]
        have bd := cnt_bd l v
        have := HL.out
        simp [Lit.wf, IntKind.min, IntKind.max, IntKind.signed, IntKind.bits]
        omega
      obtain ⟨D0, h1, h2, h3, h4⟩ := HM.out.owns (H := Unit) (by have := HL.out; unfold maxLen; omega) HG.out law26 Tryd.underlying3 hv
      have hin : KeysAre D0 := fun v kl hk hh => by
        obtain ⟨k, _, e⟩ := h2 v kl hk hh
        exact ⟨k, e⟩
      have hS : ∀ ss, AllOf D0 ss → (ss.Nodup ∧ ∀ x, x ∈ ss ↔ x ∈ l) ∧ ss.length ≤ Go.Maps.size D0 := fun ss hs => by
        refine ⟨⟨hs.1.1, fun x => ?_⟩, hs.2⟩
        rw [hs.1.2 x]
        constructor
        · rintro ⟨kl, hk, hh⟩
          obtain ⟨k, hkl, e⟩ := h2 _ kl hk hh
          rw [kv_inj e]; exact hkl
        · intro hx
          obtain ⟨kl, hk⟩ := key_some x (HO.out x hx)
          refine ⟨kl, hk, h3 _ kl hk fun e => ?_⟩
          have h5 := cnt_pos hx
          rw [List.take_length] at e
          injection e with _ e
          omega
      have HKC := Lib.hid ((callsIn_wide (n := 1)).1 (keys_in Fence.wide 1 trivial rfl (some w.heap.size) wr))
      have bM := Boxed.new wr 63 (.map (some w.heap.size))
      have HSC := Lib.hid (sorted_any 71 #[.pointer (some ⟨wr.heap.size, 0, none⟩)] (enters_of Tryd.func71 (by kernel_rfl) rfl) (AllOf D0) (fun _ => True) (Go.Maps.size D0) (by have := HL.out; unfold maxLen; omega) (by have := HL.out; omega) (wr.alloc (.cells #[.map (some w.heap.size)] 63))
        (keys_stops Fence.wide 1 trivial rfl (Nat.le_refl _) wr.heap.size w.heap.size l.length D0 hin _ (by simp) bM.cell (h1.alloc _)) l hS)
      clear h1 h2 h3 h4 hin hS hv bM HM
      go_wp2_with fail
      refine HKC.out.mono ?_
      rintro e w1 ⟨rfl, rfl⟩
      go_wp2_with fail
      refine HSC.out.mono ?_
      rintro e w2 ⟨p', c', l', rfl, hs, hk, hb⟩
      have HE := Lib.hid (And.intro hs (And.intro hk ((HW.out.alloc HW.out.size _).trans (hb.mono (by have := HW.out.size; simp; omega)))))
      clear hs hk hb
      go_wp2_with fail
      go_ret
      exact ⟨p', c', l', rfl, HE.out.1, HE.out.2.1, HE.out.2.2⟩
end Go.Proofs.YtakoghdkllfhlaaDoor
