/- GetStr of package code; the reader of package addr. -/
import Derived.Test.YtakoghdkllfhlaaDoorRd
import Derived.Test.YtakoghdkllfhlaaDoorRf
import Derived.Test.YtakoghdkllfhlaaDoorRj
import Derived.Deep.Cut
import Derived.Deep.RegionHeld3
namespace Go.Proofs.YtakoghdkllfhlaaDoor
open Go.RowKit

set_option maxRecDepth 100000 in
set_option maxHeartbeats 2000000 in
theorem getStr_any {nb cap : Nat} {o : Option Addr} {M : List Nat} {w : World} (B : Bts nb w o cap M) (hnb : nb ≤ w.heap.size) : Calls Tryd.prog 98 #[.slice o M.length cap, .int .i64 24] w fun e w' => e = rstrV (gstr M 24) ∧ Below w.heap.size w w' := by
  have HW := Lib.hid ((Below.refl w.heap.size w).alloc (Nat.le_refl _) (.cells #[.slice o M.length cap, .int .i64 0, .int .i64 0] 141))
  have HR0 : Hid (Rdr (w.alloc (.cells #[.slice o M.length cap, .int .i64 0, .int .i64 0] 141)) w.heap.size o cap M 0 0) :=
    ⟨heap_alloc_new _ _, ⟨(B.row.mono fun k hk => by omega : Row w.heap.size w o cap M.length 1 (bf M)).below HW.out, B.b, B.sp⟩, Nat.zero_le _, Nat.zero_le _⟩
  have HZ : Hid ((w.alloc (.cells #[.slice o M.length cap, .int .i64 0, .int .i64 0] 141)).heap.size = w.heap.size + 1) := by simp [Hid]
  clear B
  go_enter Tryd.func98, Tryd.ntmps98
  go_upto_region 2 with fail
  generalize w.alloc _ = w0 at *
  have S := text_any HR0.out
  rw [List.drop_zero] at S
  have HE : Hid (∀ w', Exc (some w.heap.size) w0 w' → Below w.heap.size w w') := fun w' x => HW.out.trans (x.below HW.out.size fun k h => by injection h with h; omega)
  cases hg : gstr M 24 with
  | error z =>
    rw [hg] at S
    have hz : ((z : Int) != 0) = true := by rw [bne_iff_ne]; have := gstr_err hg; omega
    have HS := Lib.hid S
    have HG := Lib.hid hg
    clear S hg
    go_wp2_with fail
    refine HS.out.mono ?_
    rintro e w1 ⟨x, rfl, _, hR⟩
    have HR := Lib.hid hR
    clear hR
    unfold strV
    go_wp2_with fail
    go_ret3
    exact ⟨by rw [HG.out]; rfl, HE.out _ HR.out.x⟩
  | ok p =>
    obtain ⟨s, k⟩ := p
    rw [hg] at S
    have HS := Lib.hid S
    have HG := Lib.hid hg
    clear S hg
    go_wp2_with fail
    refine HS.out.mono ?_
    rintro e w1 ⟨x, rfl, hx, hR⟩
    have HX : Hid (x = k) := by unfold Hid; unfold usedS at hx; simpa using hx
    have HR := Lib.hid hR
    obtain ⟨x0, x1, x2, x3, x4, x5⟩ := hR.r.rc
    clear hR hx
    unfold strV
    go_wp2_with fail
    go_quiet (fail)
    go_wp2_with fail
    go_ret3
    exact ⟨by rw [HG.out, HX.out]; rfl, (HE.out _ HR.out.x).trans (below_drewN (Below.refl _ _) _)⟩
/-- a reader of package addr in block rb: where it is, and what was wrong -/
structure Rda (w : World) (rb : Nat) (o : Option Addr) (cap : Nat) (M : List Nat) (at' e : Nat) : Prop where
  row : w.heap[rb]? = some (.cells #[.slice o M.length cap, .int .i64 at', .int .i64 e] 78 (0, 0))
  B : Bts rb w o cap M
  le : at' ≤ M.length
theorem Rda.lt {w : World} {rb : Nat} {o : Option Addr} {cap : Nat} {M : List Nat} {at' wt : Nat} (h : Rda w rb o cap M at' wt) : rb < w.heap.size := (Array.getElem?_eq_some_iff.1 h.row).1
theorem Rda.kept {w w' : World} {rb : Nat} {o : Option Addr} {cap : Nat} {M : List Nat} {at' wt m : Nat} (h : Rda w rb o cap M at' wt) (hb : Below m w w') (hm : rb < m) : Rda w' rb o cap M at' wt :=
  ⟨(hb.block rb hm).trans h.row, h.B.kept (hb.mono (by omega)), h.le⟩
theorem Rda.rc {w : World} {rb : Nat} {o : Option Addr} {cap : Nat} {M : List Nat} {at' wt : Nat} (h : Rda w rb o cap M at' wt) : RC w rb (.slice o M.length cap) at' wt :=
  ⟨cell_of_row w rb 0 _ _ _ h.row, cell_of_row w rb 1 _ _ _ h.row, cell_of_row w rb 2 _ _ _ h.row, frozen_of_row w rb 1 _ _ h.row, frozen_of_row w rb 2 _ _ h.row, (Array.getElem?_eq_some_iff.1 h.row).1⟩
theorem Rda.set1 {w : World} {rb : Nat} {o : Option Addr} {cap : Nat} {M : List Nat} {at' wt x : Nat} (h : Rda w rb o cap M at' wt) (hx : x ≤ M.length) : Rda (w.setCell ⟨rb, 1, none⟩ (.int .i64 x)) rb o cap M x wt :=
  ⟨(heap_setCell_same w rb 1 _ _ _ h.row).trans rfl, h.B.kept (Below.setCell (Below.refl rb w) (p := ⟨rb, 1, none⟩) (Nat.le_refl rb) _), hx⟩
theorem Rda.set2 {w : World} {rb : Nat} {o : Option Addr} {cap : Nat} {M : List Nat} {at' wt x : Nat} (h : Rda w rb o cap M at' wt) : Rda (w.setCell ⟨rb, 2, none⟩ (.int .i64 x)) rb o cap M at' x :=
  ⟨(heap_setCell_same w rb 2 _ _ _ h.row).trans rfl, h.B.kept (Below.setCell (Below.refl rb w) (p := ⟨rb, 2, none⟩) (Nat.le_refl rb) _), h.le⟩
/-- what a reader's call leaves -/
structure Rx (w : World) (rb : Nat) (o : Option Addr) (cap : Nat) (M : List Nat) (at' e : Nat) (w' : World) : Prop where
  r : Rda w' rb o cap M at' e
  x : Exc (some rb) w w'
/-- a text, where the reader is then, and what is wrong -/
def stText (M : List Nat) (a e : Nat) : ByteArray × Nat × Nat := if e ≠ 0 then (⟨#[]⟩, a, e) else match gstr (M.drop a) 24 with
  | .ok (s, k) => (s, a + k, 0)
  | .error z => (⟨#[]⟩, a, z)
def stShort (M : List Nat) (a e : Nat) : Nat × Nat × Nat := if e ≠ 0 then (0, a, e) else match gs 0 (M.drop a) with
  | .ok (n, k) => (n, a + k, 0)
  | .error z => (0, a, z)
def stKind (M : List Nat) (a e : Nat) : Nat × Nat × Nat := if e ≠ 0 then (0, a, e) else match M.drop a with
  | [] => (0, a, 2)
  | c :: _ => if 2 < c then (0, a, 4) else (c, a + 1, 0)
theorem gstr_len {M : List Nat} {m : Nat} {s : ByteArray} {k : Nat} (h : gstr M m = .ok (s, k)) : k ≤ M.length := by
  unfold gstr at h
  split at h
  · cases h
  · rename_i n u hg
    have := (gs_ok hg).1
    split at h
    · cases h
    · split at h
      · cases h
      · simp only [Except.ok.injEq, Prod.mk.injEq] at h
        omega
/-- where a slice's rest lies -/
def cutA (o : Option Addr) (cap at' : Nat) : Option Addr := match o with
  | none => none
  | some a => if cap = at' then some a else some (a.add at')
set_option maxRecDepth 100000 in
set_option maxHeartbeats 4000000 in
theorem atext_any {rb : Nat} {o : Option Addr} {cap : Nat} {M : List Nat} {at' e : Nat} {w : World} (R : Rda w rb o cap M at' e) :
    Calls Tryd.prog 80 #[.pointer (some ⟨rb, 0, none⟩)] w fun r w' => r = .returned (.string (stText M at' e).1) ∧ Rx w rb o cap M (stText M at' e).2.1 (stText M at' e).2.2 w' := by
  have H := Lib.hid R
  have l1 := R.B.row.1
  have l2 := R.B.row.2.1
  have le := R.le
  unfold maxLen at l2
  obtain ⟨x0, x1, x2, x3, x4, x5⟩ := H.out.rc
  clear R
  by_cases he : e = 0
  case neg =>
    have hs : stText M at' e = (⟨#[]⟩, at', e) := by unfold stText; rw [if_pos he]
    rw [hs]
    have h1 : ((e : Int) != 0) = true := by rw [bne_iff_ne]; omega
    clear hs he
    go_enter Tryd.func80, Tryd.ntmps80
    go_wp2_with fail
    go_ret
    exact ⟨rfl, H.out, Exc.refl _ _⟩
  subst he
  obtain ⟨s, k, z, hV, hk, hst⟩ : ∃ s k z, rstrV (gstr (M.drop at') 24) = .returned (.tuple #[.string s, .int .i64 (k : Nat), .int .i64 (z : Nat)]) ∧ at' + k ≤ M.length ∧ stText M at' 0 = (s, at' + k, z) := by
    unfold stText
    rw [if_neg (by simp)]
    cases hg : gstr (M.drop at') 24 with
    | error z => exact ⟨⟨#[]⟩, 0, z, rfl, by omega, rfl⟩
    | ok p =>
      obtain ⟨s, k⟩ := p
      have h1 := gstr_len (M := M.drop at') hg
      rw [List.length_drop] at h1
      exact ⟨s, k, 0, rfl, by omega, rfl⟩
  rw [hst]
  dsimp only
  have HS : Hid (∀ w1, Below rb w w1 → rb ≤ w1.heap.size → Calls Tryd.prog 98 #[.slice (cutA o cap at') (M.length - at') (cap - at'), .int .i64 24] w1 fun e w' => e = .returned (.tuple #[.string s, .int .i64 (k : Nat), .int .i64 (z : Nat)]) ∧ Below w1.heap.size w1 w') := fun w1 b hr => by
    rw [← hV]
    have hlen : M.length - at' = (M.drop at').length := List.length_drop.symm
    have S : ∀ (o' : Option Addr) (cap' : Nat) w, Bts rb w o' cap' (M.drop at') → rb ≤ w.heap.size → Calls Tryd.prog 98 #[.slice o' (M.drop at').length cap', .int .i64 24] w fun e w' => e = rstrV (gstr (M.drop at') 24) ∧ Below w.heap.size w w' := fun o' cap' w B h => getStr_any B h
    rw [hlen]
    cases o with
    | none =>
      have hn := H.out.B.nil
      refine S none (cap - at') w1 ?_ hr
      rw [hn.1, hn.2, List.drop_nil, Nat.zero_sub]
      exact ⟨⟨Nat.le_refl _, Nat.zero_le _, fun _ => rfl, fun h => absurd h (Nat.lt_irrefl _)⟩, (fun c hc => by cases hc), fun a e => by cases e⟩
    | some a =>
      have hsp := H.out.B.sp a rfl
      obtain ⟨b', off, spot⟩ := a
      simp only at hsp
      subst hsp
      refine Calls.mono ?_ fun _ _ h => h
      have C := (H.out.B.kept b).cut le
      have ea : (⟨b', off, none⟩ : Addr).add at' = ⟨b', off + at', none⟩ := by unfold Addr.add; split <;> simp_all
      simp only [cutA, ea]
      exact S _ _ w1 C hr
  have HK : Hid (∀ (w1 : World), Below w.heap.size w w1 → Rx w rb o cap M (at' + k) z ((w1.setCell ⟨rb, 1, none⟩ (.int .i64 ((at' : Int) + k))).setCell ⟨rb, 2, none⟩ (.int .i64 z))) := fun w1 b => by
    rw [← Int.natCast_add]
    exact ⟨((H.out.kept b x5).set1 hk).set2, (Exc.of_below b).trans (exc_set.trans exc_set)⟩
  have HC : Hid (∀ (w1 : World), Below w.heap.size w w1 → w1.cell? ⟨rb, 1, none⟩ = some (.int .i64 at') ∧ w1.cell? ⟨rb, 2, none⟩ = some (.int .i64 0) ∧ w1.frozen? ⟨rb, 1, none⟩ = false ∧ w1.frozen? ⟨rb, 2, none⟩ = false ∧ rb < w1.heap.size) := fun w1 b => by
    obtain ⟨y0, y1, y2, y3, y4, y5⟩ := (H.out.kept b x5).rc
    exact ⟨y1, y2, y3, y4, y5⟩
  have hn0 : o = none → M.length = 0 ∧ cap = 0 ∧ at' = 0 := fun e => by
    subst e
    have hn := H.out.B.nil
    have h0 : M.length = 0 := by rw [hn.2]; rfl
    exact ⟨h0, hn.1, by omega⟩
  clear hst hV H
  obtain ⟨N, hN⟩ : ∃ N, N = w.heap.size := ⟨_, rfl⟩
  have S0 := held_at hN
  rw [← hN] at HK HC x5
  have HN := Lib.hid hN
  clear hN
  cases o with
  | none =>
    obtain ⟨h0, h1, h2⟩ := hn0 rfl
    clear hn0
    subst h1 h2
    rw [h0] at HS x0 le hk
    clear l1 h0 l2
    obtain rfl : k = 0 := by omega
    simp only [cutA] at HS
    go_enter Tryd.func80, Tryd.ntmps80
    go_upto_region 3 with fail
    refine wp_region_noPanic ?_
    refine wp_region_held_drew (S := (fun W => (∀ b o, b < N → W.cell? ⟨b, o, none⟩ = w.cell? ⟨b, o, none⟩) ∧ Hid (Below N w W) ∧ Hid (N ≤ W.heap.size))) (by kernel_rfl) ?_ (fun hH => ?_)
    · exact S0
    refine wpAnyH_take (i := 0) (oi := { dst := some 12, op := Op.move (Operand.tmp 0), type := 103, pos := "form.go:88", after := #[], guard := none }) (v := ?_) rfl (by kernel_rfl) (by kernel_rfl) (by kernel_rfl) (fun _ _ _ h => h) (Or.inl ⟨by rfl, ?_⟩) (by assumption) ?_
    rotate_left
    · (intro w hSw; (try dsimp only at hSw); go_simp; try with_reducible rfl)
    try simp only [Act.put, List.setIfInBounds_toArray, List.set_cons_zero, List.set_cons_succ]
    refine wpAnyH_take (i := 1) (oi := { dst := some 13, op := Op.nilCheck (Operand.tmp 12), type := 0, pos := "form.go:88", after := #[{ on := 0, ground := Ground.data }], guard := none }) (v := ?_) rfl (by kernel_rfl) (by kernel_rfl) (by kernel_rfl) (fun _ _ _ h => h) (Or.inl ⟨by rfl, ?_⟩) (by assumption) ?_
    rotate_left
    · (intro w hSw; (try dsimp only at hSw); go_simp; try with_reducible rfl)
    try simp only [Act.put, List.setIfInBounds_toArray, List.set_cons_zero, List.set_cons_succ]
    refine wpAnyH_take (i := 2) (oi := { dst := some 14, op := Op.fieldAddr 78 (Operand.tmp 13) 0, type := 0, pos := "form.go:88", after := #[{ on := 1, ground := Ground.data }], guard := none }) (v := ?_) rfl (by kernel_rfl) (by kernel_rfl) (by kernel_rfl) (fun _ _ _ h => h) (Or.inl ⟨by rfl, ?_⟩) (by assumption) ?_
    rotate_left
    · (intro w hSw; (try dsimp only at hSw); go_simp; try with_reducible rfl)
    try simp only [Act.put, List.setIfInBounds_toArray, List.set_cons_zero, List.set_cons_succ]
    refine wpAnyH_take (i := 3) (oi := { dst := some 15, op := Op.load 49 (Operand.tmp 14), type := 49, pos := "form.go:88", after := #[{ on := 2, ground := Ground.data }], guard := none }) (v := ?_) rfl (by kernel_rfl) (by kernel_rfl) (by kernel_rfl) (fun _ _ _ h => h) (Or.inl ⟨by rfl, ?_⟩) (by assumption) ?_
    rotate_left
    · (intro w hSw; (try dsimp only at hSw); go_simp; try with_reducible rfl)
    try simp only [Act.put, List.setIfInBounds_toArray, List.set_cons_zero, List.set_cons_succ]
    refine wpAnyH_take (i := 4) (oi := { dst := some 16, op := Op.move (Operand.tmp 0), type := 103, pos := "form.go:88", after := #[], guard := none }) (v := ?_) rfl (by kernel_rfl) (by kernel_rfl) (by kernel_rfl) (fun _ _ _ h => h) (Or.inl ⟨by rfl, ?_⟩) (by assumption) ?_
    rotate_left
    · (intro w hSw; (try dsimp only at hSw); go_simp; try with_reducible rfl)
    try simp only [Act.put, List.setIfInBounds_toArray, List.set_cons_zero, List.set_cons_succ]
    refine wpAnyH_take (i := 5) (oi := { dst := some 17, op := Op.nilCheck (Operand.tmp 16), type := 0, pos := "form.go:88", after := #[{ on := 4, ground := Ground.data }], guard := none }) (v := ?_) rfl (by kernel_rfl) (by kernel_rfl) (by kernel_rfl) (fun _ _ _ h => h) (Or.inl ⟨by rfl, ?_⟩) (by assumption) ?_
    rotate_left
    · (intro w hSw; (try dsimp only at hSw); go_simp; try with_reducible rfl)
    try simp only [Act.put, List.setIfInBounds_toArray, List.set_cons_zero, List.set_cons_succ]
    refine wpAnyH_take (i := 6) (oi := { dst := some 18, op := Op.fieldAddr 78 (Operand.tmp 17) 1, type := 0, pos := "form.go:88", after := #[{ on := 5, ground := Ground.data }], guard := none }) (v := ?_) rfl (by kernel_rfl) (by kernel_rfl) (by kernel_rfl) (fun _ _ _ h => h) (Or.inl ⟨by rfl, ?_⟩) (by assumption) ?_
    rotate_left
    · (intro w hSw; (try dsimp only at hSw); go_simp; try with_reducible rfl)
    try simp only [Act.put, List.setIfInBounds_toArray, List.set_cons_zero, List.set_cons_succ]
    refine wpAnyH_take (i := 7) (oi := { dst := some 19, op := Op.load 3 (Operand.tmp 18), type := 3, pos := "form.go:88", after := #[{ on := 6, ground := Ground.data }], guard := none }) (v := ?_) rfl (by kernel_rfl) (by kernel_rfl) (by kernel_rfl) (fun _ _ _ h => h) (Or.inl ⟨by rfl, ?_⟩) (by assumption) ?_
    rotate_left
    · (intro w hSw; (try dsimp only at hSw); go_simp; try with_reducible rfl)
    try simp only [Act.put, List.setIfInBounds_toArray, List.set_cons_zero, List.set_cons_succ]
    refine wpAnyH_take (i := 8) (oi := { dst := some 20, op := Op.slice 49 (Operand.tmp 15) (some (Operand.tmp 19)) none none, type := 49, pos := "form.go:88", after := #[{ on := 3, ground := Ground.data }, { on := 7, ground := Ground.data }], guard := none }) (v := ?_) rfl (by kernel_rfl) (by kernel_rfl) (by kernel_rfl) (fun _ _ _ h => h) (Or.inl ⟨by rfl, ?_⟩) (by assumption) ?_
    rotate_left
    · (intro w hSw; (try dsimp only at hSw); go_simp; try with_reducible rfl)
    try simp only [Act.put, List.setIfInBounds_toArray, List.set_cons_zero, List.set_cons_succ]
    refine wpAnyH_ready (rs := [9]) (by kernel_rfl) (by simp) ?_
    refine AllReadyH.cons (o := { dst := some 21, op := Op.call { callee := Callee.value (Operand.func 98), args := #[Operand.tmp 20, Operand.const (Value.int IntKind.i64 24)], argTypes := #[49, 3] }, type := 120, pos := "form.go:88", after := #[{ on := 8, ground := Ground.data }], guard := none }) rfl (fun K hK => ?_) AllReadyH.nil
    go_simp
    refine (HS.out _ (hH.2.1.out.mono (by omega)) (by have := hH.2.2.out; omega)).mono ?_
    rintro e W_0 ⟨rfl, b⟩
    refine hK.out _ _ ?_ (fun hH' => ?_)
    · exact held_next (by assumption) hH
    clear hK K hH
    have hH := hH'
    clear hH'
    try simp only [Act.put, List.setIfInBounds_toArray, List.set_cons_zero, List.set_cons_succ]
    refine wpAnyH_take (i := 10) (oi := { dst := some 11, op := Op.move (Operand.tmp 21), type := 120, pos := "form.go:88", after := #[{ on := 9, ground := Ground.data }], guard := none }) (v := ?_) rfl (by kernel_rfl) (by kernel_rfl) (by kernel_rfl) (fun _ _ _ h => h) (Or.inl ⟨by rfl, ?_⟩) (by assumption) ?_
    rotate_left
    · (intro w hSw; (try dsimp only at hSw); go_simp; try with_reducible rfl)
    try simp only [Act.put, List.setIfInBounds_toArray, List.set_cons_zero, List.set_cons_succ]
    refine wpAnyH_take (i := 11) (oi := { dst := some 22, op := Op.extract (Operand.tmp 11) 0, type := 9, pos := "form.go:88", after := #[{ on := 10, ground := Ground.data }], guard := none }) (v := ?_) rfl (by kernel_rfl) (by kernel_rfl) (by kernel_rfl) (fun _ _ _ h => h) (Or.inl ⟨by rfl, ?_⟩) (by assumption) ?_
    rotate_left
    · (intro w hSw; (try dsimp only at hSw); go_simp; try with_reducible rfl)
    try simp only [Act.put, List.setIfInBounds_toArray, List.set_cons_zero, List.set_cons_succ]
    refine wpAnyH_take (i := 12) (oi := { dst := some 23, op := Op.extract (Operand.tmp 11) 1, type := 3, pos := "form.go:88", after := #[{ on := 10, ground := Ground.data }, { on := 14, ground := Ground.gcOnly Departure.lateStores }], guard := none }) (v := ?_) rfl (by kernel_rfl) (by kernel_rfl) (by kernel_rfl) (fun _ _ _ h => h) (Or.inl ⟨by rfl, ?_⟩) (by assumption) ?_
    rotate_left
    · (intro w hSw; (try dsimp only at hSw); go_simp; try with_reducible rfl)
    try simp only [Act.put, List.setIfInBounds_toArray, List.set_cons_zero, List.set_cons_succ]
    refine wpAnyH_take (i := 13) (oi := { dst := some 24, op := Op.extract (Operand.tmp 11) 2, type := 29, pos := "form.go:88", after := #[{ on := 10, ground := Ground.data }, { on := 15, ground := Ground.gcOnly Departure.lateStores }], guard := none }) (v := ?_) rfl (by kernel_rfl) (by kernel_rfl) (by kernel_rfl) (fun _ _ _ h => h) (Or.inl ⟨by rfl, ?_⟩) (by assumption) ?_
    rotate_left
    · (intro w hSw; (try dsimp only at hSw); go_simp; try with_reducible rfl)
    try simp only [Act.put, List.setIfInBounds_toArray, List.set_cons_zero, List.set_cons_succ]
    refine wpAnyH_take (i := 14) (oi := { dst := some 3, op := Op.assign (Operand.tmp 22), type := 9, pos := "form.go:88", after := #[{ on := 11, ground := Ground.data }, { on := 9, ground := Ground.chain }, { on := 0, ground := Ground.phase }, { on := 1, ground := Ground.phase }, { on := 2, ground := Ground.phase }, { on := 3, ground := Ground.phase }, { on := 4, ground := Ground.phase }, { on := 5, ground := Ground.phase }, { on := 6, ground := Ground.phase }, { on := 7, ground := Ground.phase }, { on := 8, ground := Ground.phase }, { on := 9, ground := Ground.phase }, { on := 10, ground := Ground.phase }, { on := 11, ground := Ground.phase }, { on := 12, ground := Ground.textOnly Departure.lateStores }, { on := 13, ground := Ground.textOnly Departure.lateStores }], guard := none }) (v := ?_) rfl (by kernel_rfl) (by kernel_rfl) (by kernel_rfl) (fun _ _ _ h => h) (Or.inl ⟨by rfl, ?_⟩) (by assumption) ?_
    rotate_left
    · (intro w hSw; (try dsimp only at hSw); go_simp; try with_reducible rfl)
    try simp only [Act.put, List.setIfInBounds_toArray, List.set_cons_zero, List.set_cons_succ]
    refine wpAnyH_take (i := 15) (oi := { dst := some 4, op := Op.assign (Operand.tmp 23), type := 3, pos := "form.go:88", after := #[{ on := 12, ground := Ground.data }, { on := 14, ground := Ground.chain }, { on := 0, ground := Ground.phase }, { on := 1, ground := Ground.phase }, { on := 2, ground := Ground.phase }, { on := 3, ground := Ground.phase }, { on := 4, ground := Ground.phase }, { on := 5, ground := Ground.phase }, { on := 6, ground := Ground.phase }, { on := 7, ground := Ground.phase }, { on := 8, ground := Ground.phase }, { on := 9, ground := Ground.phase }, { on := 10, ground := Ground.phase }, { on := 11, ground := Ground.phase }, { on := 12, ground := Ground.phase }, { on := 13, ground := Ground.textOnly Departure.lateStores }, { on := 14, ground := Ground.phase }], guard := none }) (v := ?_) rfl (by kernel_rfl) (by kernel_rfl) (by kernel_rfl) (fun _ _ _ h => h) (Or.inl ⟨by rfl, ?_⟩) (by assumption) ?_
    rotate_left
    · (intro w hSw; (try dsimp only at hSw); go_simp; try with_reducible rfl)
    try simp only [Act.put, List.setIfInBounds_toArray, List.set_cons_zero, List.set_cons_succ]
    refine wpAnyH_take (i := 16) (oi := { dst := some 5, op := Op.assign (Operand.tmp 24), type := 29, pos := "form.go:88", after := #[{ on := 13, ground := Ground.data }, { on := 15, ground := Ground.chain }, { on := 0, ground := Ground.phase }, { on := 1, ground := Ground.phase }, { on := 2, ground := Ground.phase }, { on := 3, ground := Ground.phase }, { on := 4, ground := Ground.phase }, { on := 5, ground := Ground.phase }, { on := 6, ground := Ground.phase }, { on := 7, ground := Ground.phase }, { on := 8, ground := Ground.phase }, { on := 9, ground := Ground.phase }, { on := 10, ground := Ground.phase }, { on := 11, ground := Ground.phase }, { on := 12, ground := Ground.phase }, { on := 13, ground := Ground.phase }, { on := 14, ground := Ground.phase }, { on := 15, ground := Ground.phase }], guard := none }) (v := ?_) rfl (by kernel_rfl) (by kernel_rfl) (by kernel_rfl) (fun _ _ _ h => h) (Or.inl ⟨by rfl, ?_⟩) (by assumption) ?_
    rotate_left
    · (intro w hSw; (try dsimp only at hSw); go_simp; try with_reducible rfl)
    try simp only [Act.put, List.setIfInBounds_toArray, List.set_cons_zero, List.set_cons_succ]
    refine wpAnyH_done (by kernel_rfl) ?_ _
    refine NoPanic.normal ?_
    have E1 := Lib.hid hH.2.1.out
    clear hH S0 HS x0 x1 x2 x3 x4
    obtain ⟨x1, x2, x3, x4, x6⟩ := HC.out _ E1.out
    go_wp2_with fail
    go_ret
    exact ⟨rfl, HK.out _ E1.out⟩
  | some a =>
    clear hn0
    simp only [cutA] at HS
    go_enter Tryd.func80, Tryd.ntmps80
    go_upto_region 3 with fail
    refine wp_region_noPanic ?_
    refine wp_region_held_drew (S := (fun W => (∀ b o, b < N → W.cell? ⟨b, o, none⟩ = w.cell? ⟨b, o, none⟩) ∧ Hid (Below N w W) ∧ Hid (N ≤ W.heap.size))) (by kernel_rfl) ?_ (fun hH => ?_)
    · exact S0
    refine wpAnyH_take (i := 0) (oi := { dst := some 12, op := Op.move (Operand.tmp 0), type := 103, pos := "form.go:88", after := #[], guard := none }) (v := ?_) rfl (by kernel_rfl) (by kernel_rfl) (by kernel_rfl) (fun _ _ _ h => h) (Or.inl ⟨by rfl, ?_⟩) (by assumption) ?_
    rotate_left
    · (intro w hSw; (try dsimp only at hSw); go_simp; try with_reducible rfl)
    try simp only [Act.put, List.setIfInBounds_toArray, List.set_cons_zero, List.set_cons_succ]
    refine wpAnyH_take (i := 1) (oi := { dst := some 13, op := Op.nilCheck (Operand.tmp 12), type := 0, pos := "form.go:88", after := #[{ on := 0, ground := Ground.data }], guard := none }) (v := ?_) rfl (by kernel_rfl) (by kernel_rfl) (by kernel_rfl) (fun _ _ _ h => h) (Or.inl ⟨by rfl, ?_⟩) (by assumption) ?_
    rotate_left
    · (intro w hSw; (try dsimp only at hSw); go_simp; try with_reducible rfl)
    try simp only [Act.put, List.setIfInBounds_toArray, List.set_cons_zero, List.set_cons_succ]
    refine wpAnyH_take (i := 2) (oi := { dst := some 14, op := Op.fieldAddr 78 (Operand.tmp 13) 0, type := 0, pos := "form.go:88", after := #[{ on := 1, ground := Ground.data }], guard := none }) (v := ?_) rfl (by kernel_rfl) (by kernel_rfl) (by kernel_rfl) (fun _ _ _ h => h) (Or.inl ⟨by rfl, ?_⟩) (by assumption) ?_
    rotate_left
    · (intro w hSw; (try dsimp only at hSw); go_simp; try with_reducible rfl)
    try simp only [Act.put, List.setIfInBounds_toArray, List.set_cons_zero, List.set_cons_succ]
    refine wpAnyH_take (i := 3) (oi := { dst := some 15, op := Op.load 49 (Operand.tmp 14), type := 49, pos := "form.go:88", after := #[{ on := 2, ground := Ground.data }], guard := none }) (v := ?_) rfl (by kernel_rfl) (by kernel_rfl) (by kernel_rfl) (fun _ _ _ h => h) (Or.inl ⟨by rfl, ?_⟩) (by assumption) ?_
    rotate_left
    · (intro w hSw; (try dsimp only at hSw); go_simp; try with_reducible rfl)
    try simp only [Act.put, List.setIfInBounds_toArray, List.set_cons_zero, List.set_cons_succ]
    refine wpAnyH_take (i := 4) (oi := { dst := some 16, op := Op.move (Operand.tmp 0), type := 103, pos := "form.go:88", after := #[], guard := none }) (v := ?_) rfl (by kernel_rfl) (by kernel_rfl) (by kernel_rfl) (fun _ _ _ h => h) (Or.inl ⟨by rfl, ?_⟩) (by assumption) ?_
    rotate_left
    · (intro w hSw; (try dsimp only at hSw); go_simp; try with_reducible rfl)
    try simp only [Act.put, List.setIfInBounds_toArray, List.set_cons_zero, List.set_cons_succ]
    refine wpAnyH_take (i := 5) (oi := { dst := some 17, op := Op.nilCheck (Operand.tmp 16), type := 0, pos := "form.go:88", after := #[{ on := 4, ground := Ground.data }], guard := none }) (v := ?_) rfl (by kernel_rfl) (by kernel_rfl) (by kernel_rfl) (fun _ _ _ h => h) (Or.inl ⟨by rfl, ?_⟩) (by assumption) ?_
    rotate_left
    · (intro w hSw; (try dsimp only at hSw); go_simp; try with_reducible rfl)
    try simp only [Act.put, List.setIfInBounds_toArray, List.set_cons_zero, List.set_cons_succ]
    refine wpAnyH_take (i := 6) (oi := { dst := some 18, op := Op.fieldAddr 78 (Operand.tmp 17) 1, type := 0, pos := "form.go:88", after := #[{ on := 5, ground := Ground.data }], guard := none }) (v := ?_) rfl (by kernel_rfl) (by kernel_rfl) (by kernel_rfl) (fun _ _ _ h => h) (Or.inl ⟨by rfl, ?_⟩) (by assumption) ?_
    rotate_left
    · (intro w hSw; (try dsimp only at hSw); go_simp; try with_reducible rfl)
    try simp only [Act.put, List.setIfInBounds_toArray, List.set_cons_zero, List.set_cons_succ]
    refine wpAnyH_take (i := 7) (oi := { dst := some 19, op := Op.load 3 (Operand.tmp 18), type := 3, pos := "form.go:88", after := #[{ on := 6, ground := Ground.data }], guard := none }) (v := ?_) rfl (by kernel_rfl) (by kernel_rfl) (by kernel_rfl) (fun _ _ _ h => h) (Or.inl ⟨by rfl, ?_⟩) (by assumption) ?_
    rotate_left
    · (intro w hSw; (try dsimp only at hSw); go_simp; try with_reducible rfl)
    try simp only [Act.put, List.setIfInBounds_toArray, List.set_cons_zero, List.set_cons_succ]
    refine wpAnyH_take (i := 8) (oi := { dst := some 20, op := Op.slice 49 (Operand.tmp 15) (some (Operand.tmp 19)) none none, type := 49, pos := "form.go:88", after := #[{ on := 3, ground := Ground.data }, { on := 7, ground := Ground.data }], guard := none }) (v := ?_) rfl (by kernel_rfl) (by kernel_rfl) (by kernel_rfl) (fun _ _ _ h => h) (Or.inl ⟨by rfl, ?_⟩) (by assumption) ?_
    rotate_left
    · (intro w hSw; (try dsimp only at hSw); go_simp; try with_reducible rfl)
    try simp only [Act.put, List.setIfInBounds_toArray, List.set_cons_zero, List.set_cons_succ]
    refine wpAnyH_ready (rs := [9]) (by kernel_rfl) (by simp) ?_
    refine AllReadyH.cons (o := { dst := some 21, op := Op.call { callee := Callee.value (Operand.func 98), args := #[Operand.tmp 20, Operand.const (Value.int IntKind.i64 24)], argTypes := #[49, 3] }, type := 120, pos := "form.go:88", after := #[{ on := 8, ground := Ground.data }], guard := none }) rfl (fun K hK => ?_) AllReadyH.nil
    go_simp
    refine (HS.out _ (hH.2.1.out.mono (by omega)) (by have := hH.2.2.out; omega)).mono ?_
    rintro e W_0 ⟨rfl, b⟩
    refine hK.out _ _ ?_ (fun hH' => ?_)
    · exact held_next (by assumption) hH
    clear hK K hH
    have hH := hH'
    clear hH'
    try simp only [Act.put, List.setIfInBounds_toArray, List.set_cons_zero, List.set_cons_succ]
    refine wpAnyH_take (i := 10) (oi := { dst := some 11, op := Op.move (Operand.tmp 21), type := 120, pos := "form.go:88", after := #[{ on := 9, ground := Ground.data }], guard := none }) (v := ?_) rfl (by kernel_rfl) (by kernel_rfl) (by kernel_rfl) (fun _ _ _ h => h) (Or.inl ⟨by rfl, ?_⟩) (by assumption) ?_
    rotate_left
    · (intro w hSw; (try dsimp only at hSw); go_simp; try with_reducible rfl)
    try simp only [Act.put, List.setIfInBounds_toArray, List.set_cons_zero, List.set_cons_succ]
    refine wpAnyH_take (i := 11) (oi := { dst := some 22, op := Op.extract (Operand.tmp 11) 0, type := 9, pos := "form.go:88", after := #[{ on := 10, ground := Ground.data }], guard := none }) (v := ?_) rfl (by kernel_rfl) (by kernel_rfl) (by kernel_rfl) (fun _ _ _ h => h) (Or.inl ⟨by rfl, ?_⟩) (by assumption) ?_
    rotate_left
    · (intro w hSw; (try dsimp only at hSw); go_simp; try with_reducible rfl)
    try simp only [Act.put, List.setIfInBounds_toArray, List.set_cons_zero, List.set_cons_succ]
    refine wpAnyH_take (i := 12) (oi := { dst := some 23, op := Op.extract (Operand.tmp 11) 1, type := 3, pos := "form.go:88", after := #[{ on := 10, ground := Ground.data }, { on := 14, ground := Ground.gcOnly Departure.lateStores }], guard := none }) (v := ?_) rfl (by kernel_rfl) (by kernel_rfl) (by kernel_rfl) (fun _ _ _ h => h) (Or.inl ⟨by rfl, ?_⟩) (by assumption) ?_
    rotate_left
    · (intro w hSw; (try dsimp only at hSw); go_simp; try with_reducible rfl)
    try simp only [Act.put, List.setIfInBounds_toArray, List.set_cons_zero, List.set_cons_succ]
    refine wpAnyH_take (i := 13) (oi := { dst := some 24, op := Op.extract (Operand.tmp 11) 2, type := 29, pos := "form.go:88", after := #[{ on := 10, ground := Ground.data }, { on := 15, ground := Ground.gcOnly Departure.lateStores }], guard := none }) (v := ?_) rfl (by kernel_rfl) (by kernel_rfl) (by kernel_rfl) (fun _ _ _ h => h) (Or.inl ⟨by rfl, ?_⟩) (by assumption) ?_
    rotate_left
    · (intro w hSw; (try dsimp only at hSw); go_simp; try with_reducible rfl)
    try simp only [Act.put, List.setIfInBounds_toArray, List.set_cons_zero, List.set_cons_succ]
    refine wpAnyH_take (i := 14) (oi := { dst := some 3, op := Op.assign (Operand.tmp 22), type := 9, pos := "form.go:88", after := #[{ on := 11, ground := Ground.data }, { on := 9, ground := Ground.chain }, { on := 0, ground := Ground.phase }, { on := 1, ground := Ground.phase }, { on := 2, ground := Ground.phase }, { on := 3, ground := Ground.phase }, { on := 4, ground := Ground.phase }, { on := 5, ground := Ground.phase }, { on := 6, ground := Ground.phase }, { on := 7, ground := Ground.phase }, { on := 8, ground := Ground.phase }, { on := 9, ground := Ground.phase }, { on := 10, ground := Ground.phase }, { on := 11, ground := Ground.phase }, { on := 12, ground := Ground.textOnly Departure.lateStores }, { on := 13, ground := Ground.textOnly Departure.lateStores }], guard := none }) (v := ?_) rfl (by kernel_rfl) (by kernel_rfl) (by kernel_rfl) (fun _ _ _ h => h) (Or.inl ⟨by rfl, ?_⟩) (by assumption) ?_
    rotate_left
    · (intro w hSw; (try dsimp only at hSw); go_simp; try with_reducible rfl)
    try simp only [Act.put, List.setIfInBounds_toArray, List.set_cons_zero, List.set_cons_succ]
    refine wpAnyH_take (i := 15) (oi := { dst := some 4, op := Op.assign (Operand.tmp 23), type := 3, pos := "form.go:88", after := #[{ on := 12, ground := Ground.data }, { on := 14, ground := Ground.chain }, { on := 0, ground := Ground.phase }, { on := 1, ground := Ground.phase }, { on := 2, ground := Ground.phase }, { on := 3, ground := Ground.phase }, { on := 4, ground := Ground.phase }, { on := 5, ground := Ground.phase }, { on := 6, ground := Ground.phase }, { on := 7, ground := Ground.phase }, { on := 8, ground := Ground.phase }, { on := 9, ground := Ground.phase }, { on := 10, ground := Ground.phase }, { on := 11, ground := Ground.phase }, { on := 12, ground := Ground.phase }, { on := 13, ground := Ground.textOnly Departure.lateStores }, { on := 14, ground := Ground.phase }], guard := none }) (v := ?_) rfl (by kernel_rfl) (by kernel_rfl) (by kernel_rfl) (fun _ _ _ h => h) (Or.inl ⟨by rfl, ?_⟩) (by assumption) ?_
    rotate_left
    · (intro w hSw; (try dsimp only at hSw); go_simp; try with_reducible rfl)
    try simp only [Act.put, List.setIfInBounds_toArray, List.set_cons_zero, List.set_cons_succ]
    refine wpAnyH_take (i := 16) (oi := { dst := some 5, op := Op.assign (Operand.tmp 24), type := 29, pos := "form.go:88", after := #[{ on := 13, ground := Ground.data }, { on := 15, ground := Ground.chain }, { on := 0, ground := Ground.phase }, { on := 1, ground := Ground.phase }, { on := 2, ground := Ground.phase }, { on := 3, ground := Ground.phase }, { on := 4, ground := Ground.phase }, { on := 5, ground := Ground.phase }, { on := 6, ground := Ground.phase }, { on := 7, ground := Ground.phase }, { on := 8, ground := Ground.phase }, { on := 9, ground := Ground.phase }, { on := 10, ground := Ground.phase }, { on := 11, ground := Ground.phase }, { on := 12, ground := Ground.phase }, { on := 13, ground := Ground.phase }, { on := 14, ground := Ground.phase }, { on := 15, ground := Ground.phase }], guard := none }) (v := ?_) rfl (by kernel_rfl) (by kernel_rfl) (by kernel_rfl) (fun _ _ _ h => h) (Or.inl ⟨by rfl, ?_⟩) (by assumption) ?_
    rotate_left
    · (intro w hSw; (try dsimp only at hSw); go_simp; try with_reducible rfl)
    try simp only [Act.put, List.setIfInBounds_toArray, List.set_cons_zero, List.set_cons_succ]
    refine wpAnyH_done (by kernel_rfl) ?_ _
    refine NoPanic.normal ?_
    have E1 := Lib.hid hH.2.1.out
    clear hH S0 HS x0 x1 x2 x3 x4
    generalize (if cap = at' then some a else some (a.add at')) = oc at *
    obtain ⟨x1, x2, x3, x4, x6⟩ := HC.out _ E1.out
    go_wp2_with fail
    go_ret
    exact ⟨rfl, HK.out _ E1.out⟩
set_option maxRecDepth 100000 in
set_option maxHeartbeats 4000000 in
theorem ashort_any {rb : Nat} {o : Option Addr} {cap : Nat} {M : List Nat} {at' e : Nat} {w : World} (R : Rda w rb o cap M at' e) :
    Calls Tryd.prog 59 #[.pointer (some ⟨rb, 0, none⟩)] w fun r w' => r = .returned (.int .u64 ((stShort M at' e).1 : Nat)) ∧ Rx w rb o cap M (stShort M at' e).2.1 (stShort M at' e).2.2 w' := by
  have H := Lib.hid R
  have l1 := R.B.row.1
  have l2 := R.B.row.2.1
  have le := R.le
  unfold maxLen at l2
  obtain ⟨x0, x1, x2, x3, x4, x5⟩ := H.out.rc
  clear R
  by_cases he : e = 0
  case neg =>
    have hs : stShort M at' e = (0, at', e) := by unfold stShort; rw [if_pos he]
    rw [hs]
    have h1 : ((e : Int) != 0) = true := by rw [bne_iff_ne]; omega
    clear hs he
    go_enter Tryd.func59, Tryd.ntmps59
    go_wp2_with fail
    go_ret
    exact ⟨rfl, H.out, Exc.refl _ _⟩
  subst he
  obtain ⟨s, k, z, hV, hk, hst⟩ : ∃ s k z, gsV (gs 0 (M.drop at')) = .returned (.tuple #[.int .u64 (s : Nat), .int .i64 (k : Nat), .int .i64 (z : Nat)]) ∧ at' + k ≤ M.length ∧ stShort M at' 0 = (s, at' + k, z) := by
    unfold stShort
    rw [if_neg (by simp)]
    cases hg : gs 0 (M.drop at') with
    | error z => exact ⟨0, 0, z, rfl, by omega, rfl⟩
    | ok p =>
      obtain ⟨s, k⟩ := p
      have h1 := (gs_ok hg).1
      rw [List.length_drop] at h1
      exact ⟨s, k, 0, rfl, by omega, rfl⟩
  rw [hst]
  dsimp only
  have HS : Hid (∀ w1, Below rb w w1 → rb ≤ w1.heap.size → Calls Tryd.prog 82 #[.slice (cutA o cap at') (M.length - at') (cap - at')] w1 fun e w' => e = .returned (.tuple #[.int .u64 (s : Nat), .int .i64 (k : Nat), .int .i64 (z : Nat)]) ∧ Below w1.heap.size w1 w') := fun w1 b hr => by
    rw [← hV]
    have hlen : M.length - at' = (M.drop at').length := List.length_drop.symm
    have S : ∀ (o' : Option Addr) (cap' : Nat) w, Bts rb w o' cap' (M.drop at') → rb ≤ w.heap.size → Calls Tryd.prog 82 #[.slice o' (M.drop at').length cap'] w fun e w' => e = gsV (gs 0 (M.drop at')) ∧ Below w.heap.size w w' := fun o' cap' w B h => (getShort_any B).mono (by rintro e w' ⟨rfl, m, rfl⟩; exact ⟨rfl, below_drewN (Below.refl _ _) _⟩)
    rw [hlen]
    cases o with
    | none =>
      have hn := H.out.B.nil
      refine S none (cap - at') w1 ?_ hr
      rw [hn.1, hn.2, List.drop_nil, Nat.zero_sub]
      exact ⟨⟨Nat.le_refl _, Nat.zero_le _, fun _ => rfl, fun h => absurd h (Nat.lt_irrefl _)⟩, (fun c hc => by cases hc), fun a e => by cases e⟩
    | some a =>
      have hsp := H.out.B.sp a rfl
      obtain ⟨b', off, spot⟩ := a
      simp only at hsp
      subst hsp
      refine Calls.mono ?_ fun _ _ h => h
      have C := (H.out.B.kept b).cut le
      have ea : (⟨b', off, none⟩ : Addr).add at' = ⟨b', off + at', none⟩ := by unfold Addr.add; split <;> simp_all
      simp only [cutA, ea]
      exact S _ _ w1 C hr
  have HK : Hid (∀ (w1 : World), Below w.heap.size w w1 → Rx w rb o cap M (at' + k) z ((w1.setCell ⟨rb, 1, none⟩ (.int .i64 ((at' : Int) + k))).setCell ⟨rb, 2, none⟩ (.int .i64 z))) := fun w1 b => by
    rw [← Int.natCast_add]
    exact ⟨((H.out.kept b x5).set1 hk).set2, (Exc.of_below b).trans (exc_set.trans exc_set)⟩
  have HC : Hid (∀ (w1 : World), Below w.heap.size w w1 → w1.cell? ⟨rb, 1, none⟩ = some (.int .i64 at') ∧ w1.cell? ⟨rb, 2, none⟩ = some (.int .i64 0) ∧ w1.frozen? ⟨rb, 1, none⟩ = false ∧ w1.frozen? ⟨rb, 2, none⟩ = false ∧ rb < w1.heap.size) := fun w1 b => by
    obtain ⟨y0, y1, y2, y3, y4, y5⟩ := (H.out.kept b x5).rc
    exact ⟨y1, y2, y3, y4, y5⟩
  have hn0 : o = none → M.length = 0 ∧ cap = 0 ∧ at' = 0 := fun e => by
    subst e
    have hn := H.out.B.nil
    have h0 : M.length = 0 := by rw [hn.2]; rfl
    exact ⟨h0, hn.1, by omega⟩
  clear hst hV H
  obtain ⟨N, hN⟩ : ∃ N, N = w.heap.size := ⟨_, rfl⟩
  have S0 := held_at hN
  rw [← hN] at HK HC x5
  have HN := Lib.hid hN
  clear hN
  cases o with
  | none =>
    obtain ⟨h0, h1, h2⟩ := hn0 rfl
    clear hn0
    subst h1 h2
    rw [h0] at HS x0 le hk
    clear l1 h0 l2
    obtain rfl : k = 0 := by omega
    simp only [cutA] at HS
    go_enter Tryd.func59, Tryd.ntmps59
    go_upto_region 3 with fail
    refine wp_region_noPanic ?_
    refine wp_region_held_drew (S := (fun W => (∀ b o, b < N → W.cell? ⟨b, o, none⟩ = w.cell? ⟨b, o, none⟩) ∧ Hid (Below N w W) ∧ Hid (N ≤ W.heap.size))) (by kernel_rfl) ?_ (fun hH => ?_)
    · exact S0
    refine wpAnyH_take (i := 0) (oi := { dst := some 12, op := Op.move (Operand.tmp 0), type := 103, pos := "form.go:97", after := #[], guard := none }) (v := ?_) rfl (by kernel_rfl) (by kernel_rfl) (by kernel_rfl) (fun _ _ _ h => h) (Or.inl ⟨by rfl, ?_⟩) (by assumption) ?_
    rotate_left
    · (intro w hSw; (try dsimp only at hSw); go_simp; try with_reducible rfl)
    try simp only [Act.put, List.setIfInBounds_toArray, List.set_cons_zero, List.set_cons_succ]
    refine wpAnyH_take (i := 1) (oi := { dst := some 13, op := Op.nilCheck (Operand.tmp 12), type := 0, pos := "form.go:97", after := #[{ on := 0, ground := Ground.data }], guard := none }) (v := ?_) rfl (by kernel_rfl) (by kernel_rfl) (by kernel_rfl) (fun _ _ _ h => h) (Or.inl ⟨by rfl, ?_⟩) (by assumption) ?_
    rotate_left
    · (intro w hSw; (try dsimp only at hSw); go_simp; try with_reducible rfl)
    try simp only [Act.put, List.setIfInBounds_toArray, List.set_cons_zero, List.set_cons_succ]
    refine wpAnyH_take (i := 2) (oi := { dst := some 14, op := Op.fieldAddr 78 (Operand.tmp 13) 0, type := 0, pos := "form.go:97", after := #[{ on := 1, ground := Ground.data }], guard := none }) (v := ?_) rfl (by kernel_rfl) (by kernel_rfl) (by kernel_rfl) (fun _ _ _ h => h) (Or.inl ⟨by rfl, ?_⟩) (by assumption) ?_
    rotate_left
    · (intro w hSw; (try dsimp only at hSw); go_simp; try with_reducible rfl)
    try simp only [Act.put, List.setIfInBounds_toArray, List.set_cons_zero, List.set_cons_succ]
    refine wpAnyH_take (i := 3) (oi := { dst := some 15, op := Op.load 49 (Operand.tmp 14), type := 49, pos := "form.go:97", after := #[{ on := 2, ground := Ground.data }], guard := none }) (v := ?_) rfl (by kernel_rfl) (by kernel_rfl) (by kernel_rfl) (fun _ _ _ h => h) (Or.inl ⟨by rfl, ?_⟩) (by assumption) ?_
    rotate_left
    · (intro w hSw; (try dsimp only at hSw); go_simp; try with_reducible rfl)
    try simp only [Act.put, List.setIfInBounds_toArray, List.set_cons_zero, List.set_cons_succ]
    refine wpAnyH_take (i := 4) (oi := { dst := some 16, op := Op.move (Operand.tmp 0), type := 103, pos := "form.go:97", after := #[], guard := none }) (v := ?_) rfl (by kernel_rfl) (by kernel_rfl) (by kernel_rfl) (fun _ _ _ h => h) (Or.inl ⟨by rfl, ?_⟩) (by assumption) ?_
    rotate_left
    · (intro w hSw; (try dsimp only at hSw); go_simp; try with_reducible rfl)
    try simp only [Act.put, List.setIfInBounds_toArray, List.set_cons_zero, List.set_cons_succ]
    refine wpAnyH_take (i := 5) (oi := { dst := some 17, op := Op.nilCheck (Operand.tmp 16), type := 0, pos := "form.go:97", after := #[{ on := 4, ground := Ground.data }], guard := none }) (v := ?_) rfl (by kernel_rfl) (by kernel_rfl) (by kernel_rfl) (fun _ _ _ h => h) (Or.inl ⟨by rfl, ?_⟩) (by assumption) ?_
    rotate_left
    · (intro w hSw; (try dsimp only at hSw); go_simp; try with_reducible rfl)
    try simp only [Act.put, List.setIfInBounds_toArray, List.set_cons_zero, List.set_cons_succ]
    refine wpAnyH_take (i := 6) (oi := { dst := some 18, op := Op.fieldAddr 78 (Operand.tmp 17) 1, type := 0, pos := "form.go:97", after := #[{ on := 5, ground := Ground.data }], guard := none }) (v := ?_) rfl (by kernel_rfl) (by kernel_rfl) (by kernel_rfl) (fun _ _ _ h => h) (Or.inl ⟨by rfl, ?_⟩) (by assumption) ?_
    rotate_left
    · (intro w hSw; (try dsimp only at hSw); go_simp; try with_reducible rfl)
    try simp only [Act.put, List.setIfInBounds_toArray, List.set_cons_zero, List.set_cons_succ]
    refine wpAnyH_take (i := 7) (oi := { dst := some 19, op := Op.load 3 (Operand.tmp 18), type := 3, pos := "form.go:97", after := #[{ on := 6, ground := Ground.data }], guard := none }) (v := ?_) rfl (by kernel_rfl) (by kernel_rfl) (by kernel_rfl) (fun _ _ _ h => h) (Or.inl ⟨by rfl, ?_⟩) (by assumption) ?_
    rotate_left
    · (intro w hSw; (try dsimp only at hSw); go_simp; try with_reducible rfl)
    try simp only [Act.put, List.setIfInBounds_toArray, List.set_cons_zero, List.set_cons_succ]
    refine wpAnyH_take (i := 8) (oi := { dst := some 20, op := Op.slice 49 (Operand.tmp 15) (some (Operand.tmp 19)) none none, type := 49, pos := "form.go:97", after := #[{ on := 3, ground := Ground.data }, { on := 7, ground := Ground.data }], guard := none }) (v := ?_) rfl (by kernel_rfl) (by kernel_rfl) (by kernel_rfl) (fun _ _ _ h => h) (Or.inl ⟨by rfl, ?_⟩) (by assumption) ?_
    rotate_left
    · (intro w hSw; (try dsimp only at hSw); go_simp; try with_reducible rfl)
    try simp only [Act.put, List.setIfInBounds_toArray, List.set_cons_zero, List.set_cons_succ]
    refine wpAnyH_ready (rs := [9]) (by kernel_rfl) (by simp) ?_
    refine AllReadyH.cons (o := { dst := some 21, op := Op.call { callee := Callee.value (Operand.func 82), args := #[Operand.tmp 20], argTypes := #[49] }, type := 106, pos := "form.go:97", after := #[{ on := 8, ground := Ground.data }], guard := none }) rfl (fun K hK => ?_) AllReadyH.nil
    go_simp
    refine (HS.out _ (hH.2.1.out.mono (by omega)) (by have := hH.2.2.out; omega)).mono ?_
    rintro e W_0 ⟨rfl, b⟩
    refine hK.out _ _ ?_ (fun hH' => ?_)
    · exact held_next (by assumption) hH
    clear hK K hH
    have hH := hH'
    clear hH'
    try simp only [Act.put, List.setIfInBounds_toArray, List.set_cons_zero, List.set_cons_succ]
    refine wpAnyH_take (i := 10) (oi := { dst := some 11, op := Op.move (Operand.tmp 21), type := 106, pos := "form.go:97", after := #[{ on := 9, ground := Ground.data }], guard := none }) (v := ?_) rfl (by kernel_rfl) (by kernel_rfl) (by kernel_rfl) (fun _ _ _ h => h) (Or.inl ⟨by rfl, ?_⟩) (by assumption) ?_
    rotate_left
    · (intro w hSw; (try dsimp only at hSw); go_simp; try with_reducible rfl)
    try simp only [Act.put, List.setIfInBounds_toArray, List.set_cons_zero, List.set_cons_succ]
    refine wpAnyH_take (i := 11) (oi := { dst := some 22, op := Op.extract (Operand.tmp 11) 0, type := 76, pos := "form.go:97", after := #[{ on := 10, ground := Ground.data }], guard := none }) (v := ?_) rfl (by kernel_rfl) (by kernel_rfl) (by kernel_rfl) (fun _ _ _ h => h) (Or.inl ⟨by rfl, ?_⟩) (by assumption) ?_
    rotate_left
    · (intro w hSw; (try dsimp only at hSw); go_simp; try with_reducible rfl)
    try simp only [Act.put, List.setIfInBounds_toArray, List.set_cons_zero, List.set_cons_succ]
    refine wpAnyH_take (i := 12) (oi := { dst := some 23, op := Op.extract (Operand.tmp 11) 1, type := 3, pos := "form.go:97", after := #[{ on := 10, ground := Ground.data }, { on := 14, ground := Ground.gcOnly Departure.lateStores }], guard := none }) (v := ?_) rfl (by kernel_rfl) (by kernel_rfl) (by kernel_rfl) (fun _ _ _ h => h) (Or.inl ⟨by rfl, ?_⟩) (by assumption) ?_
    rotate_left
    · (intro w hSw; (try dsimp only at hSw); go_simp; try with_reducible rfl)
    try simp only [Act.put, List.setIfInBounds_toArray, List.set_cons_zero, List.set_cons_succ]
    refine wpAnyH_take (i := 13) (oi := { dst := some 24, op := Op.extract (Operand.tmp 11) 2, type := 29, pos := "form.go:97", after := #[{ on := 10, ground := Ground.data }, { on := 15, ground := Ground.gcOnly Departure.lateStores }], guard := none }) (v := ?_) rfl (by kernel_rfl) (by kernel_rfl) (by kernel_rfl) (fun _ _ _ h => h) (Or.inl ⟨by rfl, ?_⟩) (by assumption) ?_
    rotate_left
    · (intro w hSw; (try dsimp only at hSw); go_simp; try with_reducible rfl)
    try simp only [Act.put, List.setIfInBounds_toArray, List.set_cons_zero, List.set_cons_succ]
    refine wpAnyH_take (i := 14) (oi := { dst := some 3, op := Op.assign (Operand.tmp 22), type := 76, pos := "form.go:97", after := #[{ on := 11, ground := Ground.data }, { on := 9, ground := Ground.chain }, { on := 0, ground := Ground.phase }, { on := 1, ground := Ground.phase }, { on := 2, ground := Ground.phase }, { on := 3, ground := Ground.phase }, { on := 4, ground := Ground.phase }, { on := 5, ground := Ground.phase }, { on := 6, ground := Ground.phase }, { on := 7, ground := Ground.phase }, { on := 8, ground := Ground.phase }, { on := 9, ground := Ground.phase }, { on := 10, ground := Ground.phase }, { on := 11, ground := Ground.phase }, { on := 12, ground := Ground.textOnly Departure.lateStores }, { on := 13, ground := Ground.textOnly Departure.lateStores }], guard := none }) (v := ?_) rfl (by kernel_rfl) (by kernel_rfl) (by kernel_rfl) (fun _ _ _ h => h) (Or.inl ⟨by rfl, ?_⟩) (by assumption) ?_
    rotate_left
    · (intro w hSw; (try dsimp only at hSw); go_simp; try with_reducible rfl)
    try simp only [Act.put, List.setIfInBounds_toArray, List.set_cons_zero, List.set_cons_succ]
    refine wpAnyH_take (i := 15) (oi := { dst := some 4, op := Op.assign (Operand.tmp 23), type := 3, pos := "form.go:97", after := #[{ on := 12, ground := Ground.data }, { on := 14, ground := Ground.chain }, { on := 0, ground := Ground.phase }, { on := 1, ground := Ground.phase }, { on := 2, ground := Ground.phase }, { on := 3, ground := Ground.phase }, { on := 4, ground := Ground.phase }, { on := 5, ground := Ground.phase }, { on := 6, ground := Ground.phase }, { on := 7, ground := Ground.phase }, { on := 8, ground := Ground.phase }, { on := 9, ground := Ground.phase }, { on := 10, ground := Ground.phase }, { on := 11, ground := Ground.phase }, { on := 12, ground := Ground.phase }, { on := 13, ground := Ground.textOnly Departure.lateStores }, { on := 14, ground := Ground.phase }], guard := none }) (v := ?_) rfl (by kernel_rfl) (by kernel_rfl) (by kernel_rfl) (fun _ _ _ h => h) (Or.inl ⟨by rfl, ?_⟩) (by assumption) ?_
    rotate_left
    · (intro w hSw; (try dsimp only at hSw); go_simp; try with_reducible rfl)
    try simp only [Act.put, List.setIfInBounds_toArray, List.set_cons_zero, List.set_cons_succ]
    refine wpAnyH_take (i := 16) (oi := { dst := some 5, op := Op.assign (Operand.tmp 24), type := 29, pos := "form.go:97", after := #[{ on := 13, ground := Ground.data }, { on := 15, ground := Ground.chain }, { on := 0, ground := Ground.phase }, { on := 1, ground := Ground.phase }, { on := 2, ground := Ground.phase }, { on := 3, ground := Ground.phase }, { on := 4, ground := Ground.phase }, { on := 5, ground := Ground.phase }, { on := 6, ground := Ground.phase }, { on := 7, ground := Ground.phase }, { on := 8, ground := Ground.phase }, { on := 9, ground := Ground.phase }, { on := 10, ground := Ground.phase }, { on := 11, ground := Ground.phase }, { on := 12, ground := Ground.phase }, { on := 13, ground := Ground.phase }, { on := 14, ground := Ground.phase }, { on := 15, ground := Ground.phase }], guard := none }) (v := ?_) rfl (by kernel_rfl) (by kernel_rfl) (by kernel_rfl) (fun _ _ _ h => h) (Or.inl ⟨by rfl, ?_⟩) (by assumption) ?_
    rotate_left
    · (intro w hSw; (try dsimp only at hSw); go_simp; try with_reducible rfl)
    try simp only [Act.put, List.setIfInBounds_toArray, List.set_cons_zero, List.set_cons_succ]
    refine wpAnyH_done (by kernel_rfl) ?_ _
    refine NoPanic.normal ?_
    have E1 := Lib.hid hH.2.1.out
    clear hH S0 HS x0 x1 x2 x3 x4
    obtain ⟨x1, x2, x3, x4, x6⟩ := HC.out _ E1.out
    go_wp2_with fail
    go_ret
    exact ⟨rfl, HK.out _ E1.out⟩
  | some a =>
    clear hn0
    simp only [cutA] at HS
    go_enter Tryd.func59, Tryd.ntmps59
    go_upto_region 3 with fail
    refine wp_region_noPanic ?_
    refine wp_region_held_drew (S := (fun W => (∀ b o, b < N → W.cell? ⟨b, o, none⟩ = w.cell? ⟨b, o, none⟩) ∧ Hid (Below N w W) ∧ Hid (N ≤ W.heap.size))) (by kernel_rfl) ?_ (fun hH => ?_)
    · exact S0
    refine wpAnyH_take (i := 0) (oi := { dst := some 12, op := Op.move (Operand.tmp 0), type := 103, pos := "form.go:97", after := #[], guard := none }) (v := ?_) rfl (by kernel_rfl) (by kernel_rfl) (by kernel_rfl) (fun _ _ _ h => h) (Or.inl ⟨by rfl, ?_⟩) (by assumption) ?_
    rotate_left
    · (intro w hSw; (try dsimp only at hSw); go_simp; try with_reducible rfl)
    try simp only [Act.put, List.setIfInBounds_toArray, List.set_cons_zero, List.set_cons_succ]
    refine wpAnyH_take (i := 1) (oi := { dst := some 13, op := Op.nilCheck (Operand.tmp 12), type := 0, pos := "form.go:97", after := #[{ on := 0, ground := Ground.data }], guard := none }) (v := ?_) rfl (by kernel_rfl) (by kernel_rfl) (by kernel_rfl) (fun _ _ _ h => h) (Or.inl ⟨by rfl, ?_⟩) (by assumption) ?_
    rotate_left
    · (intro w hSw; (try dsimp only at hSw); go_simp; try with_reducible rfl)
    try simp only [Act.put, List.setIfInBounds_toArray, List.set_cons_zero, List.set_cons_succ]
    refine wpAnyH_take (i := 2) (oi := { dst := some 14, op := Op.fieldAddr 78 (Operand.tmp 13) 0, type := 0, pos := "form.go:97", after := #[{ on := 1, ground := Ground.data }], guard := none }) (v := ?_) rfl (by kernel_rfl) (by kernel_rfl) (by kernel_rfl) (fun _ _ _ h => h) (Or.inl ⟨by rfl, ?_⟩) (by assumption) ?_
    rotate_left
    · (intro w hSw; (try dsimp only at hSw); go_simp; try with_reducible rfl)
    try simp only [Act.put, List.setIfInBounds_toArray, List.set_cons_zero, List.set_cons_succ]
    refine wpAnyH_take (i := 3) (oi := { dst := some 15, op := Op.load 49 (Operand.tmp 14), type := 49, pos := "form.go:97", after := #[{ on := 2, ground := Ground.data }], guard := none }) (v := ?_) rfl (by kernel_rfl) (by kernel_rfl) (by kernel_rfl) (fun _ _ _ h => h) (Or.inl ⟨by rfl, ?_⟩) (by assumption) ?_
    rotate_left
    · (intro w hSw; (try dsimp only at hSw); go_simp; try with_reducible rfl)
    try simp only [Act.put, List.setIfInBounds_toArray, List.set_cons_zero, List.set_cons_succ]
    refine wpAnyH_take (i := 4) (oi := { dst := some 16, op := Op.move (Operand.tmp 0), type := 103, pos := "form.go:97", after := #[], guard := none }) (v := ?_) rfl (by kernel_rfl) (by kernel_rfl) (by kernel_rfl) (fun _ _ _ h => h) (Or.inl ⟨by rfl, ?_⟩) (by assumption) ?_
    rotate_left
    · (intro w hSw; (try dsimp only at hSw); go_simp; try with_reducible rfl)
    try simp only [Act.put, List.setIfInBounds_toArray, List.set_cons_zero, List.set_cons_succ]
    refine wpAnyH_take (i := 5) (oi := { dst := some 17, op := Op.nilCheck (Operand.tmp 16), type := 0, pos := "form.go:97", after := #[{ on := 4, ground := Ground.data }], guard := none }) (v := ?_) rfl (by kernel_rfl) (by kernel_rfl) (by kernel_rfl) (fun _ _ _ h => h) (Or.inl ⟨by rfl, ?_⟩) (by assumption) ?_
    rotate_left
    · (intro w hSw; (try dsimp only at hSw); go_simp; try with_reducible rfl)
    try simp only [Act.put, List.setIfInBounds_toArray, List.set_cons_zero, List.set_cons_succ]
    refine wpAnyH_take (i := 6) (oi := { dst := some 18, op := Op.fieldAddr 78 (Operand.tmp 17) 1, type := 0, pos := "form.go:97", after := #[{ on := 5, ground := Ground.data }], guard := none }) (v := ?_) rfl (by kernel_rfl) (by kernel_rfl) (by kernel_rfl) (fun _ _ _ h => h) (Or.inl ⟨by rfl, ?_⟩) (by assumption) ?_
    rotate_left
    · (intro w hSw; (try dsimp only at hSw); go_simp; try with_reducible rfl)
    try simp only [Act.put, List.setIfInBounds_toArray, List.set_cons_zero, List.set_cons_succ]
    refine wpAnyH_take (i := 7) (oi := { dst := some 19, op := Op.load 3 (Operand.tmp 18), type := 3, pos := "form.go:97", after := #[{ on := 6, ground := Ground.data }], guard := none }) (v := ?_) rfl (by kernel_rfl) (by kernel_rfl) (by kernel_rfl) (fun _ _ _ h => h) (Or.inl ⟨by rfl, ?_⟩) (by assumption) ?_
    rotate_left
    · (intro w hSw; (try dsimp only at hSw); go_simp; try with_reducible rfl)
    try simp only [Act.put, List.setIfInBounds_toArray, List.set_cons_zero, List.set_cons_succ]
    refine wpAnyH_take (i := 8) (oi := { dst := some 20, op := Op.slice 49 (Operand.tmp 15) (some (Operand.tmp 19)) none none, type := 49, pos := "form.go:97", after := #[{ on := 3, ground := Ground.data }, { on := 7, ground := Ground.data }], guard := none }) (v := ?_) rfl (by kernel_rfl) (by kernel_rfl) (by kernel_rfl) (fun _ _ _ h => h) (Or.inl ⟨by rfl, ?_⟩) (by assumption) ?_
    rotate_left
    · (intro w hSw; (try dsimp only at hSw); go_simp; try with_reducible rfl)
    try simp only [Act.put, List.setIfInBounds_toArray, List.set_cons_zero, List.set_cons_succ]
    refine wpAnyH_ready (rs := [9]) (by kernel_rfl) (by simp) ?_
    refine AllReadyH.cons (o := { dst := some 21, op := Op.call { callee := Callee.value (Operand.func 82), args := #[Operand.tmp 20], argTypes := #[49] }, type := 106, pos := "form.go:97", after := #[{ on := 8, ground := Ground.data }], guard := none }) rfl (fun K hK => ?_) AllReadyH.nil
    go_simp
    refine (HS.out _ (hH.2.1.out.mono (by omega)) (by have := hH.2.2.out; omega)).mono ?_
    rintro e W_0 ⟨rfl, b⟩
    refine hK.out _ _ ?_ (fun hH' => ?_)
    · exact held_next (by assumption) hH
    clear hK K hH
    have hH := hH'
    clear hH'
    try simp only [Act.put, List.setIfInBounds_toArray, List.set_cons_zero, List.set_cons_succ]
    refine wpAnyH_take (i := 10) (oi := { dst := some 11, op := Op.move (Operand.tmp 21), type := 106, pos := "form.go:97", after := #[{ on := 9, ground := Ground.data }], guard := none }) (v := ?_) rfl (by kernel_rfl) (by kernel_rfl) (by kernel_rfl) (fun _ _ _ h => h) (Or.inl ⟨by rfl, ?_⟩) (by assumption) ?_
    rotate_left
    · (intro w hSw; (try dsimp only at hSw); go_simp; try with_reducible rfl)
    try simp only [Act.put, List.setIfInBounds_toArray, List.set_cons_zero, List.set_cons_succ]
    refine wpAnyH_take (i := 11) (oi := { dst := some 22, op := Op.extract (Operand.tmp 11) 0, type := 76, pos := "form.go:97", after := #[{ on := 10, ground := Ground.data }], guard := none }) (v := ?_) rfl (by kernel_rfl) (by kernel_rfl) (by kernel_rfl) (fun _ _ _ h => h) (Or.inl ⟨by rfl, ?_⟩) (by assumption) ?_
    rotate_left
    · (intro w hSw; (try dsimp only at hSw); go_simp; try with_reducible rfl)
    try simp only [Act.put, List.setIfInBounds_toArray, List.set_cons_zero, List.set_cons_succ]
    refine wpAnyH_take (i := 12) (oi := { dst := some 23, op := Op.extract (Operand.tmp 11) 1, type := 3, pos := "form.go:97", after := #[{ on := 10, ground := Ground.data }, { on := 14, ground := Ground.gcOnly Departure.lateStores }], guard := none }) (v := ?_) rfl (by kernel_rfl) (by kernel_rfl) (by kernel_rfl) (fun _ _ _ h => h) (Or.inl ⟨by rfl, ?_⟩) (by assumption) ?_
    rotate_left
    · (intro w hSw; (try dsimp only at hSw); go_simp; try with_reducible rfl)
    try simp only [Act.put, List.setIfInBounds_toArray, List.set_cons_zero, List.set_cons_succ]
    refine wpAnyH_take (i := 13) (oi := { dst := some 24, op := Op.extract (Operand.tmp 11) 2, type := 29, pos := "form.go:97", after := #[{ on := 10, ground := Ground.data }, { on := 15, ground := Ground.gcOnly Departure.lateStores }], guard := none }) (v := ?_) rfl (by kernel_rfl) (by kernel_rfl) (by kernel_rfl) (fun _ _ _ h => h) (Or.inl ⟨by rfl, ?_⟩) (by assumption) ?_
    rotate_left
    · (intro w hSw; (try dsimp only at hSw); go_simp; try with_reducible rfl)
    try simp only [Act.put, List.setIfInBounds_toArray, List.set_cons_zero, List.set_cons_succ]
    refine wpAnyH_take (i := 14) (oi := { dst := some 3, op := Op.assign (Operand.tmp 22), type := 76, pos := "form.go:97", after := #[{ on := 11, ground := Ground.data }, { on := 9, ground := Ground.chain }, { on := 0, ground := Ground.phase }, { on := 1, ground := Ground.phase }, { on := 2, ground := Ground.phase }, { on := 3, ground := Ground.phase }, { on := 4, ground := Ground.phase }, { on := 5, ground := Ground.phase }, { on := 6, ground := Ground.phase }, { on := 7, ground := Ground.phase }, { on := 8, ground := Ground.phase }, { on := 9, ground := Ground.phase }, { on := 10, ground := Ground.phase }, { on := 11, ground := Ground.phase }, { on := 12, ground := Ground.textOnly Departure.lateStores }, { on := 13, ground := Ground.textOnly Departure.lateStores }], guard := none }) (v := ?_) rfl (by kernel_rfl) (by kernel_rfl) (by kernel_rfl) (fun _ _ _ h => h) (Or.inl ⟨by rfl, ?_⟩) (by assumption) ?_
    rotate_left
    · (intro w hSw; (try dsimp only at hSw); go_simp; try with_reducible rfl)
    try simp only [Act.put, List.setIfInBounds_toArray, List.set_cons_zero, List.set_cons_succ]
    refine wpAnyH_take (i := 15) (oi := { dst := some 4, op := Op.assign (Operand.tmp 23), type := 3, pos := "form.go:97", after := #[{ on := 12, ground := Ground.data }, { on := 14, ground := Ground.chain }, { on := 0, ground := Ground.phase }, { on := 1, ground := Ground.phase }, { on := 2, ground := Ground.phase }, { on := 3, ground := Ground.phase }, { on := 4, ground := Ground.phase }, { on := 5, ground := Ground.phase }, { on := 6, ground := Ground.phase }, { on := 7, ground := Ground.phase }, { on := 8, ground := Ground.phase }, { on := 9, ground := Ground.phase }, { on := 10, ground := Ground.phase }, { on := 11, ground := Ground.phase }, { on := 12, ground := Ground.phase }, { on := 13, ground := Ground.textOnly Departure.lateStores }, { on := 14, ground := Ground.phase }], guard := none }) (v := ?_) rfl (by kernel_rfl) (by kernel_rfl) (by kernel_rfl) (fun _ _ _ h => h) (Or.inl ⟨by rfl, ?_⟩) (by assumption) ?_
    rotate_left
    · (intro w hSw; (try dsimp only at hSw); go_simp; try with_reducible rfl)
    try simp only [Act.put, List.setIfInBounds_toArray, List.set_cons_zero, List.set_cons_succ]
    refine wpAnyH_take (i := 16) (oi := { dst := some 5, op := Op.assign (Operand.tmp 24), type := 29, pos := "form.go:97", after := #[{ on := 13, ground := Ground.data }, { on := 15, ground := Ground.chain }, { on := 0, ground := Ground.phase }, { on := 1, ground := Ground.phase }, { on := 2, ground := Ground.phase }, { on := 3, ground := Ground.phase }, { on := 4, ground := Ground.phase }, { on := 5, ground := Ground.phase }, { on := 6, ground := Ground.phase }, { on := 7, ground := Ground.phase }, { on := 8, ground := Ground.phase }, { on := 9, ground := Ground.phase }, { on := 10, ground := Ground.phase }, { on := 11, ground := Ground.phase }, { on := 12, ground := Ground.phase }, { on := 13, ground := Ground.phase }, { on := 14, ground := Ground.phase }, { on := 15, ground := Ground.phase }], guard := none }) (v := ?_) rfl (by kernel_rfl) (by kernel_rfl) (by kernel_rfl) (fun _ _ _ h => h) (Or.inl ⟨by rfl, ?_⟩) (by assumption) ?_
    rotate_left
    · (intro w hSw; (try dsimp only at hSw); go_simp; try with_reducible rfl)
    try simp only [Act.put, List.setIfInBounds_toArray, List.set_cons_zero, List.set_cons_succ]
    refine wpAnyH_done (by kernel_rfl) ?_ _
    refine NoPanic.normal ?_
    have E1 := Lib.hid hH.2.1.out
    clear hH S0 HS x0 x1 x2 x3 x4
    generalize (if cap = at' then some a else some (a.add at')) = oc at *
    obtain ⟨x1, x2, x3, x4, x6⟩ := HC.out _ E1.out
    go_wp2_with fail
    go_ret
    exact ⟨rfl, HK.out _ E1.out⟩
end Go.Proofs.YtakoghdkllfhlaaDoor
