/- Contracts: Order. -/
import Derived.Test.YtonnopcafmhaaaaDoorC6
import Derived.WalkMore
import Derived.Deep.LoopGhost
namespace Go.Proofs.YtonnopcafmhaaaaDoor
open Go.RowKit

/-- nodes as numbers -/
def nl (L : List Nat) : List Int := L.map fun k : Nat => (k : Int)
theorem nl_snoc (L : List Nat) (x : Nat) : nl (L ++ [x]) = nl L ++ [(x : Int)] := by simp [nl]
theorem nl_len (L : List Nat) : (nl L).length = L.length := by simp [nl]
/-- below B all is as it was, told by parts -/
def Bw (B : Nat) (w W : World) : Prop := W.os = w.os ∧ W.tape = w.tape ∧ W.output = w.output ∧ w.heap.size ≤ W.heap.size ∧ ∀ k, k < B → W.heap[k]? = w.heap[k]?
theorem Bw.below {B : Nat} {w W : World} (h : Bw B w W) : Below B w W := ⟨h.1, h.2.1, h.2.2.1, h.2.2.2.1, h.2.2.2.2⟩
theorem Bw.of {B : Nat} {w W : World} (h : Below B w W) : Bw B w W := ⟨h.os, h.tape, h.output, h.size, h.block⟩
/-- what Order holds of memory: what is placed, nothing stuck so far, the graph, the order so far -/
def OS (B g n : Nat) (A : Nat → Nat → Bool) (w0 : World) (d S : Nat → Bool) (v : Value) (L : List Nat) (W : World) : Prop :=
  St W B d ∧ St W (B + 1) S ∧ GB W g n A (turnA A) ∧ W.ownsRow (B + 2) 3 1 v L.length (iv (nl L)) ∧ Bw B w0 W
section
variable {B g n : Nat} {A : Nat → Nat → Bool} {w0 W W' : World} {d S : Nat → Bool} {v : Value} {L : List Nat}
theorem OS.keep (h : OS B g n A w0 d S v L W) (b : Below W.heap.size W W') (hB : B ≤ w0.heap.size) : OS B g n A w0 d S v L W' :=
  ⟨below_row b h.1 (World.rowIs.lt h.1), below_row b h.2.1 (World.rowIs.lt h.2.1), below_row b h.2.2.1 (World.rowIs.lt h.2.2.1), owns_below h.2.2.2.1 b,
    Bw.of (h.2.2.2.2.below.trans (b.mono (Nat.le_trans hB h.2.2.2.2.2.2.2.1)))⟩
theorem OS.tab (h : OS B g n A w0 d S v L W) (hT : Tab w0) (hB : w0.heap.size = B) : Tab W := hT.below h.2.2.2.2.below (by have := hT.1; omega)
end
theorem next_is {A : Nat → Nat → Bool} {N i : Nat} {d : Nat → Bool} (hi : i < N) (h : ready A N d i = true) (hl : ∀ j, j < i → ready A N d j = false) : nextM A N d = some i := by
  unfold nextM
  rw [List.find?_range_eq_some]
  exact ⟨h, List.mem_range.2 hi, fun j hj => by rw [hl j hj]; rfl⟩
theorem next_not {A : Nat → Nat → Bool} {N : Nat} {d : Nat → Bool} (hl : ∀ j, j < N → ready A N d j = false) : nextM A N d = none := by
  unfold nextM
  rw [List.find?_eq_none]
  intro j hj
  rw [hl j (List.mem_range.1 hj)]; simp
theorem ord_stop {A : Nat → Nat → Bool} {N : Nat} {d : Nat → Bool} (h : nextM A N d = none) (t : Nat) : ordM A N t d = [] ∧ doneM A N t d = d := by
  cases t with
  | zero => exact ⟨rfl, rfl⟩
  | succ t => unfold ordM doneM; rw [h]; exact ⟨rfl, rfl⟩
theorem ord_go {A : Nat → Nat → Bool} {N i : Nat} {d : Nat → Bool} (h : nextM A N d = some i) (t : Nat) : ordM A N (t + 1) d = i :: ordM A N t (upd d i) ∧ doneM A N (t + 1) d = doneM A N t (upd d i) := by
  show (match nextM A N d with | none => [] | some i => _) = _ ∧ (match nextM A N d with | none => d | some i => _) = _
  rw [h]; exact ⟨rfl, rfl⟩
/-- where Order stands -/
def Oi (A : Nat → Nat → Bool) (n : Nat) (d : Nat → Bool) (L : List Nat) : Prop :=
  L ++ ordM A n (n - L.length) d = ordM A n n (fun _ => false) ∧ doneM A n (n - L.length) d = doneM A n n (fun _ => false) ∧ cnt d n = L.length ∧ ∀ i, d i = true → i < n
theorem Oi.le {A : Nat → Nat → Bool} {n : Nat} {d : Nat → Bool} {L : List Nat} (h : Oi A n d L) : L.length ≤ n := by have := cnt_le d n; have := h.2.2.1; omega
theorem cnt_none : ∀ n, cnt (fun _ => false) n = 0
  | 0 => rfl
  | n + 1 => by unfold cnt; rw [cnt_none n]; rfl
theorem Oi.start (A : Nat → Nat → Bool) (n : Nat) : Oi A n (fun _ => false) [] := ⟨rfl, rfl, cnt_none n, fun i h => by cases h⟩
theorem Oi.step {A : Nat → Nat → Bool} {n i : Nat} {d : Nat → Bool} {L : List Nat} (h : Oi A n d L) (hi : i < n) (hr : ready A n d i = true) (hl : ∀ j, j < i → ready A n d j = false) : Oi A n (upd d i) (L ++ [i]) ∧ L.length < n := by
  have hn := next_is hi hr hl
  have hd := (ready_iff.1 hr).1
  have hc := cnt_upd hd n hi
  have hle := cnt_le (upd d i) n
  have h3 := h.2.2.1
  have hlt : L.length < n := by omega
  have ht : n - L.length = (n - (L ++ [i]).length) + 1 := by rw [List.length_append]; simp; omega
  obtain ⟨h1, h2, -, h4⟩ := h
  rw [ht] at h1 h2
  rw [(ord_go hn _).1] at h1
  rw [(ord_go hn _).2] at h2
  refine ⟨⟨by rw [List.append_assoc]; exact h1, h2, by rw [hc, h3, List.length_append]; rfl, fun k hk => ?_⟩, hlt⟩
  unfold upd at hk
  by_cases e : k = i
  · omega
  · rw [if_neg e] at hk; exact h4 k hk
theorem Oi.stop {A : Nat → Nat → Bool} {n : Nat} {d : Nat → Bool} {L : List Nat} (h : Oi A n d L) (hl : ∀ j, j < n → ready A n d j = false) : L = ordM A n n (fun _ => false) ∧ d = doneM A n n (fun _ => false) := by
  have hn := next_not hl
  have h1 := h.1
  have h2 := h.2.1
  rw [(ord_stop hn _).1, List.append_nil] at h1
  rw [(ord_stop hn _).2] at h2
  exact ⟨h1, h2⟩
/-- what a set tells of being next -/
theorem ready_eq {A : Nat → Nat → Bool} {n i : Nat} {d : Nat → Bool} (hn : n ≤ 128) (hf : ∀ i k, A i k = true → i < n ∧ k < n) (hd : d i = false) :
    (decide ((wd (dif (A i) d) 0 : Int) = 0) && decide ((wd (dif (A i) d) 1 : Int) = 0)) = ready A n d i := by
  rw [set_zero]
  have : ready A n d i = true ↔ (List.range 128).all (fun k => !dif (A i) d k) = true := by
    rw [ready_iff, List.all_eq_true]
    unfold dif
    constructor
    · rintro ⟨-, h⟩ k _
      cases ha : A i k with
      | false => rfl
      | true => rw [h k (hf i k ha).2 ha]; rfl
    · intro h
      refine ⟨hd, fun k hk ha => ?_⟩
      have := h k (List.mem_range.2 (by omega))
      rw [ha] at this
      simpa using this
  cases h1 : ready A n d i with
  | true => exact this.1 h1
  | false =>
    cases h2 : (List.range 128).all (fun k => !dif (A i) d k) with
    | false => rfl
    | true => rw [this.2 h2] at h1; cases h1
/-- what has no place -/
def stuckS (A : Nat → Nat → Bool) (n : Nat) : Nat → Bool := fun i => decide (i < n) && !doneM A n n (fun _ => false) i
def lenOf : Value → Nat | .slice _ l _ => l | _ => 0
theorem Is.mono {w : World} {B B' : Nat} {v : Value} {L : List Int} (h : Is w B v L) (hB : B' ≤ B) : Is w B' v L := by
  obtain ⟨sp, cap, h1, h2, h3, h4, h5, h6⟩ := h
  exact ⟨sp, cap, h1, h2, h3, h4, h5, fun hl => by obtain ⟨g, a, b⟩ := h6 hl; exact ⟨g, a, by omega⟩⟩
theorem Is.below {w w' : World} {B : Nat} {v : Value} {L : List Int} (h : Is w B v L) (b : Below w.heap.size w w') : Is w' B v L := by
  obtain ⟨sp, cap, h1, h2, h3, h4, h5, h6⟩ := h
  exact ⟨sp, cap, h1, h2, h3, h4.below b (Nat.le_refl _), h5, h6⟩
set_option maxHeartbeats 4000000 in
theorem order_any {w : World} {g n : Nat} {A : Nat → Nat → Bool} (h : GR w g n A) (hT : Tab w) :
    Calls Tryd.prog 24 #[.pointer (some ⟨g, 0, none⟩)] w fun e w' => ∃ v1 v2, e = .returned (.tuple #[v1, v2]) ∧ Is w' w.heap.size v1 (nl (ordM A n n fun _ => false)) ∧ Is w' w.heap.size v2 (lst (stuckS A n) 128) ∧ Below w.heap.size w w' := by
  obtain ⟨i0', hi, hz0, hz1, hz2⟩ := info_parts info3
  have HG := Lib.hid h
  have HT := Lib.hid hT
  have hn := h.le
  have hg := h.lt
  have HF := Lib.hid h.fit
  have E1 := Lib.hid ((st_nil w).alloc (.cells #[.int .u64 0, .int .u64 0] 49))
  have E2 := Lib.hid (st_nil (w.alloc (.cells #[.int .u64 0, .int .u64 0] 49)))
  have E3 := Lib.hid ((h.blk.alloc (.cells #[.int .u64 0, .int .u64 0] 49)).alloc (.cells #[.int .u64 0, .int .u64 0] 49))
  have E4 : Hid (Below w.heap.size w ((w.alloc (.cells #[.int .u64 0, .int .u64 0] 49)).alloc (.cells #[.int .u64 0, .int .u64 0] 49))) := ((Below.refl _ w).alloc (Nat.le_refl _) _).alloc (by simp) _
  rw [Go.Deep.nblk_alloc] at E2
  obtain ⟨B, hB⟩ : ∃ B, w.heap.size = B := ⟨_, rfl⟩
  have HB := Lib.hid hB
  rw [hB] at E1 E2 E4 hg
  have HBG : Hid (∀ W, Below B w W → B ≤ W.heap.size) := fun W b => by have := b.size; omega
  have HBe := hB
  clear h hT
  go_enter Tryd.func24, Tryd.ntmps24
  go_wp2
  go_step3
  go_wp2
  clear hB HBe
  go_step3
  go_wp2
  go_loopg [4] n (fun k v wr => ∃ (d : Nat → Bool) (L : List Nat), k = n - L.length ∧ Hid (OS B g n A w d (fun _ => false) v L wr) ∧ Hid (Oi A n d L))
  case atStart => exact ⟨fun _ => false, [], rfl, ⟨E1.out, E2.out, E3.out, World.ownsRow_nil _ _ _ _, Bw.of E4.out⟩, Oi.start A n⟩
  case round =>
    clear E1 E2 E3 E4
    obtain ⟨d, L, rfl, HO, HI⟩ := hrel
    have LN := Lib.hid HI.out.le
    obtain ⟨sp, cap, rfl, -, -, -, -⟩ := owns_form1 HO.out.2.2.2.1
    have LE := len_any HO.out.2.2.1
    go_wp2_with fail
    refine LE.mono ?_
    rintro e w2 ⟨rfl, rfl⟩
    clear LE
    go_wp2_with fail
    go_loopg [4, 11] n (fun k v c wr => v = .slice sp L.length cap ∧ ∃ i : Nat, i ≤ n ∧ k = n - i ∧ c = .int .i64 i ∧ Hid (OS B g n A w d (fun _ => false) (.slice sp L.length cap) L wr) ∧ Hid (∀ j, j < i → ready A n d j = false))
    case atStart => exact ⟨rfl, 0, by omega, by omega, rfl, HO.out, fun j h => absurd h (Nat.not_lt_zero _)⟩
    case round =>
      clear HO
      obtain ⟨rfl, i, hin, rfl, rfl, HO, HR⟩ := hrel
      by_cases hlt : i < n
      · have i0 : (0 : Int) ≤ i := by omega
        have i1 : (i : Int) < n := by omega
        have i8 : (i : Int) < 128 := by omega
        have HH : Hid (∀ W, St W B d → Calls Tryd.prog 31 #[.pointer (some ⟨B, 0, none⟩), .int .i64 (i : Int)] W fun e w' => e = .returned (.bool (d i)) ∧ W = w') := fun W hW => has_any B i d W (by omega) hW
        cases hd : d i with
        | true =>
          rw [hd] at HH
          have HR2 : Hid (∀ j, j < i + 1 → ready A n d j = false) := fun j hj => by
            by_cases e : j = i
            · subst e
              unfold ready; rw [hd]; rfl
            · exact HR.out j (by omega)
          clear hd HR
          go_upto_region 6 with fail
          refine wp_region_noPanic ?_
          refine wp_region_held_drew (S := (fun W => OS B g n A w d (fun _ => false) (.slice sp L.length cap) L W)) (by kernel_rfl) ?_ (fun hH => ?_)
          · exact HO.out
          refine wpAnyH_take (i := 0) (oi := { dst := some 14, op := Op.move (Operand.tmp 7), type := 3, pos := "order.go:11", after := #[], guard := none }) (v := ?_) rfl (by kernel_rfl) (by kernel_rfl) (by kernel_rfl) (fun _ _ _ h => h) (Or.inl ⟨by rfl, ?_⟩) (by assumption) ?_
          rotate_left
          · (intro w hSw; (try dsimp only at hSw); go_simp; try with_reducible rfl)
          try simp only [Act.put, List.setIfInBounds_toArray, List.set_cons_zero, List.set_cons_succ]
          refine wpAnyH_ready (rs := [1]) (by kernel_rfl) (by simp) ?_
          refine AllReadyH.cons (o := { dst := some 15, op := Op.call { callee := Callee.value (Operand.func 31), args := #[Operand.tmp 5, Operand.tmp 14], argTypes := #[49, 3] }, type := 4, pos := "order.go:11", after := #[{ on := 0, ground := Ground.data }], guard := none }) rfl (fun K hK => ?_) AllReadyH.nil
          go_simp
          refine (HH.out _ hH.1).mono ?_
          rintro e0 WA ⟨rfl, rfl⟩
          refine hK.out _ _ ?_ (fun hH' => ?_)
          · exact hH
          clear hK K hH
          have hH := hH'
          clear hH'
          try simp only [Act.put, List.setIfInBounds_toArray, List.set_cons_zero, List.set_cons_succ]
          refine wpAnyH_take (i := 2) (oi := { dst := some 16, op := Op.unOp UnOp.not 4 (Operand.tmp 15), type := 4, pos := "order.go:11", after := #[{ on := 1, ground := Ground.data }], guard := none }) (v := ?_) rfl (by kernel_rfl) (by kernel_rfl) (by kernel_rfl) (fun _ _ _ h => h) (Or.inl ⟨by rfl, ?_⟩) (by assumption) ?_
          rotate_left
          · (intro w hSw; (try dsimp only at hSw); go_simp; try with_reducible rfl)
          try simp only [Act.put, List.setIfInBounds_toArray, List.set_cons_zero, List.set_cons_succ]
          refine wpAnyH_take (i := 3) (oi := { dst := some 17, op := Op.move (Operand.tmp 16), type := 4, pos := "order.go:11", after := #[{ on := 2, ground := Ground.data }, { on := 1, ground := Ground.chain }], guard := none }) (v := ?_) rfl (by kernel_rfl) (by kernel_rfl) (by kernel_rfl) (fun _ _ _ h => h) (Or.inl ⟨by rfl, ?_⟩) (by assumption) ?_
          rotate_left
          · (intro w hSw; (try dsimp only at hSw); go_simp; try with_reducible rfl)
          try simp only [Act.put, List.setIfInBounds_toArray, List.set_cons_zero, List.set_cons_succ]
          refine wpAnyH_take (i := 4) (oi := { dst := some 18, op := Op.move (Operand.tmp 0), type := 26, pos := "order.go:11", after := #[{ on := 3, ground := Ground.guard }], guard := some (3, true) }) (v := undef) rfl (by kernel_rfl) (by kernel_rfl) (by kernel_rfl) (fun _ _ _ h => h) (Or.inr ⟨by rfl, rfl⟩) (by assumption) ?_
          try simp only [Act.put, List.setIfInBounds_toArray, List.set_cons_zero, List.set_cons_succ]
          refine wpAnyH_take (i := 5) (oi := { dst := some 19, op := Op.move (Operand.tmp 7), type := 3, pos := "order.go:11", after := #[{ on := 3, ground := Ground.guard }], guard := some (3, true) }) (v := undef) rfl (by kernel_rfl) (by kernel_rfl) (by kernel_rfl) (fun _ _ _ h => h) (Or.inr ⟨by rfl, rfl⟩) (by assumption) ?_
          try simp only [Act.put, List.setIfInBounds_toArray, List.set_cons_zero, List.set_cons_succ]
          refine wpAnyH_take (i := 6) (oi := { dst := some 20, op := Op.nilCheck (Operand.tmp 18), type := 0, pos := "order.go:11", after := #[{ on := 4, ground := Ground.data }, { on := 3, ground := Ground.guard }], guard := some (3, true) }) (v := undef) rfl (by kernel_rfl) (by kernel_rfl) (by kernel_rfl) (fun _ _ _ h => h) (Or.inr ⟨by rfl, rfl⟩) (by assumption) ?_
          try simp only [Act.put, List.setIfInBounds_toArray, List.set_cons_zero, List.set_cons_succ]
          refine wpAnyH_take (i := 7) (oi := { dst := some 21, op := Op.fieldAddr 52 (Operand.tmp 20) 1, type := 0, pos := "order.go:11", after := #[{ on := 6, ground := Ground.data }, { on := 3, ground := Ground.guard }], guard := some (3, true) }) (v := undef) rfl (by kernel_rfl) (by kernel_rfl) (by kernel_rfl) (fun _ _ _ h => h) (Or.inr ⟨by rfl, rfl⟩) (by assumption) ?_
          try simp only [Act.put, List.setIfInBounds_toArray, List.set_cons_zero, List.set_cons_succ]
          refine wpAnyH_take (i := 8) (oi := { dst := some 22, op := Op.indexAddr 50 (Operand.tmp 21) (Operand.tmp 19), type := 0, pos := "order.go:11", after := #[{ on := 7, ground := Ground.data }, { on := 5, ground := Ground.data }, { on := 3, ground := Ground.guard }], guard := some (3, true) }) (v := undef) rfl (by kernel_rfl) (by kernel_rfl) (by kernel_rfl) (fun _ _ _ h => h) (Or.inr ⟨by rfl, rfl⟩) (by assumption) ?_
          try simp only [Act.put, List.setIfInBounds_toArray, List.set_cons_zero, List.set_cons_succ]
          refine wpAnyH_take (i := 9) (oi := { dst := some 23, op := Op.load 49 (Operand.tmp 22), type := 49, pos := "order.go:11", after := #[{ on := 8, ground := Ground.data }, { on := 3, ground := Ground.guard }], guard := some (3, true) }) (v := undef) rfl (by kernel_rfl) (by kernel_rfl) (by kernel_rfl) (fun _ _ _ h => h) (Or.inr ⟨by rfl, rfl⟩) (by assumption) ?_
          try simp only [Act.put, List.setIfInBounds_toArray, List.set_cons_zero, List.set_cons_succ]
          refine wpAnyH_take (i := 10) (oi := { dst := some 24, op := Op.load 49 (Operand.tmp 5), type := 49, pos := "order.go:11", after := #[{ on := 3, ground := Ground.guard }], guard := some (3, true) }) (v := undef) rfl (by kernel_rfl) (by kernel_rfl) (by kernel_rfl) (fun _ _ _ h => h) (Or.inr ⟨by rfl, rfl⟩) (by assumption) ?_
          try simp only [Act.put, List.setIfInBounds_toArray, List.set_cons_zero, List.set_cons_succ]
          refine wpAnyH_take (i := 11) (oi := { dst := some 25, op := Op.call { callee := Callee.value (Operand.func 32), args := #[Operand.tmp 23, Operand.tmp 24], argTypes := #[49, 49] }, type := 49, pos := "order.go:11", after := #[{ on := 9, ground := Ground.data }, { on := 10, ground := Ground.data }, { on := 3, ground := Ground.chain }, { on := 3, ground := Ground.guard }], guard := some (3, true) }) (v := undef) rfl (by kernel_rfl) (by kernel_rfl) (by kernel_rfl) (fun _ _ _ h => h) (Or.inr ⟨by rfl, rfl⟩) (by assumption) ?_
          try simp only [Act.put, List.setIfInBounds_toArray, List.set_cons_zero, List.set_cons_succ]
          refine wpAnyH_take (i := 12) (oi := { dst := some 26, op := Op.build 49 #[], type := 49, pos := "order.go:11", after := #[{ on := 3, ground := Ground.guard }], guard := some (3, true) }) (v := undef) rfl (by kernel_rfl) (by kernel_rfl) (by kernel_rfl) (fun _ _ _ h => h) (Or.inr ⟨by rfl, rfl⟩) (by assumption) ?_
          try simp only [Act.put, List.setIfInBounds_toArray, List.set_cons_zero, List.set_cons_succ]
          refine wpAnyH_take (i := 13) (oi := { dst := some 27, op := Op.binOp BinOp.eql 49 (Operand.tmp 25) (Operand.tmp 26) 49, type := 4, pos := "order.go:11", after := #[{ on := 11, ground := Ground.data }, { on := 12, ground := Ground.data }, { on := 3, ground := Ground.guard }], guard := some (3, true) }) (v := undef) rfl (by kernel_rfl) (by kernel_rfl) (by kernel_rfl) (fun _ _ _ h => h) (Or.inr ⟨by rfl, rfl⟩) (by assumption) ?_
          try simp only [Act.put, List.setIfInBounds_toArray, List.set_cons_zero, List.set_cons_succ]
          refine wpAnyH_take (i := 14) (oi := { dst := some 28, op := Op.pick (Operand.tmp 17) (Operand.tmp 27) (Operand.const (Value.bool false)), type := 4, pos := "order.go:11", after := #[{ on := 3, ground := Ground.data }, { on := 13, ground := Ground.data }], guard := none }) (v := ?_) rfl (by kernel_rfl) (by kernel_rfl) (by kernel_rfl) (fun _ _ _ h => h) (Or.inl ⟨by rfl, ?_⟩) (by assumption) ?_
          rotate_left
          · (intro w hSw; (try dsimp only at hSw); go_simp; try with_reducible rfl)
          try simp only [Act.put, List.setIfInBounds_toArray, List.set_cons_zero, List.set_cons_succ]
          refine wpAnyH_done (by kernel_rfl) ?_ _
          refine NoPanic.normal ?_
          obtain ⟨WF, hWF⟩ : ∃ W, W = W := ⟨w, rfl⟩
          clear WF hWF
          have HO2 := Lib.hid hH
          clear hH HO
          go_wp2_with fail
          go_roundg (n - (i + 1))
          case rel => exact ⟨rfl, i + 1, by omega, rfl, by go_num, HO2.out, HR2.out⟩
          case measure => omega
        | false =>
          rw [hd] at HH
          have HRE := Lib.hid (ready_eq hn HF.out hd)
          have HREN : Hid ((decide (wd (dif (A i) d) 0 = 0) && decide (wd (dif (A i) d) 1 = 0)) = ready A n d i) := by
            have := HRE.out
            rwa [decide_eq_decide.2 (show ((wd (dif (A i) d) 0 : Int) = 0 ↔ wd (dif (A i) d) 0 = 0) by omega), decide_eq_decide.2 (show ((wd (dif (A i) d) 1 : Int) = 0 ↔ wd (dif (A i) d) 1 = 0) by omega)] at this
          have HLS := Lib.hid (fun W => less_any (A i) d W)
          have HGC : Hid (∀ W, GB W g n A (turnA A) → W.cell? ⟨g, 1 + i * 2, none⟩ = some (.int .u64 (wd (A i) 0 : Int)) ∧ W.cell? ⟨g, 1 + i * 2 + 1, none⟩ = some (.int .u64 (wd (A i) 1 : Int))) := fun W hW => by
            have c0 := World.rowIs.cell hW (i := 1 + i * 2 + 0) (by omega)
            have c1 := World.rowIs.cell hW (i := 1 + i * 2 + 1) (by omega)
            rw [gc_a _ _ _ (by omega) (by omega)] at c0 c1
            exact ⟨c0, c1⟩
          go_upto_region 6 with fail
          refine wp_region_noPanic ?_
          refine wp_region_held_drew (S := (fun W => OS B g n A w d (fun _ => false) (.slice sp L.length cap) L W)) (by kernel_rfl) ?_ (fun hH => ?_)
          · exact HO.out
          refine wpAnyH_take (i := 0) (oi := { dst := some 14, op := Op.move (Operand.tmp 7), type := 3, pos := "order.go:11", after := #[], guard := none }) (v := ?_) rfl (by kernel_rfl) (by kernel_rfl) (by kernel_rfl) (fun _ _ _ h => h) (Or.inl ⟨by rfl, ?_⟩) (by assumption) ?_
          rotate_left
          · (intro w hSw; (try dsimp only at hSw); go_simp; try with_reducible rfl)
          try simp only [Act.put, List.setIfInBounds_toArray, List.set_cons_zero, List.set_cons_succ]
          refine wpAnyH_ready (rs := [1]) (by kernel_rfl) (by simp) ?_
          refine AllReadyH.cons (o := { dst := some 15, op := Op.call { callee := Callee.value (Operand.func 31), args := #[Operand.tmp 5, Operand.tmp 14], argTypes := #[49, 3] }, type := 4, pos := "order.go:11", after := #[{ on := 0, ground := Ground.data }], guard := none }) rfl (fun K hK => ?_) AllReadyH.nil
          go_simp
          refine (HH.out _ hH.1).mono ?_
          rintro e0 WA ⟨rfl, rfl⟩
          refine hK.out _ _ ?_ (fun hH' => ?_)
          · exact hH
          clear hK K hH
          have hH := hH'
          clear hH'
          try simp only [Act.put, List.setIfInBounds_toArray, List.set_cons_zero, List.set_cons_succ]
          refine wpAnyH_take (i := 2) (oi := { dst := some 16, op := Op.unOp UnOp.not 4 (Operand.tmp 15), type := 4, pos := "order.go:11", after := #[{ on := 1, ground := Ground.data }], guard := none }) (v := ?_) rfl (by kernel_rfl) (by kernel_rfl) (by kernel_rfl) (fun _ _ _ h => h) (Or.inl ⟨by rfl, ?_⟩) (by assumption) ?_
          rotate_left
          · (intro w hSw; (try dsimp only at hSw); go_simp; try with_reducible rfl)
          try simp only [Act.put, List.setIfInBounds_toArray, List.set_cons_zero, List.set_cons_succ]
          refine wpAnyH_take (i := 3) (oi := { dst := some 17, op := Op.move (Operand.tmp 16), type := 4, pos := "order.go:11", after := #[{ on := 2, ground := Ground.data }, { on := 1, ground := Ground.chain }], guard := none }) (v := ?_) rfl (by kernel_rfl) (by kernel_rfl) (by kernel_rfl) (fun _ _ _ h => h) (Or.inl ⟨by rfl, ?_⟩) (by assumption) ?_
          rotate_left
          · (intro w hSw; (try dsimp only at hSw); go_simp; try with_reducible rfl)
          try simp only [Act.put, List.setIfInBounds_toArray, List.set_cons_zero, List.set_cons_succ]
          refine wpAnyH_take (i := 4) (oi := { dst := some 18, op := Op.move (Operand.tmp 0), type := 26, pos := "order.go:11", after := #[{ on := 3, ground := Ground.guard }], guard := some (3, true) }) (v := ?_) rfl (by kernel_rfl) (by kernel_rfl) (by kernel_rfl) (fun _ _ _ h => h) (Or.inl ⟨by rfl, ?_⟩) (by assumption) ?_
          rotate_left
          · (intro w hSw; (try dsimp only at hSw); go_simp; try with_reducible rfl)
          try simp only [Act.put, List.setIfInBounds_toArray, List.set_cons_zero, List.set_cons_succ]
          refine wpAnyH_take (i := 5) (oi := { dst := some 19, op := Op.move (Operand.tmp 7), type := 3, pos := "order.go:11", after := #[{ on := 3, ground := Ground.guard }], guard := some (3, true) }) (v := ?_) rfl (by kernel_rfl) (by kernel_rfl) (by kernel_rfl) (fun _ _ _ h => h) (Or.inl ⟨by rfl, ?_⟩) (by assumption) ?_
          rotate_left
          · (intro w hSw; (try dsimp only at hSw); go_simp; try with_reducible rfl)
          try simp only [Act.put, List.setIfInBounds_toArray, List.set_cons_zero, List.set_cons_succ]
          refine wpAnyH_take (i := 6) (oi := { dst := some 20, op := Op.nilCheck (Operand.tmp 18), type := 0, pos := "order.go:11", after := #[{ on := 4, ground := Ground.data }, { on := 3, ground := Ground.guard }], guard := some (3, true) }) (v := ?_) rfl (by kernel_rfl) (by kernel_rfl) (by kernel_rfl) (fun _ _ _ h => h) (Or.inl ⟨by rfl, ?_⟩) (by assumption) ?_
          rotate_left
          · (intro w hSw; (try dsimp only at hSw); go_simp; try with_reducible rfl)
          try simp only [Act.put, List.setIfInBounds_toArray, List.set_cons_zero, List.set_cons_succ]
          refine wpAnyH_take (i := 7) (oi := { dst := some 21, op := Op.fieldAddr 52 (Operand.tmp 20) 1, type := 0, pos := "order.go:11", after := #[{ on := 6, ground := Ground.data }, { on := 3, ground := Ground.guard }], guard := some (3, true) }) (v := ?_) rfl (by kernel_rfl) (by kernel_rfl) (by kernel_rfl) (fun _ _ _ h => h) (Or.inl ⟨by rfl, ?_⟩) (by assumption) ?_
          rotate_left
          · (intro w hSw; (try dsimp only at hSw); go_simp; try with_reducible rfl)
          try simp only [Act.put, List.setIfInBounds_toArray, List.set_cons_zero, List.set_cons_succ]
          refine wpAnyH_take (i := 8) (oi := { dst := some 22, op := Op.indexAddr 50 (Operand.tmp 21) (Operand.tmp 19), type := 0, pos := "order.go:11", after := #[{ on := 7, ground := Ground.data }, { on := 5, ground := Ground.data }, { on := 3, ground := Ground.guard }], guard := some (3, true) }) (v := ?_) rfl (by kernel_rfl) (by kernel_rfl) (by kernel_rfl) (fun _ _ _ h => h) (Or.inl ⟨by rfl, ?_⟩) (by assumption) ?_
          rotate_left
          · (intro w hSw; (try dsimp only at hSw); go_simp; try with_reducible rfl)
          try simp only [Act.put, List.setIfInBounds_toArray, List.set_cons_zero, List.set_cons_succ]
          refine wpAnyH_take (i := 9) (oi := { dst := some 23, op := Op.load 49 (Operand.tmp 22), type := 49, pos := "order.go:11", after := #[{ on := 8, ground := Ground.data }, { on := 3, ground := Ground.guard }], guard := some (3, true) }) (v := .agg #[.int .u64 (wd (A i) 0 : Int), .int .u64 (wd (A i) 1 : Int)]) rfl (by kernel_rfl) (by kernel_rfl) (by kernel_rfl) (fun _ _ _ h => h) (Or.inl ⟨by rfl, ?_⟩) (by assumption) ?_
          · (intro W hSw; obtain ⟨c0, c1⟩ := HGC.out W hSw.2.2.1; go_simp)
          try simp only [Act.put, List.setIfInBounds_toArray, List.set_cons_zero, List.set_cons_succ]
          refine wpAnyH_take (i := 10) (oi := { dst := some 24, op := Op.load 49 (Operand.tmp 5), type := 49, pos := "order.go:11", after := #[{ on := 3, ground := Ground.guard }], guard := some (3, true) }) (v := .agg #[.int .u64 (wd d 0 : Int), .int .u64 (wd d 1 : Int)]) rfl (by kernel_rfl) (by kernel_rfl) (by kernel_rfl) (fun _ _ _ h => h) (Or.inl ⟨by rfl, ?_⟩) (by assumption) ?_
          · (intro W hSw; obtain ⟨c0, c1⟩ := st_two hSw.1; go_simp)
          try simp only [Act.put, List.setIfInBounds_toArray, List.set_cons_zero, List.set_cons_succ]
          refine wpAnyH_take (i := 12) (oi := { dst := some 26, op := Op.build 49 #[], type := 49, pos := "order.go:11", after := #[{ on := 3, ground := Ground.guard }], guard := some (3, true) }) (v := ?_) rfl (by kernel_rfl) (by kernel_rfl) (by kernel_rfl) (fun _ _ _ h => h) (Or.inl ⟨by rfl, ?_⟩) (by assumption) ?_
          rotate_left
          · (intro w hSw; (try dsimp only at hSw); go_simp; try with_reducible rfl)
          try simp only [Act.put, List.setIfInBounds_toArray, List.set_cons_zero, List.set_cons_succ]
          refine wpAnyH_ready (rs := [11]) (by kernel_rfl) (by simp) ?_
          refine AllReadyH.cons (o := { dst := some 25, op := Op.call { callee := Callee.value (Operand.func 32), args := #[Operand.tmp 23, Operand.tmp 24], argTypes := #[49, 49] }, type := 49, pos := "order.go:11", after := #[{ on := 9, ground := Ground.data }, { on := 10, ground := Ground.data }, { on := 3, ground := Ground.chain }, { on := 3, ground := Ground.guard }], guard := some (3, true) }) rfl (fun K hK => ?_) AllReadyH.nil
          go_simp
          refine (HLS.out _).mono ?_
          rintro e0 WB ⟨rfl, bB⟩
          refine hK.out _ _ ?_ (fun hH' => ?_)
          · exact hH.keep bB (Nat.le_of_eq HB.out.symm)
          clear hK K hH
          have hH := hH'
          clear hH'
          try simp only [Act.put, List.setIfInBounds_toArray, List.set_cons_zero, List.set_cons_succ]
          refine wpAnyH_take (i := 13) (oi := { dst := some 27, op := Op.binOp BinOp.eql 49 (Operand.tmp 25) (Operand.tmp 26) 49, type := 4, pos := "order.go:11", after := #[{ on := 11, ground := Ground.data }, { on := 12, ground := Ground.data }, { on := 3, ground := Ground.guard }], guard := some (3, true) }) (v := .bool (decide ((wd (dif (A i) d) 0 : Int) = 0) && decide ((wd (dif (A i) d) 1 : Int) = 0))) rfl (by kernel_rfl) (by kernel_rfl) (by kernel_rfl) (fun _ _ _ h => h) (Or.inl ⟨by rfl, ?_⟩) (by assumption) ?_
          · (intro W hSw; unfold execOp; simp only [Sem.run_bind, Sem.run_pure]; refine eql_all _ (.tmp 25) (.tmp 26) _ _ ?_ ?_ W <;> rfl)
          try simp only [Act.put, List.setIfInBounds_toArray, List.set_cons_zero, List.set_cons_succ]
          refine wpAnyH_take (i := 14) (oi := { dst := some 28, op := Op.pick (Operand.tmp 17) (Operand.tmp 27) (Operand.const (Value.bool false)), type := 4, pos := "order.go:11", after := #[{ on := 3, ground := Ground.data }, { on := 13, ground := Ground.data }], guard := none }) (v := ?_) rfl (by kernel_rfl) (by kernel_rfl) (by kernel_rfl) (fun _ _ _ h => h) (Or.inl ⟨by rfl, ?_⟩) (by assumption) ?_
          rotate_left
          · (intro w hSw; (try dsimp only at hSw); go_simp; try with_reducible rfl)
          try simp only [Act.put, List.setIfInBounds_toArray, List.set_cons_zero, List.set_cons_succ]
          refine wpAnyH_done (by kernel_rfl) ?_ _
          refine NoPanic.normal ?_
          have HO2 := Lib.hid hH
          clear hH HO HH HLS HGC
          rw [HRE.out, HREN.out]
          cases hr : ready A n d i with
          | true =>
            have HS := Lib.hid (HI.out.step hlt hr HR.out)
            have HA := add_st B i d WB (by omega) HO2.out.1
            clear hr HR HRE HREN hd bB
            go_wp2_with fail
            refine HA.mono ?_
            rintro e w3 ⟨rfl, s3, x3⟩
            have hw0 : w.heap.size ≤ WB.heap.size := HO2.out.2.2.2.2.2.2.2.1
            have hb1 := World.rowIs.lt HO2.out.2.1
            have HO3 : Hid (OS B g n A w (upd d i) (fun _ => false) (.slice sp L.length cap) L w3) :=
              ⟨s3, Exc.row x3 HO2.out.2.1 (by omega), Exc.row x3 HO2.out.2.2.1 (by omega), owns_exc HO2.out.2.2.2.1 x3 (fun e => by have := HO2.out.2.2.2.1.lt B e; omega),
                Bw.of (HO2.out.2.2.2.2.below.trans (x3.below1 (by omega) (Nat.le_refl _)))⟩
            have hw3 : B + 2 ≤ w3.heap.size := by have := World.rowIs.lt HO3.out.2.1; omega
            clear HA s3 x3 hw0 hb1 HO2
            have HOW := Lib.hid (HO3.out.2.2.2.1.alloc (.cells #[.int .i64 (i : Int)] 3))
            have l0 := HS.out.2
            go_wp2_with (at_builtin; go_must (refine wpList_append_own _ rfl (.tmp 31) (.tmp 33) 23 rfl (B + 2) 3 i0' (.int .i64 0) 1 8 Tryd.underlying23 hi hz0 hz1 hz2 rfl (by decide) _ L.length _ rfl HOW.out ⟨w3.heap.size, 0, none⟩ 1 1 [.int .i64 (i : Int)] rfl rfl (cell_one_new _ _ _) (by intro u hu; simp at hu; subst hu; rfl) (by unfold maxLen; omega) (by omega) (by simp; omega) ?_))
            intro v7 w7 o7 g7 _
            have HO7 : Hid (OS B g n A w (upd d i) (fun _ => false) v7 (L ++ [i]) w7) := by
              have hne : ∀ k, k < w3.heap.size → k < B + 2 → w7.heap[k]? = (w3.alloc (.cells #[.int .i64 (i : Int)] 3)).heap[k]? := fun k hk hk2 => g7.block k (by simp; omega) (fun e => by have := (HOW.out.lt k e.symm).1; omega)
              have a1 := World.rowIs.alloc HO3.out.1 (.cells #[.int .i64 (i : Int)] 3)
              have a2 := World.rowIs.alloc HO3.out.2.1 (.cells #[.int .i64 (i : Int)] 3)
              have a3 := World.rowIs.alloc HO3.out.2.2.1 (.cells #[.int .i64 (i : Int)] 3)
              have hw0 : w.heap.size ≤ w3.heap.size := HO3.out.2.2.2.2.2.2.2.1
              refine ⟨World.rowIs.of_block a1 (hne _ (by omega) (by omega)), World.rowIs.of_block a2 (hne _ (by omega) (by omega)), World.rowIs.of_block a3 (hne _ (by omega) (by omega)), ?_,
                Bw.of ((HO3.out.2.2.2.2.below.alloc (by omega) _).grown g7 (by simp; omega) (fun k hk => by have := (HOW.out.lt k hk).1; omega))⟩
              rw [nl_snoc, iv_snoc, List.length_append]
              exact o7
            clear o7 g7
            go_wp2_with fail
            go_roundg (n - (L.length + 1))
            case rel => exact ⟨upd d i, L ++ [i], by rw [List.length_append]; rfl, HO7.out, HS.out.1⟩
            case measure => omega
          | false =>
            have HR2 : Hid (∀ j, j < i + 1 → ready A n d j = false) := fun j hj => by
              by_cases e : j = i
              · subst e; exact hr
              · exact HR.out j (by omega)
            clear hr HR HRE HREN hd bB
            go_wp2_with fail
            go_roundg (n - (i + 1))
            case rel => exact ⟨rfl, i + 1, by omega, rfl, by go_num, HO2.out, HR2.out⟩
            case measure => omega
      · have hin : i = n := by omega
        subst hin
        obtain ⟨hL, hD⟩ := HI.out.stop HR.out
        have HL := Lib.hid hL
        have HD := Lib.hid hD
        clear hL hD HR
        have LE := len_any HO.out.2.2.1
        go_wp2_with fail
        refine LE.mono ?_
        rintro e w2 ⟨rfl, rfl⟩
        clear LE
        go_wp2_with fail
        go_loopg [38] i (fun k c wr => ∃ j : Nat, j ≤ i ∧ k = i - j ∧ c = .int .i64 j ∧ Hid (OS B g i A w d (fun q => decide (q < j) && !d q) (.slice sp L.length cap) L wr))
        case atStart => exact ⟨0, by omega, by omega, rfl, by
          have : (fun q => decide (q < 0) && !d q) = fun _ => false := by funext q; simp
          rw [this]; exact HO.out⟩
        case round =>
          clear HO
          obtain ⟨j, hj, rfl, rfl, HO⟩ := hrel
          by_cases hjl : j < i
          · have j0 : (0 : Int) ≤ j := by omega
            have j1 : (j : Int) < i := by omega
            have HH := has_any B j d wr (by omega) HO.out.1
            have HW1 := World.rowIs.lt HO.out.2.1
            cases hd : d j with
            | true =>
              have HO2 : Hid (OS B g i A w d (fun q => decide (q < j + 1) && !d q) (.slice sp L.length cap) L wr) := by
                have : (fun q => decide (q < j + 1) && !d q) = fun q => decide (q < j) && !d q := by
                  funext q
                  by_cases e : q = j
                  · subst e; rw [hd]; simp
                  · rw [decide_eq_decide.2 (show (q < j + 1 ↔ q < j) by omega)]
                unfold Hid; rw [this]; exact HO.out
              rw [hd] at HH
              clear hd HO
              go_wp2_with fail
              refine HH.mono ?_
              rintro e w3 ⟨rfl, rfl⟩
              clear HH
              go_wp2_with fail
              go_roundg (i - (j + 1))
              case rel => exact ⟨j + 1, by omega, rfl, by go_num, HO2.out⟩
              case measure => omega
            | false =>
              have hu : upd (fun q => decide (q < j) && !d q) j = fun q => decide (q < j + 1) && !d q := by
                funext q
                unfold upd
                by_cases e : q = j
                · subst e; rw [if_pos rfl, hd]; simp
                · rw [if_neg e, decide_eq_decide.2 (show (q < j + 1 ↔ q < j) by omega)]
              have HA := add_st (B + 1) j (fun q => decide (q < j) && !d q) wr (by omega) HO.out.2.1
              rw [hu] at HA
              rw [hd] at HH
              clear hd hu
              go_wp2_with fail
              refine HH.mono ?_
              rintro e w3 ⟨rfl, rfl⟩
              clear HH
              go_wp2_with fail
              refine HA.mono ?_
              rintro e w3 ⟨rfl, s3, x3⟩
              have hw0 : w.heap.size ≤ wr.heap.size := HO.out.2.2.2.2.2.2.2.1
              have HO3 : Hid (OS B g i A w d (fun q => decide (q < j + 1) && !d q) (.slice sp L.length cap) L w3) :=
                ⟨Exc.row x3 HO.out.1 (by omega), s3, Exc.row x3 HO.out.2.2.1 (by omega), owns_exc HO.out.2.2.2.1 x3 (fun e => by have := (HO.out.2.2.2.1.lt (B + 1) e).1; omega),
                  Bw.of (HO.out.2.2.2.2.below.trans (x3.below1 (by omega) (by omega)))⟩
              clear HA s3 x3 hw0 HO
              go_wp2_with fail
              go_roundg (i - (j + 1))
              case rel => exact ⟨j + 1, by omega, rfl, by go_num, HO3.out⟩
              case measure => omega
          · have hji : j = i := by omega
            subst hji
            obtain ⟨c0, c1⟩ := st_two HO.out.2.1
            have LI := Lib.hid (list_any (fun q => decide (q < j) && !d q) wr (HO.out.tab HT.out HB.out))
            go_wp2_with fail
            refine LI.out.mono ?_
            rintro e w3 ⟨v2, rfl, hv2, b2⟩
            have HV : Hid (Is w3 w.heap.size (.slice sp L.length cap) (nl (ordM A j j fun _ => false)) ∧ Is w3 w.heap.size v2 (lst (stuckS A j) 128) ∧ Below w.heap.size w w3) := by
              have hw0 : w.heap.size ≤ wr.heap.size := HO.out.2.2.2.2.2.2.2.1
              have hB := HB.out
              refine ⟨?_, ?_, ?_⟩
              · have h1 := HO.out.2.2.2.1
                have h4 : Ow wr (B + 2) (.slice sp L.length cap) (nl L) := by
                  show World.ownsRow _ _ _ _ _ (nl L).length _
                  rw [nl_len]; exact h1
                have h2 := (h4.is.mono (B' := w.heap.size) (by omega)).below b2
                rw [← HL.out]; exact h2
              · have e3 : stuckS A j = fun q => decide (q < j) && !d q := by unfold stuckS; rw [← HD.out]
                rw [e3]; exact hv2.mono hw0
              · have h3 := HO.out.2.2.2.2.below
                rw [← hB] at h3
                exact h3.trans (b2.mono hw0)
            clear hv2 b2 LI HO c0 c1
            go_wp2_with fail
            try rw [Exit.noGoto_ret]
            exact bodyPost_ret (results_tmp2 rfl _ _ _) rfl ⟨.slice sp L.length cap, v2, rfl, HV.out.1, HV.out.2.1, HV.out.2.2⟩
end Go.Proofs.YtonnopcafmhaaaaDoor
