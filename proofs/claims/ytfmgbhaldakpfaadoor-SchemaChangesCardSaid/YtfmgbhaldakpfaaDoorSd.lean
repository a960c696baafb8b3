/- Find. -/
import Derived.Test.YtfmgbhaldakpfaaDoorSc
import Derived.Test.YtfmgbhaldakpfaaDoorK
namespace Go.Proofs.YtfmgbhaldakpfaaDoor
open Go.ChangeShapes Go.WideShapes Go.MapKept Go.RowKit
open Go.Maps (Keyed)

/-- a whole box is written over -/
theorem store_box' {w : World} {g : Nat} {T : TypeId} {cs : Array Value} (h : w.heap[g]? = some (.cells cs T (0, 0))) (part : Array Value) (hs : cs.size = part.size) :
    (w.setRow g (over cs part)).heap[g]? = some (.cells part T (0, 0)) := by
  rw [setRow_heap w g _ _ T _ h]
  congr 2
  unfold over
  rw [List.drop_eq_nil_of_le (by simp; omega)]
  simp
/-- an attribute's box -/
abbrev az : Array Value := #[.string ⟨#[]⟩, .int .i64 0, .int .i64 0, .bool false, .bool false, .bool false, .bool false]
abbrev ac (a : Atr) : Array Value := #[.string a.nm, .int .i64 a.tk, .int .i64 a.to, .bool a.nd, .bool a.cm, .bool a.an, .bool a.ow]
theorem rc7 {w : World} {b : Nat} {c0 c1 c2 c3 c4 c5 c6 : Value} {t : TypeId} (h : w.heap[b]? = some (.cells #[c0, c1, c2, c3, c4, c5, c6] t (0, 0))) :
    w.cell? ⟨b, 0, none⟩ = some c0 ∧ w.cell? ⟨b, 1, none⟩ = some c1 ∧ w.cell? ⟨b, 2, none⟩ = some c2 ∧ w.cell? ⟨b, 3, none⟩ = some c3 ∧ w.cell? ⟨b, 4, none⟩ = some c4 ∧ w.cell? ⟨b, 5, none⟩ = some c5 ∧ w.cell? ⟨b, 6, none⟩ = some c6 ∧ b < w.heap.size :=
  ⟨cell_of_row w b 0 _ _ _ h, cell_of_row w b 1 _ _ _ h, cell_of_row w b 2 _ _ _ h, cell_of_row w b 3 _ _ _ h, cell_of_row w b 4 _ _ _ h, cell_of_row w b 5 _ _ _ h, cell_of_row w b 6 _ _ _ h, (Array.getElem?_eq_some_iff.1 h).1⟩
theorem size31 : (Tryd.prog.info? 31).map (·.size) = some 7 := by kernel_rfl
/-- what Find answers -/
def FindPost (t n : ByteArray) (w : World) (e : Ending) (w' : World) : Prop :=
  Below w.heap.size w w' ∧ match find t n with
    | none => e = .returned (.tuple #[azv, .int .i64 9])
    | some a => e = .returned (.tuple #[av a, .int .i64 0])
set_option maxHeartbeats 1000000 in
set_option maxRecDepth 100000 in
theorem sfind_any (t n : ByteArray) (w : World) (hT : Tab w) (h1 : t.size ≤ maxLen) (h2 : n.size ≤ maxLen) : Calls Tryd.prog 9 #[.string t, .string n] w (FindPost t n w) := by
  have HP := Lib.hid (byPlace_any (w.alloc (.cells az 31)) (hT.below ((Below.refl w.heap.size w).alloc (Nat.le_refl _) _) hT.lt))
  obtain ⟨kl, hkl⟩ := pk_key t n h1 h2
  have HL := Lib.hid (fun w1 b f (m : Mo Tryd.prog 66 w1 b f) => m.look law66 Tryd.underlying63 zero31 hkl)
  have HZ : Hid ((w.alloc (.cells az 31)).heap[w.heap.size]? = some (.cells az 31 (0, 0))) := heap_alloc_new _ _
  unfold FindPost
  cases hf : find t n with
  | none =>
    have HF := Lib.hid hf
    clear hkl hf hT h1 h2
    go_enter Tryd.func9, Tryd.ntmps9
    go_wp2_with fail
    refine HP.out.mono ?_
    rintro e w1 ⟨b, f, rfl, hm, hF, hB⟩
    have l1 := HL.out w1 b f hm
    rw [hF t n, findR_all, HF.out] at l1
    simp only [Option.map_none, Option.getD_none, Option.isSome_none] at l1
    have hlt : w.heap.size < w1.heap.size := by have := hB.size; simp at this; omega
    have Q1 : Hid ((w1.alloc (.cells (az) 31)).heap[w.heap.size]? = some (.cells az 31 (0, 0))) := by
      exact (((Below.refl w1.heap.size w1).alloc (Nat.le_refl _) _).block _ hlt).trans ((hB.block _ (by simp)).trans HZ.out)
    have B0 : Below w.heap.size w (w1.alloc (.cells (az) 31)) := (((Below.refl w.heap.size w).alloc (Nat.le_refl _) _).trans (hB.mono (by simp))).alloc (by omega) _
    have R := Lib.hid (store_box' Q1.out (az) rfl)
    have BW := Lib.hid (below_setRow B0 (Nat.le_refl _) (over az (az)))
    have h8 : w1.heap.size < w1.heap.size + 1 := Nat.lt_succ_self _
    clear hm hF hB B0
    go_upto_region 2 with (fail)
    go_wp2_with ((with_reducible refine wpList_store_at rfl 31 (.tmp 4) (.tmp 18) rfl w.heap.size 0 rfl _ rfl 31 az Q1.out ?sta1 ?sta2 ?sta3 ?sta4); case' sta4 => generalize World.setRow _ _ _ = w5 at *)
    case sta1 => simp
    case sta2 => have := size31; simpa using this
    case sta3 => simp [Value.oneCell']
    obtain ⟨p0, p1, p2, p3, p4, p5, p6, p7⟩ := rc7 (show w5.heap[w.heap.size]? = some (.cells (az) 31 (0, 0)) from R.out)
    exact bodyPost_ret (v := .tuple #[azv, .int .i64 9]) (by simp [results, Tryd.results9, go_sem, p0, p1, p2, p3, p4, p5, p6]) rfl ⟨BW.out, rfl⟩
  | some a =>
    have HF := Lib.hid hf
    clear hkl hf hT h1 h2
    go_enter Tryd.func9, Tryd.ntmps9
    go_wp2_with fail
    refine HP.out.mono ?_
    rintro e w1 ⟨b, f, rfl, hm, hF, hB⟩
    have l1 := HL.out w1 b f hm
    rw [hF t n, findR_all, HF.out] at l1
    simp only [Option.map_some, Option.getD_some, Option.isSome_some] at l1
    have hlt : w.heap.size < w1.heap.size := by have := hB.size; simp at this; omega
    have Q1 : Hid ((w1.alloc (.cells (ac a) 31)).heap[w.heap.size]? = some (.cells az 31 (0, 0))) := by
      exact (((Below.refl w1.heap.size w1).alloc (Nat.le_refl _) _).block _ hlt).trans ((hB.block _ (by simp)).trans HZ.out)
    have B0 : Below w.heap.size w (w1.alloc (.cells (ac a) 31)) := (((Below.refl w.heap.size w).alloc (Nat.le_refl _) _).trans (hB.mono (by simp))).alloc (by omega) _
    have R := Lib.hid (store_box' Q1.out (ac a) rfl)
    have BW := Lib.hid (below_setRow B0 (Nat.le_refl _) (over az (ac a)))
    have h8 : w1.heap.size < w1.heap.size + 1 := Nat.lt_succ_self _
    clear hm hF hB B0
    go_upto_region 2 with (fail)
    go_wp2_with ((with_reducible refine wpList_store_at rfl 31 (.tmp 4) (.tmp 19) rfl w.heap.size 0 rfl _ rfl 31 az Q1.out ?stb1 ?stb2 ?stb3 ?stb4); case' stb4 => generalize World.setRow _ _ _ = w5 at *)
    case stb1 => simp
    case stb2 => have := size31; simpa using this
    case stb3 => simp [Value.oneCell']
    obtain ⟨p0, p1, p2, p3, p4, p5, p6, p7⟩ := rc7 (show w5.heap[w.heap.size]? = some (.cells (ac a) 31 (0, 0)) from R.out)
    exact bodyPost_ret (v := .tuple #[av a, .int .i64 0]) (by simp [results, Tryd.results9, go_sem, p0, p1, p2, p3, p4, p5, p6]) rfl ⟨BW.out, rfl⟩
end Go.Proofs.YtfmgbhaldakpfaaDoor
