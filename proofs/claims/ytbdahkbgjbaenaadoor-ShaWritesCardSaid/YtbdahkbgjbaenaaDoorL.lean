/- Contract: Hex. -/
import Derived.Test.YtbdahkbgjbaenaaDoorK
import Derived.Laws.BytesString
namespace Go.Proofs.YtbdahkbgjbaenaaDoor
open Go.RowKit

/-- a digit of base 16 -/
def dgt (n : Int) : Int := if n < 10 then 48 + n else 87 + n
def hexAt (F : Nat → Int) (j : Nat) : Int := dgt (if j % 2 = 0 then F (j / 2) / 16 else F (j / 2) % 16)
def lit16 : Value := .string ⟨#[48, 49, 50, 51, 52, 53, 54, 55, 56, 57, 97, 98, 99, 100, 101, 102]⟩
theorem dgt_byte (n : Int) (h : 0 ≤ n ∧ n < 16) : 0 ≤ dgt n ∧ dgt n < 256 := by unfold dgt; split <;> omega
theorem idx16_0 (w : World) : (Instr.index 9 lit16 (.int .u8 0)).run Tryd.prog w = .ok (.int .u8 48) w := by kernel_rfl
theorem idx16_1 (w : World) : (Instr.index 9 lit16 (.int .u8 1)).run Tryd.prog w = .ok (.int .u8 49) w := by kernel_rfl
theorem idx16_2 (w : World) : (Instr.index 9 lit16 (.int .u8 2)).run Tryd.prog w = .ok (.int .u8 50) w := by kernel_rfl
theorem idx16_3 (w : World) : (Instr.index 9 lit16 (.int .u8 3)).run Tryd.prog w = .ok (.int .u8 51) w := by kernel_rfl
theorem idx16_4 (w : World) : (Instr.index 9 lit16 (.int .u8 4)).run Tryd.prog w = .ok (.int .u8 52) w := by kernel_rfl
theorem idx16_5 (w : World) : (Instr.index 9 lit16 (.int .u8 5)).run Tryd.prog w = .ok (.int .u8 53) w := by kernel_rfl
theorem idx16_6 (w : World) : (Instr.index 9 lit16 (.int .u8 6)).run Tryd.prog w = .ok (.int .u8 54) w := by kernel_rfl
theorem idx16_7 (w : World) : (Instr.index 9 lit16 (.int .u8 7)).run Tryd.prog w = .ok (.int .u8 55) w := by kernel_rfl
theorem idx16_8 (w : World) : (Instr.index 9 lit16 (.int .u8 8)).run Tryd.prog w = .ok (.int .u8 56) w := by kernel_rfl
theorem idx16_9 (w : World) : (Instr.index 9 lit16 (.int .u8 9)).run Tryd.prog w = .ok (.int .u8 57) w := by kernel_rfl
theorem idx16_10 (w : World) : (Instr.index 9 lit16 (.int .u8 10)).run Tryd.prog w = .ok (.int .u8 97) w := by kernel_rfl
theorem idx16_11 (w : World) : (Instr.index 9 lit16 (.int .u8 11)).run Tryd.prog w = .ok (.int .u8 98) w := by kernel_rfl
theorem idx16_12 (w : World) : (Instr.index 9 lit16 (.int .u8 12)).run Tryd.prog w = .ok (.int .u8 99) w := by kernel_rfl
theorem idx16_13 (w : World) : (Instr.index 9 lit16 (.int .u8 13)).run Tryd.prog w = .ok (.int .u8 100) w := by kernel_rfl
theorem idx16_14 (w : World) : (Instr.index 9 lit16 (.int .u8 14)).run Tryd.prog w = .ok (.int .u8 101) w := by kernel_rfl
theorem idx16_15 (w : World) : (Instr.index 9 lit16 (.int .u8 15)).run Tryd.prog w = .ok (.int .u8 102) w := by kernel_rfl
theorem idx16 (n : Int) (h : 0 ≤ n ∧ n < 16) (w : World) : (Instr.index 9 (.string ⟨#[48, 49, 50, 51, 52, 53, 54, 55, 56, 57, 97, 98, 99, 100, 101, 102]⟩) (.int .u8 n)).run Tryd.prog w = .ok (.int .u8 (dgt n)) w := by
  have : n = 0 ∨ n = 1 ∨ n = 2 ∨ n = 3 ∨ n = 4 ∨ n = 5 ∨ n = 6 ∨ n = 7 ∨ n = 8 ∨ n = 9 ∨ n = 10 ∨ n = 11 ∨ n = 12 ∨ n = 13 ∨ n = 14 ∨ n = 15 := by omega
  rcases this with rfl | rfl | rfl | rfl | rfl | rfl | rfl | rfl | rfl | rfl | rfl | rfl | rfl | rfl | rfl | rfl
  · exact idx16_0 w
  · exact idx16_1 w
  · exact idx16_2 w
  · exact idx16_3 w
  · exact idx16_4 w
  · exact idx16_5 w
  · exact idx16_6 w
  · exact idx16_7 w
  · exact idx16_8 w
  · exact idx16_9 w
  · exact idx16_10 w
  · exact idx16_11 w
  · exact idx16_12 w
  · exact idx16_13 w
  · exact idx16_14 w
  · exact idx16_15 w
theorem make64 (w : World) : (Instr.makeSlice 22 (.int .i64 0) (.int .i64 64)).run Tryd.prog w = .ok (.slice (some ⟨w.heap.size, 0, none⟩) 0 64) (w.alloc (.cells (mk .u8 64 fun _ => 0) 5)) := by kernel_rfl
theorem idx27_0 (F : Nat → Int) (w : World) : (Instr.index 27 (.agg (mk .u8 32 F)) (.int .i64 0)).run Tryd.prog w = .ok (.int .u8 (F 0)) w := by kernel_rfl
theorem idx27_1 (F : Nat → Int) (w : World) : (Instr.index 27 (.agg (mk .u8 32 F)) (.int .i64 1)).run Tryd.prog w = .ok (.int .u8 (F 1)) w := by kernel_rfl
theorem idx27_2 (F : Nat → Int) (w : World) : (Instr.index 27 (.agg (mk .u8 32 F)) (.int .i64 2)).run Tryd.prog w = .ok (.int .u8 (F 2)) w := by kernel_rfl
theorem idx27_3 (F : Nat → Int) (w : World) : (Instr.index 27 (.agg (mk .u8 32 F)) (.int .i64 3)).run Tryd.prog w = .ok (.int .u8 (F 3)) w := by kernel_rfl
theorem idx27_4 (F : Nat → Int) (w : World) : (Instr.index 27 (.agg (mk .u8 32 F)) (.int .i64 4)).run Tryd.prog w = .ok (.int .u8 (F 4)) w := by kernel_rfl
theorem idx27_5 (F : Nat → Int) (w : World) : (Instr.index 27 (.agg (mk .u8 32 F)) (.int .i64 5)).run Tryd.prog w = .ok (.int .u8 (F 5)) w := by kernel_rfl
theorem idx27_6 (F : Nat → Int) (w : World) : (Instr.index 27 (.agg (mk .u8 32 F)) (.int .i64 6)).run Tryd.prog w = .ok (.int .u8 (F 6)) w := by kernel_rfl
theorem idx27_7 (F : Nat → Int) (w : World) : (Instr.index 27 (.agg (mk .u8 32 F)) (.int .i64 7)).run Tryd.prog w = .ok (.int .u8 (F 7)) w := by kernel_rfl
theorem idx27_8 (F : Nat → Int) (w : World) : (Instr.index 27 (.agg (mk .u8 32 F)) (.int .i64 8)).run Tryd.prog w = .ok (.int .u8 (F 8)) w := by kernel_rfl
theorem idx27_9 (F : Nat → Int) (w : World) : (Instr.index 27 (.agg (mk .u8 32 F)) (.int .i64 9)).run Tryd.prog w = .ok (.int .u8 (F 9)) w := by kernel_rfl
theorem idx27_10 (F : Nat → Int) (w : World) : (Instr.index 27 (.agg (mk .u8 32 F)) (.int .i64 10)).run Tryd.prog w = .ok (.int .u8 (F 10)) w := by kernel_rfl
theorem idx27_11 (F : Nat → Int) (w : World) : (Instr.index 27 (.agg (mk .u8 32 F)) (.int .i64 11)).run Tryd.prog w = .ok (.int .u8 (F 11)) w := by kernel_rfl
theorem idx27_12 (F : Nat → Int) (w : World) : (Instr.index 27 (.agg (mk .u8 32 F)) (.int .i64 12)).run Tryd.prog w = .ok (.int .u8 (F 12)) w := by kernel_rfl
theorem idx27_13 (F : Nat → Int) (w : World) : (Instr.index 27 (.agg (mk .u8 32 F)) (.int .i64 13)).run Tryd.prog w = .ok (.int .u8 (F 13)) w := by kernel_rfl
theorem idx27_14 (F : Nat → Int) (w : World) : (Instr.index 27 (.agg (mk .u8 32 F)) (.int .i64 14)).run Tryd.prog w = .ok (.int .u8 (F 14)) w := by kernel_rfl
theorem idx27_15 (F : Nat → Int) (w : World) : (Instr.index 27 (.agg (mk .u8 32 F)) (.int .i64 15)).run Tryd.prog w = .ok (.int .u8 (F 15)) w := by kernel_rfl
theorem idx27_16 (F : Nat → Int) (w : World) : (Instr.index 27 (.agg (mk .u8 32 F)) (.int .i64 16)).run Tryd.prog w = .ok (.int .u8 (F 16)) w := by kernel_rfl
theorem idx27_17 (F : Nat → Int) (w : World) : (Instr.index 27 (.agg (mk .u8 32 F)) (.int .i64 17)).run Tryd.prog w = .ok (.int .u8 (F 17)) w := by kernel_rfl
theorem idx27_18 (F : Nat → Int) (w : World) : (Instr.index 27 (.agg (mk .u8 32 F)) (.int .i64 18)).run Tryd.prog w = .ok (.int .u8 (F 18)) w := by kernel_rfl
theorem idx27_19 (F : Nat → Int) (w : World) : (Instr.index 27 (.agg (mk .u8 32 F)) (.int .i64 19)).run Tryd.prog w = .ok (.int .u8 (F 19)) w := by kernel_rfl
theorem idx27_20 (F : Nat → Int) (w : World) : (Instr.index 27 (.agg (mk .u8 32 F)) (.int .i64 20)).run Tryd.prog w = .ok (.int .u8 (F 20)) w := by kernel_rfl
theorem idx27_21 (F : Nat → Int) (w : World) : (Instr.index 27 (.agg (mk .u8 32 F)) (.int .i64 21)).run Tryd.prog w = .ok (.int .u8 (F 21)) w := by kernel_rfl
theorem idx27_22 (F : Nat → Int) (w : World) : (Instr.index 27 (.agg (mk .u8 32 F)) (.int .i64 22)).run Tryd.prog w = .ok (.int .u8 (F 22)) w := by kernel_rfl
theorem idx27_23 (F : Nat → Int) (w : World) : (Instr.index 27 (.agg (mk .u8 32 F)) (.int .i64 23)).run Tryd.prog w = .ok (.int .u8 (F 23)) w := by kernel_rfl
theorem idx27_24 (F : Nat → Int) (w : World) : (Instr.index 27 (.agg (mk .u8 32 F)) (.int .i64 24)).run Tryd.prog w = .ok (.int .u8 (F 24)) w := by kernel_rfl
theorem idx27_25 (F : Nat → Int) (w : World) : (Instr.index 27 (.agg (mk .u8 32 F)) (.int .i64 25)).run Tryd.prog w = .ok (.int .u8 (F 25)) w := by kernel_rfl
theorem idx27_26 (F : Nat → Int) (w : World) : (Instr.index 27 (.agg (mk .u8 32 F)) (.int .i64 26)).run Tryd.prog w = .ok (.int .u8 (F 26)) w := by kernel_rfl
theorem idx27_27 (F : Nat → Int) (w : World) : (Instr.index 27 (.agg (mk .u8 32 F)) (.int .i64 27)).run Tryd.prog w = .ok (.int .u8 (F 27)) w := by kernel_rfl
theorem idx27_28 (F : Nat → Int) (w : World) : (Instr.index 27 (.agg (mk .u8 32 F)) (.int .i64 28)).run Tryd.prog w = .ok (.int .u8 (F 28)) w := by kernel_rfl
theorem idx27_29 (F : Nat → Int) (w : World) : (Instr.index 27 (.agg (mk .u8 32 F)) (.int .i64 29)).run Tryd.prog w = .ok (.int .u8 (F 29)) w := by kernel_rfl
theorem idx27_30 (F : Nat → Int) (w : World) : (Instr.index 27 (.agg (mk .u8 32 F)) (.int .i64 30)).run Tryd.prog w = .ok (.int .u8 (F 30)) w := by kernel_rfl
theorem idx27_31 (F : Nat → Int) (w : World) : (Instr.index 27 (.agg (mk .u8 32 F)) (.int .i64 31)).run Tryd.prog w = .ok (.int .u8 (F 31)) w := by kernel_rfl
/-- an element of 32 bytes -/
theorem idx27 (F : Nat → Int) (k : Nat) (hk : k < 32) (w : World) : (Instr.index 27 (.agg (mk .u8 32 F)) (.int .i64 k)).run Tryd.prog w = .ok (.int .u8 (F k)) w := by
  have : k = 0 ∨ k = 1 ∨ k = 2 ∨ k = 3 ∨ k = 4 ∨ k = 5 ∨ k = 6 ∨ k = 7 ∨ k = 8 ∨ k = 9 ∨ k = 10 ∨ k = 11 ∨ k = 12 ∨ k = 13 ∨ k = 14 ∨ k = 15 ∨ k = 16 ∨ k = 17 ∨ k = 18 ∨ k = 19 ∨ k = 20 ∨ k = 21 ∨ k = 22 ∨ k = 23 ∨ k = 24 ∨ k = 25 ∨ k = 26 ∨ k = 27 ∨ k = 28 ∨ k = 29 ∨ k = 30 ∨ k = 31 := by omega
  rcases this with rfl | rfl | rfl | rfl | rfl | rfl | rfl | rfl | rfl | rfl | rfl | rfl | rfl | rfl | rfl | rfl | rfl | rfl | rfl | rfl | rfl | rfl | rfl | rfl | rfl | rfl | rfl | rfl | rfl | rfl | rfl | rfl
  · exact idx27_0 F w
  · exact idx27_1 F w
  · exact idx27_2 F w
  · exact idx27_3 F w
  · exact idx27_4 F w
  · exact idx27_5 F w
  · exact idx27_6 F w
  · exact idx27_7 F w
  · exact idx27_8 F w
  · exact idx27_9 F w
  · exact idx27_10 F w
  · exact idx27_11 F w
  · exact idx27_12 F w
  · exact idx27_13 F w
  · exact idx27_14 F w
  · exact idx27_15 F w
  · exact idx27_16 F w
  · exact idx27_17 F w
  · exact idx27_18 F w
  · exact idx27_19 F w
  · exact idx27_20 F w
  · exact idx27_21 F w
  · exact idx27_22 F w
  · exact idx27_23 F w
  · exact idx27_24 F w
  · exact idx27_25 F w
  · exact idx27_26 F w
  · exact idx27_27 F w
  · exact idx27_28 F w
  · exact idx27_29 F w
  · exact idx27_30 F w
  · exact idx27_31 F w
theorem and15 (x : Int) (h : 0 ≤ x ∧ x < 256) : bits .and .u8 x 15 = x % 16 := by
  show IntKind.u8.wrap ((BitVec.ofInt 8 x &&& BitVec.ofInt 8 15).toNat : Int) = _
  have e1 : (BitVec.ofInt 8 x).toNat = x.toNat := by rw [BitVec.toNat_ofInt]; omega
  have e2 : (BitVec.ofInt 8 15).toNat = 15 := by decide
  rw [BitVec.toNat_and, e1, e2, show (15 : Nat) = 2 ^ 4 - 1 by decide, Nat.and_two_pow_sub_one_eq_mod]
  simp [IntKind.wrap, IntKind.bits, IntKind.signed]
  omega
theorem cell_two_new (w : World) (x y : Value) (t : TypeId) : ∀ j u, [x, y][j]? = some u → (w.alloc (.cells #[x, y] t)).cell? ((⟨w.heap.size, 0, none⟩ : Addr).add j) = some u := by
  intro j u hj
  have e : (⟨w.heap.size, 0, none⟩ : Addr).add j = ⟨w.heap.size, j, none⟩ := by unfold Addr.add; split <;> simp_all
  rw [e, cell_of_row _ _ j #[x, y] t (0, 0) (heap_alloc_new w _)]
  simpa using hj
def hexStr (F : Nat → Int) : ByteArray := ((List.range 64).map (hexAt F)).foldl (fun r n => r.push (UInt8.ofNat n.toNat)) ByteArray.empty
theorem hex_conv {W : World} {g : Nat} {G F : Nat → Int} (h : Row W g 5 .u8 64 G) (hG : ∀ j, j < 2 * 32 → G j = hexAt F j) : (convert 22 9 (.slice (some ⟨g, 0, none⟩) 64 64)).run Tryd.prog W = .ok (.string (hexStr F)) W := by
  rw [run_convert_bytes_string W 22 9 5 _ _ _ Tryd.underlying22 Tryd.underlying5 Tryd.underlying9]
  refine run_bytesToString W _ 64 64 ((List.range 64).map (hexAt F)) ?_
  have := run_loadCells_list (P := Tryd.prog) W ⟨g, 0, none⟩ (((List.range 64).map (hexAt F)).map (Value.int .u8)) (fun j v hv => by
    have hj : j < 64 := by
      have := List.getElem?_eq_some_iff.1 hv
      obtain ⟨h, _⟩ := this
      simpa using h
    have e : (⟨g, 0, none⟩ : Addr).add j = ⟨g, j, none⟩ := by unfold Addr.add; split <;> simp_all
    rw [List.getElem?_map, List.getElem?_map, List.getElem?_range hj] at hv
    rw [e, h.cell j hj, hG j (by omega)]
    exact hv)
  simpa using this
theorem laid2 {G F : Nat → Int} {k : Nat} (h : ∀ j, j < 2 * k → G j = hexAt F j) : ∀ j, j < 2 * (k + 1) → upd (upd G (2 * k) (dgt (F k / 16))) (2 * k + 1) (dgt (F k % 16)) j = hexAt F j := by
  intro j hj
  unfold upd hexAt
  by_cases e : j = 2 * k + 1
  · subst e; rw [if_pos rfl, if_neg (by omega), show (2 * k + 1) / 2 = k by omega]
  · rw [if_neg e]
    by_cases e2 : j = 2 * k
    · subst e2; rw [if_pos rfl, if_pos (by omega), show 2 * k / 2 = k by omega]
    · rw [if_neg e2, h j (by omega)]; rfl
set_option maxHeartbeats 2000000 in
theorem hex_any (F : Nat → Int) (w : World) (hF : ∀ j, j < 32 → 0 ≤ F j ∧ F j < 256) : Calls Tryd.prog 17 #[.agg (mk .u8 32 F)] w fun e w' => e = .returned (.string (hexStr F)) ∧ Below w.heap.size w w' := by
  obtain ⟨i0, hi, hz0, hz1, hz2⟩ := info_parts info5
  have hmk := make64
  have R1 := (Row.made w 27 .u8 32 F).alloc (.cells (mk .u8 64 fun _ => 0) 5)
  have R2 := Lib.hid (show Row ((w.alloc (.cells (mk .u8 32 F) 27)).alloc (.cells (mk .u8 64 fun _ => 0) 5)) (w.heap.size + 1) 5 .u8 64 fun _ => 0 from heap_alloc2_new w _ _)
  have B0 := Lib.hid (((Below.refl w.heap.size w).alloc (Nat.le_refl _) (.cells (mk .u8 32 F) 27)).alloc (by simp) (.cells (mk .u8 64 fun _ => 0) 5))
  have HF := Lib.hid hF
  have HI := Lib.hid (idx27 F)
  clear hF
  go_enter Tryd.func17, Tryd.ntmps17
  go_wp2_with (refine wpList_load_at rfl 27 (.tmp 1) rfl w.heap.size 0 rfl 27 _ (mk .u8 32 F) _ R1 (fun j _ => by rw [Nat.zero_add]) Tryd.underlying27 rfl (info27 _) ?_)
  clear hmk R1
  generalize World.alloc (World.alloc _ _) _ = W2 at *
  go_loopw [3, 8] (fun v i wr => ∃ (k : Nat) (G : Nat → Int), k ≤ 32 ∧ i = .int .i64 k ∧ v = .slice (some ⟨w.heap.size + 1, 0, none⟩) (2 * k) 64 ∧ Hid (Row wr (w.heap.size + 1) 5 .u8 64 G) ∧ Hid (Below w.heap.size w wr) ∧ Hid (∀ j, j < 2 * k → G j = hexAt F j)) (fun _ i _ => 32 - (intOf i).toNat)
  case atStart => exact ⟨0, _, Nat.zero_le _, rfl, rfl, R2.out, B0.out, fun j hj => by omega⟩
  case round =>
    clear R2 B0
    obtain ⟨k, G, hk, rfl, rfl, R2, B0, HG⟩ := hrel
    by_cases hlt : k < 32
    · have ik := HI.out k hlt
      have f := HF.out k hlt
      obtain ⟨x, hx⟩ : ∃ x, F k = x := ⟨_, rfl⟩
      rw [hx] at ik f
      have HX := Lib.hid hx
      clear hx
      have i1 := idx16 (x / 16) (by omega)
      have i2 := idx16 (bits .and .u8 x 15) (by rw [and15 x f]; omega)
      have e2 := Lib.hid (and15 x f)
      have f1 := f.1
      have f2 := f.2
      have RS : Hid (∀ W : World, W.heap = wr.heap → ∀ o : Obj, ∀ j, j < 2 → ((W.alloc o).cell? ⟨w.heap.size + 1, 0 + 2 * k * 1 + j, none⟩).isSome = true ∧ (W.alloc o).frozen? ⟨w.heap.size + 1, 0 + 2 * k * 1 + j, none⟩ = false) := by
        intro W hW o j hj
        have r : Row W (w.heap.size + 1) 5 .u8 64 G := by unfold Row; rw [hW]; exact R2.out
        have r' := r.alloc o
        exact ⟨by rw [r'.cell _ (by omega)]; rfl, r'.free _⟩
      go_wp2
      go_region_law (refine step_append_room rfl (.tmp 11) (.tmp 18) 22 rfl 5 i0 1 Tryd.underlying22 hi hz1 (w.heap.size + 1) 0 (2 * k) 64 rfl ⟨wr.heap.size, 0, none⟩ 2 2 [.int .u8 (dgt (x / 16)), .int .u8 (dgt (bits .and .u8 x 15))] rfl rfl (fun j u hu => cell_two_new wr (.int .u8 (dgt (x / 16))) (.int .u8 (dgt (bits .and .u8 x 15))) 5 j u hu) (by intro u hu; simp at hu; rcases hu with rfl | rfl <;> rfl) (by omega) (fun j hj => RS.out wr rfl (.cells #[.int .u8 (dgt (x / 16)), .int .u8 (dgt (bits .and .u8 x 15))] 5) j hj) ?_)
      all_goals
        go_wp2_with fail
        go_roundw
        case rel => exact ⟨k + 1, upd (upd G (2 * k) (dgt (x / 16))) (2 * k + 1) (dgt (x % 16)), by omega, by go_num, by rw [show 2 * (k + 1) = 2 * k + 2 by omega],
          ((R2.out.alloc _).set (2 * k) _).set (2 * k + 1) _,
          Below.setCell (Below.setCell (B0.out.alloc (by have := B0.out.size; omega) _).drew (by simp) _) (by simp) _, by
            have := laid2 (G := G) (F := F) (k := k) HG.out
            rw [HX.out] at this
            exact this⟩
        case measure => simp [intOf]; omega
    · have hk32 : k = 32 := by omega
      subst hk32
      have hcv := hex_conv R2.out HG.out
      clear R2 HG
      go_wp2
      go_ret
      exact ⟨rfl, B0.out⟩
end Go.Proofs.YtbdahkbgjbaenaaDoor
