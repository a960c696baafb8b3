/- ValueMakes: the law's walk. -/
import Derived.Test.YtfgkkccgecnchaaNd
import Derived.Test.YtfgkkccgecnchaaS
import Derived.Test.YtfgkkccgecnchaaAw
import Derived.Test.YtfgkkccgecnchaaU
import Derived.Test.YtfgkkccgecnchaaLa
import Derived.Deep.Cut
import Derived.Deep.RegionHeld3
namespace Go.Proofs.Ytfgkkccgecnchaa
open Go.RowKit

theorem szL_all {l : List Val} (h : ∀ x, x ∈ l → sz x ≤ 600) : szL l ≤ l.length * 600 := by
  induction l with
  | nil => simp [szL]
  | cons a r ih =>
    have h1 := h a (by simp)
    have h2 := ih (fun x hx => h x (by simp [hx]))
    simp only [szL, List.length_cons]; omega
abbrev nil0 : Val := flat 0 0 ⟨#[]⟩ 0 0
theorem zv_lies (n : Nat) (w : World) : Lies n w nil0 zv := flat_lies _ w rfl rfl rfl rfl (Nat.zero_le _)
theorem same_nil (w : World) : Calls Try.prog 23 #[zv, zv, .bool true] w fun e w' => e = .returned (.bool true) ∧ Below w.heap.size w w' :=
  rsame_any 60000 (Nat.le_refl _) 0 nil0 zv zv w (by decide) (zv_lies _ _) (zv_lies _ _) (Nat.zero_le _)
theorem dst_succ {ks : List ByteArray} {k : Nat} : ¬ Dst ks (k + 1) ↔ ¬ Dst ks k ∨ ∃ q, q < k ∧ kk ks q = kk ks k := by
  constructor
  · intro h
    by_cases hd : Dst ks k
    · refine .inr ?_
      refine Decidable.byContradiction fun hn => h fun a b hab hb he => ?_
      by_cases e : b = k
      · subst e; exact hn ⟨a, hab, he⟩
      · exact hd a b hab (by omega) he
    · exact .inl hd
  · rintro (h | ⟨q, hq, he⟩) hd
    · exact h fun a b hab hb => hd a b hab (by omega)
    · exact hd q k hq (by omega) he
theorem made_lies {w0 w1 : World} {rs : List ByteArray} {xs : List Val} {o oK : Option Addr} {cap capK : Nat} {c : Nat → Nat → Value} (r : RowP (Fr w0 w1) w1 o cap xs.length 8 c) (e : ∀ j x, xs[j]? = some x → Deep w0.heap.size w1 x (.agg #[c j 0, c j 1, c j 2, c j 3, c j 4, c j 5, c j 6, c j 7]))
    (rK : RowP (Fr w0 w1) w1 oK capK rs.length 1 (fun j _ => .string (rs.getD j default))) (wks : ∀ s, s ∈ rs → s.size ≤ maxLen) (y : Bool) : Opn w1.heap.size w1 (.mk 5 0 ⟨#[]⟩ xs rs 0 0 y) o oK cap capK c :=
  ⟨rfl, rfl, rfl, rfl, Nat.zero_le _, wks, r.mono fun _ h => h.2, rK.mono fun _ h => h.2, fun j x hx => (e j x hx).lies.mono fun _ h => h.2⟩
theorem srt_mem {ks rs : List ByteArray} (h : Srt ks rs) {s : ByteArray} (hs : s ∈ rs) : s ∈ ks := by
  obtain ⟨j, hj, rfl⟩ := List.getElem_of_mem hs
  obtain ⟨i, hi, e⟩ := h.fro j hj
  rw [← kk_get hj, e, kk_get hi]; exact List.getElem_mem hi
theorem xs_mem {ks rs : List ByteArray} {l xs : List Val} (h : Srt ks rs) (hl : xs.length = rs.length) (h2 : ∀ i j, i < ks.length → j < rs.length → kk rs j = kk ks i → xs[j]? = l[i]?) {x : Val} (hx : x ∈ xs) : x ∈ l := by
  obtain ⟨j, hj, rfl⟩ := List.getElem_of_mem hx
  obtain ⟨i, hi, e⟩ := h.fro j (by omega)
  have := h2 i j hi (by omega) e
  rw [List.getElem?_eq_getElem hj] at this
  exact List.mem_of_getElem? this.symm
theorem srt_ge {ks rs : List ByteArray} (h : Srt ks rs) {j k : Nat} (hjk : j < k) (hk : k < rs.length) : Op.bytesLess (kk rs j).toList (kk rs k).toList = true := h.up j k hjk hk
theorem dst_zero (ks : List ByteArray) : Dst ks 0 := fun a b _ h => by omega
set_option maxRecDepth 100000 in
set_option maxHeartbeats 16000000 in
theorem makes_any {n : Nat} {w : World} {ks : List ByteArray} {l : List Val} {oK oL : Option Addr} {cK cL : Nat} {c : Nat → Nat → Value} {key : ByteArray} {i : Int} {sec : Bool} (hs : ∀ s, s ∈ ks → s.size ≤ maxLen) (hR1 : Row n w oK cK ks.length 1 (fun j _ => .string (ks.getD j default)))
    (hR : Row n w oL cL l.length 8 c) (hE : ∀ j x, l[j]? = some x → Lies n w x (.agg #[c j 0, c j 1, c j 2, c j 3, c j 4, c j 5, c j 6, c j 7])) (hi : (Lit.int .i64 i).wf = true) (hn : n ≤ w.heap.size) :
    Calls Try.prog 8 #[.slice oK ks.length cK, .slice oL l.length cL, .string key, .int .i64 i, .bool sec] w fun e w' => e = .returned (.bool true) ∧ Below w.heap.size w w' := by
  have l1 := hR1.1
  have l2 := hR1.2.1
  have l3 := hR.1
  have l4 := hR.2.1
  unfold maxLen at l2 l4
  have HF := Lib.hid (And.intro hR1 (And.intro hR (And.intro hE hs)))
  have HWF := Lib.hid hi
  clear hR1 hR hE hs hi
  have B0 := Lib.hid (Below.refl w.heap.size w)
  by_cases hk40 : ks.length ≤ 40
  · by_cases hl40 : l.length ≤ 40
    · have g1 : decide ((40 : Int) < (ks.length : Int)) = false := by simp; omega
      have g2 : decide ((40 : Int) < (l.length : Int)) = false := by simp; omega
      go_enter Try.func8, Try.ntmps8
      go_wp2_with fail
      clear g1 g2
      go_loopw [11] (fun s wr => ∃ j : Nat, j ≤ l.length ∧ s = .int .i64 j ∧ Hid (∀ q x, q < j → l[q]? = some x → sz x ≤ 600) ∧ Hid (Below w.heap.size w wr)) (fun s _ => l.length - (intOf s).toNat)
      case atStart => exact ⟨0, Nat.zero_le _, rfl, (fun q x h => absurd h (Nat.not_lt_zero _)), B0.out⟩
      case round =>
        obtain ⟨j, hj, rfl, hok, hbr⟩ := hrel
        by_cases hlt : j < l.length
        · obtain ⟨X, hX⟩ : ∃ X, l[j]? = some X := ⟨_, List.getElem?_eq_getElem hlt⟩
          obtain ⟨b', off', oL3, oK3, cL3, cK3, c3, e1, hb', ⟨y0, y1, y2, y3, y4, y5, y6, y7⟩, OX⟩ := (HF.out.2.1.below (hbr.out.mono hn)).elv hlt ((HF.out.2.2.1 j X hX).kept (hbr.out.mono hn))
          subst e1
          have OX2 := Lib.hid OX
          have HX := Lib.hid hX
          clear hX OX
          go_wp2_with fail
          refine (Great_any OX2.out.lies (by have := hbr.out.size; omega)).mono ?_
          rintro e w1 ⟨bg, rfl, hs, b1⟩
          have B1 := Lib.hid (hbr.out.trans (b1.mono hbr.out.size))
          clear b1 y0 y1 y2 y3 y4 y5 y6 y7
          cases bg with
          | true =>
            clear hs
            go_wp2_with fail
            refine (awake_any _).mono ?_
            rintro e wz ⟨rfl, bz⟩
            have BZ := Lib.hid (B1.out.trans (bz.mono B1.out.size))
            clear bz
            go_wp2_with fail
            go_ret
            exact ⟨rfl, BZ.out⟩
          | false =>
            have HN : Hid (∀ q x, q < j + 1 → l[q]? = some x → sz x ≤ 600) := fun q x hq hx => by
              by_cases e : q = j
              · subst e; rw [HX.out] at hx; injection hx with hx; subst hx; exact hs rfl
              · exact hok.out q x (by omega) hx
            clear hs hok
            go_wp2_with fail
            go_roundw
            case rel => first | exact ⟨j + 1, by omega, by go_num, HN, B1⟩ | ((repeat apply Exists.intro); refine ⟨?_, rfl⟩; exact ⟨j + 1, by omega, by go_num, HN, B1⟩)
            case measure => simp [intOf]; omega
        · have HALL : Hid (∀ x, x ∈ l → sz x ≤ 600) := fun x hx => by
            obtain ⟨q, hq, rfl⟩ := List.getElem_of_mem hx
            exact hok.out q _ (by omega) (List.getElem?_eq_getElem hq)
          have hz : szL l ≤ 24000 := by
            have := szL_all HALL.out; have : l.length * 600 ≤ 40 * 600 := Nat.mul_le_mul_right 600 hl40; omega
          have BL := hbr
          have hdl : decide ((j : Int) < (l.length : Int)) = false := by simp; omega
          clear hok hbr
          go_wp2_with fail
          refine (make_any (n := n) (by omega) (by omega) (HF.out.1.below (BL.out.mono hn)) HF.out.2.2.2 (HF.out.2.1.below (BL.out.mono hn)) (fun j x hx => (HF.out.2.2.1 j x hx).kept (BL.out.mono hn)) (by have := BL.out.size; omega)).mono ?_
          rintro e w1 hp
          rcases hp with ⟨hne, rfl, b1⟩ | ⟨heq, hnd, rfl, b1⟩ | ⟨heq, hd, hmade⟩
          · have g1 : ((ks.length : Int) != (l.length : Int)) = true := by simp; omega
            have B1 := Lib.hid (BL.out.trans (b1.mono BL.out.size))
            have B2 := Lib.hid (B1.out.alloc (by have := B1.out.size; exact this) (.cells zc 27))
            clear b1 hne
            go_wp2_with fail
            generalize w1.alloc _ = w2 at *
            refine (same_nil _).mono ?_
            rintro e w3 ⟨rfl, b3⟩
            have B3 := Lib.hid (B2.out.trans (b3.mono B2.out.size))
            clear b3
            go_wp2_with fail
            refine (awake_any _).mono ?_
            rintro e wz ⟨rfl, bz⟩
            have BZ := Lib.hid (B3.out.trans (bz.mono B3.out.size))
            clear bz
            go_wp2_with fail
            go_ret
            exact ⟨rfl, BZ.out⟩
          · skip
            have g1 : ((ks.length : Int) != (l.length : Int)) = false := by simp [heq]
            have B1 := Lib.hid (BL.out.trans (b1.mono BL.out.size))
            have B2 := Lib.hid (B1.out.alloc (by have := B1.out.size; exact this) (.cells zc 27))
            have HND := Lib.hid hnd
            have HEQ := Lib.hid heq
            have HZ := Lib.hid (cells8 (heap_alloc_new w1 (.cells zc 27)))
            have ZL : Hid (w1.heap.size < (w1.alloc (.cells zc 27)).heap.size) := by simp [Hid]
            clear b1 hnd heq
            go_upto_region 11 with fail
            generalize w1.alloc _ = w2 at *
            go_wp2_with fail
            go_loopw [15, 14] (fun s b wr => ∃ (k : Nat) (tb : Bool), k ≤ ks.length ∧ s = .int .i64 k ∧ b = .bool tb ∧ Hid (tb = true ↔ ¬ Dst ks k) ∧ Hid (Below w2.heap.size w2 wr)) (fun s _ _ => ks.length - (intOf s).toNat)
            case atStart => exact ⟨0, false, Nat.zero_le _, rfl, rfl, ⟨fun h => absurd h (by decide), fun h => absurd (dst_zero ks) h⟩, Below.refl _ _⟩
            case round =>
              obtain ⟨k, tb, hk, rfl, rfl, hok, hbr⟩ := hrel
              by_cases hlt : k < ks.length
              · have hdk : decide ((k : Int) < (ks.length : Int)) = true := by simp; omega
                go_wp2_with fail
                go_loopw [16, 14] (fun s b wr2 => ∃ (j : Nat) (tb2 : Bool), j ≤ k ∧ s = .int .i64 j ∧ b = .bool tb2 ∧ Hid (tb2 = true ↔ ¬ Dst ks k ∨ ∃ q, q < j ∧ kk ks q = kk ks k) ∧ Hid (Below w2.heap.size w2 wr2)) (fun s _ _ => k - (intOf s).toNat)
                case atStart => exact ⟨0, tb, Nat.zero_le _, rfl, rfl, ⟨fun h => .inl (hok.out.1 h), fun h => hok.out.2 (by rcases h with h | ⟨q, hq, _⟩; exact h; omega)⟩, hbr.out⟩
                case round =>
                  obtain ⟨j, tb2, hj, rfl, rfl, hok2, hbr2⟩ := hrel
                  by_cases hlt2 : j < k
                  · have BW := Lib.hid (B2.out.trans (hbr2.out.mono B2.out.size))
                    obtain ⟨b1, off1, e1, hb1, y1⟩ := (HF.out.1.below (BW.out.mono hn)).key (j := j) (by omega)
                    obtain ⟨b2, off2, e2, hb2, y2⟩ := (HF.out.1.below (BW.out.mono hn)).key hlt
                    rw [e1] at e2
                    injection e2 with e2
                    injection e2 with e2 e3
                    subst e2 e3 e1
                    have i0 : (0 : Int) ≤ j := by omega
                    have i1 : (j : Int) < ks.length := by omega
                    have i2 : (0 : Int) ≤ k := by omega
                    have i3 : (k : Int) < ks.length := by omega
                    cases tb2 with
                    | true =>
                      have HN : Hid (true = true ↔ ¬ Dst ks k ∨ ∃ q, q < j + 1 ∧ kk ks q = kk ks k) := ⟨fun h => (hok2.out.1 h).imp id fun ⟨q, hq, e⟩ => ⟨q, by omega, e⟩, fun _ => rfl⟩
                      go_upto_region 18 with fail
                      obtain ⟨Np, hNp⟩ : ∃ N, N = wr.heap.size := ⟨_, rfl⟩
                      have S0 := held_at hNp
                      have la : b1 < Np := by have := BW.out.size; omega
                      have HNp := Lib.hid hNp
                      clear hNp
                      have LWp : Hid (∀ W, ((∀ b o, b < Np → W.cell? ⟨b, o, none⟩ = wr.cell? ⟨b, o, none⟩) ∧ Hid (Below Np wr W) ∧ Hid (Np ≤ W.heap.size)) → Below w.heap.size w W) := fun W h => BW.out.trans (h.2.1.out.mono (by rw [HNp.out]; exact BW.out.size))
                      refine wp_region_noPanic ?_
                      refine wp_region_held_drew (S := (fun W => (∀ b o, b < Np → W.cell? ⟨b, o, none⟩ = wr.cell? ⟨b, o, none⟩) ∧ Hid (Below Np wr W) ∧ Hid (Np ≤ W.heap.size))) (by kernel_rfl) ?_ (fun hH => ?_)
                      · exact S0
                      refine wpAnyH_take (i := 0) (oi := { dst := some 82, op := Op.move (Operand.tmp 14), type := 4, pos := "law.go:130", after := #[], guard := none }) (v := ?_) rfl (by kernel_rfl) (by kernel_rfl) (by kernel_rfl) (fun _ _ _ h => h) (Or.inl ⟨by rfl, ?_⟩) (by assumption) ?_
                      rotate_left
                      · (intro w hSw; (try dsimp only at hSw); go_simp; try with_reducible rfl)
                      try simp only [Act.put, List.setIfInBounds_toArray, List.set_cons_zero, List.set_cons_succ]
                      refine wpAnyH_take (i := 1) (oi := { dst := some 83, op := Op.move (Operand.tmp 82), type := 4, pos := "law.go:130", after := #[{ on := 0, ground := Ground.data }], guard := none }) (v := ?_) rfl (by kernel_rfl) (by kernel_rfl) (by kernel_rfl) (fun _ _ _ h => h) (Or.inl ⟨by rfl, ?_⟩) (by assumption) ?_
                      rotate_left
                      · (intro w hSw; (try dsimp only at hSw); go_simp; try with_reducible rfl)
                      try simp only [Act.put, List.setIfInBounds_toArray, List.set_cons_zero, List.set_cons_succ]
                      refine wpAnyH_take (i := 2) (oi := { dst := some 84, op := Op.move (Operand.tmp 0), type := 23, pos := "law.go:130", after := #[{ on := 1, ground := Ground.guard }], guard := some (1, false) }) (v := undef) rfl (by kernel_rfl) (by kernel_rfl) (by kernel_rfl) (fun _ _ _ h => h) (Or.inr ⟨by rfl, rfl⟩) (by assumption) ?_
                      try simp only [Act.put, List.setIfInBounds_toArray, List.set_cons_zero, List.set_cons_succ]
                      refine wpAnyH_take (i := 3) (oi := { dst := some 85, op := Op.move (Operand.tmp 16), type := 3, pos := "law.go:130", after := #[{ on := 1, ground := Ground.guard }], guard := some (1, false) }) (v := undef) rfl (by kernel_rfl) (by kernel_rfl) (by kernel_rfl) (fun _ _ _ h => h) (Or.inr ⟨by rfl, rfl⟩) (by assumption) ?_
                      try simp only [Act.put, List.setIfInBounds_toArray, List.set_cons_zero, List.set_cons_succ]
                      refine wpAnyH_take (i := 4) (oi := { dst := some 86, op := Op.indexAddr 23 (Operand.tmp 84) (Operand.tmp 85), type := 0, pos := "law.go:130", after := #[{ on := 2, ground := Ground.data }, { on := 3, ground := Ground.data }, { on := 1, ground := Ground.guard }], guard := some (1, false) }) (v := undef) rfl (by kernel_rfl) (by kernel_rfl) (by kernel_rfl) (fun _ _ _ h => h) (Or.inr ⟨by rfl, rfl⟩) (by assumption) ?_
                      try simp only [Act.put, List.setIfInBounds_toArray, List.set_cons_zero, List.set_cons_succ]
                      refine wpAnyH_take (i := 5) (oi := { dst := some 87, op := Op.load 9 (Operand.tmp 86), type := 9, pos := "law.go:130", after := #[{ on := 4, ground := Ground.data }, { on := 1, ground := Ground.guard }], guard := some (1, false) }) (v := undef) rfl (by kernel_rfl) (by kernel_rfl) (by kernel_rfl) (fun _ _ _ h => h) (Or.inr ⟨by rfl, rfl⟩) (by assumption) ?_
                      try simp only [Act.put, List.setIfInBounds_toArray, List.set_cons_zero, List.set_cons_succ]
                      refine wpAnyH_take (i := 6) (oi := { dst := some 88, op := Op.move (Operand.tmp 0), type := 23, pos := "law.go:130", after := #[{ on := 1, ground := Ground.guard }], guard := some (1, false) }) (v := undef) rfl (by kernel_rfl) (by kernel_rfl) (by kernel_rfl) (fun _ _ _ h => h) (Or.inr ⟨by rfl, rfl⟩) (by assumption) ?_
                      try simp only [Act.put, List.setIfInBounds_toArray, List.set_cons_zero, List.set_cons_succ]
                      refine wpAnyH_take (i := 7) (oi := { dst := some 89, op := Op.move (Operand.tmp 15), type := 3, pos := "law.go:130", after := #[{ on := 1, ground := Ground.guard }], guard := some (1, false) }) (v := undef) rfl (by kernel_rfl) (by kernel_rfl) (by kernel_rfl) (fun _ _ _ h => h) (Or.inr ⟨by rfl, rfl⟩) (by assumption) ?_
                      try simp only [Act.put, List.setIfInBounds_toArray, List.set_cons_zero, List.set_cons_succ]
                      refine wpAnyH_take (i := 8) (oi := { dst := some 90, op := Op.indexAddr 23 (Operand.tmp 88) (Operand.tmp 89), type := 0, pos := "law.go:130", after := #[{ on := 6, ground := Ground.data }, { on := 7, ground := Ground.data }, { on := 1, ground := Ground.guard }], guard := some (1, false) }) (v := undef) rfl (by kernel_rfl) (by kernel_rfl) (by kernel_rfl) (fun _ _ _ h => h) (Or.inr ⟨by rfl, rfl⟩) (by assumption) ?_
                      try simp only [Act.put, List.setIfInBounds_toArray, List.set_cons_zero, List.set_cons_succ]
                      refine wpAnyH_take (i := 9) (oi := { dst := some 91, op := Op.load 9 (Operand.tmp 90), type := 9, pos := "law.go:130", after := #[{ on := 8, ground := Ground.data }, { on := 1, ground := Ground.guard }], guard := some (1, false) }) (v := undef) rfl (by kernel_rfl) (by kernel_rfl) (by kernel_rfl) (fun _ _ _ h => h) (Or.inr ⟨by rfl, rfl⟩) (by assumption) ?_
                      try simp only [Act.put, List.setIfInBounds_toArray, List.set_cons_zero, List.set_cons_succ]
                      refine wpAnyH_take (i := 10) (oi := { dst := some 92, op := Op.binOp BinOp.eql 9 (Operand.tmp 87) (Operand.tmp 91) 9, type := 4, pos := "law.go:130", after := #[{ on := 5, ground := Ground.data }, { on := 9, ground := Ground.data }, { on := 1, ground := Ground.guard }], guard := some (1, false) }) (v := undef) rfl (by kernel_rfl) (by kernel_rfl) (by kernel_rfl) (fun _ _ _ h => h) (Or.inr ⟨by rfl, rfl⟩) (by assumption) ?_
                      try simp only [Act.put, List.setIfInBounds_toArray, List.set_cons_zero, List.set_cons_succ]
                      refine wpAnyH_take (i := 11) (oi := { dst := some 93, op := Op.pick (Operand.tmp 83) (Operand.const (Value.bool true)) (Operand.tmp 92), type := 4, pos := "law.go:130", after := #[{ on := 1, ground := Ground.data }, { on := 10, ground := Ground.data }], guard := none }) (v := ?_) rfl (by kernel_rfl) (by kernel_rfl) (by kernel_rfl) (fun _ _ _ h => h) (Or.inl ⟨by rfl, ?_⟩) (by assumption) ?_
                      rotate_left
                      · (intro w hSw; (try dsimp only at hSw); go_simp; try with_reducible rfl)
                      try simp only [Act.put, List.setIfInBounds_toArray, List.set_cons_zero, List.set_cons_succ]
                      refine wpAnyH_take (i := 12) (oi := { dst := some 14, op := Op.assign (Operand.tmp 93), type := 4, pos := "law.go:130", after := #[{ on := 11, ground := Ground.data }, { on := 1, ground := Ground.chain }, { on := 0, ground := Ground.phase }, { on := 1, ground := Ground.phase }, { on := 2, ground := Ground.phase }, { on := 3, ground := Ground.phase }, { on := 4, ground := Ground.phase }, { on := 5, ground := Ground.phase }, { on := 6, ground := Ground.phase }, { on := 7, ground := Ground.phase }, { on := 8, ground := Ground.phase }, { on := 9, ground := Ground.phase }, { on := 10, ground := Ground.phase }, { on := 11, ground := Ground.phase }], guard := none }) (v := ?_) rfl (by kernel_rfl) (by kernel_rfl) (by kernel_rfl) (fun _ _ _ h => h) (Or.inl ⟨by rfl, ?_⟩) (by assumption) ?_
                      rotate_left
                      · (intro w hSw; (try dsimp only at hSw); go_simp; try with_reducible rfl)
                      try simp only [Act.put, List.setIfInBounds_toArray, List.set_cons_zero, List.set_cons_succ]
                      refine wpAnyH_done (by kernel_rfl) ?_ _
                      refine NoPanic.normal ?_
                      have BX := Lib.hid ((hbr2.out.trans (hH.2.1.out.mono (by have := HNp.out; have := hbr2.out.size; omega))))
                      clear S0 hH LWp HNp la y1 y2 BW
                      go_wp2_with fail
                      go_roundw
                      case rel => first | exact ⟨j + 1, true, by omega, by go_num, rfl, HN, BX⟩ | ((repeat apply Exists.intro); refine ⟨?_, rfl⟩; exact ⟨j + 1, true, by omega, by go_num, rfl, HN, BX⟩)
                      case measure => simp [intOf]; omega
                    | false =>
                      by_cases he : kk ks j = kk ks k
                      · obtain ⟨g1, g2⟩ := str_eq he
                        have HN : Hid (true = true ↔ ¬ Dst ks k ∨ ∃ q, q < j + 1 ∧ kk ks q = kk ks k) := by have he2 := he; exact ⟨fun _ => .inr ⟨j, by omega, he2⟩, fun _ => rfl⟩
                        clear he
                        go_upto_region 18 with fail
                        obtain ⟨Np, hNp⟩ : ∃ N, N = wr.heap.size := ⟨_, rfl⟩
                        have S0 := held_at hNp
                        have la : b1 < Np := by have := BW.out.size; omega
                        have HNp := Lib.hid hNp
                        clear hNp
                        have LWp : Hid (∀ W, ((∀ b o, b < Np → W.cell? ⟨b, o, none⟩ = wr.cell? ⟨b, o, none⟩) ∧ Hid (Below Np wr W) ∧ Hid (Np ≤ W.heap.size)) → Below w.heap.size w W) := fun W h => BW.out.trans (h.2.1.out.mono (by rw [HNp.out]; exact BW.out.size))
                        refine wp_region_noPanic ?_
                        refine wp_region_held_drew (S := (fun W => (∀ b o, b < Np → W.cell? ⟨b, o, none⟩ = wr.cell? ⟨b, o, none⟩) ∧ Hid (Below Np wr W) ∧ Hid (Np ≤ W.heap.size))) (by kernel_rfl) ?_ (fun hH => ?_)
                        · exact S0
                        refine wpAnyH_take (i := 0) (oi := { dst := some 82, op := Op.move (Operand.tmp 14), type := 4, pos := "law.go:130", after := #[], guard := none }) (v := ?_) rfl (by kernel_rfl) (by kernel_rfl) (by kernel_rfl) (fun _ _ _ h => h) (Or.inl ⟨by rfl, ?_⟩) (by assumption) ?_
                        rotate_left
                        · (intro w hSw; (try dsimp only at hSw); go_simp; try with_reducible rfl)
                        try simp only [Act.put, List.setIfInBounds_toArray, List.set_cons_zero, List.set_cons_succ]
                        refine wpAnyH_take (i := 1) (oi := { dst := some 83, op := Op.move (Operand.tmp 82), type := 4, pos := "law.go:130", after := #[{ on := 0, ground := Ground.data }], guard := none }) (v := ?_) rfl (by kernel_rfl) (by kernel_rfl) (by kernel_rfl) (fun _ _ _ h => h) (Or.inl ⟨by rfl, ?_⟩) (by assumption) ?_
                        rotate_left
                        · (intro w hSw; (try dsimp only at hSw); go_simp; try with_reducible rfl)
                        try simp only [Act.put, List.setIfInBounds_toArray, List.set_cons_zero, List.set_cons_succ]
                        refine wpAnyH_take (i := 2) (oi := { dst := some 84, op := Op.move (Operand.tmp 0), type := 23, pos := "law.go:130", after := #[{ on := 1, ground := Ground.guard }], guard := some (1, false) }) (v := ?_) rfl (by kernel_rfl) (by kernel_rfl) (by kernel_rfl) (fun _ _ _ h => h) (Or.inl ⟨by rfl, ?_⟩) (by assumption) ?_
                        rotate_left
                        · (intro w hSw; (try dsimp only at hSw); go_simp; try with_reducible rfl)
                        try simp only [Act.put, List.setIfInBounds_toArray, List.set_cons_zero, List.set_cons_succ]
                        refine wpAnyH_take (i := 3) (oi := { dst := some 85, op := Op.move (Operand.tmp 16), type := 3, pos := "law.go:130", after := #[{ on := 1, ground := Ground.guard }], guard := some (1, false) }) (v := ?_) rfl (by kernel_rfl) (by kernel_rfl) (by kernel_rfl) (fun _ _ _ h => h) (Or.inl ⟨by rfl, ?_⟩) (by assumption) ?_
                        rotate_left
                        · (intro w hSw; (try dsimp only at hSw); go_simp; try with_reducible rfl)
                        try simp only [Act.put, List.setIfInBounds_toArray, List.set_cons_zero, List.set_cons_succ]
                        refine wpAnyH_take (i := 4) (oi := { dst := some 86, op := Op.indexAddr 23 (Operand.tmp 84) (Operand.tmp 85), type := 0, pos := "law.go:130", after := #[{ on := 2, ground := Ground.data }, { on := 3, ground := Ground.data }, { on := 1, ground := Ground.guard }], guard := some (1, false) }) (v := ?_) rfl (by kernel_rfl) (by kernel_rfl) (by kernel_rfl) (fun _ _ _ h => h) (Or.inl ⟨by rfl, ?_⟩) (by assumption) ?_
                        rotate_left
                        · (intro w hSw; (try dsimp only at hSw); go_simp; try with_reducible rfl)
                        try simp only [Act.put, List.setIfInBounds_toArray, List.set_cons_zero, List.set_cons_succ]
                        refine wpAnyH_take (i := 5) (oi := { dst := some 87, op := Op.load 9 (Operand.tmp 86), type := 9, pos := "law.go:130", after := #[{ on := 4, ground := Ground.data }, { on := 1, ground := Ground.guard }], guard := some (1, false) }) (v := ?_) rfl (by kernel_rfl) (by kernel_rfl) (by kernel_rfl) (fun _ _ _ h => h) (Or.inl ⟨by rfl, ?_⟩) (by assumption) ?_
                        rotate_left
                        · (intro w hSw; (try dsimp only at hSw); go_simp; try with_reducible rfl)
                        try simp only [Act.put, List.setIfInBounds_toArray, List.set_cons_zero, List.set_cons_succ]
                        refine wpAnyH_take (i := 6) (oi := { dst := some 88, op := Op.move (Operand.tmp 0), type := 23, pos := "law.go:130", after := #[{ on := 1, ground := Ground.guard }], guard := some (1, false) }) (v := ?_) rfl (by kernel_rfl) (by kernel_rfl) (by kernel_rfl) (fun _ _ _ h => h) (Or.inl ⟨by rfl, ?_⟩) (by assumption) ?_
                        rotate_left
                        · (intro w hSw; (try dsimp only at hSw); go_simp; try with_reducible rfl)
                        try simp only [Act.put, List.setIfInBounds_toArray, List.set_cons_zero, List.set_cons_succ]
                        refine wpAnyH_take (i := 7) (oi := { dst := some 89, op := Op.move (Operand.tmp 15), type := 3, pos := "law.go:130", after := #[{ on := 1, ground := Ground.guard }], guard := some (1, false) }) (v := ?_) rfl (by kernel_rfl) (by kernel_rfl) (by kernel_rfl) (fun _ _ _ h => h) (Or.inl ⟨by rfl, ?_⟩) (by assumption) ?_
                        rotate_left
                        · (intro w hSw; (try dsimp only at hSw); go_simp; try with_reducible rfl)
                        try simp only [Act.put, List.setIfInBounds_toArray, List.set_cons_zero, List.set_cons_succ]
                        refine wpAnyH_take (i := 8) (oi := { dst := some 90, op := Op.indexAddr 23 (Operand.tmp 88) (Operand.tmp 89), type := 0, pos := "law.go:130", after := #[{ on := 6, ground := Ground.data }, { on := 7, ground := Ground.data }, { on := 1, ground := Ground.guard }], guard := some (1, false) }) (v := ?_) rfl (by kernel_rfl) (by kernel_rfl) (by kernel_rfl) (fun _ _ _ h => h) (Or.inl ⟨by rfl, ?_⟩) (by assumption) ?_
                        rotate_left
                        · (intro w hSw; (try dsimp only at hSw); go_simp; try with_reducible rfl)
                        try simp only [Act.put, List.setIfInBounds_toArray, List.set_cons_zero, List.set_cons_succ]
                        refine wpAnyH_take (i := 9) (oi := { dst := some 91, op := Op.load 9 (Operand.tmp 90), type := 9, pos := "law.go:130", after := #[{ on := 8, ground := Ground.data }, { on := 1, ground := Ground.guard }], guard := some (1, false) }) (v := ?_) rfl (by kernel_rfl) (by kernel_rfl) (by kernel_rfl) (fun _ _ _ h => h) (Or.inl ⟨by rfl, ?_⟩) (by assumption) ?_
                        rotate_left
                        · (intro w hSw; (try dsimp only at hSw); go_simp; try with_reducible rfl)
                        try simp only [Act.put, List.setIfInBounds_toArray, List.set_cons_zero, List.set_cons_succ]
                        refine wpAnyH_take (i := 10) (oi := { dst := some 92, op := Op.binOp BinOp.eql 9 (Operand.tmp 87) (Operand.tmp 91) 9, type := 4, pos := "law.go:130", after := #[{ on := 5, ground := Ground.data }, { on := 9, ground := Ground.data }, { on := 1, ground := Ground.guard }], guard := some (1, false) }) (v := ?_) rfl (by kernel_rfl) (by kernel_rfl) (by kernel_rfl) (fun _ _ _ h => h) (Or.inl ⟨by rfl, ?_⟩) (by assumption) ?_
                        rotate_left
                        · (intro w hSw; (try dsimp only at hSw); go_simp; try with_reducible rfl)
                        try simp only [Act.put, List.setIfInBounds_toArray, List.set_cons_zero, List.set_cons_succ]
                        refine wpAnyH_take (i := 11) (oi := { dst := some 93, op := Op.pick (Operand.tmp 83) (Operand.const (Value.bool true)) (Operand.tmp 92), type := 4, pos := "law.go:130", after := #[{ on := 1, ground := Ground.data }, { on := 10, ground := Ground.data }], guard := none }) (v := ?_) rfl (by kernel_rfl) (by kernel_rfl) (by kernel_rfl) (fun _ _ _ h => h) (Or.inl ⟨by rfl, ?_⟩) (by assumption) ?_
                        rotate_left
                        · (intro w hSw; (try dsimp only at hSw); go_simp; try with_reducible rfl)
                        try simp only [Act.put, List.setIfInBounds_toArray, List.set_cons_zero, List.set_cons_succ]
                        refine wpAnyH_take (i := 12) (oi := { dst := some 14, op := Op.assign (Operand.tmp 93), type := 4, pos := "law.go:130", after := #[{ on := 11, ground := Ground.data }, { on := 1, ground := Ground.chain }, { on := 0, ground := Ground.phase }, { on := 1, ground := Ground.phase }, { on := 2, ground := Ground.phase }, { on := 3, ground := Ground.phase }, { on := 4, ground := Ground.phase }, { on := 5, ground := Ground.phase }, { on := 6, ground := Ground.phase }, { on := 7, ground := Ground.phase }, { on := 8, ground := Ground.phase }, { on := 9, ground := Ground.phase }, { on := 10, ground := Ground.phase }, { on := 11, ground := Ground.phase }], guard := none }) (v := ?_) rfl (by kernel_rfl) (by kernel_rfl) (by kernel_rfl) (fun _ _ _ h => h) (Or.inl ⟨by rfl, ?_⟩) (by assumption) ?_
                        rotate_left
                        · (intro w hSw; (try dsimp only at hSw); go_simp; try with_reducible rfl)
                        try simp only [Act.put, List.setIfInBounds_toArray, List.set_cons_zero, List.set_cons_succ]
                        refine wpAnyH_done (by kernel_rfl) ?_ _
                        refine NoPanic.normal ?_
                        have BX := Lib.hid ((hbr2.out.trans (hH.2.1.out.mono (by have := HNp.out; have := hbr2.out.size; omega))))
                        clear S0 hH LWp HNp la y1 y2 BW
                        go_wp2_with fail
                        go_roundw
                        case rel => first | exact ⟨j + 1, true, by omega, by go_num, rfl, HN, BX⟩ | ((repeat apply Exists.intro); refine ⟨?_, rfl⟩; exact ⟨j + 1, true, by omega, by go_num, rfl, HN, BX⟩)
                        case measure => simp [intOf]; omega
                      · obtain ⟨g1, g2⟩ := str_ne he
                        have HN : Hid (false = true ↔ ¬ Dst ks k ∨ ∃ q, q < j + 1 ∧ kk ks q = kk ks k) := ⟨fun h => absurd h (by decide), fun h => by
                          rcases h with h | ⟨q, hq, e⟩
                          · exact hok2.out.2 (.inl h)
                          · by_cases hqj : q = j
                            · subst hqj; exact absurd e he
                            · exact hok2.out.2 (.inr ⟨q, by omega, e⟩)⟩
                        clear he
                        go_upto_region 18 with fail
                        obtain ⟨Np, hNp⟩ : ∃ N, N = wr.heap.size := ⟨_, rfl⟩
                        have S0 := held_at hNp
                        have la : b1 < Np := by have := BW.out.size; omega
                        have HNp := Lib.hid hNp
                        clear hNp
                        have LWp : Hid (∀ W, ((∀ b o, b < Np → W.cell? ⟨b, o, none⟩ = wr.cell? ⟨b, o, none⟩) ∧ Hid (Below Np wr W) ∧ Hid (Np ≤ W.heap.size)) → Below w.heap.size w W) := fun W h => BW.out.trans (h.2.1.out.mono (by rw [HNp.out]; exact BW.out.size))
                        refine wp_region_noPanic ?_
                        refine wp_region_held_drew (S := (fun W => (∀ b o, b < Np → W.cell? ⟨b, o, none⟩ = wr.cell? ⟨b, o, none⟩) ∧ Hid (Below Np wr W) ∧ Hid (Np ≤ W.heap.size))) (by kernel_rfl) ?_ (fun hH => ?_)
                        · exact S0
                        refine wpAnyH_take (i := 0) (oi := { dst := some 82, op := Op.move (Operand.tmp 14), type := 4, pos := "law.go:130", after := #[], guard := none }) (v := ?_) rfl (by kernel_rfl) (by kernel_rfl) (by kernel_rfl) (fun _ _ _ h => h) (Or.inl ⟨by rfl, ?_⟩) (by assumption) ?_
                        rotate_left
                        · (intro w hSw; (try dsimp only at hSw); go_simp; try with_reducible rfl)
                        try simp only [Act.put, List.setIfInBounds_toArray, List.set_cons_zero, List.set_cons_succ]
                        refine wpAnyH_take (i := 1) (oi := { dst := some 83, op := Op.move (Operand.tmp 82), type := 4, pos := "law.go:130", after := #[{ on := 0, ground := Ground.data }], guard := none }) (v := ?_) rfl (by kernel_rfl) (by kernel_rfl) (by kernel_rfl) (fun _ _ _ h => h) (Or.inl ⟨by rfl, ?_⟩) (by assumption) ?_
                        rotate_left
                        · (intro w hSw; (try dsimp only at hSw); go_simp; try with_reducible rfl)
                        try simp only [Act.put, List.setIfInBounds_toArray, List.set_cons_zero, List.set_cons_succ]
                        refine wpAnyH_take (i := 2) (oi := { dst := some 84, op := Op.move (Operand.tmp 0), type := 23, pos := "law.go:130", after := #[{ on := 1, ground := Ground.guard }], guard := some (1, false) }) (v := ?_) rfl (by kernel_rfl) (by kernel_rfl) (by kernel_rfl) (fun _ _ _ h => h) (Or.inl ⟨by rfl, ?_⟩) (by assumption) ?_
                        rotate_left
                        · (intro w hSw; (try dsimp only at hSw); go_simp; try with_reducible rfl)
                        try simp only [Act.put, List.setIfInBounds_toArray, List.set_cons_zero, List.set_cons_succ]
                        refine wpAnyH_take (i := 3) (oi := { dst := some 85, op := Op.move (Operand.tmp 16), type := 3, pos := "law.go:130", after := #[{ on := 1, ground := Ground.guard }], guard := some (1, false) }) (v := ?_) rfl (by kernel_rfl) (by kernel_rfl) (by kernel_rfl) (fun _ _ _ h => h) (Or.inl ⟨by rfl, ?_⟩) (by assumption) ?_
                        rotate_left
                        · (intro w hSw; (try dsimp only at hSw); go_simp; try with_reducible rfl)
                        try simp only [Act.put, List.setIfInBounds_toArray, List.set_cons_zero, List.set_cons_succ]
                        refine wpAnyH_take (i := 4) (oi := { dst := some 86, op := Op.indexAddr 23 (Operand.tmp 84) (Operand.tmp 85), type := 0, pos := "law.go:130", after := #[{ on := 2, ground := Ground.data }, { on := 3, ground := Ground.data }, { on := 1, ground := Ground.guard }], guard := some (1, false) }) (v := ?_) rfl (by kernel_rfl) (by kernel_rfl) (by kernel_rfl) (fun _ _ _ h => h) (Or.inl ⟨by rfl, ?_⟩) (by assumption) ?_
                        rotate_left
                        · (intro w hSw; (try dsimp only at hSw); go_simp; try with_reducible rfl)
                        try simp only [Act.put, List.setIfInBounds_toArray, List.set_cons_zero, List.set_cons_succ]
                        refine wpAnyH_take (i := 5) (oi := { dst := some 87, op := Op.load 9 (Operand.tmp 86), type := 9, pos := "law.go:130", after := #[{ on := 4, ground := Ground.data }, { on := 1, ground := Ground.guard }], guard := some (1, false) }) (v := ?_) rfl (by kernel_rfl) (by kernel_rfl) (by kernel_rfl) (fun _ _ _ h => h) (Or.inl ⟨by rfl, ?_⟩) (by assumption) ?_
                        rotate_left
                        · (intro w hSw; (try dsimp only at hSw); go_simp; try with_reducible rfl)
                        try simp only [Act.put, List.setIfInBounds_toArray, List.set_cons_zero, List.set_cons_succ]
                        refine wpAnyH_take (i := 6) (oi := { dst := some 88, op := Op.move (Operand.tmp 0), type := 23, pos := "law.go:130", after := #[{ on := 1, ground := Ground.guard }], guard := some (1, false) }) (v := ?_) rfl (by kernel_rfl) (by kernel_rfl) (by kernel_rfl) (fun _ _ _ h => h) (Or.inl ⟨by rfl, ?_⟩) (by assumption) ?_
                        rotate_left
                        · (intro w hSw; (try dsimp only at hSw); go_simp; try with_reducible rfl)
                        try simp only [Act.put, List.setIfInBounds_toArray, List.set_cons_zero, List.set_cons_succ]
                        refine wpAnyH_take (i := 7) (oi := { dst := some 89, op := Op.move (Operand.tmp 15), type := 3, pos := "law.go:130", after := #[{ on := 1, ground := Ground.guard }], guard := some (1, false) }) (v := ?_) rfl (by kernel_rfl) (by kernel_rfl) (by kernel_rfl) (fun _ _ _ h => h) (Or.inl ⟨by rfl, ?_⟩) (by assumption) ?_
                        rotate_left
                        · (intro w hSw; (try dsimp only at hSw); go_simp; try with_reducible rfl)
                        try simp only [Act.put, List.setIfInBounds_toArray, List.set_cons_zero, List.set_cons_succ]
                        refine wpAnyH_take (i := 8) (oi := { dst := some 90, op := Op.indexAddr 23 (Operand.tmp 88) (Operand.tmp 89), type := 0, pos := "law.go:130", after := #[{ on := 6, ground := Ground.data }, { on := 7, ground := Ground.data }, { on := 1, ground := Ground.guard }], guard := some (1, false) }) (v := ?_) rfl (by kernel_rfl) (by kernel_rfl) (by kernel_rfl) (fun _ _ _ h => h) (Or.inl ⟨by rfl, ?_⟩) (by assumption) ?_
                        rotate_left
                        · (intro w hSw; (try dsimp only at hSw); go_simp; try with_reducible rfl)
                        try simp only [Act.put, List.setIfInBounds_toArray, List.set_cons_zero, List.set_cons_succ]
                        refine wpAnyH_take (i := 9) (oi := { dst := some 91, op := Op.load 9 (Operand.tmp 90), type := 9, pos := "law.go:130", after := #[{ on := 8, ground := Ground.data }, { on := 1, ground := Ground.guard }], guard := some (1, false) }) (v := ?_) rfl (by kernel_rfl) (by kernel_rfl) (by kernel_rfl) (fun _ _ _ h => h) (Or.inl ⟨by rfl, ?_⟩) (by assumption) ?_
                        rotate_left
                        · (intro w hSw; (try dsimp only at hSw); go_simp; try with_reducible rfl)
                        try simp only [Act.put, List.setIfInBounds_toArray, List.set_cons_zero, List.set_cons_succ]
                        refine wpAnyH_take (i := 10) (oi := { dst := some 92, op := Op.binOp BinOp.eql 9 (Operand.tmp 87) (Operand.tmp 91) 9, type := 4, pos := "law.go:130", after := #[{ on := 5, ground := Ground.data }, { on := 9, ground := Ground.data }, { on := 1, ground := Ground.guard }], guard := some (1, false) }) (v := ?_) rfl (by kernel_rfl) (by kernel_rfl) (by kernel_rfl) (fun _ _ _ h => h) (Or.inl ⟨by rfl, ?_⟩) (by assumption) ?_
                        rotate_left
                        · (intro w hSw; (try dsimp only at hSw); go_simp; try with_reducible rfl)
                        try simp only [Act.put, List.setIfInBounds_toArray, List.set_cons_zero, List.set_cons_succ]
                        refine wpAnyH_take (i := 11) (oi := { dst := some 93, op := Op.pick (Operand.tmp 83) (Operand.const (Value.bool true)) (Operand.tmp 92), type := 4, pos := "law.go:130", after := #[{ on := 1, ground := Ground.data }, { on := 10, ground := Ground.data }], guard := none }) (v := ?_) rfl (by kernel_rfl) (by kernel_rfl) (by kernel_rfl) (fun _ _ _ h => h) (Or.inl ⟨by rfl, ?_⟩) (by assumption) ?_
                        rotate_left
                        · (intro w hSw; (try dsimp only at hSw); go_simp; try with_reducible rfl)
                        try simp only [Act.put, List.setIfInBounds_toArray, List.set_cons_zero, List.set_cons_succ]
                        refine wpAnyH_take (i := 12) (oi := { dst := some 14, op := Op.assign (Operand.tmp 93), type := 4, pos := "law.go:130", after := #[{ on := 11, ground := Ground.data }, { on := 1, ground := Ground.chain }, { on := 0, ground := Ground.phase }, { on := 1, ground := Ground.phase }, { on := 2, ground := Ground.phase }, { on := 3, ground := Ground.phase }, { on := 4, ground := Ground.phase }, { on := 5, ground := Ground.phase }, { on := 6, ground := Ground.phase }, { on := 7, ground := Ground.phase }, { on := 8, ground := Ground.phase }, { on := 9, ground := Ground.phase }, { on := 10, ground := Ground.phase }, { on := 11, ground := Ground.phase }], guard := none }) (v := ?_) rfl (by kernel_rfl) (by kernel_rfl) (by kernel_rfl) (fun _ _ _ h => h) (Or.inl ⟨by rfl, ?_⟩) (by assumption) ?_
                        rotate_left
                        · (intro w hSw; (try dsimp only at hSw); go_simp; try with_reducible rfl)
                        try simp only [Act.put, List.setIfInBounds_toArray, List.set_cons_zero, List.set_cons_succ]
                        refine wpAnyH_done (by kernel_rfl) ?_ _
                        refine NoPanic.normal ?_
                        have BX := Lib.hid ((hbr2.out.trans (hH.2.1.out.mono (by have := HNp.out; have := hbr2.out.size; omega))))
                        clear S0 hH LWp HNp la y1 y2 BW
                        go_wp2_with fail
                        go_roundw
                        case rel => first | exact ⟨j + 1, false, by omega, by go_num, rfl, HN, BX⟩ | ((repeat apply Exists.intro); refine ⟨?_, rfl⟩; exact ⟨j + 1, false, by omega, by go_num, rfl, HN, BX⟩)
                        case measure => simp [intOf]; omega
                  · have HN : Hid (tb2 = true ↔ ¬ Dst ks (k + 1)) := by
                      have hjk : j = k := by omega
                      unfold Hid
                      rw [dst_succ, hok2.out, hjk]
                    have hdj : decide ((j : Int) < (k : Int)) = false := by simp; omega
                    clear hok2
                    go_wp2_with fail
                    go_roundw
                    case rel => first | exact ⟨k + 1, tb2, by omega, by go_num, rfl, HN, hbr2⟩ | ((repeat apply Exists.intro); refine ⟨?_, rfl⟩; exact ⟨k + 1, tb2, by omega, by go_num, rfl, HN, hbr2⟩)
                    case measure => simp [intOf]; omega
              · have hkl : k = ks.length := by omega
                subst hkl
                have B4 := Lib.hid (B2.out.trans (hbr.out.mono B2.out.size))
                have BT := hbr
                clear hlt hk hbr
                have ht : tb = true := hok.out.2 HND.out
                subst ht
                obtain ⟨z0, z1, z2, z3, z4, z5, z6, z7⟩ := HZ.out
                have K := BT.out
                have z0 := (K.cell (p := ⟨w1.heap.size, 0, none⟩) ZL.out).trans z0
                have z1 := (K.cell (p := ⟨w1.heap.size, 1, none⟩) ZL.out).trans z1
                have z2 := (K.cell (p := ⟨w1.heap.size, 2, none⟩) ZL.out).trans z2
                have z3 := (K.cell (p := ⟨w1.heap.size, 3, none⟩) ZL.out).trans z3
                have z4 := (K.cell (p := ⟨w1.heap.size, 4, none⟩) ZL.out).trans z4
                have z5 := (K.cell (p := ⟨w1.heap.size, 5, none⟩) ZL.out).trans z5
                have z6 := (K.cell (p := ⟨w1.heap.size, 6, none⟩) ZL.out).trans z6
                have z7 := (K.cell (p := ⟨w1.heap.size, 7, none⟩) ZL.out).trans z7
                clear K
                go_wp2_with fail
                refine (same_nil _).mono ?_
                rintro e w3 ⟨rfl, b3⟩
                have B5 := Lib.hid (B4.out.trans (b3.mono B4.out.size))
                clear b3 z0 z1 z2 z3 z4 z5 z6 z7
                go_wp2_with fail
                refine (awake_any _).mono ?_
                rintro e wz ⟨rfl, bz⟩
                have BZ := Lib.hid (B5.out.trans (bz.mono B5.out.size))
                clear bz
                go_wp2_with fail
                go_ret
                exact ⟨rfl, BZ.out⟩
          · skip
            obtain ⟨rs, xs, o5, oK5, cap5, capK5, c5, hS, hx1, hx2, rfl, r5, e5, m5, rK5, ouK5, b5⟩ := hmade
            have g1 : ((ks.length : Int) != (l.length : Int)) = false := by simp [heq]
            have B1 := Lib.hid (BL.out.trans (b5.mono BL.out.size))
            have B2 := Lib.hid (B1.out.alloc (by have := B1.out.size; exact this) (.cells #[.int .i64 5, .int .i64 0, .string ⟨#[]⟩, .slice o5 xs.length cap5, .slice oK5 rs.length capK5, .int .i64 0, .int .i64 0, .bool false] 27))
            have HD := Lib.hid hd
            have HEQ := Lib.hid heq
            have hrk := hS.len
            have wks : ∀ s, s ∈ rs → s.size ≤ maxLen := fun s hs => HF.out.2.2.2 s (srt_mem hS hs)
            have hzx : szL xs ≤ 24000 := by
              have h1 := szL_all (l := xs) (fun x hx => HALL.out x (xs_mem hS hx1 hx2 hx))
              have h2 : xs.length * 600 ≤ 40 * 600 := Nat.mul_le_mul_right 600 (by omega)
              omega
            have HMO := Lib.hid (fun y => made_lies r5 e5 rK5 wks y)
            have HSR := Lib.hid (And.intro hS (And.intro hx1 hx2))
            have lx1 := r5.1
            have lx2 := r5.2.1
            have lx3 := rK5.1
            have lx4 := rK5.2.1
            unfold maxLen at lx2 lx4
            have HM : Hid (Wb (w1.alloc (.cells #[.int .i64 5, .int .i64 0, .string ⟨#[]⟩, .slice o5 xs.length cap5, .slice oK5 rs.length capK5, .int .i64 0, .int .i64 0, .bool false] 27)) w1.heap.size (Val.mk 5 0 ⟨#[]⟩ xs rs 0 0 false) (.slice o5 xs.length cap5) (.slice oK5 rs.length capK5)) := heap_alloc_new w1 _
            have ZL : Hid (w1.heap.size < (w1.alloc (.cells #[.int .i64 5, .int .i64 0, .string ⟨#[]⟩, .slice o5 xs.length cap5, .slice oK5 rs.length capK5, .int .i64 0, .int .i64 0, .bool false] 27)).heap.size) := by simp [Hid]
            have K12 : Hid (Below w1.heap.size w1 (w1.alloc (.cells #[.int .i64 5, .int .i64 0, .string ⟨#[]⟩, .slice o5 xs.length cap5, .slice oK5 rs.length capK5, .int .i64 0, .int .i64 0, .bool false] 27))) := (Below.refl _ _).alloc (Nat.le_refl _) _
            have n1 : n ≤ w1.heap.size := by have := B1.out.size; omega
            have HLN := Lib.hid (And.intro hrk hx1)
            clear hd heq hS hx1 hx2 hrk r5 e5 m5 rK5 ouK5 b5 wks
            go_upto_region 11 with fail
            generalize w1.alloc _ = w2 at *
            go_wp2_with fail
            go_loopw [15, 14] (fun s b wr => ∃ (k : Nat) (tb : Bool), k ≤ ks.length ∧ s = .int .i64 k ∧ b = .bool tb ∧ Hid (tb = true ↔ ¬ Dst ks k) ∧ Hid (Below w2.heap.size w2 wr)) (fun s _ _ => ks.length - (intOf s).toNat)
            case atStart => exact ⟨0, false, Nat.zero_le _, rfl, rfl, ⟨fun h => absurd h (by decide), fun h => absurd (dst_zero ks) h⟩, Below.refl _ _⟩
            case round =>
              obtain ⟨k, tb, hk, rfl, rfl, hok, hbr⟩ := hrel
              by_cases hlt : k < ks.length
              · have hdk : decide ((k : Int) < (ks.length : Int)) = true := by simp; omega
                go_wp2_with fail
                go_loopw [16, 14] (fun s b wr2 => ∃ (j : Nat) (tb2 : Bool), j ≤ k ∧ s = .int .i64 j ∧ b = .bool tb2 ∧ Hid (tb2 = true ↔ ¬ Dst ks k ∨ ∃ q, q < j ∧ kk ks q = kk ks k) ∧ Hid (Below w2.heap.size w2 wr2)) (fun s _ _ => k - (intOf s).toNat)
                case atStart => exact ⟨0, tb, Nat.zero_le _, rfl, rfl, ⟨fun h => .inl (hok.out.1 h), fun h => hok.out.2 (by rcases h with h | ⟨q, hq, _⟩; exact h; omega)⟩, hbr.out⟩
                case round =>
                  obtain ⟨j, tb2, hj, rfl, rfl, hok2, hbr2⟩ := hrel
                  by_cases hlt2 : j < k
                  · have BW := Lib.hid (B2.out.trans (hbr2.out.mono B2.out.size))
                    obtain ⟨b1, off1, e1, hb1, y1⟩ := (HF.out.1.below (BW.out.mono hn)).key (j := j) (by omega)
                    obtain ⟨b2, off2, e2, hb2, y2⟩ := (HF.out.1.below (BW.out.mono hn)).key hlt
                    rw [e1] at e2
                    injection e2 with e2
                    injection e2 with e2 e3
                    subst e2 e3 e1
                    have i0 : (0 : Int) ≤ j := by omega
                    have i1 : (j : Int) < ks.length := by omega
                    have i2 : (0 : Int) ≤ k := by omega
                    have i3 : (k : Int) < ks.length := by omega
                    cases tb2 with
                    | true =>
                      have HN : Hid (true = true ↔ ¬ Dst ks k ∨ ∃ q, q < j + 1 ∧ kk ks q = kk ks k) := ⟨fun h => (hok2.out.1 h).imp id fun ⟨q, hq, e⟩ => ⟨q, by omega, e⟩, fun _ => rfl⟩
                      go_upto_region 18 with fail
                      obtain ⟨Np, hNp⟩ : ∃ N, N = wr.heap.size := ⟨_, rfl⟩
                      have S0 := held_at hNp
                      have la : b1 < Np := by have := BW.out.size; omega
                      have HNp := Lib.hid hNp
                      clear hNp
                      have LWp : Hid (∀ W, ((∀ b o, b < Np → W.cell? ⟨b, o, none⟩ = wr.cell? ⟨b, o, none⟩) ∧ Hid (Below Np wr W) ∧ Hid (Np ≤ W.heap.size)) → Below w.heap.size w W) := fun W h => BW.out.trans (h.2.1.out.mono (by rw [HNp.out]; exact BW.out.size))
                      refine wp_region_noPanic ?_
                      refine wp_region_held_drew (S := (fun W => (∀ b o, b < Np → W.cell? ⟨b, o, none⟩ = wr.cell? ⟨b, o, none⟩) ∧ Hid (Below Np wr W) ∧ Hid (Np ≤ W.heap.size))) (by kernel_rfl) ?_ (fun hH => ?_)
                      · exact S0
                      refine wpAnyH_take (i := 0) (oi := { dst := some 82, op := Op.move (Operand.tmp 14), type := 4, pos := "law.go:130", after := #[], guard := none }) (v := ?_) rfl (by kernel_rfl) (by kernel_rfl) (by kernel_rfl) (fun _ _ _ h => h) (Or.inl ⟨by rfl, ?_⟩) (by assumption) ?_
                      rotate_left
                      · (intro w hSw; (try dsimp only at hSw); go_simp; try with_reducible rfl)
                      try simp only [Act.put, List.setIfInBounds_toArray, List.set_cons_zero, List.set_cons_succ]
                      refine wpAnyH_take (i := 1) (oi := { dst := some 83, op := Op.move (Operand.tmp 82), type := 4, pos := "law.go:130", after := #[{ on := 0, ground := Ground.data }], guard := none }) (v := ?_) rfl (by kernel_rfl) (by kernel_rfl) (by kernel_rfl) (fun _ _ _ h => h) (Or.inl ⟨by rfl, ?_⟩) (by assumption) ?_
                      rotate_left
                      · (intro w hSw; (try dsimp only at hSw); go_simp; try with_reducible rfl)
                      try simp only [Act.put, List.setIfInBounds_toArray, List.set_cons_zero, List.set_cons_succ]
                      refine wpAnyH_take (i := 2) (oi := { dst := some 84, op := Op.move (Operand.tmp 0), type := 23, pos := "law.go:130", after := #[{ on := 1, ground := Ground.guard }], guard := some (1, false) }) (v := undef) rfl (by kernel_rfl) (by kernel_rfl) (by kernel_rfl) (fun _ _ _ h => h) (Or.inr ⟨by rfl, rfl⟩) (by assumption) ?_
                      try simp only [Act.put, List.setIfInBounds_toArray, List.set_cons_zero, List.set_cons_succ]
                      refine wpAnyH_take (i := 3) (oi := { dst := some 85, op := Op.move (Operand.tmp 16), type := 3, pos := "law.go:130", after := #[{ on := 1, ground := Ground.guard }], guard := some (1, false) }) (v := undef) rfl (by kernel_rfl) (by kernel_rfl) (by kernel_rfl) (fun _ _ _ h => h) (Or.inr ⟨by rfl, rfl⟩) (by assumption) ?_
                      try simp only [Act.put, List.setIfInBounds_toArray, List.set_cons_zero, List.set_cons_succ]
                      refine wpAnyH_take (i := 4) (oi := { dst := some 86, op := Op.indexAddr 23 (Operand.tmp 84) (Operand.tmp 85), type := 0, pos := "law.go:130", after := #[{ on := 2, ground := Ground.data }, { on := 3, ground := Ground.data }, { on := 1, ground := Ground.guard }], guard := some (1, false) }) (v := undef) rfl (by kernel_rfl) (by kernel_rfl) (by kernel_rfl) (fun _ _ _ h => h) (Or.inr ⟨by rfl, rfl⟩) (by assumption) ?_
                      try simp only [Act.put, List.setIfInBounds_toArray, List.set_cons_zero, List.set_cons_succ]
                      refine wpAnyH_take (i := 5) (oi := { dst := some 87, op := Op.load 9 (Operand.tmp 86), type := 9, pos := "law.go:130", after := #[{ on := 4, ground := Ground.data }, { on := 1, ground := Ground.guard }], guard := some (1, false) }) (v := undef) rfl (by kernel_rfl) (by kernel_rfl) (by kernel_rfl) (fun _ _ _ h => h) (Or.inr ⟨by rfl, rfl⟩) (by assumption) ?_
                      try simp only [Act.put, List.setIfInBounds_toArray, List.set_cons_zero, List.set_cons_succ]
                      refine wpAnyH_take (i := 6) (oi := { dst := some 88, op := Op.move (Operand.tmp 0), type := 23, pos := "law.go:130", after := #[{ on := 1, ground := Ground.guard }], guard := some (1, false) }) (v := undef) rfl (by kernel_rfl) (by kernel_rfl) (by kernel_rfl) (fun _ _ _ h => h) (Or.inr ⟨by rfl, rfl⟩) (by assumption) ?_
                      try simp only [Act.put, List.setIfInBounds_toArray, List.set_cons_zero, List.set_cons_succ]
                      refine wpAnyH_take (i := 7) (oi := { dst := some 89, op := Op.move (Operand.tmp 15), type := 3, pos := "law.go:130", after := #[{ on := 1, ground := Ground.guard }], guard := some (1, false) }) (v := undef) rfl (by kernel_rfl) (by kernel_rfl) (by kernel_rfl) (fun _ _ _ h => h) (Or.inr ⟨by rfl, rfl⟩) (by assumption) ?_
                      try simp only [Act.put, List.setIfInBounds_toArray, List.set_cons_zero, List.set_cons_succ]
                      refine wpAnyH_take (i := 8) (oi := { dst := some 90, op := Op.indexAddr 23 (Operand.tmp 88) (Operand.tmp 89), type := 0, pos := "law.go:130", after := #[{ on := 6, ground := Ground.data }, { on := 7, ground := Ground.data }, { on := 1, ground := Ground.guard }], guard := some (1, false) }) (v := undef) rfl (by kernel_rfl) (by kernel_rfl) (by kernel_rfl) (fun _ _ _ h => h) (Or.inr ⟨by rfl, rfl⟩) (by assumption) ?_
                      try simp only [Act.put, List.setIfInBounds_toArray, List.set_cons_zero, List.set_cons_succ]
                      refine wpAnyH_take (i := 9) (oi := { dst := some 91, op := Op.load 9 (Operand.tmp 90), type := 9, pos := "law.go:130", after := #[{ on := 8, ground := Ground.data }, { on := 1, ground := Ground.guard }], guard := some (1, false) }) (v := undef) rfl (by kernel_rfl) (by kernel_rfl) (by kernel_rfl) (fun _ _ _ h => h) (Or.inr ⟨by rfl, rfl⟩) (by assumption) ?_
                      try simp only [Act.put, List.setIfInBounds_toArray, List.set_cons_zero, List.set_cons_succ]
                      refine wpAnyH_take (i := 10) (oi := { dst := some 92, op := Op.binOp BinOp.eql 9 (Operand.tmp 87) (Operand.tmp 91) 9, type := 4, pos := "law.go:130", after := #[{ on := 5, ground := Ground.data }, { on := 9, ground := Ground.data }, { on := 1, ground := Ground.guard }], guard := some (1, false) }) (v := undef) rfl (by kernel_rfl) (by kernel_rfl) (by kernel_rfl) (fun _ _ _ h => h) (Or.inr ⟨by rfl, rfl⟩) (by assumption) ?_
                      try simp only [Act.put, List.setIfInBounds_toArray, List.set_cons_zero, List.set_cons_succ]
                      refine wpAnyH_take (i := 11) (oi := { dst := some 93, op := Op.pick (Operand.tmp 83) (Operand.const (Value.bool true)) (Operand.tmp 92), type := 4, pos := "law.go:130", after := #[{ on := 1, ground := Ground.data }, { on := 10, ground := Ground.data }], guard := none }) (v := ?_) rfl (by kernel_rfl) (by kernel_rfl) (by kernel_rfl) (fun _ _ _ h => h) (Or.inl ⟨by rfl, ?_⟩) (by assumption) ?_
                      rotate_left
                      · (intro w hSw; (try dsimp only at hSw); go_simp; try with_reducible rfl)
                      try simp only [Act.put, List.setIfInBounds_toArray, List.set_cons_zero, List.set_cons_succ]
                      refine wpAnyH_take (i := 12) (oi := { dst := some 14, op := Op.assign (Operand.tmp 93), type := 4, pos := "law.go:130", after := #[{ on := 11, ground := Ground.data }, { on := 1, ground := Ground.chain }, { on := 0, ground := Ground.phase }, { on := 1, ground := Ground.phase }, { on := 2, ground := Ground.phase }, { on := 3, ground := Ground.phase }, { on := 4, ground := Ground.phase }, { on := 5, ground := Ground.phase }, { on := 6, ground := Ground.phase }, { on := 7, ground := Ground.phase }, { on := 8, ground := Ground.phase }, { on := 9, ground := Ground.phase }, { on := 10, ground := Ground.phase }, { on := 11, ground := Ground.phase }], guard := none }) (v := ?_) rfl (by kernel_rfl) (by kernel_rfl) (by kernel_rfl) (fun _ _ _ h => h) (Or.inl ⟨by rfl, ?_⟩) (by assumption) ?_
                      rotate_left
                      · (intro w hSw; (try dsimp only at hSw); go_simp; try with_reducible rfl)
                      try simp only [Act.put, List.setIfInBounds_toArray, List.set_cons_zero, List.set_cons_succ]
                      refine wpAnyH_done (by kernel_rfl) ?_ _
                      refine NoPanic.normal ?_
                      have BX := Lib.hid ((hbr2.out.trans (hH.2.1.out.mono (by have := HNp.out; have := hbr2.out.size; omega))))
                      clear S0 hH LWp HNp la y1 y2 BW
                      go_wp2_with fail
                      go_roundw
                      case rel => first | exact ⟨j + 1, true, by omega, by go_num, rfl, HN, BX⟩ | ((repeat apply Exists.intro); refine ⟨?_, rfl⟩; exact ⟨j + 1, true, by omega, by go_num, rfl, HN, BX⟩)
                      case measure => simp [intOf]; omega
                    | false =>
                      by_cases he : kk ks j = kk ks k
                      · obtain ⟨g1, g2⟩ := str_eq he
                        have HN : Hid (true = true ↔ ¬ Dst ks k ∨ ∃ q, q < j + 1 ∧ kk ks q = kk ks k) := by have he2 := he; exact ⟨fun _ => .inr ⟨j, by omega, he2⟩, fun _ => rfl⟩
                        clear he
                        go_upto_region 18 with fail
                        obtain ⟨Np, hNp⟩ : ∃ N, N = wr.heap.size := ⟨_, rfl⟩
                        have S0 := held_at hNp
                        have la : b1 < Np := by have := BW.out.size; omega
                        have HNp := Lib.hid hNp
                        clear hNp
                        have LWp : Hid (∀ W, ((∀ b o, b < Np → W.cell? ⟨b, o, none⟩ = wr.cell? ⟨b, o, none⟩) ∧ Hid (Below Np wr W) ∧ Hid (Np ≤ W.heap.size)) → Below w.heap.size w W) := fun W h => BW.out.trans (h.2.1.out.mono (by rw [HNp.out]; exact BW.out.size))
                        refine wp_region_noPanic ?_
                        refine wp_region_held_drew (S := (fun W => (∀ b o, b < Np → W.cell? ⟨b, o, none⟩ = wr.cell? ⟨b, o, none⟩) ∧ Hid (Below Np wr W) ∧ Hid (Np ≤ W.heap.size))) (by kernel_rfl) ?_ (fun hH => ?_)
                        · exact S0
                        refine wpAnyH_take (i := 0) (oi := { dst := some 82, op := Op.move (Operand.tmp 14), type := 4, pos := "law.go:130", after := #[], guard := none }) (v := ?_) rfl (by kernel_rfl) (by kernel_rfl) (by kernel_rfl) (fun _ _ _ h => h) (Or.inl ⟨by rfl, ?_⟩) (by assumption) ?_
                        rotate_left
                        · (intro w hSw; (try dsimp only at hSw); go_simp; try with_reducible rfl)
                        try simp only [Act.put, List.setIfInBounds_toArray, List.set_cons_zero, List.set_cons_succ]
                        refine wpAnyH_take (i := 1) (oi := { dst := some 83, op := Op.move (Operand.tmp 82), type := 4, pos := "law.go:130", after := #[{ on := 0, ground := Ground.data }], guard := none }) (v := ?_) rfl (by kernel_rfl) (by kernel_rfl) (by kernel_rfl) (fun _ _ _ h => h) (Or.inl ⟨by rfl, ?_⟩) (by assumption) ?_
                        rotate_left
                        · (intro w hSw; (try dsimp only at hSw); go_simp; try with_reducible rfl)
                        try simp only [Act.put, List.setIfInBounds_toArray, List.set_cons_zero, List.set_cons_succ]
                        refine wpAnyH_take (i := 2) (oi := { dst := some 84, op := Op.move (Operand.tmp 0), type := 23, pos := "law.go:130", after := #[{ on := 1, ground := Ground.guard }], guard := some (1, false) }) (v := ?_) rfl (by kernel_rfl) (by kernel_rfl) (by kernel_rfl) (fun _ _ _ h => h) (Or.inl ⟨by rfl, ?_⟩) (by assumption) ?_
                        rotate_left
                        · (intro w hSw; (try dsimp only at hSw); go_simp; try with_reducible rfl)
                        try simp only [Act.put, List.setIfInBounds_toArray, List.set_cons_zero, List.set_cons_succ]
                        refine wpAnyH_take (i := 3) (oi := { dst := some 85, op := Op.move (Operand.tmp 16), type := 3, pos := "law.go:130", after := #[{ on := 1, ground := Ground.guard }], guard := some (1, false) }) (v := ?_) rfl (by kernel_rfl) (by kernel_rfl) (by kernel_rfl) (fun _ _ _ h => h) (Or.inl ⟨by rfl, ?_⟩) (by assumption) ?_
                        rotate_left
                        · (intro w hSw; (try dsimp only at hSw); go_simp; try with_reducible rfl)
                        try simp only [Act.put, List.setIfInBounds_toArray, List.set_cons_zero, List.set_cons_succ]
                        refine wpAnyH_take (i := 4) (oi := { dst := some 86, op := Op.indexAddr 23 (Operand.tmp 84) (Operand.tmp 85), type := 0, pos := "law.go:130", after := #[{ on := 2, ground := Ground.data }, { on := 3, ground := Ground.data }, { on := 1, ground := Ground.guard }], guard := some (1, false) }) (v := ?_) rfl (by kernel_rfl) (by kernel_rfl) (by kernel_rfl) (fun _ _ _ h => h) (Or.inl ⟨by rfl, ?_⟩) (by assumption) ?_
                        rotate_left
                        · (intro w hSw; (try dsimp only at hSw); go_simp; try with_reducible rfl)
                        try simp only [Act.put, List.setIfInBounds_toArray, List.set_cons_zero, List.set_cons_succ]
                        refine wpAnyH_take (i := 5) (oi := { dst := some 87, op := Op.load 9 (Operand.tmp 86), type := 9, pos := "law.go:130", after := #[{ on := 4, ground := Ground.data }, { on := 1, ground := Ground.guard }], guard := some (1, false) }) (v := ?_) rfl (by kernel_rfl) (by kernel_rfl) (by kernel_rfl) (fun _ _ _ h => h) (Or.inl ⟨by rfl, ?_⟩) (by assumption) ?_
                        rotate_left
                        · (intro w hSw; (try dsimp only at hSw); go_simp; try with_reducible rfl)
                        try simp only [Act.put, List.setIfInBounds_toArray, List.set_cons_zero, List.set_cons_succ]
                        refine wpAnyH_take (i := 6) (oi := { dst := some 88, op := Op.move (Operand.tmp 0), type := 23, pos := "law.go:130", after := #[{ on := 1, ground := Ground.guard }], guard := some (1, false) }) (v := ?_) rfl (by kernel_rfl) (by kernel_rfl) (by kernel_rfl) (fun _ _ _ h => h) (Or.inl ⟨by rfl, ?_⟩) (by assumption) ?_
                        rotate_left
                        · (intro w hSw; (try dsimp only at hSw); go_simp; try with_reducible rfl)
                        try simp only [Act.put, List.setIfInBounds_toArray, List.set_cons_zero, List.set_cons_succ]
                        refine wpAnyH_take (i := 7) (oi := { dst := some 89, op := Op.move (Operand.tmp 15), type := 3, pos := "law.go:130", after := #[{ on := 1, ground := Ground.guard }], guard := some (1, false) }) (v := ?_) rfl (by kernel_rfl) (by kernel_rfl) (by kernel_rfl) (fun _ _ _ h => h) (Or.inl ⟨by rfl, ?_⟩) (by assumption) ?_
                        rotate_left
                        · (intro w hSw; (try dsimp only at hSw); go_simp; try with_reducible rfl)
                        try simp only [Act.put, List.setIfInBounds_toArray, List.set_cons_zero, List.set_cons_succ]
                        refine wpAnyH_take (i := 8) (oi := { dst := some 90, op := Op.indexAddr 23 (Operand.tmp 88) (Operand.tmp 89), type := 0, pos := "law.go:130", after := #[{ on := 6, ground := Ground.data }, { on := 7, ground := Ground.data }, { on := 1, ground := Ground.guard }], guard := some (1, false) }) (v := ?_) rfl (by kernel_rfl) (by kernel_rfl) (by kernel_rfl) (fun _ _ _ h => h) (Or.inl ⟨by rfl, ?_⟩) (by assumption) ?_
                        rotate_left
                        · (intro w hSw; (try dsimp only at hSw); go_simp; try with_reducible rfl)
                        try simp only [Act.put, List.setIfInBounds_toArray, List.set_cons_zero, List.set_cons_succ]
                        refine wpAnyH_take (i := 9) (oi := { dst := some 91, op := Op.load 9 (Operand.tmp 90), type := 9, pos := "law.go:130", after := #[{ on := 8, ground := Ground.data }, { on := 1, ground := Ground.guard }], guard := some (1, false) }) (v := ?_) rfl (by kernel_rfl) (by kernel_rfl) (by kernel_rfl) (fun _ _ _ h => h) (Or.inl ⟨by rfl, ?_⟩) (by assumption) ?_
                        rotate_left
                        · (intro w hSw; (try dsimp only at hSw); go_simp; try with_reducible rfl)
                        try simp only [Act.put, List.setIfInBounds_toArray, List.set_cons_zero, List.set_cons_succ]
                        refine wpAnyH_take (i := 10) (oi := { dst := some 92, op := Op.binOp BinOp.eql 9 (Operand.tmp 87) (Operand.tmp 91) 9, type := 4, pos := "law.go:130", after := #[{ on := 5, ground := Ground.data }, { on := 9, ground := Ground.data }, { on := 1, ground := Ground.guard }], guard := some (1, false) }) (v := ?_) rfl (by kernel_rfl) (by kernel_rfl) (by kernel_rfl) (fun _ _ _ h => h) (Or.inl ⟨by rfl, ?_⟩) (by assumption) ?_
                        rotate_left
                        · (intro w hSw; (try dsimp only at hSw); go_simp; try with_reducible rfl)
                        try simp only [Act.put, List.setIfInBounds_toArray, List.set_cons_zero, List.set_cons_succ]
                        refine wpAnyH_take (i := 11) (oi := { dst := some 93, op := Op.pick (Operand.tmp 83) (Operand.const (Value.bool true)) (Operand.tmp 92), type := 4, pos := "law.go:130", after := #[{ on := 1, ground := Ground.data }, { on := 10, ground := Ground.data }], guard := none }) (v := ?_) rfl (by kernel_rfl) (by kernel_rfl) (by kernel_rfl) (fun _ _ _ h => h) (Or.inl ⟨by rfl, ?_⟩) (by assumption) ?_
                        rotate_left
                        · (intro w hSw; (try dsimp only at hSw); go_simp; try with_reducible rfl)
                        try simp only [Act.put, List.setIfInBounds_toArray, List.set_cons_zero, List.set_cons_succ]
                        refine wpAnyH_take (i := 12) (oi := { dst := some 14, op := Op.assign (Operand.tmp 93), type := 4, pos := "law.go:130", after := #[{ on := 11, ground := Ground.data }, { on := 1, ground := Ground.chain }, { on := 0, ground := Ground.phase }, { on := 1, ground := Ground.phase }, { on := 2, ground := Ground.phase }, { on := 3, ground := Ground.phase }, { on := 4, ground := Ground.phase }, { on := 5, ground := Ground.phase }, { on := 6, ground := Ground.phase }, { on := 7, ground := Ground.phase }, { on := 8, ground := Ground.phase }, { on := 9, ground := Ground.phase }, { on := 10, ground := Ground.phase }, { on := 11, ground := Ground.phase }], guard := none }) (v := ?_) rfl (by kernel_rfl) (by kernel_rfl) (by kernel_rfl) (fun _ _ _ h => h) (Or.inl ⟨by rfl, ?_⟩) (by assumption) ?_
                        rotate_left
                        · (intro w hSw; (try dsimp only at hSw); go_simp; try with_reducible rfl)
                        try simp only [Act.put, List.setIfInBounds_toArray, List.set_cons_zero, List.set_cons_succ]
                        refine wpAnyH_done (by kernel_rfl) ?_ _
                        refine NoPanic.normal ?_
                        have BX := Lib.hid ((hbr2.out.trans (hH.2.1.out.mono (by have := HNp.out; have := hbr2.out.size; omega))))
                        clear S0 hH LWp HNp la y1 y2 BW
                        go_wp2_with fail
                        go_roundw
                        case rel => first | exact ⟨j + 1, true, by omega, by go_num, rfl, HN, BX⟩ | ((repeat apply Exists.intro); refine ⟨?_, rfl⟩; exact ⟨j + 1, true, by omega, by go_num, rfl, HN, BX⟩)
                        case measure => simp [intOf]; omega
                      · obtain ⟨g1, g2⟩ := str_ne he
                        have HN : Hid (false = true ↔ ¬ Dst ks k ∨ ∃ q, q < j + 1 ∧ kk ks q = kk ks k) := ⟨fun h => absurd h (by decide), fun h => by
                          rcases h with h | ⟨q, hq, e⟩
                          · exact hok2.out.2 (.inl h)
                          · by_cases hqj : q = j
                            · subst hqj; exact absurd e he
                            · exact hok2.out.2 (.inr ⟨q, by omega, e⟩)⟩
                        clear he
                        go_upto_region 18 with fail
                        obtain ⟨Np, hNp⟩ : ∃ N, N = wr.heap.size := ⟨_, rfl⟩
                        have S0 := held_at hNp
                        have la : b1 < Np := by have := BW.out.size; omega
                        have HNp := Lib.hid hNp
                        clear hNp
                        have LWp : Hid (∀ W, ((∀ b o, b < Np → W.cell? ⟨b, o, none⟩ = wr.cell? ⟨b, o, none⟩) ∧ Hid (Below Np wr W) ∧ Hid (Np ≤ W.heap.size)) → Below w.heap.size w W) := fun W h => BW.out.trans (h.2.1.out.mono (by rw [HNp.out]; exact BW.out.size))
                        refine wp_region_noPanic ?_
                        refine wp_region_held_drew (S := (fun W => (∀ b o, b < Np → W.cell? ⟨b, o, none⟩ = wr.cell? ⟨b, o, none⟩) ∧ Hid (Below Np wr W) ∧ Hid (Np ≤ W.heap.size))) (by kernel_rfl) ?_ (fun hH => ?_)
                        · exact S0
                        refine wpAnyH_take (i := 0) (oi := { dst := some 82, op := Op.move (Operand.tmp 14), type := 4, pos := "law.go:130", after := #[], guard := none }) (v := ?_) rfl (by kernel_rfl) (by kernel_rfl) (by kernel_rfl) (fun _ _ _ h => h) (Or.inl ⟨by rfl, ?_⟩) (by assumption) ?_
                        rotate_left
                        · (intro w hSw; (try dsimp only at hSw); go_simp; try with_reducible rfl)
                        try simp only [Act.put, List.setIfInBounds_toArray, List.set_cons_zero, List.set_cons_succ]
                        refine wpAnyH_take (i := 1) (oi := { dst := some 83, op := Op.move (Operand.tmp 82), type := 4, pos := "law.go:130", after := #[{ on := 0, ground := Ground.data }], guard := none }) (v := ?_) rfl (by kernel_rfl) (by kernel_rfl) (by kernel_rfl) (fun _ _ _ h => h) (Or.inl ⟨by rfl, ?_⟩) (by assumption) ?_
                        rotate_left
                        · (intro w hSw; (try dsimp only at hSw); go_simp; try with_reducible rfl)
                        try simp only [Act.put, List.setIfInBounds_toArray, List.set_cons_zero, List.set_cons_succ]
                        refine wpAnyH_take (i := 2) (oi := { dst := some 84, op := Op.move (Operand.tmp 0), type := 23, pos := "law.go:130", after := #[{ on := 1, ground := Ground.guard }], guard := some (1, false) }) (v := ?_) rfl (by kernel_rfl) (by kernel_rfl) (by kernel_rfl) (fun _ _ _ h => h) (Or.inl ⟨by rfl, ?_⟩) (by assumption) ?_
                        rotate_left
                        · (intro w hSw; (try dsimp only at hSw); go_simp; try with_reducible rfl)
                        try simp only [Act.put, List.setIfInBounds_toArray, List.set_cons_zero, List.set_cons_succ]
                        refine wpAnyH_take (i := 3) (oi := { dst := some 85, op := Op.move (Operand.tmp 16), type := 3, pos := "law.go:130", after := #[{ on := 1, ground := Ground.guard }], guard := some (1, false) }) (v := ?_) rfl (by kernel_rfl) (by kernel_rfl) (by kernel_rfl) (fun _ _ _ h => h) (Or.inl ⟨by rfl, ?_⟩) (by assumption) ?_
                        rotate_left
                        · (intro w hSw; (try dsimp only at hSw); go_simp; try with_reducible rfl)
                        try simp only [Act.put, List.setIfInBounds_toArray, List.set_cons_zero, List.set_cons_succ]
                        refine wpAnyH_take (i := 4) (oi := { dst := some 86, op := Op.indexAddr 23 (Operand.tmp 84) (Operand.tmp 85), type := 0, pos := "law.go:130", after := #[{ on := 2, ground := Ground.data }, { on := 3, ground := Ground.data }, { on := 1, ground := Ground.guard }], guard := some (1, false) }) (v := ?_) rfl (by kernel_rfl) (by kernel_rfl) (by kernel_rfl) (fun _ _ _ h => h) (Or.inl ⟨by rfl, ?_⟩) (by assumption) ?_
                        rotate_left
                        · (intro w hSw; (try dsimp only at hSw); go_simp; try with_reducible rfl)
                        try simp only [Act.put, List.setIfInBounds_toArray, List.set_cons_zero, List.set_cons_succ]
                        refine wpAnyH_take (i := 5) (oi := { dst := some 87, op := Op.load 9 (Operand.tmp 86), type := 9, pos := "law.go:130", after := #[{ on := 4, ground := Ground.data }, { on := 1, ground := Ground.guard }], guard := some (1, false) }) (v := ?_) rfl (by kernel_rfl) (by kernel_rfl) (by kernel_rfl) (fun _ _ _ h => h) (Or.inl ⟨by rfl, ?_⟩) (by assumption) ?_
                        rotate_left
                        · (intro w hSw; (try dsimp only at hSw); go_simp; try with_reducible rfl)
                        try simp only [Act.put, List.setIfInBounds_toArray, List.set_cons_zero, List.set_cons_succ]
                        refine wpAnyH_take (i := 6) (oi := { dst := some 88, op := Op.move (Operand.tmp 0), type := 23, pos := "law.go:130", after := #[{ on := 1, ground := Ground.guard }], guard := some (1, false) }) (v := ?_) rfl (by kernel_rfl) (by kernel_rfl) (by kernel_rfl) (fun _ _ _ h => h) (Or.inl ⟨by rfl, ?_⟩) (by assumption) ?_
                        rotate_left
                        · (intro w hSw; (try dsimp only at hSw); go_simp; try with_reducible rfl)
                        try simp only [Act.put, List.setIfInBounds_toArray, List.set_cons_zero, List.set_cons_succ]
                        refine wpAnyH_take (i := 7) (oi := { dst := some 89, op := Op.move (Operand.tmp 15), type := 3, pos := "law.go:130", after := #[{ on := 1, ground := Ground.guard }], guard := some (1, false) }) (v := ?_) rfl (by kernel_rfl) (by kernel_rfl) (by kernel_rfl) (fun _ _ _ h => h) (Or.inl ⟨by rfl, ?_⟩) (by assumption) ?_
                        rotate_left
                        · (intro w hSw; (try dsimp only at hSw); go_simp; try with_reducible rfl)
                        try simp only [Act.put, List.setIfInBounds_toArray, List.set_cons_zero, List.set_cons_succ]
                        refine wpAnyH_take (i := 8) (oi := { dst := some 90, op := Op.indexAddr 23 (Operand.tmp 88) (Operand.tmp 89), type := 0, pos := "law.go:130", after := #[{ on := 6, ground := Ground.data }, { on := 7, ground := Ground.data }, { on := 1, ground := Ground.guard }], guard := some (1, false) }) (v := ?_) rfl (by kernel_rfl) (by kernel_rfl) (by kernel_rfl) (fun _ _ _ h => h) (Or.inl ⟨by rfl, ?_⟩) (by assumption) ?_
                        rotate_left
                        · (intro w hSw; (try dsimp only at hSw); go_simp; try with_reducible rfl)
                        try simp only [Act.put, List.setIfInBounds_toArray, List.set_cons_zero, List.set_cons_succ]
                        refine wpAnyH_take (i := 9) (oi := { dst := some 91, op := Op.load 9 (Operand.tmp 90), type := 9, pos := "law.go:130", after := #[{ on := 8, ground := Ground.data }, { on := 1, ground := Ground.guard }], guard := some (1, false) }) (v := ?_) rfl (by kernel_rfl) (by kernel_rfl) (by kernel_rfl) (fun _ _ _ h => h) (Or.inl ⟨by rfl, ?_⟩) (by assumption) ?_
                        rotate_left
                        · (intro w hSw; (try dsimp only at hSw); go_simp; try with_reducible rfl)
                        try simp only [Act.put, List.setIfInBounds_toArray, List.set_cons_zero, List.set_cons_succ]
                        refine wpAnyH_take (i := 10) (oi := { dst := some 92, op := Op.binOp BinOp.eql 9 (Operand.tmp 87) (Operand.tmp 91) 9, type := 4, pos := "law.go:130", after := #[{ on := 5, ground := Ground.data }, { on := 9, ground := Ground.data }, { on := 1, ground := Ground.guard }], guard := some (1, false) }) (v := ?_) rfl (by kernel_rfl) (by kernel_rfl) (by kernel_rfl) (fun _ _ _ h => h) (Or.inl ⟨by rfl, ?_⟩) (by assumption) ?_
                        rotate_left
                        · (intro w hSw; (try dsimp only at hSw); go_simp; try with_reducible rfl)
                        try simp only [Act.put, List.setIfInBounds_toArray, List.set_cons_zero, List.set_cons_succ]
                        refine wpAnyH_take (i := 11) (oi := { dst := some 93, op := Op.pick (Operand.tmp 83) (Operand.const (Value.bool true)) (Operand.tmp 92), type := 4, pos := "law.go:130", after := #[{ on := 1, ground := Ground.data }, { on := 10, ground := Ground.data }], guard := none }) (v := ?_) rfl (by kernel_rfl) (by kernel_rfl) (by kernel_rfl) (fun _ _ _ h => h) (Or.inl ⟨by rfl, ?_⟩) (by assumption) ?_
                        rotate_left
                        · (intro w hSw; (try dsimp only at hSw); go_simp; try with_reducible rfl)
                        try simp only [Act.put, List.setIfInBounds_toArray, List.set_cons_zero, List.set_cons_succ]
                        refine wpAnyH_take (i := 12) (oi := { dst := some 14, op := Op.assign (Operand.tmp 93), type := 4, pos := "law.go:130", after := #[{ on := 11, ground := Ground.data }, { on := 1, ground := Ground.chain }, { on := 0, ground := Ground.phase }, { on := 1, ground := Ground.phase }, { on := 2, ground := Ground.phase }, { on := 3, ground := Ground.phase }, { on := 4, ground := Ground.phase }, { on := 5, ground := Ground.phase }, { on := 6, ground := Ground.phase }, { on := 7, ground := Ground.phase }, { on := 8, ground := Ground.phase }, { on := 9, ground := Ground.phase }, { on := 10, ground := Ground.phase }, { on := 11, ground := Ground.phase }], guard := none }) (v := ?_) rfl (by kernel_rfl) (by kernel_rfl) (by kernel_rfl) (fun _ _ _ h => h) (Or.inl ⟨by rfl, ?_⟩) (by assumption) ?_
                        rotate_left
                        · (intro w hSw; (try dsimp only at hSw); go_simp; try with_reducible rfl)
                        try simp only [Act.put, List.setIfInBounds_toArray, List.set_cons_zero, List.set_cons_succ]
                        refine wpAnyH_done (by kernel_rfl) ?_ _
                        refine NoPanic.normal ?_
                        have BX := Lib.hid ((hbr2.out.trans (hH.2.1.out.mono (by have := HNp.out; have := hbr2.out.size; omega))))
                        clear S0 hH LWp HNp la y1 y2 BW
                        go_wp2_with fail
                        go_roundw
                        case rel => first | exact ⟨j + 1, false, by omega, by go_num, rfl, HN, BX⟩ | ((repeat apply Exists.intro); refine ⟨?_, rfl⟩; exact ⟨j + 1, false, by omega, by go_num, rfl, HN, BX⟩)
                        case measure => simp [intOf]; omega
                  · have HN : Hid (tb2 = true ↔ ¬ Dst ks (k + 1)) := by
                      have hjk : j = k := by omega
                      unfold Hid
                      rw [dst_succ, hok2.out, hjk]
                    have hdj : decide ((j : Int) < (k : Int)) = false := by simp; omega
                    clear hok2
                    go_wp2_with fail
                    go_roundw
                    case rel => first | exact ⟨k + 1, tb2, by omega, by go_num, rfl, HN, hbr2⟩ | ((repeat apply Exists.intro); refine ⟨?_, rfl⟩; exact ⟨k + 1, tb2, by omega, by go_num, rfl, HN, hbr2⟩)
                    case measure => simp [intOf]; omega
              · have hkl : k = ks.length := by omega
                subst hkl
                have B4 := Lib.hid (B2.out.trans (hbr.out.mono B2.out.size))
                have BT := hbr
                clear hlt hk hbr
                have ht : tb = false := Bool.eq_false_iff.2 fun h => (hok.out.1 h) HD.out
                subst ht
                clear hok
                have g3 : ((rs.length : Int) != (ks.length : Int)) = false := by simp [HLN.out.1]
                have g4 : ((xs.length : Int) != (ks.length : Int)) = false := by simp [HLN.out.2, HLN.out.1]
                obtain ⟨p0, p1, p2, p3, p4, p5, p6, p7⟩ := cells8 (show wr.heap[w1.heap.size]? = some (.cells #[.int .i64 5, .int .i64 0, .string ⟨#[]⟩, .slice o5 xs.length cap5, .slice oK5 rs.length capK5, .int .i64 0, .int .i64 0, .bool false] 27 (0, 0)) from HM.out.keep BT.out ZL.out)
                go_wp2_with fail
                clear p0 p1 p2 p3 p4 p5 p6 p7 g3 g4
                go_loopw [17] (fun s wr => ∃ k : Nat, k ≤ ks.length ∧ s = .int .i64 k ∧ Hid (Below w2.heap.size w2 wr)) (fun s _ => ks.length - (intOf s).toNat)
                case atStart => exact ⟨0, Nat.zero_le _, rfl, BT.out⟩
                case round =>
                  obtain ⟨k, hk, rfl, hbr⟩ := hrel
                  by_cases hlt : k < ks.length
                  · have BW := Lib.hid (B2.out.trans (hbr.out.mono B2.out.size))
                    obtain ⟨b1, off1, e1, hb1, y1⟩ := (HF.out.1.below (BW.out.mono hn)).key hlt
                    have i2 : (0 : Int) ≤ k := by omega
                    have i3 : (k : Int) < ks.length := by omega
                    obtain ⟨p0, p1, p2, p3, p4, p5, p6, p7⟩ := cells8 (show wr.heap[w1.heap.size]? = some (.cells #[.int .i64 5, .int .i64 0, .string ⟨#[]⟩, .slice o5 xs.length cap5, .slice oK5 rs.length capK5, .int .i64 0, .int .i64 0, .bool false] 27 (0, 0)) from HM.out.keep hbr.out ZL.out)
                    go_upto_region 26 with fail
                    obtain ⟨Np, hNp⟩ : ∃ N, N = wr.heap.size := ⟨_, rfl⟩
                    have S0 := held_at hNp
                    have la : w1.heap.size < Np := by have := ZL.out; have := hbr.out.size; omega
                    have lb : b1 < Np := by have := BW.out.size; omega
                    have HNp := Lib.hid hNp
                    clear hNp
                    have LWp : Hid (∀ W, ((∀ b o, b < Np → W.cell? ⟨b, o, none⟩ = wr.cell? ⟨b, o, none⟩) ∧ Hid (Below Np wr W) ∧ Hid (Np ≤ W.heap.size)) → Below w.heap.size w W) := fun W h => BW.out.trans (h.2.1.out.mono (by rw [HNp.out]; exact BW.out.size))
                    have CFp : Hid (∀ W, ((∀ b o, b < Np → W.cell? ⟨b, o, none⟩ = wr.cell? ⟨b, o, none⟩) ∧ Hid (Below Np wr W) ∧ Hid (Np ≤ W.heap.size)) → Calls Try.prog 32 #[vv 5 0 ⟨#[]⟩ (.slice o5 xs.length cap5) (.slice oK5 rs.length capK5) 0 0 false, .string (kk ks k)] W fun e w' => (∃ r : Int, e = .returned (.int .i64 r) ∧ At rs rs.length (kk ks k) r) ∧ Below W.heap.size W w') := fun W h => find_any (n := w1.heap.size) (V := Val.mk 5 0 ⟨#[]⟩ xs rs 0 0 false) (kk ks k) rfl HLN.out.2.symm ((HMO.out false).kept (K12.out.trans ((hbr.out.trans (h.2.1.out.mono (by have := HNp.out; have := hbr.out.size; omega))).mono (by have := ZL.out; omega)))).lies (by have := ((LWp.out W h)).size; have := h.2.2.out; have := HNp.out; have := ZL.out; have := hbr.out.size; omega)
                    refine wp_region_noPanic ?_
                    refine wp_region_held_drew (S := (fun W => (∀ b o, b < Np → W.cell? ⟨b, o, none⟩ = wr.cell? ⟨b, o, none⟩) ∧ Hid (Below Np wr W) ∧ Hid (Np ≤ W.heap.size))) (by kernel_rfl) ?_ (fun hH => ?_)
                    · exact S0
                    refine wpAnyH_take (i := 0) (oi := { dst := some 134, op := Op.load 27 (Operand.tmp 12), type := 27, pos := "law.go:140", after := #[], guard := none }) (v := ?_) rfl (by kernel_rfl) (by kernel_rfl) (by kernel_rfl) (fun _ _ _ h => h) (Or.inl ⟨by rfl, ?_⟩) (by assumption) ?_
                    rotate_left
                    · (intro w hSw; (try dsimp only at hSw); go_simp; try with_reducible rfl)
                    try simp only [Act.put, List.setIfInBounds_toArray, List.set_cons_zero, List.set_cons_succ]
                    refine wpAnyH_take (i := 1) (oi := { dst := some 135, op := Op.move (Operand.tmp 0), type := 23, pos := "law.go:140", after := #[], guard := none }) (v := ?_) rfl (by kernel_rfl) (by kernel_rfl) (by kernel_rfl) (fun _ _ _ h => h) (Or.inl ⟨by rfl, ?_⟩) (by assumption) ?_
                    rotate_left
                    · (intro w hSw; (try dsimp only at hSw); go_simp; try with_reducible rfl)
                    try simp only [Act.put, List.setIfInBounds_toArray, List.set_cons_zero, List.set_cons_succ]
                    refine wpAnyH_take (i := 2) (oi := { dst := some 136, op := Op.move (Operand.tmp 17), type := 3, pos := "law.go:140", after := #[], guard := none }) (v := ?_) rfl (by kernel_rfl) (by kernel_rfl) (by kernel_rfl) (fun _ _ _ h => h) (Or.inl ⟨by rfl, ?_⟩) (by assumption) ?_
                    rotate_left
                    · (intro w hSw; (try dsimp only at hSw); go_simp; try with_reducible rfl)
                    try simp only [Act.put, List.setIfInBounds_toArray, List.set_cons_zero, List.set_cons_succ]
                    refine wpAnyH_take (i := 3) (oi := { dst := some 137, op := Op.indexAddr 23 (Operand.tmp 135) (Operand.tmp 136), type := 0, pos := "law.go:140", after := #[{ on := 1, ground := Ground.data }, { on := 2, ground := Ground.data }], guard := none }) (v := ?_) rfl (by kernel_rfl) (by kernel_rfl) (by kernel_rfl) (fun _ _ _ h => h) (Or.inl ⟨by rfl, ?_⟩) (by assumption) ?_
                    rotate_left
                    · (intro w hSw; (try dsimp only at hSw); go_simp; try with_reducible rfl)
                    try simp only [Act.put, List.setIfInBounds_toArray, List.set_cons_zero, List.set_cons_succ]
                    refine wpAnyH_take (i := 4) (oi := { dst := some 138, op := Op.load 9 (Operand.tmp 137), type := 9, pos := "law.go:140", after := #[{ on := 3, ground := Ground.data }], guard := none }) (v := ?_) rfl (by kernel_rfl) (by kernel_rfl) (by kernel_rfl) (fun _ _ _ h => h) (Or.inl ⟨by rfl, ?_⟩) (by assumption) ?_
                    rotate_left
                    · (intro w hSw; (try dsimp only at hSw); go_simp; try with_reducible rfl)
                    try simp only [Act.put, List.setIfInBounds_toArray, List.set_cons_zero, List.set_cons_succ]
                    refine wpAnyH_ready (rs := [5]) (by kernel_rfl) (by simp) ?_
                    refine AllReadyH.cons (o := { dst := some 139, op := Op.call { callee := Callee.value (Operand.func 32), args := #[Operand.tmp 134, Operand.tmp 138], argTypes := #[27, 9] }, type := 3, pos := "law.go:140", after := #[{ on := 0, ground := Ground.data }, { on := 4, ground := Ground.data }], guard := none }) rfl (fun K hK => ?_) AllReadyH.nil
                    go_simp
                    refine (CFp.out _ hH).mono ?_
                    rintro e W_0 ⟨⟨r, rfl, hA⟩, b⟩
                    refine hK.out _ _ ?_ (fun hH' => ?_)
                    · exact held_next (by assumption) hH
                    clear hK K hH
                    have hH := hH'
                    clear hH'
                    try simp only [Act.put, List.setIfInBounds_toArray, List.set_cons_zero, List.set_cons_succ]
                    refine wpAnyH_take (i := 6) (oi := { dst := some 18, op := Op.assign (Operand.tmp 139), type := 3, pos := "law.go:140", after := #[{ on := 5, ground := Ground.data }, { on := 5, ground := Ground.chain }, { on := 0, ground := Ground.phase }, { on := 1, ground := Ground.phase }, { on := 2, ground := Ground.phase }, { on := 3, ground := Ground.phase }, { on := 4, ground := Ground.phase }, { on := 5, ground := Ground.phase }], guard := none }) (v := ?_) rfl (by kernel_rfl) (by kernel_rfl) (by kernel_rfl) (fun _ _ _ h => h) (Or.inl ⟨by rfl, ?_⟩) (by assumption) ?_
                    rotate_left
                    · (intro w hSw; (try dsimp only at hSw); go_simp; try with_reducible rfl)
                    try simp only [Act.put, List.setIfInBounds_toArray, List.set_cons_zero, List.set_cons_succ]
                    refine wpAnyH_done (by kernel_rfl) ?_ _
                    refine NoPanic.normal ?_
                    have B26 := Lib.hid (hbr.out.trans (hH.2.1.out.mono (by have := HNp.out; have := hbr.out.size; omega)))
                    have BW2 := Lib.hid (LWp.out _ hH)
                    clear S0 hH LWp HNp la lb CFp p0 p1 p2 p3 p4 p5 p6 p7 y1 BW
                    rcases hA with ⟨_, hno⟩ | ⟨j, rfl, hj, he, _⟩
                    · exfalso
                      obtain ⟨j, hj, he⟩ := HSR.out.1.all k hlt
                      exact hno j hj he
                    · have hXj := HSR.out.2.2 k j hlt hj he
                      obtain ⟨X, hX⟩ : ∃ X, l[k]? = some X := ⟨_, List.getElem?_eq_getElem (by have := HEQ.out; omega)⟩
                      have hXx : xs[j]? = some X := by rw [hXj]; exact hX
                      have hlk : k < l.length := by have := HEQ.out; omega
                      have hjx : j < xs.length := by have := HLN.out; omega
                      have KM := (HMO.out false).kept (K12.out.trans (B26.out.mono (by have := ZL.out; omega)))
                      obtain ⟨b2, off2, oL3, oK3, cL3, cK3, c3, e2, hb2, ⟨y0, y1, y2, y3, y4, y5, y6, y7⟩, OX⟩ := KM.L.elv hjx (KM.el j X hXx)
                      obtain ⟨b3, off3, oL4, oK4, cL4, cK4, c4, e3, hb3, ⟨z0, z1, z2, z3, z4, z5, z6, z7⟩, OY⟩ := (HF.out.2.1.below (BW2.out.mono hn)).elv hlk ((HF.out.2.2.1 k X hX).kept (BW2.out.mono hn))
                      have OXY := Lib.hid (And.intro OX OY)
                      have hsx := HALL.out X (List.mem_of_getElem? hX)
                      have i4 : (0 : Int) ≤ j := by omega
                      have i5 : (j : Int) < xs.length := by have := HLN.out; omega
                      have i6 : (k : Int) < l.length := by omega
                      have HKM := Lib.hid KM.K
                      clear OX OY hXj hX hXx he KM
                      obtain ⟨p0, p1, p2, p3, p4, p5, p6, p7⟩ := cells8 (show W_0.heap[w1.heap.size]? = some (.cells #[.int .i64 5, .int .i64 0, .string ⟨#[]⟩, .slice o5 xs.length cap5, .slice oK5 rs.length capK5, .int .i64 0, .int .i64 0, .bool false] 27 (0, 0)) from HM.out.keep B26.out ZL.out)
                      subst e1 e2 e3
                      by_cases hk0 : k = 0
                      · have gk : decide ((0 : Int) < (k : Int)) = false := by simp; omega
                        have gk2 : (0 < k) = False := by simp; omega
                        have gk3 : decide (0 < k) = false := by simp; omega
                        have gk4 : ((0 : Int) < (k : Int)) = False := by simp; omega
                        clear hk0
                        go_upto_region 27 with fail
                        obtain ⟨Nq, hNq⟩ : ∃ N, N = W_0.heap.size := ⟨_, rfl⟩
                        have S0 := held_at hNq
                        have la : w1.heap.size < Nq := by have := ZL.out; have := B26.out.size; omega
                        have lb : b2 < Nq := by have := ZL.out; have := B26.out.size; omega
                        have lc : b3 < Nq := by have := BW2.out.size; omega
                        have HNq := Lib.hid hNq
                        clear hNq
                        have LWq : Hid (∀ W, ((∀ b o, b < Nq → W.cell? ⟨b, o, none⟩ = W_0.cell? ⟨b, o, none⟩) ∧ Hid (Below Nq W_0 W) ∧ Hid (Nq ≤ W.heap.size)) → Below w.heap.size w W) := fun W h => BW2.out.trans (h.2.1.out.mono (by rw [HNq.out]; exact BW2.out.size))
                        have CSq : Hid (∀ W, ((∀ b o, b < Nq → W.cell? ⟨b, o, none⟩ = W_0.cell? ⟨b, o, none⟩) ∧ Hid (Below Nq W_0 W) ∧ Hid (Nq ≤ W.heap.size)) → Calls Try.prog 23 #[vv X.k X.i X.s (.slice oL3 X.l.length cL3) (.slice oK3 X.ks.length cK3) X.tk X.to X.x, vv X.k X.i X.s (.slice oL4 X.l.length cL4) (.slice oK4 X.ks.length cK4) X.tk X.to X.x, .bool true] W fun e w' => e = .returned (.bool true) ∧ Below W.heap.size W w') := fun W h => rsame_any 60000 (Nat.le_refl _) w1.heap.size X _ _ W (by omega) (OXY.out.1.kept (h.2.1.out.mono (by have := HNq.out; have := B26.out.size; have := ZL.out; omega))).lies (((OXY.out.2.kept (h.2.1.out.mono (by have := HNq.out; have := BW2.out.size; omega))).lies).mono fun b hb => by omega) (by have := h.2.2.out; have := HNq.out; have := B26.out.size; have := ZL.out; omega)
                        refine wp_region_noPanic ?_
                        refine wp_region_held_drew (S := (fun W => (∀ b o, b < Nq → W.cell? ⟨b, o, none⟩ = W_0.cell? ⟨b, o, none⟩) ∧ Hid (Below Nq W_0 W) ∧ Hid (Nq ≤ W.heap.size))) (by kernel_rfl) ?_ (fun hH => ?_)
                        · exact S0
                        refine wpAnyH_take (i := 0) (oi := { dst := some 140, op := Op.move (Operand.tmp 18), type := 3, pos := "law.go:141", after := #[], guard := none }) (v := ?_) rfl (by kernel_rfl) (by kernel_rfl) (by kernel_rfl) (fun _ _ _ h => h) (Or.inl ⟨by rfl, ?_⟩) (by assumption) ?_
                        rotate_left
                        · (intro w hSw; (try dsimp only at hSw); go_simp; try with_reducible rfl)
                        try simp only [Act.put, List.setIfInBounds_toArray, List.set_cons_zero, List.set_cons_succ]
                        refine wpAnyH_take (i := 1) (oi := { dst := some 141, op := Op.binOp BinOp.lss 3 (Operand.tmp 140) (Operand.const (Value.int IntKind.i64 0)) 3, type := 4, pos := "law.go:141", after := #[{ on := 0, ground := Ground.data }], guard := none }) (v := ?_) rfl (by kernel_rfl) (by kernel_rfl) (by kernel_rfl) (fun _ _ _ h => h) (Or.inl ⟨by rfl, ?_⟩) (by assumption) ?_
                        rotate_left
                        · (intro w hSw; (try dsimp only at hSw); go_simp; try with_reducible rfl)
                        try simp only [Act.put, List.setIfInBounds_toArray, List.set_cons_zero, List.set_cons_succ]
                        refine wpAnyH_take (i := 2) (oi := { dst := some 142, op := Op.move (Operand.tmp 141), type := 4, pos := "law.go:141", after := #[{ on := 1, ground := Ground.data }], guard := none }) (v := ?_) rfl (by kernel_rfl) (by kernel_rfl) (by kernel_rfl) (fun _ _ _ h => h) (Or.inl ⟨by rfl, ?_⟩) (by assumption) ?_
                        rotate_left
                        · (intro w hSw; (try dsimp only at hSw); go_simp; try with_reducible rfl)
                        try simp only [Act.put, List.setIfInBounds_toArray, List.set_cons_zero, List.set_cons_succ]
                        refine wpAnyH_take (i := 3) (oi := { dst := some 143, op := Op.fieldAddr 27 (Operand.tmp 12) 3, type := 0, pos := "law.go:141", after := #[{ on := 2, ground := Ground.guard }], guard := some (2, false) }) (v := ?_) rfl (by kernel_rfl) (by kernel_rfl) (by kernel_rfl) (fun _ _ _ h => h) (Or.inl ⟨by rfl, ?_⟩) (by assumption) ?_
                        rotate_left
                        · (intro w hSw; (try dsimp only at hSw); go_simp; try with_reducible rfl)
                        try simp only [Act.put, List.setIfInBounds_toArray, List.set_cons_zero, List.set_cons_succ]
                        refine wpAnyH_take (i := 4) (oi := { dst := some 144, op := Op.load 22 (Operand.tmp 143), type := 22, pos := "law.go:141", after := #[{ on := 3, ground := Ground.data }, { on := 2, ground := Ground.guard }], guard := some (2, false) }) (v := ?_) rfl (by kernel_rfl) (by kernel_rfl) (by kernel_rfl) (fun _ _ _ h => h) (Or.inl ⟨by rfl, ?_⟩) (by assumption) ?_
                        rotate_left
                        · (intro w hSw; (try dsimp only at hSw); go_simp; try with_reducible rfl)
                        try simp only [Act.put, List.setIfInBounds_toArray, List.set_cons_zero, List.set_cons_succ]
                        refine wpAnyH_take (i := 5) (oi := { dst := some 145, op := Op.move (Operand.tmp 18), type := 3, pos := "law.go:141", after := #[{ on := 2, ground := Ground.guard }], guard := some (2, false) }) (v := ?_) rfl (by kernel_rfl) (by kernel_rfl) (by kernel_rfl) (fun _ _ _ h => h) (Or.inl ⟨by rfl, ?_⟩) (by assumption) ?_
                        rotate_left
                        · (intro w hSw; (try dsimp only at hSw); go_simp; try with_reducible rfl)
                        try simp only [Act.put, List.setIfInBounds_toArray, List.set_cons_zero, List.set_cons_succ]
                        refine wpAnyH_take (i := 6) (oi := { dst := some 146, op := Op.indexAddr 22 (Operand.tmp 144) (Operand.tmp 145), type := 0, pos := "law.go:141", after := #[{ on := 4, ground := Ground.data }, { on := 5, ground := Ground.data }, { on := 2, ground := Ground.guard }], guard := some (2, false) }) (v := ?_) rfl (by kernel_rfl) (by kernel_rfl) (by kernel_rfl) (fun _ _ _ h => h) (Or.inl ⟨by rfl, ?_⟩) (by assumption) ?_
                        rotate_left
                        · (intro w hSw; (try dsimp only at hSw); go_simp; try with_reducible rfl)
                        try simp only [Act.put, List.setIfInBounds_toArray, List.set_cons_zero, List.set_cons_succ]
                        refine wpAnyH_take (i := 7) (oi := { dst := some 147, op := Op.load 27 (Operand.tmp 146), type := 27, pos := "law.go:141", after := #[{ on := 6, ground := Ground.data }, { on := 2, ground := Ground.guard }], guard := some (2, false) }) (v := ?_) rfl (by kernel_rfl) (by kernel_rfl) (by kernel_rfl) (fun _ _ _ h => h) (Or.inl ⟨by rfl, ?_⟩) (by assumption) ?_
                        rotate_left
                        · (intro w hSw; (try dsimp only at hSw); go_simp; try with_reducible rfl)
                        try simp only [Act.put, List.setIfInBounds_toArray, List.set_cons_zero, List.set_cons_succ]
                        refine wpAnyH_take (i := 8) (oi := { dst := some 148, op := Op.move (Operand.tmp 1), type := 22, pos := "law.go:141", after := #[{ on := 2, ground := Ground.guard }], guard := some (2, false) }) (v := ?_) rfl (by kernel_rfl) (by kernel_rfl) (by kernel_rfl) (fun _ _ _ h => h) (Or.inl ⟨by rfl, ?_⟩) (by assumption) ?_
                        rotate_left
                        · (intro w hSw; (try dsimp only at hSw); go_simp; try with_reducible rfl)
                        try simp only [Act.put, List.setIfInBounds_toArray, List.set_cons_zero, List.set_cons_succ]
                        refine wpAnyH_take (i := 9) (oi := { dst := some 149, op := Op.move (Operand.tmp 17), type := 3, pos := "law.go:141", after := #[{ on := 2, ground := Ground.guard }], guard := some (2, false) }) (v := ?_) rfl (by kernel_rfl) (by kernel_rfl) (by kernel_rfl) (fun _ _ _ h => h) (Or.inl ⟨by rfl, ?_⟩) (by assumption) ?_
                        rotate_left
                        · (intro w hSw; (try dsimp only at hSw); go_simp; try with_reducible rfl)
                        try simp only [Act.put, List.setIfInBounds_toArray, List.set_cons_zero, List.set_cons_succ]
                        refine wpAnyH_take (i := 10) (oi := { dst := some 150, op := Op.indexAddr 22 (Operand.tmp 148) (Operand.tmp 149), type := 0, pos := "law.go:141", after := #[{ on := 8, ground := Ground.data }, { on := 9, ground := Ground.data }, { on := 2, ground := Ground.guard }], guard := some (2, false) }) (v := ?_) rfl (by kernel_rfl) (by kernel_rfl) (by kernel_rfl) (fun _ _ _ h => h) (Or.inl ⟨by rfl, ?_⟩) (by assumption) ?_
                        rotate_left
                        · (intro w hSw; (try dsimp only at hSw); go_simp; try with_reducible rfl)
                        try simp only [Act.put, List.setIfInBounds_toArray, List.set_cons_zero, List.set_cons_succ]
                        refine wpAnyH_take (i := 11) (oi := { dst := some 151, op := Op.load 27 (Operand.tmp 150), type := 27, pos := "law.go:141", after := #[{ on := 10, ground := Ground.data }, { on := 2, ground := Ground.guard }], guard := some (2, false) }) (v := ?_) rfl (by kernel_rfl) (by kernel_rfl) (by kernel_rfl) (fun _ _ _ h => h) (Or.inl ⟨by rfl, ?_⟩) (by assumption) ?_
                        rotate_left
                        · (intro w hSw; (try dsimp only at hSw); go_simp; try with_reducible rfl)
                        try simp only [Act.put, List.setIfInBounds_toArray, List.set_cons_zero, List.set_cons_succ]
                        refine wpAnyH_ready (rs := [12]) (by kernel_rfl) (by simp) ?_
                        refine AllReadyH.cons (o := { dst := some 152, op := Op.call { callee := Callee.value (Operand.func 23), args := #[Operand.tmp 147, Operand.tmp 151, Operand.const (Value.bool true)], argTypes := #[27, 27, 4] }, type := 4, pos := "law.go:141", after := #[{ on := 7, ground := Ground.data }, { on := 11, ground := Ground.data }, { on := 2, ground := Ground.chain }, { on := 2, ground := Ground.guard }], guard := some (2, false) }) rfl (fun K hK => ?_) AllReadyH.nil
                        go_simp
                        refine (CSq.out _ hH).mono ?_
                        rintro e W_0 ⟨rfl, b⟩
                        refine hK.out _ _ ?_ (fun hH' => ?_)
                        · exact held_next (by assumption) hH
                        clear hK K hH
                        have hH := hH'
                        clear hH'
                        try simp only [Act.put, List.setIfInBounds_toArray, List.set_cons_zero, List.set_cons_succ]
                        refine wpAnyH_take (i := 13) (oi := { dst := some 153, op := Op.unOp UnOp.not 4 (Operand.tmp 152), type := 4, pos := "law.go:141", after := #[{ on := 12, ground := Ground.data }, { on := 2, ground := Ground.guard }], guard := some (2, false) }) (v := ?_) rfl (by kernel_rfl) (by kernel_rfl) (by kernel_rfl) (fun _ _ _ h => h) (Or.inl ⟨by rfl, ?_⟩) (by assumption) ?_
                        rotate_left
                        · (intro w hSw; (try dsimp only at hSw); go_simp; try with_reducible rfl)
                        try simp only [Act.put, List.setIfInBounds_toArray, List.set_cons_zero, List.set_cons_succ]
                        refine wpAnyH_take (i := 14) (oi := { dst := some 154, op := Op.pick (Operand.tmp 142) (Operand.const (Value.bool true)) (Operand.tmp 153), type := 4, pos := "law.go:141", after := #[{ on := 2, ground := Ground.data }, { on := 13, ground := Ground.data }], guard := none }) (v := ?_) rfl (by kernel_rfl) (by kernel_rfl) (by kernel_rfl) (fun _ _ _ h => h) (Or.inl ⟨by rfl, ?_⟩) (by assumption) ?_
                        rotate_left
                        · (intro w hSw; (try dsimp only at hSw); go_simp; try with_reducible rfl)
                        try simp only [Act.put, List.setIfInBounds_toArray, List.set_cons_zero, List.set_cons_succ]
                        refine wpAnyH_take (i := 15) (oi := { dst := some 155, op := Op.move (Operand.tmp 154), type := 4, pos := "law.go:141", after := #[{ on := 14, ground := Ground.data }, { on := 12, ground := Ground.chain }], guard := none }) (v := ?_) rfl (by kernel_rfl) (by kernel_rfl) (by kernel_rfl) (fun _ _ _ h => h) (Or.inl ⟨by rfl, ?_⟩) (by assumption) ?_
                        rotate_left
                        · (intro w hSw; (try dsimp only at hSw); go_simp; try with_reducible rfl)
                        try simp only [Act.put, List.setIfInBounds_toArray, List.set_cons_zero, List.set_cons_succ]
                        refine wpAnyH_take (i := 16) (oi := { dst := some 156, op := Op.move (Operand.tmp 17), type := 3, pos := "law.go:141", after := #[{ on := 15, ground := Ground.guard }], guard := some (15, false) }) (v := ?_) rfl (by kernel_rfl) (by kernel_rfl) (by kernel_rfl) (fun _ _ _ h => h) (Or.inl ⟨by rfl, ?_⟩) (by assumption) ?_
                        rotate_left
                        · (intro w hSw; (try dsimp only at hSw); go_simp; try with_reducible rfl)
                        try simp only [Act.put, List.setIfInBounds_toArray, List.set_cons_zero, List.set_cons_succ]
                        refine wpAnyH_take (i := 17) (oi := { dst := some 157, op := Op.binOp BinOp.gtr 3 (Operand.tmp 156) (Operand.const (Value.int IntKind.i64 0)) 3, type := 4, pos := "law.go:141", after := #[{ on := 16, ground := Ground.data }, { on := 15, ground := Ground.guard }], guard := some (15, false) }) (v := ?_) rfl (by kernel_rfl) (by kernel_rfl) (by kernel_rfl) (fun _ _ _ h => h) (Or.inl ⟨by rfl, ?_⟩) (by assumption) ?_
                        rotate_left
                        · (intro w hSw; (try dsimp only at hSw); go_simp; try with_reducible rfl)
                        try simp only [Act.put, List.setIfInBounds_toArray, List.set_cons_zero, List.set_cons_succ]
                        refine wpAnyH_take (i := 18) (oi := { dst := some 158, op := Op.move (Operand.tmp 157), type := 4, pos := "law.go:141", after := #[{ on := 17, ground := Ground.data }, { on := 15, ground := Ground.chain }, { on := 15, ground := Ground.guard }], guard := some (15, false) }) (v := ?_) rfl (by kernel_rfl) (by kernel_rfl) (by kernel_rfl) (fun _ _ _ h => h) (Or.inl ⟨by rfl, ?_⟩) (by assumption) ?_
                        rotate_left
                        · (intro w hSw; (try dsimp only at hSw); go_simp; try with_reducible rfl)
                        try simp only [Act.put, List.setIfInBounds_toArray, List.set_cons_zero, List.set_cons_succ]
                        refine wpAnyH_take (i := 19) (oi := { dst := some 159, op := Op.fieldAddr 27 (Operand.tmp 12) 4, type := 0, pos := "law.go:141", after := #[{ on := 18, ground := Ground.guard }], guard := some (18, true) }) (v := undef) rfl (by kernel_rfl) (by kernel_rfl) (by kernel_rfl) (fun _ _ _ h => h) (Or.inr ⟨by rfl, rfl⟩) (by assumption) ?_
                        try simp only [Act.put, List.setIfInBounds_toArray, List.set_cons_zero, List.set_cons_succ]
                        refine wpAnyH_take (i := 20) (oi := { dst := some 160, op := Op.load 23 (Operand.tmp 159), type := 23, pos := "law.go:141", after := #[{ on := 19, ground := Ground.data }, { on := 18, ground := Ground.guard }], guard := some (18, true) }) (v := undef) rfl (by kernel_rfl) (by kernel_rfl) (by kernel_rfl) (fun _ _ _ h => h) (Or.inr ⟨by rfl, rfl⟩) (by assumption) ?_
                        try simp only [Act.put, List.setIfInBounds_toArray, List.set_cons_zero, List.set_cons_succ]
                        refine wpAnyH_take (i := 21) (oi := { dst := some 161, op := Op.move (Operand.tmp 17), type := 3, pos := "law.go:141", after := #[{ on := 18, ground := Ground.guard }], guard := some (18, true) }) (v := undef) rfl (by kernel_rfl) (by kernel_rfl) (by kernel_rfl) (fun _ _ _ h => h) (Or.inr ⟨by rfl, rfl⟩) (by assumption) ?_
                        try simp only [Act.put, List.setIfInBounds_toArray, List.set_cons_zero, List.set_cons_succ]
                        refine wpAnyH_take (i := 22) (oi := { dst := some 162, op := Op.binOp BinOp.sub 3 (Operand.tmp 161) (Operand.const (Value.int IntKind.i64 1)) 3, type := 3, pos := "law.go:141", after := #[{ on := 21, ground := Ground.data }, { on := 18, ground := Ground.guard }], guard := some (18, true) }) (v := undef) rfl (by kernel_rfl) (by kernel_rfl) (by kernel_rfl) (fun _ _ _ h => h) (Or.inr ⟨by rfl, rfl⟩) (by assumption) ?_
                        try simp only [Act.put, List.setIfInBounds_toArray, List.set_cons_zero, List.set_cons_succ]
                        refine wpAnyH_take (i := 23) (oi := { dst := some 163, op := Op.indexAddr 23 (Operand.tmp 160) (Operand.tmp 162), type := 0, pos := "law.go:141", after := #[{ on := 20, ground := Ground.data }, { on := 22, ground := Ground.data }, { on := 18, ground := Ground.guard }], guard := some (18, true) }) (v := undef) rfl (by kernel_rfl) (by kernel_rfl) (by kernel_rfl) (fun _ _ _ h => h) (Or.inr ⟨by rfl, rfl⟩) (by assumption) ?_
                        try simp only [Act.put, List.setIfInBounds_toArray, List.set_cons_zero, List.set_cons_succ]
                        refine wpAnyH_take (i := 24) (oi := { dst := some 164, op := Op.load 9 (Operand.tmp 163), type := 9, pos := "law.go:141", after := #[{ on := 23, ground := Ground.data }, { on := 18, ground := Ground.guard }], guard := some (18, true) }) (v := undef) rfl (by kernel_rfl) (by kernel_rfl) (by kernel_rfl) (fun _ _ _ h => h) (Or.inr ⟨by rfl, rfl⟩) (by assumption) ?_
                        try simp only [Act.put, List.setIfInBounds_toArray, List.set_cons_zero, List.set_cons_succ]
                        refine wpAnyH_take (i := 25) (oi := { dst := some 165, op := Op.fieldAddr 27 (Operand.tmp 12) 4, type := 0, pos := "law.go:141", after := #[{ on := 18, ground := Ground.guard }], guard := some (18, true) }) (v := undef) rfl (by kernel_rfl) (by kernel_rfl) (by kernel_rfl) (fun _ _ _ h => h) (Or.inr ⟨by rfl, rfl⟩) (by assumption) ?_
                        try simp only [Act.put, List.setIfInBounds_toArray, List.set_cons_zero, List.set_cons_succ]
                        refine wpAnyH_take (i := 26) (oi := { dst := some 166, op := Op.load 23 (Operand.tmp 165), type := 23, pos := "law.go:141", after := #[{ on := 25, ground := Ground.data }, { on := 18, ground := Ground.guard }], guard := some (18, true) }) (v := undef) rfl (by kernel_rfl) (by kernel_rfl) (by kernel_rfl) (fun _ _ _ h => h) (Or.inr ⟨by rfl, rfl⟩) (by assumption) ?_
                        try simp only [Act.put, List.setIfInBounds_toArray, List.set_cons_zero, List.set_cons_succ]
                        refine wpAnyH_take (i := 27) (oi := { dst := some 167, op := Op.move (Operand.tmp 17), type := 3, pos := "law.go:141", after := #[{ on := 18, ground := Ground.guard }], guard := some (18, true) }) (v := undef) rfl (by kernel_rfl) (by kernel_rfl) (by kernel_rfl) (fun _ _ _ h => h) (Or.inr ⟨by rfl, rfl⟩) (by assumption) ?_
                        try simp only [Act.put, List.setIfInBounds_toArray, List.set_cons_zero, List.set_cons_succ]
                        refine wpAnyH_take (i := 28) (oi := { dst := some 168, op := Op.indexAddr 23 (Operand.tmp 166) (Operand.tmp 167), type := 0, pos := "law.go:141", after := #[{ on := 26, ground := Ground.data }, { on := 27, ground := Ground.data }, { on := 18, ground := Ground.guard }], guard := some (18, true) }) (v := undef) rfl (by kernel_rfl) (by kernel_rfl) (by kernel_rfl) (fun _ _ _ h => h) (Or.inr ⟨by rfl, rfl⟩) (by assumption) ?_
                        try simp only [Act.put, List.setIfInBounds_toArray, List.set_cons_zero, List.set_cons_succ]
                        refine wpAnyH_take (i := 29) (oi := { dst := some 169, op := Op.load 9 (Operand.tmp 168), type := 9, pos := "law.go:141", after := #[{ on := 28, ground := Ground.data }, { on := 18, ground := Ground.guard }], guard := some (18, true) }) (v := undef) rfl (by kernel_rfl) (by kernel_rfl) (by kernel_rfl) (fun _ _ _ h => h) (Or.inr ⟨by rfl, rfl⟩) (by assumption) ?_
                        try simp only [Act.put, List.setIfInBounds_toArray, List.set_cons_zero, List.set_cons_succ]
                        refine wpAnyH_take (i := 30) (oi := { dst := some 170, op := Op.binOp BinOp.geq 9 (Operand.tmp 164) (Operand.tmp 169) 9, type := 4, pos := "law.go:141", after := #[{ on := 24, ground := Ground.data }, { on := 29, ground := Ground.data }, { on := 18, ground := Ground.guard }], guard := some (18, true) }) (v := undef) rfl (by kernel_rfl) (by kernel_rfl) (by kernel_rfl) (fun _ _ _ h => h) (Or.inr ⟨by rfl, rfl⟩) (by assumption) ?_
                        try simp only [Act.put, List.setIfInBounds_toArray, List.set_cons_zero, List.set_cons_succ]
                        refine wpAnyH_take (i := 31) (oi := { dst := some 171, op := Op.pick (Operand.tmp 158) (Operand.tmp 170) (Operand.const (Value.bool false)), type := 4, pos := "law.go:141", after := #[{ on := 18, ground := Ground.data }, { on := 30, ground := Ground.data }, { on := 15, ground := Ground.guard }], guard := some (15, false) }) (v := ?_) rfl (by kernel_rfl) (by kernel_rfl) (by kernel_rfl) (fun _ _ _ h => h) (Or.inl ⟨by rfl, ?_⟩) (by assumption) ?_
                        rotate_left
                        · (intro w hSw; (try dsimp only at hSw); go_simp; try with_reducible rfl)
                        try simp only [Act.put, List.setIfInBounds_toArray, List.set_cons_zero, List.set_cons_succ]
                        refine wpAnyH_take (i := 32) (oi := { dst := some 172, op := Op.pick (Operand.tmp 155) (Operand.const (Value.bool true)) (Operand.tmp 171), type := 4, pos := "law.go:141", after := #[{ on := 15, ground := Ground.data }, { on := 31, ground := Ground.data }], guard := none }) (v := ?_) rfl (by kernel_rfl) (by kernel_rfl) (by kernel_rfl) (fun _ _ _ h => h) (Or.inl ⟨by rfl, ?_⟩) (by assumption) ?_
                        rotate_left
                        · (intro w hSw; (try dsimp only at hSw); go_simp; try with_reducible rfl)
                        try simp only [Act.put, List.setIfInBounds_toArray, List.set_cons_zero, List.set_cons_succ]
                        refine wpAnyH_done (by kernel_rfl) ?_ _
                        refine NoPanic.normal ?_
                        have BX := Lib.hid (B26.out.trans (hH.2.1.out.mono (by have := HNq.out; have := B26.out.size; omega)))
                        clear S0 hH LWq HNq la lb lc CSq y0 y1 y2 y3 y4 y5 y6 y7 z0 z1 z2 z3 z4 z5 z6 z7 p0 p1 p2 p3 p4 p5 p6 p7
                        go_wp2_with fail
                        go_roundw
                        case rel => first | exact ⟨k + 1, by omega, by go_num, BX⟩ | ((repeat apply Exists.intro); refine ⟨?_, rfl⟩; exact ⟨k + 1, by omega, by go_num, BX⟩)
                        case measure => simp [intOf]; omega
                      · have gk : decide ((0 : Int) < (k : Int)) = true := by simp; omega
                        have gk2 : (0 < k) = True := by simp; omega
                        have gk3 : decide (0 < k) = true := by simp; omega
                        have gk4 : ((0 : Int) < (k : Int)) = True := by simp; omega
                        obtain ⟨b4, off4, e4, hb4, v1⟩ := HKM.out.key (j := k - 1) (show k - 1 < rs.length by have := HLN.out; omega)
                        obtain ⟨b5, off5, e5, hb5, v2⟩ := HKM.out.key (j := k) (show k < rs.length by have := HLN.out; omega)
                        have e45 := e4.symm.trans e5
                        injection e45 with e45
                        injection e45 with e6 e7
                        subst e6 e7
                        have gb := srt_ge HSR.out.1 (j := k - 1) (k := k) (by omega) (by have := HLN.out; omega)
                        change W_0.cell? _ = some (.string (kk rs (k - 1))) at v1
                        change W_0.cell? _ = some (.string (kk rs k)) at v2
                        obtain ⟨q, hq⟩ : ∃ q, q = k - 1 := ⟨_, rfl⟩
                        rw [← hq] at v1 gb
                        have HQ : Hid (((k : Int) - 1) = (q : Int)) := by unfold Hid; omega
                        have HI10 : Hid (IntKind.i64.wrap (q : Int) = (q : Int)) := by unfold Hid; rw [IntKind.wrap_i64]; omega
                        have iq0 : (0 : Int) ≤ q := by omega
                        have iq1 : (q : Int) < rs.length := by have := HLN.out; omega
                        have ik1 : (k : Int) < rs.length := by have := HLN.out; omega
                        subst e4
                        clear e5 hk0 hq
                        go_upto_region 27 with fail
                        obtain ⟨Nq, hNq⟩ : ∃ N, N = W_0.heap.size := ⟨_, rfl⟩
                        have S0 := held_at hNq
                        have la : w1.heap.size < Nq := by have := ZL.out; have := B26.out.size; omega
                        have lb : b2 < Nq := by have := ZL.out; have := B26.out.size; omega
                        have lc : b3 < Nq := by have := BW2.out.size; omega
                        have ld : b4 < Nq := by have := ZL.out; have := B26.out.size; omega
                        have HNq := Lib.hid hNq
                        clear hNq
                        have LWq : Hid (∀ W, ((∀ b o, b < Nq → W.cell? ⟨b, o, none⟩ = W_0.cell? ⟨b, o, none⟩) ∧ Hid (Below Nq W_0 W) ∧ Hid (Nq ≤ W.heap.size)) → Below w.heap.size w W) := fun W h => BW2.out.trans (h.2.1.out.mono (by rw [HNq.out]; exact BW2.out.size))
                        have CSq : Hid (∀ W, ((∀ b o, b < Nq → W.cell? ⟨b, o, none⟩ = W_0.cell? ⟨b, o, none⟩) ∧ Hid (Below Nq W_0 W) ∧ Hid (Nq ≤ W.heap.size)) → Calls Try.prog 23 #[vv X.k X.i X.s (.slice oL3 X.l.length cL3) (.slice oK3 X.ks.length cK3) X.tk X.to X.x, vv X.k X.i X.s (.slice oL4 X.l.length cL4) (.slice oK4 X.ks.length cK4) X.tk X.to X.x, .bool true] W fun e w' => e = .returned (.bool true) ∧ Below W.heap.size W w') := fun W h => rsame_any 60000 (Nat.le_refl _) w1.heap.size X _ _ W (by omega) (OXY.out.1.kept (h.2.1.out.mono (by have := HNq.out; have := B26.out.size; have := ZL.out; omega))).lies (((OXY.out.2.kept (h.2.1.out.mono (by have := HNq.out; have := BW2.out.size; omega))).lies).mono fun b hb => by omega) (by have := h.2.2.out; have := HNq.out; have := B26.out.size; have := ZL.out; omega)
                        have i9 := HQ.out
                        have i10 := HI10.out
                        refine wp_region_noPanic ?_
                        refine wp_region_held_drew (S := (fun W => (∀ b o, b < Nq → W.cell? ⟨b, o, none⟩ = W_0.cell? ⟨b, o, none⟩) ∧ Hid (Below Nq W_0 W) ∧ Hid (Nq ≤ W.heap.size))) (by kernel_rfl) ?_ (fun hH => ?_)
                        · exact S0
                        refine wpAnyH_take (i := 0) (oi := { dst := some 140, op := Op.move (Operand.tmp 18), type := 3, pos := "law.go:141", after := #[], guard := none }) (v := ?_) rfl (by kernel_rfl) (by kernel_rfl) (by kernel_rfl) (fun _ _ _ h => h) (Or.inl ⟨by rfl, ?_⟩) (by assumption) ?_
                        rotate_left
                        · (intro w hSw; (try dsimp only at hSw); go_simp; try with_reducible rfl)
                        try simp only [Act.put, List.setIfInBounds_toArray, List.set_cons_zero, List.set_cons_succ]
                        refine wpAnyH_take (i := 1) (oi := { dst := some 141, op := Op.binOp BinOp.lss 3 (Operand.tmp 140) (Operand.const (Value.int IntKind.i64 0)) 3, type := 4, pos := "law.go:141", after := #[{ on := 0, ground := Ground.data }], guard := none }) (v := ?_) rfl (by kernel_rfl) (by kernel_rfl) (by kernel_rfl) (fun _ _ _ h => h) (Or.inl ⟨by rfl, ?_⟩) (by assumption) ?_
                        rotate_left
                        · (intro w hSw; (try dsimp only at hSw); go_simp; try with_reducible rfl)
                        try simp only [Act.put, List.setIfInBounds_toArray, List.set_cons_zero, List.set_cons_succ]
                        refine wpAnyH_take (i := 2) (oi := { dst := some 142, op := Op.move (Operand.tmp 141), type := 4, pos := "law.go:141", after := #[{ on := 1, ground := Ground.data }], guard := none }) (v := ?_) rfl (by kernel_rfl) (by kernel_rfl) (by kernel_rfl) (fun _ _ _ h => h) (Or.inl ⟨by rfl, ?_⟩) (by assumption) ?_
                        rotate_left
                        · (intro w hSw; (try dsimp only at hSw); go_simp; try with_reducible rfl)
                        try simp only [Act.put, List.setIfInBounds_toArray, List.set_cons_zero, List.set_cons_succ]
                        refine wpAnyH_take (i := 3) (oi := { dst := some 143, op := Op.fieldAddr 27 (Operand.tmp 12) 3, type := 0, pos := "law.go:141", after := #[{ on := 2, ground := Ground.guard }], guard := some (2, false) }) (v := ?_) rfl (by kernel_rfl) (by kernel_rfl) (by kernel_rfl) (fun _ _ _ h => h) (Or.inl ⟨by rfl, ?_⟩) (by assumption) ?_
                        rotate_left
                        · (intro w hSw; (try dsimp only at hSw); go_simp; try with_reducible rfl)
                        try simp only [Act.put, List.setIfInBounds_toArray, List.set_cons_zero, List.set_cons_succ]
                        refine wpAnyH_take (i := 4) (oi := { dst := some 144, op := Op.load 22 (Operand.tmp 143), type := 22, pos := "law.go:141", after := #[{ on := 3, ground := Ground.data }, { on := 2, ground := Ground.guard }], guard := some (2, false) }) (v := ?_) rfl (by kernel_rfl) (by kernel_rfl) (by kernel_rfl) (fun _ _ _ h => h) (Or.inl ⟨by rfl, ?_⟩) (by assumption) ?_
                        rotate_left
                        · (intro w hSw; (try dsimp only at hSw); go_simp; try with_reducible rfl)
                        try simp only [Act.put, List.setIfInBounds_toArray, List.set_cons_zero, List.set_cons_succ]
                        refine wpAnyH_take (i := 5) (oi := { dst := some 145, op := Op.move (Operand.tmp 18), type := 3, pos := "law.go:141", after := #[{ on := 2, ground := Ground.guard }], guard := some (2, false) }) (v := ?_) rfl (by kernel_rfl) (by kernel_rfl) (by kernel_rfl) (fun _ _ _ h => h) (Or.inl ⟨by rfl, ?_⟩) (by assumption) ?_
                        rotate_left
                        · (intro w hSw; (try dsimp only at hSw); go_simp; try with_reducible rfl)
                        try simp only [Act.put, List.setIfInBounds_toArray, List.set_cons_zero, List.set_cons_succ]
                        refine wpAnyH_take (i := 6) (oi := { dst := some 146, op := Op.indexAddr 22 (Operand.tmp 144) (Operand.tmp 145), type := 0, pos := "law.go:141", after := #[{ on := 4, ground := Ground.data }, { on := 5, ground := Ground.data }, { on := 2, ground := Ground.guard }], guard := some (2, false) }) (v := ?_) rfl (by kernel_rfl) (by kernel_rfl) (by kernel_rfl) (fun _ _ _ h => h) (Or.inl ⟨by rfl, ?_⟩) (by assumption) ?_
                        rotate_left
                        · (intro w hSw; (try dsimp only at hSw); go_simp; try with_reducible rfl)
                        try simp only [Act.put, List.setIfInBounds_toArray, List.set_cons_zero, List.set_cons_succ]
                        refine wpAnyH_take (i := 7) (oi := { dst := some 147, op := Op.load 27 (Operand.tmp 146), type := 27, pos := "law.go:141", after := #[{ on := 6, ground := Ground.data }, { on := 2, ground := Ground.guard }], guard := some (2, false) }) (v := ?_) rfl (by kernel_rfl) (by kernel_rfl) (by kernel_rfl) (fun _ _ _ h => h) (Or.inl ⟨by rfl, ?_⟩) (by assumption) ?_
                        rotate_left
                        · (intro w hSw; (try dsimp only at hSw); go_simp; try with_reducible rfl)
                        try simp only [Act.put, List.setIfInBounds_toArray, List.set_cons_zero, List.set_cons_succ]
                        refine wpAnyH_take (i := 8) (oi := { dst := some 148, op := Op.move (Operand.tmp 1), type := 22, pos := "law.go:141", after := #[{ on := 2, ground := Ground.guard }], guard := some (2, false) }) (v := ?_) rfl (by kernel_rfl) (by kernel_rfl) (by kernel_rfl) (fun _ _ _ h => h) (Or.inl ⟨by rfl, ?_⟩) (by assumption) ?_
                        rotate_left
                        · (intro w hSw; (try dsimp only at hSw); go_simp; try with_reducible rfl)
                        try simp only [Act.put, List.setIfInBounds_toArray, List.set_cons_zero, List.set_cons_succ]
                        refine wpAnyH_take (i := 9) (oi := { dst := some 149, op := Op.move (Operand.tmp 17), type := 3, pos := "law.go:141", after := #[{ on := 2, ground := Ground.guard }], guard := some (2, false) }) (v := ?_) rfl (by kernel_rfl) (by kernel_rfl) (by kernel_rfl) (fun _ _ _ h => h) (Or.inl ⟨by rfl, ?_⟩) (by assumption) ?_
                        rotate_left
                        · (intro w hSw; (try dsimp only at hSw); go_simp; try with_reducible rfl)
                        try simp only [Act.put, List.setIfInBounds_toArray, List.set_cons_zero, List.set_cons_succ]
                        refine wpAnyH_take (i := 10) (oi := { dst := some 150, op := Op.indexAddr 22 (Operand.tmp 148) (Operand.tmp 149), type := 0, pos := "law.go:141", after := #[{ on := 8, ground := Ground.data }, { on := 9, ground := Ground.data }, { on := 2, ground := Ground.guard }], guard := some (2, false) }) (v := ?_) rfl (by kernel_rfl) (by kernel_rfl) (by kernel_rfl) (fun _ _ _ h => h) (Or.inl ⟨by rfl, ?_⟩) (by assumption) ?_
                        rotate_left
                        · (intro w hSw; (try dsimp only at hSw); go_simp; try with_reducible rfl)
                        try simp only [Act.put, List.setIfInBounds_toArray, List.set_cons_zero, List.set_cons_succ]
                        refine wpAnyH_take (i := 11) (oi := { dst := some 151, op := Op.load 27 (Operand.tmp 150), type := 27, pos := "law.go:141", after := #[{ on := 10, ground := Ground.data }, { on := 2, ground := Ground.guard }], guard := some (2, false) }) (v := ?_) rfl (by kernel_rfl) (by kernel_rfl) (by kernel_rfl) (fun _ _ _ h => h) (Or.inl ⟨by rfl, ?_⟩) (by assumption) ?_
                        rotate_left
                        · (intro w hSw; (try dsimp only at hSw); go_simp; try with_reducible rfl)
                        try simp only [Act.put, List.setIfInBounds_toArray, List.set_cons_zero, List.set_cons_succ]
                        refine wpAnyH_ready (rs := [12]) (by kernel_rfl) (by simp) ?_
                        refine AllReadyH.cons (o := { dst := some 152, op := Op.call { callee := Callee.value (Operand.func 23), args := #[Operand.tmp 147, Operand.tmp 151, Operand.const (Value.bool true)], argTypes := #[27, 27, 4] }, type := 4, pos := "law.go:141", after := #[{ on := 7, ground := Ground.data }, { on := 11, ground := Ground.data }, { on := 2, ground := Ground.chain }, { on := 2, ground := Ground.guard }], guard := some (2, false) }) rfl (fun K hK => ?_) AllReadyH.nil
                        go_simp
                        refine (CSq.out _ hH).mono ?_
                        rintro e W_0 ⟨rfl, b⟩
                        refine hK.out _ _ ?_ (fun hH' => ?_)
                        · exact held_next (by assumption) hH
                        clear hK K hH
                        have hH := hH'
                        clear hH'
                        try simp only [Act.put, List.setIfInBounds_toArray, List.set_cons_zero, List.set_cons_succ]
                        refine wpAnyH_take (i := 13) (oi := { dst := some 153, op := Op.unOp UnOp.not 4 (Operand.tmp 152), type := 4, pos := "law.go:141", after := #[{ on := 12, ground := Ground.data }, { on := 2, ground := Ground.guard }], guard := some (2, false) }) (v := ?_) rfl (by kernel_rfl) (by kernel_rfl) (by kernel_rfl) (fun _ _ _ h => h) (Or.inl ⟨by rfl, ?_⟩) (by assumption) ?_
                        rotate_left
                        · (intro w hSw; (try dsimp only at hSw); go_simp; try with_reducible rfl)
                        try simp only [Act.put, List.setIfInBounds_toArray, List.set_cons_zero, List.set_cons_succ]
                        refine wpAnyH_take (i := 14) (oi := { dst := some 154, op := Op.pick (Operand.tmp 142) (Operand.const (Value.bool true)) (Operand.tmp 153), type := 4, pos := "law.go:141", after := #[{ on := 2, ground := Ground.data }, { on := 13, ground := Ground.data }], guard := none }) (v := ?_) rfl (by kernel_rfl) (by kernel_rfl) (by kernel_rfl) (fun _ _ _ h => h) (Or.inl ⟨by rfl, ?_⟩) (by assumption) ?_
                        rotate_left
                        · (intro w hSw; (try dsimp only at hSw); go_simp; try with_reducible rfl)
                        try simp only [Act.put, List.setIfInBounds_toArray, List.set_cons_zero, List.set_cons_succ]
                        refine wpAnyH_take (i := 15) (oi := { dst := some 155, op := Op.move (Operand.tmp 154), type := 4, pos := "law.go:141", after := #[{ on := 14, ground := Ground.data }, { on := 12, ground := Ground.chain }], guard := none }) (v := ?_) rfl (by kernel_rfl) (by kernel_rfl) (by kernel_rfl) (fun _ _ _ h => h) (Or.inl ⟨by rfl, ?_⟩) (by assumption) ?_
                        rotate_left
                        · (intro w hSw; (try dsimp only at hSw); go_simp; try with_reducible rfl)
                        try simp only [Act.put, List.setIfInBounds_toArray, List.set_cons_zero, List.set_cons_succ]
                        refine wpAnyH_take (i := 16) (oi := { dst := some 156, op := Op.move (Operand.tmp 17), type := 3, pos := "law.go:141", after := #[{ on := 15, ground := Ground.guard }], guard := some (15, false) }) (v := ?_) rfl (by kernel_rfl) (by kernel_rfl) (by kernel_rfl) (fun _ _ _ h => h) (Or.inl ⟨by rfl, ?_⟩) (by assumption) ?_
                        rotate_left
                        · (intro w hSw; (try dsimp only at hSw); go_simp; try with_reducible rfl)
                        try simp only [Act.put, List.setIfInBounds_toArray, List.set_cons_zero, List.set_cons_succ]
                        refine wpAnyH_take (i := 17) (oi := { dst := some 157, op := Op.binOp BinOp.gtr 3 (Operand.tmp 156) (Operand.const (Value.int IntKind.i64 0)) 3, type := 4, pos := "law.go:141", after := #[{ on := 16, ground := Ground.data }, { on := 15, ground := Ground.guard }], guard := some (15, false) }) (v := ?_) rfl (by kernel_rfl) (by kernel_rfl) (by kernel_rfl) (fun _ _ _ h => h) (Or.inl ⟨by rfl, ?_⟩) (by assumption) ?_
                        rotate_left
                        · (intro w hSw; (try dsimp only at hSw); go_simp; try with_reducible rfl)
                        try simp only [Act.put, List.setIfInBounds_toArray, List.set_cons_zero, List.set_cons_succ]
                        refine wpAnyH_take (i := 18) (oi := { dst := some 158, op := Op.move (Operand.tmp 157), type := 4, pos := "law.go:141", after := #[{ on := 17, ground := Ground.data }, { on := 15, ground := Ground.chain }, { on := 15, ground := Ground.guard }], guard := some (15, false) }) (v := ?_) rfl (by kernel_rfl) (by kernel_rfl) (by kernel_rfl) (fun _ _ _ h => h) (Or.inl ⟨by rfl, ?_⟩) (by assumption) ?_
                        rotate_left
                        · (intro w hSw; (try dsimp only at hSw); go_simp; try with_reducible rfl)
                        try simp only [Act.put, List.setIfInBounds_toArray, List.set_cons_zero, List.set_cons_succ]
                        refine wpAnyH_take (i := 19) (oi := { dst := some 159, op := Op.fieldAddr 27 (Operand.tmp 12) 4, type := 0, pos := "law.go:141", after := #[{ on := 18, ground := Ground.guard }], guard := some (18, true) }) (v := ?_) rfl (by kernel_rfl) (by kernel_rfl) (by kernel_rfl) (fun _ _ _ h => h) (Or.inl ⟨by rfl, ?_⟩) (by assumption) ?_
                        rotate_left
                        · (intro w hSw; (try dsimp only at hSw); go_simp; try with_reducible rfl)
                        try simp only [Act.put, List.setIfInBounds_toArray, List.set_cons_zero, List.set_cons_succ]
                        refine wpAnyH_take (i := 20) (oi := { dst := some 160, op := Op.load 23 (Operand.tmp 159), type := 23, pos := "law.go:141", after := #[{ on := 19, ground := Ground.data }, { on := 18, ground := Ground.guard }], guard := some (18, true) }) (v := ?_) rfl (by kernel_rfl) (by kernel_rfl) (by kernel_rfl) (fun _ _ _ h => h) (Or.inl ⟨by rfl, ?_⟩) (by assumption) ?_
                        rotate_left
                        · (intro w hSw; (try dsimp only at hSw); go_simp; try with_reducible rfl)
                        try simp only [Act.put, List.setIfInBounds_toArray, List.set_cons_zero, List.set_cons_succ]
                        refine wpAnyH_take (i := 21) (oi := { dst := some 161, op := Op.move (Operand.tmp 17), type := 3, pos := "law.go:141", after := #[{ on := 18, ground := Ground.guard }], guard := some (18, true) }) (v := ?_) rfl (by kernel_rfl) (by kernel_rfl) (by kernel_rfl) (fun _ _ _ h => h) (Or.inl ⟨by rfl, ?_⟩) (by assumption) ?_
                        rotate_left
                        · (intro w hSw; (try dsimp only at hSw); go_simp; try with_reducible rfl)
                        try simp only [Act.put, List.setIfInBounds_toArray, List.set_cons_zero, List.set_cons_succ]
                        refine wpAnyH_take (i := 22) (oi := { dst := some 162, op := Op.binOp BinOp.sub 3 (Operand.tmp 161) (Operand.const (Value.int IntKind.i64 1)) 3, type := 3, pos := "law.go:141", after := #[{ on := 21, ground := Ground.data }, { on := 18, ground := Ground.guard }], guard := some (18, true) }) (v := ?_) rfl (by kernel_rfl) (by kernel_rfl) (by kernel_rfl) (fun _ _ _ h => h) (Or.inl ⟨by rfl, ?_⟩) (by assumption) ?_
                        rotate_left
                        · (intro w hSw; (try dsimp only at hSw); go_simp; try with_reducible rfl)
                        try simp only [Act.put, List.setIfInBounds_toArray, List.set_cons_zero, List.set_cons_succ]
                        refine wpAnyH_take (i := 23) (oi := { dst := some 163, op := Op.indexAddr 23 (Operand.tmp 160) (Operand.tmp 162), type := 0, pos := "law.go:141", after := #[{ on := 20, ground := Ground.data }, { on := 22, ground := Ground.data }, { on := 18, ground := Ground.guard }], guard := some (18, true) }) (v := ?_) rfl (by kernel_rfl) (by kernel_rfl) (by kernel_rfl) (fun _ _ _ h => h) (Or.inl ⟨by rfl, ?_⟩) (by assumption) ?_
                        rotate_left
                        · (intro w hSw; (try dsimp only at hSw); go_simp; try with_reducible rfl)
                        try simp only [Act.put, List.setIfInBounds_toArray, List.set_cons_zero, List.set_cons_succ]
                        refine wpAnyH_take (i := 24) (oi := { dst := some 164, op := Op.load 9 (Operand.tmp 163), type := 9, pos := "law.go:141", after := #[{ on := 23, ground := Ground.data }, { on := 18, ground := Ground.guard }], guard := some (18, true) }) (v := ?_) rfl (by kernel_rfl) (by kernel_rfl) (by kernel_rfl) (fun _ _ _ h => h) (Or.inl ⟨by rfl, ?_⟩) (by assumption) ?_
                        rotate_left
                        · (intro w hSw; (try dsimp only at hSw); go_simp; try with_reducible rfl)
                        try simp only [Act.put, List.setIfInBounds_toArray, List.set_cons_zero, List.set_cons_succ]
                        refine wpAnyH_take (i := 25) (oi := { dst := some 165, op := Op.fieldAddr 27 (Operand.tmp 12) 4, type := 0, pos := "law.go:141", after := #[{ on := 18, ground := Ground.guard }], guard := some (18, true) }) (v := ?_) rfl (by kernel_rfl) (by kernel_rfl) (by kernel_rfl) (fun _ _ _ h => h) (Or.inl ⟨by rfl, ?_⟩) (by assumption) ?_
                        rotate_left
                        · (intro w hSw; (try dsimp only at hSw); go_simp; try with_reducible rfl)
                        try simp only [Act.put, List.setIfInBounds_toArray, List.set_cons_zero, List.set_cons_succ]
                        refine wpAnyH_take (i := 26) (oi := { dst := some 166, op := Op.load 23 (Operand.tmp 165), type := 23, pos := "law.go:141", after := #[{ on := 25, ground := Ground.data }, { on := 18, ground := Ground.guard }], guard := some (18, true) }) (v := ?_) rfl (by kernel_rfl) (by kernel_rfl) (by kernel_rfl) (fun _ _ _ h => h) (Or.inl ⟨by rfl, ?_⟩) (by assumption) ?_
                        rotate_left
                        · (intro w hSw; (try dsimp only at hSw); go_simp; try with_reducible rfl)
                        try simp only [Act.put, List.setIfInBounds_toArray, List.set_cons_zero, List.set_cons_succ]
                        refine wpAnyH_take (i := 27) (oi := { dst := some 167, op := Op.move (Operand.tmp 17), type := 3, pos := "law.go:141", after := #[{ on := 18, ground := Ground.guard }], guard := some (18, true) }) (v := ?_) rfl (by kernel_rfl) (by kernel_rfl) (by kernel_rfl) (fun _ _ _ h => h) (Or.inl ⟨by rfl, ?_⟩) (by assumption) ?_
                        rotate_left
                        · (intro w hSw; (try dsimp only at hSw); go_simp; try with_reducible rfl)
                        try simp only [Act.put, List.setIfInBounds_toArray, List.set_cons_zero, List.set_cons_succ]
                        refine wpAnyH_take (i := 28) (oi := { dst := some 168, op := Op.indexAddr 23 (Operand.tmp 166) (Operand.tmp 167), type := 0, pos := "law.go:141", after := #[{ on := 26, ground := Ground.data }, { on := 27, ground := Ground.data }, { on := 18, ground := Ground.guard }], guard := some (18, true) }) (v := ?_) rfl (by kernel_rfl) (by kernel_rfl) (by kernel_rfl) (fun _ _ _ h => h) (Or.inl ⟨by rfl, ?_⟩) (by assumption) ?_
                        rotate_left
                        · (intro w hSw; (try dsimp only at hSw); go_simp; try with_reducible rfl)
                        try simp only [Act.put, List.setIfInBounds_toArray, List.set_cons_zero, List.set_cons_succ]
                        refine wpAnyH_take (i := 29) (oi := { dst := some 169, op := Op.load 9 (Operand.tmp 168), type := 9, pos := "law.go:141", after := #[{ on := 28, ground := Ground.data }, { on := 18, ground := Ground.guard }], guard := some (18, true) }) (v := ?_) rfl (by kernel_rfl) (by kernel_rfl) (by kernel_rfl) (fun _ _ _ h => h) (Or.inl ⟨by rfl, ?_⟩) (by assumption) ?_
                        rotate_left
                        · (intro w hSw; (try dsimp only at hSw); go_simp; try with_reducible rfl)
                        try simp only [Act.put, List.setIfInBounds_toArray, List.set_cons_zero, List.set_cons_succ]
                        refine wpAnyH_take (i := 30) (oi := { dst := some 170, op := Op.binOp BinOp.geq 9 (Operand.tmp 164) (Operand.tmp 169) 9, type := 4, pos := "law.go:141", after := #[{ on := 24, ground := Ground.data }, { on := 29, ground := Ground.data }, { on := 18, ground := Ground.guard }], guard := some (18, true) }) (v := ?_) rfl (by kernel_rfl) (by kernel_rfl) (by kernel_rfl) (fun _ _ _ h => h) (Or.inl ⟨by rfl, ?_⟩) (by assumption) ?_
                        rotate_left
                        · (intro w hSw; (try dsimp only at hSw); go_simp; try with_reducible rfl)
                        try simp only [Act.put, List.setIfInBounds_toArray, List.set_cons_zero, List.set_cons_succ]
                        refine wpAnyH_take (i := 31) (oi := { dst := some 171, op := Op.pick (Operand.tmp 158) (Operand.tmp 170) (Operand.const (Value.bool false)), type := 4, pos := "law.go:141", after := #[{ on := 18, ground := Ground.data }, { on := 30, ground := Ground.data }, { on := 15, ground := Ground.guard }], guard := some (15, false) }) (v := ?_) rfl (by kernel_rfl) (by kernel_rfl) (by kernel_rfl) (fun _ _ _ h => h) (Or.inl ⟨by rfl, ?_⟩) (by assumption) ?_
                        rotate_left
                        · (intro w hSw; (try dsimp only at hSw); go_simp; try with_reducible rfl)
                        try simp only [Act.put, List.setIfInBounds_toArray, List.set_cons_zero, List.set_cons_succ]
                        refine wpAnyH_take (i := 32) (oi := { dst := some 172, op := Op.pick (Operand.tmp 155) (Operand.const (Value.bool true)) (Operand.tmp 171), type := 4, pos := "law.go:141", after := #[{ on := 15, ground := Ground.data }, { on := 31, ground := Ground.data }], guard := none }) (v := ?_) rfl (by kernel_rfl) (by kernel_rfl) (by kernel_rfl) (fun _ _ _ h => h) (Or.inl ⟨by rfl, ?_⟩) (by assumption) ?_
                        rotate_left
                        · (intro w hSw; (try dsimp only at hSw); go_simp; try with_reducible rfl)
                        try simp only [Act.put, List.setIfInBounds_toArray, List.set_cons_zero, List.set_cons_succ]
                        refine wpAnyH_done (by kernel_rfl) ?_ _
                        refine NoPanic.normal ?_
                        have BX := Lib.hid (B26.out.trans (hH.2.1.out.mono (by have := HNq.out; have := B26.out.size; omega)))
                        clear S0 hH LWq HNq la lb lc CSq y0 y1 y2 y3 y4 y5 y6 y7 z0 z1 z2 z3 z4 z5 z6 z7 p0 p1 p2 p3 p4 p5 p6 p7
                        go_wp2_with fail
                        go_roundw
                        case rel => first | exact ⟨k + 1, by omega, by go_num, BX⟩ | ((repeat apply Exists.intro); refine ⟨?_, rfl⟩; exact ⟨k + 1, by omega, by go_num, BX⟩)
                        case measure => simp [intOf]; omega
                  · have hkl : k = ks.length := by omega
                    subst hkl
                    have B6 := Lib.hid (B2.out.trans (hbr.out.mono B2.out.size))
                    have K6 := hbr
                    clear hbr hk
                    have hz0 := ZL.out
                    have hsK := K6.out.size
                    have hr40 : rs.length ≤ 40 := by have := HLN.out; omega
                    have WM : Hid (Wb wr w1.heap.size (Val.mk 5 0 ⟨#[]⟩ xs rs 0 0 false) (.slice o5 xs.length cap5) (.slice oK5 rs.length capK5)) := HM.out.keep K6.out ZL.out
                    have WM2 := Lib.hid (WM.out.set7 sec)
                    have n2 : w.heap.size ≤ w1.heap.size := by have := B1.out.size; exact this
                    have B7 : Hid (Below w.heap.size w (wr.setCell ⟨w1.heap.size, 7, none⟩ (.bool sec))) := B6.out.setCell (p := ⟨w1.heap.size, 7, none⟩) n2 (.bool sec)
                    have K7 : Hid (Below w1.heap.size w1 (wr.setCell ⟨w1.heap.size, 7, none⟩ (.bool sec))) := (K12.out.trans (K6.out.mono (by omega))).setCell (p := ⟨w1.heap.size, 7, none⟩) (Nat.le_refl _) (.bool sec)
                    have Z7 : Hid (w1.heap.size < (wr.setCell ⟨w1.heap.size, 7, none⟩ (.bool sec)).heap.size) := by unfold Hid; rw [World.size_setCell]; omega
                    obtain ⟨p0, p1, p2, p3, p4, p5, p6, p7⟩ := cells8 (show wr.heap[w1.heap.size]? = some (.cells #[.int .i64 5, .int .i64 0, .string ⟨#[]⟩, .slice o5 xs.length cap5, .slice oK5 rs.length capK5, .int .i64 0, .int .i64 0, .bool false] 27 (0, 0)) from WM.out)
                    have f7 := WM.out.free 7
                    have hdk : decide ((ks.length : Int) < (ks.length : Int)) = false := by simp
                    go_upto_region 30 with fail
                    generalize World.setCell _ _ _ = w3 at *
                    clear p0 p1 p2 p3 p4 p5 p6 p7 f7 hdk
                    have K3 := Lib.hid (Below.refl w3.heap.size w3)
                    obtain ⟨p0, p1, p2, p3, p4, p5, p6, p7⟩ := cells8 (show w3.heap[w1.heap.size]? = some (.cells #[.int .i64 5, .int .i64 0, .string ⟨#[]⟩, .slice o5 xs.length cap5, .slice oK5 rs.length capK5, .int .i64 0, .int .i64 0, .bool sec] 27 (0, 0)) from WM2.out.keep K3.out Z7.out)
                    have CG := Lib.hid (get_map (n := w1.heap.size) key hzx hr40 HLN.out.2.symm ((HMO.out sec).kept K7.out).lies (by have := Z7.out; omega))
                    go_wp2_with fail
                    refine CG.out.mono ?_
                    rintro e w4 hp
                    clear p0 p1 p2 p3 p4 p5 p6 p7 CG
                    rcases hp with ⟨hA, rfl, b4⟩ | ⟨jg, Xg, Y, hA, hXg, hY, oLg, oKg, cLg, cKg, cg, rfl, Og, b4⟩
                    · skip
                      have K4 := Lib.hid (b4.alloc (by have := b4.size; exact this) (.cells zc 27))
                      have X19 := Lib.hid (heap_alloc_new w4 (.cells zc 27))
                      have Z19 : Hid (w4.heap.size < (w4.alloc (.cells zc 27)).heap.size) := by simp [Hid]
                      have K45 : Hid (Below w4.heap.size w4 (w4.alloc (.cells zc 27))) := (Below.refl _ _).alloc (Nat.le_refl _) _
                      have HA := Lib.hid hA
                      clear b4 hA
                      go_upto_region 31 with fail
                      generalize w4.alloc _ = w5 at *
                      obtain ⟨p0, p1, p2, p3, p4, p5, p6, p7⟩ := cells8 (show w5.heap[w1.heap.size]? = some (.cells #[.int .i64 5, .int .i64 0, .string ⟨#[]⟩, .slice o5 xs.length cap5, .slice oK5 rs.length capK5, .int .i64 0, .int .i64 0, .bool sec] 27 (0, 0)) from WM2.out.keep K4.out Z7.out)
                      have CF := Lib.hid (find_any (n := w1.heap.size) (V := mpv xs rs sec) (w := w5) key rfl HLN.out.2.symm ((HMO.out sec).kept (K7.out.trans (K4.out.mono (by have := Z7.out; omega)))).lies (by have := Z7.out; have := K4.out.size; omega))
                      go_wp2_with fail
                      refine CF.out.mono ?_
                      rintro e w6 ⟨⟨r, rfl, hA2⟩, b6⟩
                      obtain rfl := At.uniq hA2 HA.out
                      have K6b := Lib.hid (K4.out.trans (b6.mono K4.out.size))
                      have K56 := Lib.hid b6
                      clear b6 hA2 CF p0 p1 p2 p3 p4 p5 p6 p7
                      obtain ⟨p0, p1, p2, p3, p4, p5, p6, p7⟩ := cells8 (show w6.heap[w1.heap.size]? = some (.cells #[.int .i64 5, .int .i64 0, .string ⟨#[]⟩, .slice o5 xs.length cap5, .slice oK5 rs.length capK5, .int .i64 0, .int .i64 0, .bool sec] 27 (0, 0)) from WM2.out.keep K6b.out Z7.out)
                      obtain ⟨q0, q1, q2, q3, q4, q5, q6, q7⟩ := cells8 ((K56.out.block _ Z19.out).trans X19.out)
                      have BW := Lib.hid (B7.out.trans (K6b.out.mono (by have := B7.out.size; exact this)))
                      go_upto_region 32 with fail
                      obtain ⟨Np, hNp⟩ : ∃ N, N = w6.heap.size := ⟨_, rfl⟩
                      have S0 := held_at hNp
                      have la : w1.heap.size < Np := by have := Z7.out; have := K6b.out.size; omega
                      have lb : w4.heap.size < Np := by have := Z19.out; have := K56.out.size; omega
                      have HNp := Lib.hid hNp
                      clear hNp
                      have LWp : Hid (∀ W, ((∀ b o, b < Np → W.cell? ⟨b, o, none⟩ = w6.cell? ⟨b, o, none⟩) ∧ Hid (Below Np w6 W) ∧ Hid (Np ≤ W.heap.size)) → Below w.heap.size w W) := fun W h => BW.out.trans (h.2.1.out.mono (by rw [HNp.out]; exact BW.out.size))
                      have CNp : Hid (∀ W, ((∀ b o, b < Np → W.cell? ⟨b, o, none⟩ = w6.cell? ⟨b, o, none⟩) ∧ Hid (Below Np w6 W) ∧ Hid (Np ≤ W.heap.size)) → Calls Try.prog 23 #[zv, zv, .bool true] W fun e w' => e = .returned (.bool true) ∧ Below W.heap.size W w') := fun W h => same_nil W
                      refine wp_region_noPanic ?_
                      refine wp_region_held_drew (S := (fun W => (∀ b o, b < Np → W.cell? ⟨b, o, none⟩ = w6.cell? ⟨b, o, none⟩) ∧ Hid (Below Np w6 W) ∧ Hid (Np ≤ W.heap.size))) (by kernel_rfl) ?_ (fun hH => ?_)
                      · exact S0
                      refine wpAnyH_take (i := 0) (oi := { dst := some 184, op := Op.move (Operand.tmp 21), type := 3, pos := "law.go:148", after := #[], guard := none }) (v := ?_) rfl (by kernel_rfl) (by kernel_rfl) (by kernel_rfl) (fun _ _ _ h => h) (Or.inl ⟨by rfl, ?_⟩) (by assumption) ?_
                      rotate_left
                      · (intro w hSw; (try dsimp only at hSw); go_simp; try with_reducible rfl)
                      try simp only [Act.put, List.setIfInBounds_toArray, List.set_cons_zero, List.set_cons_succ]
                      refine wpAnyH_take (i := 1) (oi := { dst := some 185, op := Op.binOp BinOp.lss 3 (Operand.tmp 184) (Operand.const (Value.int IntKind.i64 0)) 3, type := 4, pos := "law.go:148", after := #[{ on := 0, ground := Ground.data }], guard := none }) (v := ?_) rfl (by kernel_rfl) (by kernel_rfl) (by kernel_rfl) (fun _ _ _ h => h) (Or.inl ⟨by rfl, ?_⟩) (by assumption) ?_
                      rotate_left
                      · (intro w hSw; (try dsimp only at hSw); go_simp; try with_reducible rfl)
                      try simp only [Act.put, List.setIfInBounds_toArray, List.set_cons_zero, List.set_cons_succ]
                      refine wpAnyH_take (i := 2) (oi := { dst := some 186, op := Op.move (Operand.tmp 185), type := 4, pos := "law.go:148", after := #[{ on := 1, ground := Ground.data }], guard := none }) (v := ?_) rfl (by kernel_rfl) (by kernel_rfl) (by kernel_rfl) (fun _ _ _ h => h) (Or.inl ⟨by rfl, ?_⟩) (by assumption) ?_
                      rotate_left
                      · (intro w hSw; (try dsimp only at hSw); go_simp; try with_reducible rfl)
                      try simp only [Act.put, List.setIfInBounds_toArray, List.set_cons_zero, List.set_cons_succ]
                      refine wpAnyH_take (i := 3) (oi := { dst := some 187, op := Op.move (Operand.tmp 20), type := 30, pos := "law.go:148", after := #[{ on := 2, ground := Ground.guard }], guard := some (2, true) }) (v := ?_) rfl (by kernel_rfl) (by kernel_rfl) (by kernel_rfl) (fun _ _ _ h => h) (Or.inl ⟨by rfl, ?_⟩) (by assumption) ?_
                      rotate_left
                      · (intro w hSw; (try dsimp only at hSw); go_simp; try with_reducible rfl)
                      try simp only [Act.put, List.setIfInBounds_toArray, List.set_cons_zero, List.set_cons_succ]
                      refine wpAnyH_take (i := 4) (oi := { dst := some 188, op := Op.binOp BinOp.neq 30 (Operand.tmp 187) (Operand.const (Value.int IntKind.i64 11)) 30, type := 4, pos := "law.go:148", after := #[{ on := 3, ground := Ground.data }, { on := 2, ground := Ground.guard }], guard := some (2, true) }) (v := ?_) rfl (by kernel_rfl) (by kernel_rfl) (by kernel_rfl) (fun _ _ _ h => h) (Or.inl ⟨by rfl, ?_⟩) (by assumption) ?_
                      rotate_left
                      · (intro w hSw; (try dsimp only at hSw); go_simp; try with_reducible rfl)
                      try simp only [Act.put, List.setIfInBounds_toArray, List.set_cons_zero, List.set_cons_succ]
                      refine wpAnyH_take (i := 5) (oi := { dst := some 189, op := Op.move (Operand.tmp 188), type := 4, pos := "law.go:148", after := #[{ on := 4, ground := Ground.data }, { on := 2, ground := Ground.chain }, { on := 2, ground := Ground.guard }], guard := some (2, true) }) (v := ?_) rfl (by kernel_rfl) (by kernel_rfl) (by kernel_rfl) (fun _ _ _ h => h) (Or.inl ⟨by rfl, ?_⟩) (by assumption) ?_
                      rotate_left
                      · (intro w hSw; (try dsimp only at hSw); go_simp; try with_reducible rfl)
                      try simp only [Act.put, List.setIfInBounds_toArray, List.set_cons_zero, List.set_cons_succ]
                      refine wpAnyH_take (i := 6) (oi := { dst := some 190, op := Op.load 27 (Operand.tmp 19), type := 27, pos := "law.go:148", after := #[{ on := 5, ground := Ground.guard }], guard := some (5, false) }) (v := ?_) rfl (by kernel_rfl) (by kernel_rfl) (by kernel_rfl) (fun _ _ _ h => h) (Or.inl ⟨by rfl, ?_⟩) (by assumption) ?_
                      rotate_left
                      · (intro w hSw; (try dsimp only at hSw); go_simp; try with_reducible rfl)
                      try simp only [Act.put, List.setIfInBounds_toArray, List.set_cons_zero, List.set_cons_succ]
                      refine wpAnyH_take (i := 7) (oi := { dst := some 191, op := Op.build 27 #[], type := 27, pos := "law.go:148", after := #[{ on := 5, ground := Ground.guard }], guard := some (5, false) }) (v := ?_) rfl (by kernel_rfl) (by kernel_rfl) (by kernel_rfl) (fun _ _ _ h => h) (Or.inl ⟨by rfl, ?_⟩) (by assumption) ?_
                      rotate_left
                      · (intro w hSw; (try dsimp only at hSw); go_simp; try with_reducible rfl)
                      try simp only [Act.put, List.setIfInBounds_toArray, List.set_cons_zero, List.set_cons_succ]
                      refine wpAnyH_ready (rs := [8]) (by kernel_rfl) (by simp) ?_
                      refine AllReadyH.cons (o := { dst := some 192, op := Op.call { callee := Callee.value (Operand.func 23), args := #[Operand.tmp 190, Operand.tmp 191, Operand.const (Value.bool true)], argTypes := #[27, 27, 4] }, type := 4, pos := "law.go:148", after := #[{ on := 6, ground := Ground.data }, { on := 7, ground := Ground.data }, { on := 5, ground := Ground.chain }, { on := 5, ground := Ground.guard }], guard := some (5, false) }) rfl (fun K hK => ?_) AllReadyH.nil
                      go_simp
                      refine (CNp.out _ hH).mono ?_
                      rintro e W_0 ⟨rfl, b⟩
                      refine hK.out _ _ ?_ (fun hH' => ?_)
                      · exact held_next (by assumption) hH
                      clear hK K hH
                      have hH := hH'
                      clear hH'
                      try simp only [Act.put, List.setIfInBounds_toArray, List.set_cons_zero, List.set_cons_succ]
                      refine wpAnyH_take (i := 9) (oi := { dst := some 193, op := Op.unOp UnOp.not 4 (Operand.tmp 192), type := 4, pos := "law.go:148", after := #[{ on := 8, ground := Ground.data }, { on := 5, ground := Ground.guard }], guard := some (5, false) }) (v := ?_) rfl (by kernel_rfl) (by kernel_rfl) (by kernel_rfl) (fun _ _ _ h => h) (Or.inl ⟨by rfl, ?_⟩) (by assumption) ?_
                      rotate_left
                      · (intro w hSw; (try dsimp only at hSw); go_simp; try with_reducible rfl)
                      try simp only [Act.put, List.setIfInBounds_toArray, List.set_cons_zero, List.set_cons_succ]
                      refine wpAnyH_take (i := 10) (oi := { dst := some 194, op := Op.pick (Operand.tmp 189) (Operand.const (Value.bool true)) (Operand.tmp 193), type := 4, pos := "law.go:148", after := #[{ on := 5, ground := Ground.data }, { on := 9, ground := Ground.data }, { on := 2, ground := Ground.guard }], guard := some (2, true) }) (v := ?_) rfl (by kernel_rfl) (by kernel_rfl) (by kernel_rfl) (fun _ _ _ h => h) (Or.inl ⟨by rfl, ?_⟩) (by assumption) ?_
                      rotate_left
                      · (intro w hSw; (try dsimp only at hSw); go_simp; try with_reducible rfl)
                      try simp only [Act.put, List.setIfInBounds_toArray, List.set_cons_zero, List.set_cons_succ]
                      refine wpAnyH_take (i := 11) (oi := { dst := some 195, op := Op.pick (Operand.tmp 186) (Operand.tmp 194) (Operand.const (Value.bool false)), type := 4, pos := "law.go:148", after := #[{ on := 2, ground := Ground.data }, { on := 10, ground := Ground.data }], guard := none }) (v := ?_) rfl (by kernel_rfl) (by kernel_rfl) (by kernel_rfl) (fun _ _ _ h => h) (Or.inl ⟨by rfl, ?_⟩) (by assumption) ?_
                      rotate_left
                      · (intro w hSw; (try dsimp only at hSw); go_simp; try with_reducible rfl)
                      try simp only [Act.put, List.setIfInBounds_toArray, List.set_cons_zero, List.set_cons_succ]
                      refine wpAnyH_take (i := 12) (oi := { dst := some 196, op := Op.move (Operand.tmp 195), type := 4, pos := "law.go:148", after := #[{ on := 11, ground := Ground.data }, { on := 8, ground := Ground.chain }], guard := none }) (v := ?_) rfl (by kernel_rfl) (by kernel_rfl) (by kernel_rfl) (fun _ _ _ h => h) (Or.inl ⟨by rfl, ?_⟩) (by assumption) ?_
                      rotate_left
                      · (intro w hSw; (try dsimp only at hSw); go_simp; try with_reducible rfl)
                      try simp only [Act.put, List.setIfInBounds_toArray, List.set_cons_zero, List.set_cons_succ]
                      refine wpAnyH_take (i := 13) (oi := { dst := some 197, op := Op.move (Operand.tmp 21), type := 3, pos := "law.go:148", after := #[{ on := 12, ground := Ground.guard }], guard := some (12, false) }) (v := ?_) rfl (by kernel_rfl) (by kernel_rfl) (by kernel_rfl) (fun _ _ _ h => h) (Or.inl ⟨by rfl, ?_⟩) (by assumption) ?_
                      rotate_left
                      · (intro w hSw; (try dsimp only at hSw); go_simp; try with_reducible rfl)
                      try simp only [Act.put, List.setIfInBounds_toArray, List.set_cons_zero, List.set_cons_succ]
                      refine wpAnyH_take (i := 14) (oi := { dst := some 198, op := Op.binOp BinOp.geq 3 (Operand.tmp 197) (Operand.const (Value.int IntKind.i64 0)) 3, type := 4, pos := "law.go:148", after := #[{ on := 13, ground := Ground.data }, { on := 12, ground := Ground.guard }], guard := some (12, false) }) (v := ?_) rfl (by kernel_rfl) (by kernel_rfl) (by kernel_rfl) (fun _ _ _ h => h) (Or.inl ⟨by rfl, ?_⟩) (by assumption) ?_
                      rotate_left
                      · (intro w hSw; (try dsimp only at hSw); go_simp; try with_reducible rfl)
                      try simp only [Act.put, List.setIfInBounds_toArray, List.set_cons_zero, List.set_cons_succ]
                      refine wpAnyH_take (i := 15) (oi := { dst := some 199, op := Op.move (Operand.tmp 198), type := 4, pos := "law.go:148", after := #[{ on := 14, ground := Ground.data }, { on := 12, ground := Ground.chain }, { on := 12, ground := Ground.guard }], guard := some (12, false) }) (v := ?_) rfl (by kernel_rfl) (by kernel_rfl) (by kernel_rfl) (fun _ _ _ h => h) (Or.inl ⟨by rfl, ?_⟩) (by assumption) ?_
                      rotate_left
                      · (intro w hSw; (try dsimp only at hSw); go_simp; try with_reducible rfl)
                      try simp only [Act.put, List.setIfInBounds_toArray, List.set_cons_zero, List.set_cons_succ]
                      refine wpAnyH_take (i := 16) (oi := { dst := some 200, op := Op.move (Operand.tmp 20), type := 30, pos := "law.go:148", after := #[{ on := 15, ground := Ground.guard }], guard := some (15, true) }) (v := undef) rfl (by kernel_rfl) (by kernel_rfl) (by kernel_rfl) (fun _ _ _ h => h) (Or.inr ⟨by rfl, rfl⟩) (by assumption) ?_
                      try simp only [Act.put, List.setIfInBounds_toArray, List.set_cons_zero, List.set_cons_succ]
                      refine wpAnyH_take (i := 17) (oi := { dst := some 201, op := Op.binOp BinOp.neq 30 (Operand.tmp 200) (Operand.const (Value.int IntKind.i64 0)) 30, type := 4, pos := "law.go:148", after := #[{ on := 16, ground := Ground.data }, { on := 15, ground := Ground.guard }], guard := some (15, true) }) (v := undef) rfl (by kernel_rfl) (by kernel_rfl) (by kernel_rfl) (fun _ _ _ h => h) (Or.inr ⟨by rfl, rfl⟩) (by assumption) ?_
                      try simp only [Act.put, List.setIfInBounds_toArray, List.set_cons_zero, List.set_cons_succ]
                      refine wpAnyH_take (i := 18) (oi := { dst := some 202, op := Op.move (Operand.tmp 201), type := 4, pos := "law.go:148", after := #[{ on := 17, ground := Ground.data }, { on := 15, ground := Ground.chain }, { on := 15, ground := Ground.guard }], guard := some (15, true) }) (v := undef) rfl (by kernel_rfl) (by kernel_rfl) (by kernel_rfl) (fun _ _ _ h => h) (Or.inr ⟨by rfl, rfl⟩) (by assumption) ?_
                      try simp only [Act.put, List.setIfInBounds_toArray, List.set_cons_zero, List.set_cons_succ]
                      refine wpAnyH_take (i := 19) (oi := { dst := some 203, op := Op.load 27 (Operand.tmp 19), type := 27, pos := "law.go:148", after := #[{ on := 18, ground := Ground.guard }], guard := some (18, false) }) (v := undef) rfl (by kernel_rfl) (by kernel_rfl) (by kernel_rfl) (fun _ _ _ h => h) (Or.inr ⟨by rfl, rfl⟩) (by assumption) ?_
                      try simp only [Act.put, List.setIfInBounds_toArray, List.set_cons_zero, List.set_cons_succ]
                      refine wpAnyH_take (i := 20) (oi := { dst := some 204, op := Op.load 27 (Operand.tmp 12), type := 27, pos := "law.go:148", after := #[{ on := 18, ground := Ground.guard }], guard := some (18, false) }) (v := undef) rfl (by kernel_rfl) (by kernel_rfl) (by kernel_rfl) (fun _ _ _ h => h) (Or.inr ⟨by rfl, rfl⟩) (by assumption) ?_
                      try simp only [Act.put, List.setIfInBounds_toArray, List.set_cons_zero, List.set_cons_succ]
                      refine wpAnyH_take (i := 21) (oi := { dst := some 205, op := Op.move (Operand.tmp 21), type := 3, pos := "law.go:148", after := #[{ on := 18, ground := Ground.guard }], guard := some (18, false) }) (v := undef) rfl (by kernel_rfl) (by kernel_rfl) (by kernel_rfl) (fun _ _ _ h => h) (Or.inr ⟨by rfl, rfl⟩) (by assumption) ?_
                      try simp only [Act.put, List.setIfInBounds_toArray, List.set_cons_zero, List.set_cons_succ]
                      refine wpAnyH_take (i := 22) (oi := { dst := some 206, op := Op.call { callee := Callee.value (Operand.func 34), args := #[Operand.tmp 204, Operand.tmp 205], argTypes := #[27, 3] }, type := 27, pos := "law.go:148", after := #[{ on := 20, ground := Ground.data }, { on := 21, ground := Ground.data }, { on := 18, ground := Ground.chain }, { on := 18, ground := Ground.guard }], guard := some (18, false) }) (v := undef) rfl (by kernel_rfl) (by kernel_rfl) (by kernel_rfl) (fun _ _ _ h => h) (Or.inr ⟨by rfl, rfl⟩) (by assumption) ?_
                      try simp only [Act.put, List.setIfInBounds_toArray, List.set_cons_zero, List.set_cons_succ]
                      refine wpAnyH_take (i := 23) (oi := { dst := some 207, op := Op.call { callee := Callee.value (Operand.func 23), args := #[Operand.tmp 203, Operand.tmp 206, Operand.const (Value.bool true)], argTypes := #[27, 27, 4] }, type := 4, pos := "law.go:148", after := #[{ on := 19, ground := Ground.data }, { on := 22, ground := Ground.data }, { on := 22, ground := Ground.chain }, { on := 18, ground := Ground.guard }], guard := some (18, false) }) (v := undef) rfl (by kernel_rfl) (by kernel_rfl) (by kernel_rfl) (fun _ _ _ h => h) (Or.inr ⟨by rfl, rfl⟩) (by assumption) ?_
                      try simp only [Act.put, List.setIfInBounds_toArray, List.set_cons_zero, List.set_cons_succ]
                      refine wpAnyH_take (i := 24) (oi := { dst := some 208, op := Op.unOp UnOp.not 4 (Operand.tmp 207), type := 4, pos := "law.go:148", after := #[{ on := 23, ground := Ground.data }, { on := 18, ground := Ground.guard }], guard := some (18, false) }) (v := undef) rfl (by kernel_rfl) (by kernel_rfl) (by kernel_rfl) (fun _ _ _ h => h) (Or.inr ⟨by rfl, rfl⟩) (by assumption) ?_
                      try simp only [Act.put, List.setIfInBounds_toArray, List.set_cons_zero, List.set_cons_succ]
                      refine wpAnyH_take (i := 25) (oi := { dst := some 209, op := Op.pick (Operand.tmp 202) (Operand.const (Value.bool true)) (Operand.tmp 208), type := 4, pos := "law.go:148", after := #[{ on := 18, ground := Ground.data }, { on := 24, ground := Ground.data }, { on := 15, ground := Ground.guard }], guard := some (15, true) }) (v := undef) rfl (by kernel_rfl) (by kernel_rfl) (by kernel_rfl) (fun _ _ _ h => h) (Or.inr ⟨by rfl, rfl⟩) (by assumption) ?_
                      try simp only [Act.put, List.setIfInBounds_toArray, List.set_cons_zero, List.set_cons_succ]
                      refine wpAnyH_take (i := 26) (oi := { dst := some 210, op := Op.pick (Operand.tmp 199) (Operand.tmp 209) (Operand.const (Value.bool false)), type := 4, pos := "law.go:148", after := #[{ on := 15, ground := Ground.data }, { on := 25, ground := Ground.data }, { on := 12, ground := Ground.guard }], guard := some (12, false) }) (v := ?_) rfl (by kernel_rfl) (by kernel_rfl) (by kernel_rfl) (fun _ _ _ h => h) (Or.inl ⟨by rfl, ?_⟩) (by assumption) ?_
                      rotate_left
                      · (intro w hSw; (try dsimp only at hSw); go_simp; try with_reducible rfl)
                      try simp only [Act.put, List.setIfInBounds_toArray, List.set_cons_zero, List.set_cons_succ]
                      refine wpAnyH_take (i := 27) (oi := { dst := some 211, op := Op.pick (Operand.tmp 196) (Operand.const (Value.bool true)) (Operand.tmp 210), type := 4, pos := "law.go:148", after := #[{ on := 12, ground := Ground.data }, { on := 26, ground := Ground.data }], guard := none }) (v := ?_) rfl (by kernel_rfl) (by kernel_rfl) (by kernel_rfl) (fun _ _ _ h => h) (Or.inl ⟨by rfl, ?_⟩) (by assumption) ?_
                      rotate_left
                      · (intro w hSw; (try dsimp only at hSw); go_simp; try with_reducible rfl)
                      try simp only [Act.put, List.setIfInBounds_toArray, List.set_cons_zero, List.set_cons_succ]
                      refine wpAnyH_done (by kernel_rfl) ?_ _
                      refine NoPanic.normal ?_
                      have B9 := Lib.hid (LWp.out _ hH)
                      have HH7 := Lib.hid hH.2.1.out
                      have HN8 := HNp
                      clear S0 hH LWp HNp la lb CNp p0 p1 p2 p3 p4 p5 p6 p7 q0 q1 q2 q3 q4 q5 q6 q7
                      have KT := Lib.hid (K6b.out.trans (HH7.out.mono (by have := HN8.out; have := K6b.out.size; omega)))
                      generalize W_0 = w7 at *
                      obtain ⟨Ls, hLs⟩ : ∃ Ls, Ls = lst l := ⟨_, rfl⟩
                      have CL := list_any (n := n) (l := l) (by omega) (HF.out.2.1.below (B9.out.mono hn)) (fun j x hx => (HF.out.2.2.1 j x hx).kept (B9.out.mono hn)) (by have := B9.out.size; omega)
                      rw [← hLs] at CL
                      have HCL := Lib.hid CL
                      have HLs := Lib.hid hLs
                      clear CL hLs
                      go_wp2_with fail
                      refine HCL.out.mono ?_
                      rintro e w8 ⟨o8, oK8, c8a, c8b, c8c, rfl, O8, _, _, b8⟩
                      have K8 := Lib.hid (KT.out.trans (b8.mono KT.out.size))
                      have X22 := Lib.hid (heap_alloc_new w8 (.cells #[.int .i64 Ls.k, .int .i64 Ls.i, .string Ls.s, .slice o8 Ls.l.length c8a, .slice oK8 Ls.ks.length c8b, .int .i64 Ls.tk, .int .i64 Ls.to, .bool sec] 27))
                      have Z22 : Hid (w8.heap.size < (w8.alloc (.cells #[.int .i64 Ls.k, .int .i64 Ls.i, .string Ls.s, .slice o8 Ls.l.length c8a, .slice oK8 Ls.ks.length c8b, .int .i64 Ls.tk, .int .i64 Ls.to, .bool sec] 27)).heap.size) := by simp [Hid]
                      have K89 : Hid (Below w8.heap.size w8 (w8.alloc (.cells #[.int .i64 Ls.k, .int .i64 Ls.i, .string Ls.s, .slice o8 Ls.l.length c8a, .slice oK8 Ls.ks.length c8b, .int .i64 Ls.tk, .int .i64 Ls.to, .bool sec] 27))) := (Below.refl _ _).alloc (Nat.le_refl _) _
                      have K9 := Lib.hid (K8.out.alloc K8.out.size (.cells #[.int .i64 Ls.k, .int .i64 Ls.i, .string Ls.s, .slice o8 Ls.l.length c8a, .slice oK8 Ls.ks.length c8b, .int .i64 Ls.tk, .int .i64 Ls.to, .bool sec] 27))
                      have HO8 := Lib.hid (O8.sx sec)
                      clear b8 O8 HCL
                      go_upto_region 36 with fail
                      generalize w8.alloc _ = w9 at *
                      obtain ⟨s0, s1, s2, s3, s4, s5, s6, s7⟩ := cells8 X22.out
                      have HL9 : Hid (∀ W, Below w9.heap.size w9 W → Lies w8.heap.size W ((lst l).sx sec) (vv Ls.k Ls.i Ls.s (.slice o8 Ls.l.length c8a) (.slice oK8 Ls.ks.length c8b) Ls.tk Ls.to sec)) := fun W b => by rw [← HLs.out]; exact HO8.out.lies.keptP fun k hk => ⟨hk.2, (b.block k (by have := hk.2; have := Z22.out; omega)).trans (K89.out.block k hk.2)⟩
                      have CA := Lib.hid (at_list (n := w8.heap.size) (w := w9) (l := l) (y := sec) i hz (HL9.out w9 (Below.refl _ _)) (by have := Z22.out; omega))
                      go_wp2_with fail
                      refine CA.out.mono ?_
                      rintro e w10 hp
                      clear CA s0 s1 s2 s3 s4 s5 s6 s7
                      have B10 : ∀ (b : Below w9.heap.size w9 w10), Below w.heap.size w w10 := fun b => B7.out.trans ((K9.out.trans (b.mono K9.out.size)).mono B7.out.size)
                      rcases hp with ⟨hio, rfl, b10⟩ | ⟨ji, Xi, Yi, rfl, hXi, hYi, oLi, oKi, cLi, cKi, ci, rfl, Oi, b10⟩
                      · have BX := Lib.hid ((B10 b10).alloc (by have := (B10 b10).size; exact this) (.cells zc 27))
                        clear b10 B10
                        by_cases h0 : i < 0
                        · have g0 : decide (i < 0) = true := by simpa using h0
                          clear hio
                          go_wp2_with fail
                          refine (same_nil _).mono ?_
                          rintro e w12 ⟨rfl, b12⟩
                          have BY := Lib.hid (BX.out.trans (b12.mono BX.out.size))
                          clear b12
                          go_wp2_with fail
                          refine (awake_any _).mono ?_
                          rintro e wz ⟨rfl, bz⟩
                          have BZ := Lib.hid (BY.out.trans (bz.mono BY.out.size))
                          clear bz
                          go_wp2_with fail
                          go_ret
                          exact ⟨rfl, BZ.out⟩
                        · have g0 : decide (i < 0) = false := by simpa using h0
                          have g1 : decide ((l.length : Int) ≤ i) = true := by simp; omega
                          clear hio
                          go_wp2_with fail
                          refine (same_nil _).mono ?_
                          rintro e w12 ⟨rfl, b12⟩
                          have BY := Lib.hid (BX.out.trans (b12.mono BX.out.size))
                          clear b12
                          go_wp2_with fail
                          refine (awake_any _).mono ?_
                          rintro e wz ⟨rfl, bz⟩
                          have BZ := Lib.hid (BY.out.trans (bz.mono BY.out.size))
                          clear bz
                          go_wp2_with fail
                          go_ret
                          exact ⟨rfl, BZ.out⟩
                      · have hji : ji < l.length := (List.getElem?_eq_some_iff.1 hXi).1
                        have g0 : decide ((ji : Int) < 0) = false := by simp; try omega
                        have g1 : decide ((l.length : Int) ≤ (ji : Int)) = false := by simp; try omega
                        have K10 := Lib.hid b10
                        have X23 := Lib.hid (heap_alloc_new w10 (.cells #[.int .i64 Yi.k, .int .i64 Yi.i, .string Yi.s, .slice oLi Yi.l.length cLi, .slice oKi Yi.ks.length cKi, .int .i64 Yi.tk, .int .i64 Yi.to, .bool Yi.x] 27))
                        have Z23 : Hid (w10.heap.size < (w10.alloc (.cells #[.int .i64 Yi.k, .int .i64 Yi.i, .string Yi.s, .slice oLi Yi.l.length cLi, .slice oKi Yi.ks.length cKi, .int .i64 Yi.tk, .int .i64 Yi.to, .bool Yi.x] 27)).heap.size) := by simp [Hid]
                        have K11 : Hid (Below w10.heap.size w10 (w10.alloc (.cells #[.int .i64 Yi.k, .int .i64 Yi.i, .string Yi.s, .slice oLi Yi.l.length cLi, .slice oKi Yi.ks.length cKi, .int .i64 Yi.tk, .int .i64 Yi.to, .bool Yi.x] 27))) := (Below.refl _ _).alloc (Nat.le_refl _) _
                        have K911 := Lib.hid (b10.alloc (by have := b10.size; exact this) (.cells #[.int .i64 Yi.k, .int .i64 Yi.i, .string Yi.s, .slice oLi Yi.l.length cLi, .slice oKi Yi.ks.length cKi, .int .i64 Yi.tk, .int .i64 Yi.to, .bool Yi.x] 27))
                        have HOi := Lib.hid Oi
                        have hmi := HALL.out Xi (List.mem_of_getElem? hXi)
                        have hsy : sz Yi ≤ 600 := by rw [hYi]; cases Xi; exact hmi
                        have HXi := Lib.hid hXi
                        have HYi := Lib.hid hYi
                        clear b10 B10 Oi hXi hYi hmi
                        go_upto_region 39 with fail
                        generalize w10.alloc _ = w11 at *
                        have K311 := Lib.hid (K9.out.trans (K911.out.mono K9.out.size))
                        obtain ⟨p0, p1, p2, p3, p4, p5, p6, p7⟩ := cells8 (show w11.heap[w1.heap.size]? = some (.cells #[.int .i64 5, .int .i64 0, .string ⟨#[]⟩, .slice o5 xs.length cap5, .slice oK5 rs.length capK5, .int .i64 0, .int .i64 0, .bool sec] 27 (0, 0)) from WM2.out.keep K311.out Z7.out)
                        have CM := Lib.hid (at_map (n := w1.heap.size) (w := w11) (ji : Int) hzx hr40 ((HMO.out sec).kept (K7.out.trans (K311.out.mono (by have := Z7.out; omega)))).lies (by have := Z7.out; have := K311.out.size; omega))
                        go_wp2_with fail
                        refine CM.out.mono ?_
                        rintro e w12 ⟨rfl, b12⟩
                        have K1112 := Lib.hid b12
                        have K1113 := Lib.hid (b12.alloc (by have := b12.size; exact this) (.cells zc 27))
                        clear b12 CM p0 p1 p2 p3 p4 p5 p6 p7
                        go_upto_region 40 with fail
                        generalize w12.alloc _ = w13 at *
                        have K913 := Lib.hid (K911.out.trans (K1113.out.mono K911.out.size))
                        obtain ⟨s0, s1, s2, s3, s4, s5, s6, s7⟩ := cells8 ((K913.out.block _ Z22.out).trans X22.out)
                        have CN := Lib.hid (get_list (n := w8.heap.size) (w := w13) (l := l) (y := sec) key hz (HL9.out w13 K913.out) (by have := Z22.out; have := K913.out.size; omega))
                        go_wp2_with fail
                        refine CN.out.mono ?_
                        rintro e w14 ⟨rfl, b14⟩
                        have K1315 := Lib.hid (b14.alloc (by have := b14.size; exact this) (.cells zc 27))
                        clear b14 CN s0 s1 s2 s3 s4 s5 s6 s7
                        go_upto_region 41 with fail
                        generalize w14.alloc _ = w15 at *
                        have K1115 := Lib.hid (K1113.out.trans (K1315.out.mono K1113.out.size))
                        have K915 := Lib.hid (K913.out.trans (K1315.out.mono K913.out.size))
                        obtain ⟨s0, s1, s2, s3, s4, s5, s6, s7⟩ := cells8 ((K915.out.block _ Z22.out).trans X22.out)
                        obtain ⟨q0, q1, q2, q3, q4, q5, q6, q7⟩ := cells8 ((K1115.out.block _ Z23.out).trans X23.out)
                        have BW := Lib.hid (B7.out.trans ((K9.out.trans (K915.out.mono K9.out.size)).mono B7.out.size))
                        have j0 : (0 : Int) ≤ ji := by omega
                        go_upto_region 41 with fail
                        obtain ⟨Nz, hNz⟩ : ∃ N, N = w15.heap.size := ⟨_, rfl⟩
                        have S0 := held_at hNz
                        have la : w8.heap.size < Nz := by have := Z22.out; have := K915.out.size; omega
                        have lb : w10.heap.size < Nz := by have := Z23.out; have := K1115.out.size; omega
                        have HNz := Lib.hid hNz
                        clear hNz
                        have LWz : Hid (∀ W, ((∀ b o, b < Nz → W.cell? ⟨b, o, none⟩ = w15.cell? ⟨b, o, none⟩) ∧ Hid (Below Nz w15 W) ∧ Hid (Nz ≤ W.heap.size)) → Below w.heap.size w W) := fun W h => BW.out.trans (h.2.1.out.mono (by rw [HNz.out]; exact BW.out.size))
                        have CFrz : Hid (∀ W, ((∀ b o, b < Nz → W.cell? ⟨b, o, none⟩ = w15.cell? ⟨b, o, none⟩) ∧ Hid (Below Nz w15 W) ∧ Hid (Nz ≤ W.heap.size)) → Calls Try.prog 34 #[vv Ls.k Ls.i Ls.s (.slice o8 Ls.l.length c8a) (.slice oK8 Ls.ks.length c8b) Ls.tk Ls.to sec, .int .i64 (ji : Int)] W (FrPost w8.heap.size Yi W)) := fun W h => by rw [HYi.out]; exact from_any (V := (lst l).sx sec) HXi.out (HL9.out W (K915.out.trans (h.2.1.out.mono (by have := HNz.out; have := K915.out.size; omega)))) (by have := h.2.2.out; have := HNz.out; have := K915.out.size; have := Z22.out; omega)
                        have CSSz : Hid (∀ W, ((∀ b o, b < Nz → W.cell? ⟨b, o, none⟩ = w15.cell? ⟨b, o, none⟩) ∧ Hid (Below Nz w15 W) ∧ Hid (Nz ≤ W.heap.size)) → ∀ (W1 : World) (oLf oKf : Option Addr) (cLf cKf : Nat) (cf : Nat → Nat → Value), Opn w8.heap.size W1 Yi oLf oKf cLf cKf cf → Below W1.heap.size W1 W → w8.heap.size ≤ W1.heap.size → Calls Try.prog 23 #[vv Yi.k Yi.i Yi.s (.slice oLi Yi.l.length cLi) (.slice oKi Yi.ks.length cKi) Yi.tk Yi.to Yi.x, vv Yi.k Yi.i Yi.s (.slice oLf Yi.l.length cLf) (.slice oKf Yi.ks.length cKf) Yi.tk Yi.to Yi.x, .bool true] W fun e w' => e = .returned (.bool true) ∧ Below W.heap.size W w') := fun W h => fun W1 oLf oKf cLf cKf cf hO hB hW => rsame_any 60000 (Nat.le_refl _) w10.heap.size Yi _ _ W (by omega) (HOi.out.lies.keptP (P' := fun b => b < w10.heap.size) (w' := W) fun k hk => ⟨hk.2, (h.2.1.out.block k (by have := hk.2; have := Z23.out; have := K1115.out.size; have := HNz.out; omega)).trans ((K1115.out.block k (by have := hk.2; have := Z23.out; omega)).trans (K11.out.block k hk.2))⟩) (((hO.kept (hB.mono hW)).lies).mono fun b hb => by have := Z22.out; have := K10.out.size; omega) (by have := h.2.2.out; have := HNz.out; have := K1115.out.size; have := Z23.out; omega)
                        have CAWz : Hid (∀ W, ((∀ b o, b < Nz → W.cell? ⟨b, o, none⟩ = w15.cell? ⟨b, o, none⟩) ∧ Hid (Below Nz w15 W) ∧ Hid (Nz ≤ W.heap.size)) → Calls Try.prog 11 #[] W fun e w' => e = .returned (.bool true) ∧ Below W.heap.size W w') := fun W h => awake_any W
                        refine wp_region_noPanic ?_
                        refine wp_region_held_drew (S := (fun W => (∀ b o, b < Nz → W.cell? ⟨b, o, none⟩ = w15.cell? ⟨b, o, none⟩) ∧ Hid (Below Nz w15 W) ∧ Hid (Nz ≤ W.heap.size))) (by kernel_rfl) ?_ (fun hH => ?_)
                        · exact S0
                        refine wpAnyH_take (i := 0) (oi := { dst := some 252, op := Op.move (Operand.tmp 24), type := 30, pos := "law.go:159", after := #[], guard := none }) (v := ?_) rfl (by kernel_rfl) (by kernel_rfl) (by kernel_rfl) (fun _ _ _ h => h) (Or.inl ⟨by rfl, ?_⟩) (by assumption) ?_
                        rotate_left
                        · (intro w hSw; (try dsimp only at hSw); go_simp; try with_reducible rfl)
                        try simp only [Act.put, List.setIfInBounds_toArray, List.set_cons_zero, List.set_cons_succ]
                        refine wpAnyH_take (i := 1) (oi := { dst := some 253, op := Op.binOp BinOp.eql 30 (Operand.tmp 252) (Operand.const (Value.int IntKind.i64 0)) 30, type := 4, pos := "law.go:159", after := #[{ on := 0, ground := Ground.data }], guard := none }) (v := ?_) rfl (by kernel_rfl) (by kernel_rfl) (by kernel_rfl) (fun _ _ _ h => h) (Or.inl ⟨by rfl, ?_⟩) (by assumption) ?_
                        rotate_left
                        · (intro w hSw; (try dsimp only at hSw); go_simp; try with_reducible rfl)
                        try simp only [Act.put, List.setIfInBounds_toArray, List.set_cons_zero, List.set_cons_succ]
                        refine wpAnyH_take (i := 2) (oi := { dst := some 254, op := Op.move (Operand.tmp 253), type := 4, pos := "law.go:159", after := #[{ on := 1, ground := Ground.data }], guard := none }) (v := ?_) rfl (by kernel_rfl) (by kernel_rfl) (by kernel_rfl) (fun _ _ _ h => h) (Or.inl ⟨by rfl, ?_⟩) (by assumption) ?_
                        rotate_left
                        · (intro w hSw; (try dsimp only at hSw); go_simp; try with_reducible rfl)
                        try simp only [Act.put, List.setIfInBounds_toArray, List.set_cons_zero, List.set_cons_succ]
                        refine wpAnyH_take (i := 3) (oi := { dst := some 255, op := Op.load 27 (Operand.tmp 23), type := 27, pos := "law.go:159", after := #[{ on := 2, ground := Ground.guard }], guard := some (2, true) }) (v := ?_) rfl (by kernel_rfl) (by kernel_rfl) (by kernel_rfl) (fun _ _ _ h => h) (Or.inl ⟨by rfl, ?_⟩) (by assumption) ?_
                        rotate_left
                        · (intro w hSw; (try dsimp only at hSw); go_simp; try with_reducible rfl)
                        try simp only [Act.put, List.setIfInBounds_toArray, List.set_cons_zero, List.set_cons_succ]
                        refine wpAnyH_take (i := 4) (oi := { dst := some 256, op := Op.load 27 (Operand.tmp 22), type := 27, pos := "law.go:159", after := #[{ on := 2, ground := Ground.guard }], guard := some (2, true) }) (v := ?_) rfl (by kernel_rfl) (by kernel_rfl) (by kernel_rfl) (fun _ _ _ h => h) (Or.inl ⟨by rfl, ?_⟩) (by assumption) ?_
                        rotate_left
                        · (intro w hSw; (try dsimp only at hSw); go_simp; try with_reducible rfl)
                        try simp only [Act.put, List.setIfInBounds_toArray, List.set_cons_zero, List.set_cons_succ]
                        refine wpAnyH_take (i := 5) (oi := { dst := some 257, op := Op.move (Operand.tmp 3), type := 2, pos := "law.go:159", after := #[{ on := 2, ground := Ground.guard }], guard := some (2, true) }) (v := ?_) rfl (by kernel_rfl) (by kernel_rfl) (by kernel_rfl) (fun _ _ _ h => h) (Or.inl ⟨by rfl, ?_⟩) (by assumption) ?_
                        rotate_left
                        · (intro w hSw; (try dsimp only at hSw); go_simp; try with_reducible rfl)
                        try simp only [Act.put, List.setIfInBounds_toArray, List.set_cons_zero, List.set_cons_succ]
                        refine wpAnyH_ready (rs := [6]) (by kernel_rfl) (by simp) ?_
                        refine AllReadyH.cons (o := { dst := some 258, op := Op.call { callee := Callee.value (Operand.func 34), args := #[Operand.tmp 256, Operand.tmp 257], argTypes := #[27, 3] }, type := 27, pos := "law.go:159", after := #[{ on := 4, ground := Ground.data }, { on := 5, ground := Ground.data }, { on := 2, ground := Ground.chain }, { on := 2, ground := Ground.guard }], guard := some (2, true) }) rfl (fun K hK => ?_) AllReadyH.nil
                        go_simp
                        refine (CFrz.out _ hH).mono ?_
                        rintro e W_0 ⟨oLf, oKf, cLf, cKf, cf, rfl, Of, b⟩
                        refine hK.out _ _ ?_ (fun hH' => ?_)
                        · exact held_next (by assumption) hH
                        have OF := Lib.hid Of
                        clear Of
                        clear hK K hH
                        have hH := hH'
                        clear hH'
                        try simp only [Act.put, List.setIfInBounds_toArray, List.set_cons_zero, List.set_cons_succ]
                        refine wpAnyH_ready (rs := [7]) (by kernel_rfl) (by simp) ?_
                        refine AllReadyH.cons (o := { dst := some 259, op := Op.call { callee := Callee.value (Operand.func 23), args := #[Operand.tmp 255, Operand.tmp 258, Operand.const (Value.bool true)], argTypes := #[27, 27, 4] }, type := 4, pos := "law.go:159", after := #[{ on := 3, ground := Ground.data }, { on := 6, ground := Ground.data }, { on := 6, ground := Ground.chain }, { on := 2, ground := Ground.guard }], guard := some (2, true) }) rfl (fun K hK => ?_) AllReadyH.nil
                        go_simp
                        refine (CSSz.out _ hH W_0 _ _ _ _ _ OF.out (Below.refl _ _) (by have := hH.2.2.out; have := HNz.out; have := K915.out.size; have := Z22.out; omega)).mono ?_
                        rintro e W_1 ⟨rfl, b⟩
                        refine hK.out _ _ ?_ (fun hH' => ?_)
                        · exact held_next (by assumption) hH
                        clear hK K hH
                        have hH := hH'
                        clear hH'
                        try simp only [Act.put, List.setIfInBounds_toArray, List.set_cons_zero, List.set_cons_succ]
                        refine wpAnyH_take (i := 8) (oi := { dst := some 260, op := Op.pick (Operand.tmp 254) (Operand.tmp 259) (Operand.const (Value.bool false)), type := 4, pos := "law.go:159", after := #[{ on := 2, ground := Ground.data }, { on := 7, ground := Ground.data }], guard := none }) (v := ?_) rfl (by kernel_rfl) (by kernel_rfl) (by kernel_rfl) (fun _ _ _ h => h) (Or.inl ⟨by rfl, ?_⟩) (by assumption) ?_
                        rotate_left
                        · (intro w hSw; (try dsimp only at hSw); go_simp; try with_reducible rfl)
                        try simp only [Act.put, List.setIfInBounds_toArray, List.set_cons_zero, List.set_cons_succ]
                        refine wpAnyH_take (i := 9) (oi := { dst := some 261, op := Op.move (Operand.tmp 260), type := 4, pos := "law.go:159", after := #[{ on := 8, ground := Ground.data }, { on := 7, ground := Ground.chain }], guard := none }) (v := ?_) rfl (by kernel_rfl) (by kernel_rfl) (by kernel_rfl) (fun _ _ _ h => h) (Or.inl ⟨by rfl, ?_⟩) (by assumption) ?_
                        rotate_left
                        · (intro w hSw; (try dsimp only at hSw); go_simp; try with_reducible rfl)
                        try simp only [Act.put, List.setIfInBounds_toArray, List.set_cons_zero, List.set_cons_succ]
                        refine wpAnyH_take (i := 10) (oi := { dst := some 262, op := Op.move (Operand.tmp 26), type := 30, pos := "law.go:159", after := #[{ on := 9, ground := Ground.guard }], guard := some (9, true) }) (v := ?_) rfl (by kernel_rfl) (by kernel_rfl) (by kernel_rfl) (fun _ _ _ h => h) (Or.inl ⟨by rfl, ?_⟩) (by assumption) ?_
                        rotate_left
                        · (intro w hSw; (try dsimp only at hSw); go_simp; try with_reducible rfl)
                        try simp only [Act.put, List.setIfInBounds_toArray, List.set_cons_zero, List.set_cons_succ]
                        refine wpAnyH_take (i := 11) (oi := { dst := some 263, op := Op.binOp BinOp.eql 30 (Operand.tmp 262) (Operand.const (Value.int IntKind.i64 8)) 30, type := 4, pos := "law.go:159", after := #[{ on := 10, ground := Ground.data }, { on := 9, ground := Ground.guard }], guard := some (9, true) }) (v := ?_) rfl (by kernel_rfl) (by kernel_rfl) (by kernel_rfl) (fun _ _ _ h => h) (Or.inl ⟨by rfl, ?_⟩) (by assumption) ?_
                        rotate_left
                        · (intro w hSw; (try dsimp only at hSw); go_simp; try with_reducible rfl)
                        try simp only [Act.put, List.setIfInBounds_toArray, List.set_cons_zero, List.set_cons_succ]
                        refine wpAnyH_take (i := 12) (oi := { dst := some 264, op := Op.pick (Operand.tmp 261) (Operand.tmp 263) (Operand.const (Value.bool false)), type := 4, pos := "law.go:159", after := #[{ on := 9, ground := Ground.data }, { on := 11, ground := Ground.data }], guard := none }) (v := ?_) rfl (by kernel_rfl) (by kernel_rfl) (by kernel_rfl) (fun _ _ _ h => h) (Or.inl ⟨by rfl, ?_⟩) (by assumption) ?_
                        rotate_left
                        · (intro w hSw; (try dsimp only at hSw); go_simp; try with_reducible rfl)
                        try simp only [Act.put, List.setIfInBounds_toArray, List.set_cons_zero, List.set_cons_succ]
                        refine wpAnyH_take (i := 13) (oi := { dst := some 265, op := Op.move (Operand.tmp 264), type := 4, pos := "law.go:159", after := #[{ on := 12, ground := Ground.data }, { on := 9, ground := Ground.chain }], guard := none }) (v := ?_) rfl (by kernel_rfl) (by kernel_rfl) (by kernel_rfl) (fun _ _ _ h => h) (Or.inl ⟨by rfl, ?_⟩) (by assumption) ?_
                        rotate_left
                        · (intro w hSw; (try dsimp only at hSw); go_simp; try with_reducible rfl)
                        try simp only [Act.put, List.setIfInBounds_toArray, List.set_cons_zero, List.set_cons_succ]
                        refine wpAnyH_take (i := 14) (oi := { dst := some 266, op := Op.move (Operand.tmp 28), type := 30, pos := "law.go:159", after := #[{ on := 13, ground := Ground.guard }], guard := some (13, true) }) (v := ?_) rfl (by kernel_rfl) (by kernel_rfl) (by kernel_rfl) (fun _ _ _ h => h) (Or.inl ⟨by rfl, ?_⟩) (by assumption) ?_
                        rotate_left
                        · (intro w hSw; (try dsimp only at hSw); go_simp; try with_reducible rfl)
                        try simp only [Act.put, List.setIfInBounds_toArray, List.set_cons_zero, List.set_cons_succ]
                        refine wpAnyH_take (i := 15) (oi := { dst := some 267, op := Op.binOp BinOp.eql 30 (Operand.tmp 266) (Operand.const (Value.int IntKind.i64 8)) 30, type := 4, pos := "law.go:159", after := #[{ on := 14, ground := Ground.data }, { on := 13, ground := Ground.guard }], guard := some (13, true) }) (v := ?_) rfl (by kernel_rfl) (by kernel_rfl) (by kernel_rfl) (fun _ _ _ h => h) (Or.inl ⟨by rfl, ?_⟩) (by assumption) ?_
                        rotate_left
                        · (intro w hSw; (try dsimp only at hSw); go_simp; try with_reducible rfl)
                        try simp only [Act.put, List.setIfInBounds_toArray, List.set_cons_zero, List.set_cons_succ]
                        refine wpAnyH_take (i := 16) (oi := { dst := some 268, op := Op.pick (Operand.tmp 265) (Operand.tmp 267) (Operand.const (Value.bool false)), type := 4, pos := "law.go:159", after := #[{ on := 13, ground := Ground.data }, { on := 15, ground := Ground.data }], guard := none }) (v := ?_) rfl (by kernel_rfl) (by kernel_rfl) (by kernel_rfl) (fun _ _ _ h => h) (Or.inl ⟨by rfl, ?_⟩) (by assumption) ?_
                        rotate_left
                        · (intro w hSw; (try dsimp only at hSw); go_simp; try with_reducible rfl)
                        try simp only [Act.put, List.setIfInBounds_toArray, List.set_cons_zero, List.set_cons_succ]
                        refine wpAnyH_take (i := 17) (oi := { dst := some 269, op := Op.move (Operand.tmp 268), type := 4, pos := "law.go:159", after := #[{ on := 16, ground := Ground.data }, { on := 13, ground := Ground.chain }], guard := none }) (v := ?_) rfl (by kernel_rfl) (by kernel_rfl) (by kernel_rfl) (fun _ _ _ h => h) (Or.inl ⟨by rfl, ?_⟩) (by assumption) ?_
                        rotate_left
                        · (intro w hSw; (try dsimp only at hSw); go_simp; try with_reducible rfl)
                        try simp only [Act.put, List.setIfInBounds_toArray, List.set_cons_zero, List.set_cons_succ]
                        refine wpAnyH_ready (rs := [18]) (by kernel_rfl) (by simp) ?_
                        refine AllReadyH.cons (o := { dst := some 270, op := Op.call { callee := Callee.value (Operand.func 11), args := #[], argTypes := #[] }, type := 4, pos := "law.go:159", after := #[{ on := 17, ground := Ground.chain }, { on := 17, ground := Ground.guard }], guard := some (17, true) }) rfl (fun K hK => ?_) AllReadyH.nil
                        go_simp
                        refine (CAWz.out _ hH).mono ?_
                        rintro e W_2 ⟨rfl, b⟩
                        refine hK.out _ _ ?_ (fun hH' => ?_)
                        · exact held_next (by assumption) hH
                        clear hK K hH
                        have hH := hH'
                        clear hH'
                        try simp only [Act.put, List.setIfInBounds_toArray, List.set_cons_zero, List.set_cons_succ]
                        refine wpAnyH_take (i := 19) (oi := { dst := some 271, op := Op.pick (Operand.tmp 269) (Operand.tmp 270) (Operand.const (Value.bool false)), type := 4, pos := "law.go:159", after := #[{ on := 17, ground := Ground.data }, { on := 18, ground := Ground.data }], guard := none }) (v := ?_) rfl (by kernel_rfl) (by kernel_rfl) (by kernel_rfl) (fun _ _ _ h => h) (Or.inl ⟨by rfl, ?_⟩) (by assumption) ?_
                        rotate_left
                        · (intro w hSw; (try dsimp only at hSw); go_simp; try with_reducible rfl)
                        try simp only [Act.put, List.setIfInBounds_toArray, List.set_cons_zero, List.set_cons_succ]
                        refine wpAnyH_take (i := 20) (oi := { dst := some 10, op := Op.assign (Operand.tmp 271), type := 4, pos := "law.go:159", after := #[{ on := 19, ground := Ground.data }, { on := 18, ground := Ground.chain }, { on := 0, ground := Ground.phase }, { on := 1, ground := Ground.phase }, { on := 2, ground := Ground.phase }, { on := 3, ground := Ground.phase }, { on := 4, ground := Ground.phase }, { on := 5, ground := Ground.phase }, { on := 6, ground := Ground.phase }, { on := 7, ground := Ground.phase }, { on := 8, ground := Ground.phase }, { on := 9, ground := Ground.phase }, { on := 10, ground := Ground.phase }, { on := 11, ground := Ground.phase }, { on := 12, ground := Ground.phase }, { on := 13, ground := Ground.phase }, { on := 14, ground := Ground.phase }, { on := 15, ground := Ground.phase }, { on := 16, ground := Ground.phase }, { on := 17, ground := Ground.phase }, { on := 18, ground := Ground.phase }, { on := 19, ground := Ground.phase }], guard := none }) (v := ?_) rfl (by kernel_rfl) (by kernel_rfl) (by kernel_rfl) (fun _ _ _ h => h) (Or.inl ⟨by rfl, ?_⟩) (by assumption) ?_
                        rotate_left
                        · (intro w hSw; (try dsimp only at hSw); go_simp; try with_reducible rfl)
                        try simp only [Act.put, List.setIfInBounds_toArray, List.set_cons_zero, List.set_cons_succ]
                        refine wpAnyH_done (by kernel_rfl) ?_ _
                        refine NoPanic.normal ?_
                        have BZ := Lib.hid (LWz.out _ hH)
                        clear S0 hH LWz HNz la lb CFrz CSSz CAWz q0 q1 q2 q3 q4 q5 q6 q7 s0 s1 s2 s3 s4 s5 s6 s7
                        go_wp2_with fail
                        go_ret
                        exact ⟨rfl, BZ.out⟩
                    · skip
                      have hjg : jg < xs.length := (List.getElem?_eq_some_iff.1 hXg).1
                      have hmg := HALL.out Xg (xs_mem HSR.out.1 HLN.out.2 HSR.out.2.2 (List.mem_of_getElem? hXg))
                      have hsg : sz Y ≤ 600 := by rw [hY]; cases Xg; exact hmg
                      have HOg := Lib.hid Og
                      have HXg := Lib.hid hXg
                      have HYg := Lib.hid hY
                      have g00 : decide ((jg : Int) < 0) = false := by simp; try omega
                      have g01 : decide ((0 : Int) ≤ (jg : Int)) = true := by simp; try omega
                      have jg0 : (0 : Int) ≤ jg := by omega
                      clear Og hXg hY hmg
                      have K4 := Lib.hid (b4.alloc (by have := b4.size; exact this) (.cells #[.int .i64 Y.k, .int .i64 Y.i, .string Y.s, .slice oLg Y.l.length cLg, .slice oKg Y.ks.length cKg, .int .i64 Y.tk, .int .i64 Y.to, .bool Y.x] 27))
                      have X19 := Lib.hid (heap_alloc_new w4 (.cells #[.int .i64 Y.k, .int .i64 Y.i, .string Y.s, .slice oLg Y.l.length cLg, .slice oKg Y.ks.length cKg, .int .i64 Y.tk, .int .i64 Y.to, .bool Y.x] 27))
                      have Z19 : Hid (w4.heap.size < (w4.alloc (.cells #[.int .i64 Y.k, .int .i64 Y.i, .string Y.s, .slice oLg Y.l.length cLg, .slice oKg Y.ks.length cKg, .int .i64 Y.tk, .int .i64 Y.to, .bool Y.x] 27)).heap.size) := by simp [Hid]
                      have K45 : Hid (Below w4.heap.size w4 (w4.alloc (.cells #[.int .i64 Y.k, .int .i64 Y.i, .string Y.s, .slice oLg Y.l.length cLg, .slice oKg Y.ks.length cKg, .int .i64 Y.tk, .int .i64 Y.to, .bool Y.x] 27))) := (Below.refl _ _).alloc (Nat.le_refl _) _
                      have HA := Lib.hid hA
                      clear b4 hA
                      go_upto_region 31 with fail
                      generalize w4.alloc _ = w5 at *
                      obtain ⟨p0, p1, p2, p3, p4, p5, p6, p7⟩ := cells8 (show w5.heap[w1.heap.size]? = some (.cells #[.int .i64 5, .int .i64 0, .string ⟨#[]⟩, .slice o5 xs.length cap5, .slice oK5 rs.length capK5, .int .i64 0, .int .i64 0, .bool sec] 27 (0, 0)) from WM2.out.keep K4.out Z7.out)
                      have CF := Lib.hid (find_any (n := w1.heap.size) (V := mpv xs rs sec) (w := w5) key rfl HLN.out.2.symm ((HMO.out sec).kept (K7.out.trans (K4.out.mono (by have := Z7.out; omega)))).lies (by have := Z7.out; have := K4.out.size; omega))
                      go_wp2_with fail
                      refine CF.out.mono ?_
                      rintro e w6 ⟨⟨r, rfl, hA2⟩, b6⟩
                      obtain rfl := At.uniq hA2 HA.out
                      have K6b := Lib.hid (K4.out.trans (b6.mono K4.out.size))
                      have K56 := Lib.hid b6
                      clear b6 hA2 CF p0 p1 p2 p3 p4 p5 p6 p7
                      obtain ⟨p0, p1, p2, p3, p4, p5, p6, p7⟩ := cells8 (show w6.heap[w1.heap.size]? = some (.cells #[.int .i64 5, .int .i64 0, .string ⟨#[]⟩, .slice o5 xs.length cap5, .slice oK5 rs.length capK5, .int .i64 0, .int .i64 0, .bool sec] 27 (0, 0)) from WM2.out.keep K6b.out Z7.out)
                      obtain ⟨q0, q1, q2, q3, q4, q5, q6, q7⟩ := cells8 ((K56.out.block _ Z19.out).trans X19.out)
                      have BW := Lib.hid (B7.out.trans (K6b.out.mono (by have := B7.out.size; exact this)))
                      go_upto_region 32 with fail
                      obtain ⟨Np, hNp⟩ : ∃ N, N = w6.heap.size := ⟨_, rfl⟩
                      have S0 := held_at hNp
                      have la : w1.heap.size < Np := by have := Z7.out; have := K6b.out.size; omega
                      have lb : w4.heap.size < Np := by have := Z19.out; have := K56.out.size; omega
                      have HNp := Lib.hid hNp
                      clear hNp
                      have LWp : Hid (∀ W, ((∀ b o, b < Np → W.cell? ⟨b, o, none⟩ = w6.cell? ⟨b, o, none⟩) ∧ Hid (Below Np w6 W) ∧ Hid (Np ≤ W.heap.size)) → Below w.heap.size w W) := fun W h => BW.out.trans (h.2.1.out.mono (by rw [HNp.out]; exact BW.out.size))
                      have CFrp : Hid (∀ W, ((∀ b o, b < Np → W.cell? ⟨b, o, none⟩ = w6.cell? ⟨b, o, none⟩) ∧ Hid (Below Np w6 W) ∧ Hid (Np ≤ W.heap.size)) → Calls Try.prog 34 #[vv 5 0 ⟨#[]⟩ (.slice o5 xs.length cap5) (.slice oK5 rs.length capK5) 0 0 sec, .int .i64 (jg : Int)] W (FrPost w1.heap.size Y W)) := fun W h => by rw [HYg.out]; exact from_any (V := mpv xs rs sec) HXg.out ((HMO.out sec).kept (K7.out.trans ((K6b.out.trans (h.2.1.out.mono (by have := HNp.out; have := K6b.out.size; omega))).mono (by have := Z7.out; omega)))).lies (by have := h.2.2.out; have := HNp.out; have := K6b.out.size; have := Z7.out; omega)
                      have CSSp : Hid (∀ W, ((∀ b o, b < Np → W.cell? ⟨b, o, none⟩ = w6.cell? ⟨b, o, none⟩) ∧ Hid (Below Np w6 W) ∧ Hid (Np ≤ W.heap.size)) → ∀ (W1 : World) (oLf oKf : Option Addr) (cLf cKf : Nat) (cf : Nat → Nat → Value), Opn w1.heap.size W1 Y oLf oKf cLf cKf cf → Below W1.heap.size W1 W → w1.heap.size ≤ W1.heap.size → Calls Try.prog 23 #[vv Y.k Y.i Y.s (.slice oLg Y.l.length cLg) (.slice oKg Y.ks.length cKg) Y.tk Y.to Y.x, vv Y.k Y.i Y.s (.slice oLf Y.l.length cLf) (.slice oKf Y.ks.length cKf) Y.tk Y.to Y.x, .bool true] W fun e w' => e = .returned (.bool true) ∧ Below W.heap.size W w') := fun W h => fun W1 oLf oKf cLf cKf cf hO hB hW => rsame_any 60000 (Nat.le_refl _) w6.heap.size Y _ _ W (by omega) (HOg.out.lies.keptP (P' := fun b => b < w6.heap.size) (w' := W) fun k hk => ⟨by have := hk.2; have := Z19.out; have := K56.out.size; omega, (h.2.1.out.block k (by have := hk.2; have := Z19.out; have := K56.out.size; have := HNp.out; omega)).trans ((K56.out.block k (by have := hk.2; have := Z19.out; omega)).trans (K45.out.block k hk.2))⟩) (((hO.kept (hB.mono hW)).lies).mono fun b hb => by have := K6b.out.size; have := Z7.out; omega) (by have := h.2.2.out; have := HNp.out; omega)
                      refine wp_region_noPanic ?_
                      refine wp_region_held_drew (S := (fun W => (∀ b o, b < Np → W.cell? ⟨b, o, none⟩ = w6.cell? ⟨b, o, none⟩) ∧ Hid (Below Np w6 W) ∧ Hid (Np ≤ W.heap.size))) (by kernel_rfl) ?_ (fun hH => ?_)
                      · exact S0
                      refine wpAnyH_take (i := 0) (oi := { dst := some 184, op := Op.move (Operand.tmp 21), type := 3, pos := "law.go:148", after := #[], guard := none }) (v := ?_) rfl (by kernel_rfl) (by kernel_rfl) (by kernel_rfl) (fun _ _ _ h => h) (Or.inl ⟨by rfl, ?_⟩) (by assumption) ?_
                      rotate_left
                      · (intro w hSw; (try dsimp only at hSw); go_simp; try with_reducible rfl)
                      try simp only [Act.put, List.setIfInBounds_toArray, List.set_cons_zero, List.set_cons_succ]
                      refine wpAnyH_take (i := 1) (oi := { dst := some 185, op := Op.binOp BinOp.lss 3 (Operand.tmp 184) (Operand.const (Value.int IntKind.i64 0)) 3, type := 4, pos := "law.go:148", after := #[{ on := 0, ground := Ground.data }], guard := none }) (v := ?_) rfl (by kernel_rfl) (by kernel_rfl) (by kernel_rfl) (fun _ _ _ h => h) (Or.inl ⟨by rfl, ?_⟩) (by assumption) ?_
                      rotate_left
                      · (intro w hSw; (try dsimp only at hSw); go_simp; try with_reducible rfl)
                      try simp only [Act.put, List.setIfInBounds_toArray, List.set_cons_zero, List.set_cons_succ]
                      refine wpAnyH_take (i := 2) (oi := { dst := some 186, op := Op.move (Operand.tmp 185), type := 4, pos := "law.go:148", after := #[{ on := 1, ground := Ground.data }], guard := none }) (v := ?_) rfl (by kernel_rfl) (by kernel_rfl) (by kernel_rfl) (fun _ _ _ h => h) (Or.inl ⟨by rfl, ?_⟩) (by assumption) ?_
                      rotate_left
                      · (intro w hSw; (try dsimp only at hSw); go_simp; try with_reducible rfl)
                      try simp only [Act.put, List.setIfInBounds_toArray, List.set_cons_zero, List.set_cons_succ]
                      refine wpAnyH_take (i := 3) (oi := { dst := some 187, op := Op.move (Operand.tmp 20), type := 30, pos := "law.go:148", after := #[{ on := 2, ground := Ground.guard }], guard := some (2, true) }) (v := undef) rfl (by kernel_rfl) (by kernel_rfl) (by kernel_rfl) (fun _ _ _ h => h) (Or.inr ⟨by rfl, rfl⟩) (by assumption) ?_
                      try simp only [Act.put, List.setIfInBounds_toArray, List.set_cons_zero, List.set_cons_succ]
                      refine wpAnyH_take (i := 4) (oi := { dst := some 188, op := Op.binOp BinOp.neq 30 (Operand.tmp 187) (Operand.const (Value.int IntKind.i64 11)) 30, type := 4, pos := "law.go:148", after := #[{ on := 3, ground := Ground.data }, { on := 2, ground := Ground.guard }], guard := some (2, true) }) (v := undef) rfl (by kernel_rfl) (by kernel_rfl) (by kernel_rfl) (fun _ _ _ h => h) (Or.inr ⟨by rfl, rfl⟩) (by assumption) ?_
                      try simp only [Act.put, List.setIfInBounds_toArray, List.set_cons_zero, List.set_cons_succ]
                      refine wpAnyH_take (i := 5) (oi := { dst := some 189, op := Op.move (Operand.tmp 188), type := 4, pos := "law.go:148", after := #[{ on := 4, ground := Ground.data }, { on := 2, ground := Ground.chain }, { on := 2, ground := Ground.guard }], guard := some (2, true) }) (v := undef) rfl (by kernel_rfl) (by kernel_rfl) (by kernel_rfl) (fun _ _ _ h => h) (Or.inr ⟨by rfl, rfl⟩) (by assumption) ?_
                      try simp only [Act.put, List.setIfInBounds_toArray, List.set_cons_zero, List.set_cons_succ]
                      refine wpAnyH_take (i := 6) (oi := { dst := some 190, op := Op.load 27 (Operand.tmp 19), type := 27, pos := "law.go:148", after := #[{ on := 5, ground := Ground.guard }], guard := some (5, false) }) (v := undef) rfl (by kernel_rfl) (by kernel_rfl) (by kernel_rfl) (fun _ _ _ h => h) (Or.inr ⟨by rfl, rfl⟩) (by assumption) ?_
                      try simp only [Act.put, List.setIfInBounds_toArray, List.set_cons_zero, List.set_cons_succ]
                      refine wpAnyH_take (i := 7) (oi := { dst := some 191, op := Op.build 27 #[], type := 27, pos := "law.go:148", after := #[{ on := 5, ground := Ground.guard }], guard := some (5, false) }) (v := undef) rfl (by kernel_rfl) (by kernel_rfl) (by kernel_rfl) (fun _ _ _ h => h) (Or.inr ⟨by rfl, rfl⟩) (by assumption) ?_
                      try simp only [Act.put, List.setIfInBounds_toArray, List.set_cons_zero, List.set_cons_succ]
                      refine wpAnyH_take (i := 8) (oi := { dst := some 192, op := Op.call { callee := Callee.value (Operand.func 23), args := #[Operand.tmp 190, Operand.tmp 191, Operand.const (Value.bool true)], argTypes := #[27, 27, 4] }, type := 4, pos := "law.go:148", after := #[{ on := 6, ground := Ground.data }, { on := 7, ground := Ground.data }, { on := 5, ground := Ground.chain }, { on := 5, ground := Ground.guard }], guard := some (5, false) }) (v := undef) rfl (by kernel_rfl) (by kernel_rfl) (by kernel_rfl) (fun _ _ _ h => h) (Or.inr ⟨by rfl, rfl⟩) (by assumption) ?_
                      try simp only [Act.put, List.setIfInBounds_toArray, List.set_cons_zero, List.set_cons_succ]
                      refine wpAnyH_take (i := 9) (oi := { dst := some 193, op := Op.unOp UnOp.not 4 (Operand.tmp 192), type := 4, pos := "law.go:148", after := #[{ on := 8, ground := Ground.data }, { on := 5, ground := Ground.guard }], guard := some (5, false) }) (v := undef) rfl (by kernel_rfl) (by kernel_rfl) (by kernel_rfl) (fun _ _ _ h => h) (Or.inr ⟨by rfl, rfl⟩) (by assumption) ?_
                      try simp only [Act.put, List.setIfInBounds_toArray, List.set_cons_zero, List.set_cons_succ]
                      refine wpAnyH_take (i := 10) (oi := { dst := some 194, op := Op.pick (Operand.tmp 189) (Operand.const (Value.bool true)) (Operand.tmp 193), type := 4, pos := "law.go:148", after := #[{ on := 5, ground := Ground.data }, { on := 9, ground := Ground.data }, { on := 2, ground := Ground.guard }], guard := some (2, true) }) (v := undef) rfl (by kernel_rfl) (by kernel_rfl) (by kernel_rfl) (fun _ _ _ h => h) (Or.inr ⟨by rfl, rfl⟩) (by assumption) ?_
                      try simp only [Act.put, List.setIfInBounds_toArray, List.set_cons_zero, List.set_cons_succ]
                      refine wpAnyH_take (i := 11) (oi := { dst := some 195, op := Op.pick (Operand.tmp 186) (Operand.tmp 194) (Operand.const (Value.bool false)), type := 4, pos := "law.go:148", after := #[{ on := 2, ground := Ground.data }, { on := 10, ground := Ground.data }], guard := none }) (v := ?_) rfl (by kernel_rfl) (by kernel_rfl) (by kernel_rfl) (fun _ _ _ h => h) (Or.inl ⟨by rfl, ?_⟩) (by assumption) ?_
                      rotate_left
                      · (intro w hSw; (try dsimp only at hSw); go_simp; try with_reducible rfl)
                      try simp only [Act.put, List.setIfInBounds_toArray, List.set_cons_zero, List.set_cons_succ]
                      refine wpAnyH_take (i := 12) (oi := { dst := some 196, op := Op.move (Operand.tmp 195), type := 4, pos := "law.go:148", after := #[{ on := 11, ground := Ground.data }, { on := 8, ground := Ground.chain }], guard := none }) (v := ?_) rfl (by kernel_rfl) (by kernel_rfl) (by kernel_rfl) (fun _ _ _ h => h) (Or.inl ⟨by rfl, ?_⟩) (by assumption) ?_
                      rotate_left
                      · (intro w hSw; (try dsimp only at hSw); go_simp; try with_reducible rfl)
                      try simp only [Act.put, List.setIfInBounds_toArray, List.set_cons_zero, List.set_cons_succ]
                      refine wpAnyH_take (i := 13) (oi := { dst := some 197, op := Op.move (Operand.tmp 21), type := 3, pos := "law.go:148", after := #[{ on := 12, ground := Ground.guard }], guard := some (12, false) }) (v := ?_) rfl (by kernel_rfl) (by kernel_rfl) (by kernel_rfl) (fun _ _ _ h => h) (Or.inl ⟨by rfl, ?_⟩) (by assumption) ?_
                      rotate_left
                      · (intro w hSw; (try dsimp only at hSw); go_simp; try with_reducible rfl)
                      try simp only [Act.put, List.setIfInBounds_toArray, List.set_cons_zero, List.set_cons_succ]
                      refine wpAnyH_take (i := 14) (oi := { dst := some 198, op := Op.binOp BinOp.geq 3 (Operand.tmp 197) (Operand.const (Value.int IntKind.i64 0)) 3, type := 4, pos := "law.go:148", after := #[{ on := 13, ground := Ground.data }, { on := 12, ground := Ground.guard }], guard := some (12, false) }) (v := ?_) rfl (by kernel_rfl) (by kernel_rfl) (by kernel_rfl) (fun _ _ _ h => h) (Or.inl ⟨by rfl, ?_⟩) (by assumption) ?_
                      rotate_left
                      · (intro w hSw; (try dsimp only at hSw); go_simp; try with_reducible rfl)
                      try simp only [Act.put, List.setIfInBounds_toArray, List.set_cons_zero, List.set_cons_succ]
                      refine wpAnyH_take (i := 15) (oi := { dst := some 199, op := Op.move (Operand.tmp 198), type := 4, pos := "law.go:148", after := #[{ on := 14, ground := Ground.data }, { on := 12, ground := Ground.chain }, { on := 12, ground := Ground.guard }], guard := some (12, false) }) (v := ?_) rfl (by kernel_rfl) (by kernel_rfl) (by kernel_rfl) (fun _ _ _ h => h) (Or.inl ⟨by rfl, ?_⟩) (by assumption) ?_
                      rotate_left
                      · (intro w hSw; (try dsimp only at hSw); go_simp; try with_reducible rfl)
                      try simp only [Act.put, List.setIfInBounds_toArray, List.set_cons_zero, List.set_cons_succ]
                      refine wpAnyH_take (i := 16) (oi := { dst := some 200, op := Op.move (Operand.tmp 20), type := 30, pos := "law.go:148", after := #[{ on := 15, ground := Ground.guard }], guard := some (15, true) }) (v := ?_) rfl (by kernel_rfl) (by kernel_rfl) (by kernel_rfl) (fun _ _ _ h => h) (Or.inl ⟨by rfl, ?_⟩) (by assumption) ?_
                      rotate_left
                      · (intro w hSw; (try dsimp only at hSw); go_simp; try with_reducible rfl)
                      try simp only [Act.put, List.setIfInBounds_toArray, List.set_cons_zero, List.set_cons_succ]
                      refine wpAnyH_take (i := 17) (oi := { dst := some 201, op := Op.binOp BinOp.neq 30 (Operand.tmp 200) (Operand.const (Value.int IntKind.i64 0)) 30, type := 4, pos := "law.go:148", after := #[{ on := 16, ground := Ground.data }, { on := 15, ground := Ground.guard }], guard := some (15, true) }) (v := ?_) rfl (by kernel_rfl) (by kernel_rfl) (by kernel_rfl) (fun _ _ _ h => h) (Or.inl ⟨by rfl, ?_⟩) (by assumption) ?_
                      rotate_left
                      · (intro w hSw; (try dsimp only at hSw); go_simp; try with_reducible rfl)
                      try simp only [Act.put, List.setIfInBounds_toArray, List.set_cons_zero, List.set_cons_succ]
                      refine wpAnyH_take (i := 18) (oi := { dst := some 202, op := Op.move (Operand.tmp 201), type := 4, pos := "law.go:148", after := #[{ on := 17, ground := Ground.data }, { on := 15, ground := Ground.chain }, { on := 15, ground := Ground.guard }], guard := some (15, true) }) (v := ?_) rfl (by kernel_rfl) (by kernel_rfl) (by kernel_rfl) (fun _ _ _ h => h) (Or.inl ⟨by rfl, ?_⟩) (by assumption) ?_
                      rotate_left
                      · (intro w hSw; (try dsimp only at hSw); go_simp; try with_reducible rfl)
                      try simp only [Act.put, List.setIfInBounds_toArray, List.set_cons_zero, List.set_cons_succ]
                      refine wpAnyH_take (i := 19) (oi := { dst := some 203, op := Op.load 27 (Operand.tmp 19), type := 27, pos := "law.go:148", after := #[{ on := 18, ground := Ground.guard }], guard := some (18, false) }) (v := ?_) rfl (by kernel_rfl) (by kernel_rfl) (by kernel_rfl) (fun _ _ _ h => h) (Or.inl ⟨by rfl, ?_⟩) (by assumption) ?_
                      rotate_left
                      · (intro w hSw; (try dsimp only at hSw); go_simp; try with_reducible rfl)
                      try simp only [Act.put, List.setIfInBounds_toArray, List.set_cons_zero, List.set_cons_succ]
                      refine wpAnyH_take (i := 20) (oi := { dst := some 204, op := Op.load 27 (Operand.tmp 12), type := 27, pos := "law.go:148", after := #[{ on := 18, ground := Ground.guard }], guard := some (18, false) }) (v := ?_) rfl (by kernel_rfl) (by kernel_rfl) (by kernel_rfl) (fun _ _ _ h => h) (Or.inl ⟨by rfl, ?_⟩) (by assumption) ?_
                      rotate_left
                      · (intro w hSw; (try dsimp only at hSw); go_simp; try with_reducible rfl)
                      try simp only [Act.put, List.setIfInBounds_toArray, List.set_cons_zero, List.set_cons_succ]
                      refine wpAnyH_take (i := 21) (oi := { dst := some 205, op := Op.move (Operand.tmp 21), type := 3, pos := "law.go:148", after := #[{ on := 18, ground := Ground.guard }], guard := some (18, false) }) (v := ?_) rfl (by kernel_rfl) (by kernel_rfl) (by kernel_rfl) (fun _ _ _ h => h) (Or.inl ⟨by rfl, ?_⟩) (by assumption) ?_
                      rotate_left
                      · (intro w hSw; (try dsimp only at hSw); go_simp; try with_reducible rfl)
                      try simp only [Act.put, List.setIfInBounds_toArray, List.set_cons_zero, List.set_cons_succ]
                      refine wpAnyH_ready (rs := [22]) (by kernel_rfl) (by simp) ?_
                      refine AllReadyH.cons (o := { dst := some 206, op := Op.call { callee := Callee.value (Operand.func 34), args := #[Operand.tmp 204, Operand.tmp 205], argTypes := #[27, 3] }, type := 27, pos := "law.go:148", after := #[{ on := 20, ground := Ground.data }, { on := 21, ground := Ground.data }, { on := 18, ground := Ground.chain }, { on := 18, ground := Ground.guard }], guard := some (18, false) }) rfl (fun K hK => ?_) AllReadyH.nil
                      go_simp
                      refine (CFrp.out _ hH).mono ?_
                      rintro e W_0 ⟨oLf, oKf, cLf, cKf, cf, rfl, Of, b⟩
                      refine hK.out _ _ ?_ (fun hH' => ?_)
                      · exact held_next (by assumption) hH
                      have OF := Lib.hid Of
                      clear Of
                      clear hK K hH
                      have hH := hH'
                      clear hH'
                      try simp only [Act.put, List.setIfInBounds_toArray, List.set_cons_zero, List.set_cons_succ]
                      refine wpAnyH_ready (rs := [23]) (by kernel_rfl) (by simp) ?_
                      refine AllReadyH.cons (o := { dst := some 207, op := Op.call { callee := Callee.value (Operand.func 23), args := #[Operand.tmp 203, Operand.tmp 206, Operand.const (Value.bool true)], argTypes := #[27, 27, 4] }, type := 4, pos := "law.go:148", after := #[{ on := 19, ground := Ground.data }, { on := 22, ground := Ground.data }, { on := 22, ground := Ground.chain }, { on := 18, ground := Ground.guard }], guard := some (18, false) }) rfl (fun K hK => ?_) AllReadyH.nil
                      go_simp
                      refine (CSSp.out _ hH W_0 _ _ _ _ _ OF.out (Below.refl _ _) (by have := hH.2.2.out; have := HNp.out; have := K6b.out.size; have := Z7.out; omega)).mono ?_
                      rintro e W_1 ⟨rfl, b⟩
                      refine hK.out _ _ ?_ (fun hH' => ?_)
                      · exact held_next (by assumption) hH
                      clear hK K hH
                      have hH := hH'
                      clear hH'
                      try simp only [Act.put, List.setIfInBounds_toArray, List.set_cons_zero, List.set_cons_succ]
                      refine wpAnyH_take (i := 24) (oi := { dst := some 208, op := Op.unOp UnOp.not 4 (Operand.tmp 207), type := 4, pos := "law.go:148", after := #[{ on := 23, ground := Ground.data }, { on := 18, ground := Ground.guard }], guard := some (18, false) }) (v := ?_) rfl (by kernel_rfl) (by kernel_rfl) (by kernel_rfl) (fun _ _ _ h => h) (Or.inl ⟨by rfl, ?_⟩) (by assumption) ?_
                      rotate_left
                      · (intro w hSw; (try dsimp only at hSw); go_simp; try with_reducible rfl)
                      try simp only [Act.put, List.setIfInBounds_toArray, List.set_cons_zero, List.set_cons_succ]
                      refine wpAnyH_take (i := 25) (oi := { dst := some 209, op := Op.pick (Operand.tmp 202) (Operand.const (Value.bool true)) (Operand.tmp 208), type := 4, pos := "law.go:148", after := #[{ on := 18, ground := Ground.data }, { on := 24, ground := Ground.data }, { on := 15, ground := Ground.guard }], guard := some (15, true) }) (v := ?_) rfl (by kernel_rfl) (by kernel_rfl) (by kernel_rfl) (fun _ _ _ h => h) (Or.inl ⟨by rfl, ?_⟩) (by assumption) ?_
                      rotate_left
                      · (intro w hSw; (try dsimp only at hSw); go_simp; try with_reducible rfl)
                      try simp only [Act.put, List.setIfInBounds_toArray, List.set_cons_zero, List.set_cons_succ]
                      refine wpAnyH_take (i := 26) (oi := { dst := some 210, op := Op.pick (Operand.tmp 199) (Operand.tmp 209) (Operand.const (Value.bool false)), type := 4, pos := "law.go:148", after := #[{ on := 15, ground := Ground.data }, { on := 25, ground := Ground.data }, { on := 12, ground := Ground.guard }], guard := some (12, false) }) (v := ?_) rfl (by kernel_rfl) (by kernel_rfl) (by kernel_rfl) (fun _ _ _ h => h) (Or.inl ⟨by rfl, ?_⟩) (by assumption) ?_
                      rotate_left
                      · (intro w hSw; (try dsimp only at hSw); go_simp; try with_reducible rfl)
                      try simp only [Act.put, List.setIfInBounds_toArray, List.set_cons_zero, List.set_cons_succ]
                      refine wpAnyH_take (i := 27) (oi := { dst := some 211, op := Op.pick (Operand.tmp 196) (Operand.const (Value.bool true)) (Operand.tmp 210), type := 4, pos := "law.go:148", after := #[{ on := 12, ground := Ground.data }, { on := 26, ground := Ground.data }], guard := none }) (v := ?_) rfl (by kernel_rfl) (by kernel_rfl) (by kernel_rfl) (fun _ _ _ h => h) (Or.inl ⟨by rfl, ?_⟩) (by assumption) ?_
                      rotate_left
                      · (intro w hSw; (try dsimp only at hSw); go_simp; try with_reducible rfl)
                      try simp only [Act.put, List.setIfInBounds_toArray, List.set_cons_zero, List.set_cons_succ]
                      refine wpAnyH_done (by kernel_rfl) ?_ _
                      refine NoPanic.normal ?_
                      have B9 := Lib.hid (LWp.out _ hH)
                      have HH7 := Lib.hid hH.2.1.out
                      have HN8 := HNp
                      clear S0 hH LWp HNp la lb CFrp CSSp p0 p1 p2 p3 p4 p5 p6 p7 q0 q1 q2 q3 q4 q5 q6 q7 OF b g00 g01 jg0
                      have KT := Lib.hid (K6b.out.trans (HH7.out.mono (by have := HN8.out; have := K6b.out.size; omega)))
                      generalize W_1 = w7 at *
                      obtain ⟨Ls, hLs⟩ : ∃ Ls, Ls = lst l := ⟨_, rfl⟩
                      have CL := list_any (n := n) (l := l) (by omega) (HF.out.2.1.below (B9.out.mono hn)) (fun j x hx => (HF.out.2.2.1 j x hx).kept (B9.out.mono hn)) (by have := B9.out.size; omega)
                      rw [← hLs] at CL
                      have HCL := Lib.hid CL
                      have HLs := Lib.hid hLs
                      clear CL hLs
                      go_wp2_with fail
                      refine HCL.out.mono ?_
                      rintro e w8 ⟨o8, oK8, c8a, c8b, c8c, rfl, O8, _, _, b8⟩
                      have K8 := Lib.hid (KT.out.trans (b8.mono KT.out.size))
                      have X22 := Lib.hid (heap_alloc_new w8 (.cells #[.int .i64 Ls.k, .int .i64 Ls.i, .string Ls.s, .slice o8 Ls.l.length c8a, .slice oK8 Ls.ks.length c8b, .int .i64 Ls.tk, .int .i64 Ls.to, .bool sec] 27))
                      have Z22 : Hid (w8.heap.size < (w8.alloc (.cells #[.int .i64 Ls.k, .int .i64 Ls.i, .string Ls.s, .slice o8 Ls.l.length c8a, .slice oK8 Ls.ks.length c8b, .int .i64 Ls.tk, .int .i64 Ls.to, .bool sec] 27)).heap.size) := by simp [Hid]
                      have K89 : Hid (Below w8.heap.size w8 (w8.alloc (.cells #[.int .i64 Ls.k, .int .i64 Ls.i, .string Ls.s, .slice o8 Ls.l.length c8a, .slice oK8 Ls.ks.length c8b, .int .i64 Ls.tk, .int .i64 Ls.to, .bool sec] 27))) := (Below.refl _ _).alloc (Nat.le_refl _) _
                      have K9 := Lib.hid (K8.out.alloc K8.out.size (.cells #[.int .i64 Ls.k, .int .i64 Ls.i, .string Ls.s, .slice o8 Ls.l.length c8a, .slice oK8 Ls.ks.length c8b, .int .i64 Ls.tk, .int .i64 Ls.to, .bool sec] 27))
                      have HO8 := Lib.hid (O8.sx sec)
                      clear b8 O8 HCL
                      go_upto_region 36 with fail
                      generalize w8.alloc _ = w9 at *
                      obtain ⟨s0, s1, s2, s3, s4, s5, s6, s7⟩ := cells8 X22.out
                      have HL9 : Hid (∀ W, Below w9.heap.size w9 W → Lies w8.heap.size W ((lst l).sx sec) (vv Ls.k Ls.i Ls.s (.slice o8 Ls.l.length c8a) (.slice oK8 Ls.ks.length c8b) Ls.tk Ls.to sec)) := fun W b => by rw [← HLs.out]; exact HO8.out.lies.keptP fun k hk => ⟨hk.2, (b.block k (by have := hk.2; have := Z22.out; omega)).trans (K89.out.block k hk.2)⟩
                      have CA := Lib.hid (at_list (n := w8.heap.size) (w := w9) (l := l) (y := sec) i hz (HL9.out w9 (Below.refl _ _)) (by have := Z22.out; omega))
                      go_wp2_with fail
                      refine CA.out.mono ?_
                      rintro e w10 hp
                      clear CA s0 s1 s2 s3 s4 s5 s6 s7
                      have B10 : ∀ (b : Below w9.heap.size w9 w10), Below w.heap.size w w10 := fun b => B7.out.trans ((K9.out.trans (b.mono K9.out.size)).mono B7.out.size)
                      rcases hp with ⟨hio, rfl, b10⟩ | ⟨ji, Xi, Yi, rfl, hXi, hYi, oLi, oKi, cLi, cKi, ci, rfl, Oi, b10⟩
                      · have BX := Lib.hid ((B10 b10).alloc (by have := (B10 b10).size; exact this) (.cells zc 27))
                        clear b10 B10
                        by_cases h0 : i < 0
                        · have g0 : decide (i < 0) = true := by simpa using h0
                          clear hio
                          go_wp2_with fail
                          refine (same_nil _).mono ?_
                          rintro e w12 ⟨rfl, b12⟩
                          have BY := Lib.hid (BX.out.trans (b12.mono BX.out.size))
                          clear b12
                          go_wp2_with fail
                          refine (awake_any _).mono ?_
                          rintro e wz ⟨rfl, bz⟩
                          have BZ := Lib.hid (BY.out.trans (bz.mono BY.out.size))
                          clear bz
                          go_wp2_with fail
                          go_ret
                          exact ⟨rfl, BZ.out⟩
                        · have g0 : decide (i < 0) = false := by simpa using h0
                          have g1 : decide ((l.length : Int) ≤ i) = true := by simp; omega
                          clear hio
                          go_wp2_with fail
                          refine (same_nil _).mono ?_
                          rintro e w12 ⟨rfl, b12⟩
                          have BY := Lib.hid (BX.out.trans (b12.mono BX.out.size))
                          clear b12
                          go_wp2_with fail
                          refine (awake_any _).mono ?_
                          rintro e wz ⟨rfl, bz⟩
                          have BZ := Lib.hid (BY.out.trans (bz.mono BY.out.size))
                          clear bz
                          go_wp2_with fail
                          go_ret
                          exact ⟨rfl, BZ.out⟩
                      · have hji : ji < l.length := (List.getElem?_eq_some_iff.1 hXi).1
                        have g0 : decide ((ji : Int) < 0) = false := by simp; try omega
                        have g1 : decide ((l.length : Int) ≤ (ji : Int)) = false := by simp; try omega
                        have K10 := Lib.hid b10
                        have X23 := Lib.hid (heap_alloc_new w10 (.cells #[.int .i64 Yi.k, .int .i64 Yi.i, .string Yi.s, .slice oLi Yi.l.length cLi, .slice oKi Yi.ks.length cKi, .int .i64 Yi.tk, .int .i64 Yi.to, .bool Yi.x] 27))
                        have Z23 : Hid (w10.heap.size < (w10.alloc (.cells #[.int .i64 Yi.k, .int .i64 Yi.i, .string Yi.s, .slice oLi Yi.l.length cLi, .slice oKi Yi.ks.length cKi, .int .i64 Yi.tk, .int .i64 Yi.to, .bool Yi.x] 27)).heap.size) := by simp [Hid]
                        have K11 : Hid (Below w10.heap.size w10 (w10.alloc (.cells #[.int .i64 Yi.k, .int .i64 Yi.i, .string Yi.s, .slice oLi Yi.l.length cLi, .slice oKi Yi.ks.length cKi, .int .i64 Yi.tk, .int .i64 Yi.to, .bool Yi.x] 27))) := (Below.refl _ _).alloc (Nat.le_refl _) _
                        have K911 := Lib.hid (b10.alloc (by have := b10.size; exact this) (.cells #[.int .i64 Yi.k, .int .i64 Yi.i, .string Yi.s, .slice oLi Yi.l.length cLi, .slice oKi Yi.ks.length cKi, .int .i64 Yi.tk, .int .i64 Yi.to, .bool Yi.x] 27))
                        have HOi := Lib.hid Oi
                        have hmi := HALL.out Xi (List.mem_of_getElem? hXi)
                        have hsy : sz Yi ≤ 600 := by rw [hYi]; cases Xi; exact hmi
                        have HXi := Lib.hid hXi
                        have HYi := Lib.hid hYi
                        clear b10 B10 Oi hXi hYi hmi
                        go_upto_region 39 with fail
                        generalize w10.alloc _ = w11 at *
                        have K311 := Lib.hid (K9.out.trans (K911.out.mono K9.out.size))
                        obtain ⟨p0, p1, p2, p3, p4, p5, p6, p7⟩ := cells8 (show w11.heap[w1.heap.size]? = some (.cells #[.int .i64 5, .int .i64 0, .string ⟨#[]⟩, .slice o5 xs.length cap5, .slice oK5 rs.length capK5, .int .i64 0, .int .i64 0, .bool sec] 27 (0, 0)) from WM2.out.keep K311.out Z7.out)
                        have CM := Lib.hid (at_map (n := w1.heap.size) (w := w11) (ji : Int) hzx hr40 ((HMO.out sec).kept (K7.out.trans (K311.out.mono (by have := Z7.out; omega)))).lies (by have := Z7.out; have := K311.out.size; omega))
                        go_wp2_with fail
                        refine CM.out.mono ?_
                        rintro e w12 ⟨rfl, b12⟩
                        have K1112 := Lib.hid b12
                        have K1113 := Lib.hid (b12.alloc (by have := b12.size; exact this) (.cells zc 27))
                        clear b12 CM p0 p1 p2 p3 p4 p5 p6 p7
                        go_upto_region 40 with fail
                        generalize w12.alloc _ = w13 at *
                        have K913 := Lib.hid (K911.out.trans (K1113.out.mono K911.out.size))
                        obtain ⟨s0, s1, s2, s3, s4, s5, s6, s7⟩ := cells8 ((K913.out.block _ Z22.out).trans X22.out)
                        have CN := Lib.hid (get_list (n := w8.heap.size) (w := w13) (l := l) (y := sec) key hz (HL9.out w13 K913.out) (by have := Z22.out; have := K913.out.size; omega))
                        go_wp2_with fail
                        refine CN.out.mono ?_
                        rintro e w14 ⟨rfl, b14⟩
                        have K1315 := Lib.hid (b14.alloc (by have := b14.size; exact this) (.cells zc 27))
                        clear b14 CN s0 s1 s2 s3 s4 s5 s6 s7
                        go_upto_region 41 with fail
                        generalize w14.alloc _ = w15 at *
                        have K1115 := Lib.hid (K1113.out.trans (K1315.out.mono K1113.out.size))
                        have K915 := Lib.hid (K913.out.trans (K1315.out.mono K913.out.size))
                        obtain ⟨s0, s1, s2, s3, s4, s5, s6, s7⟩ := cells8 ((K915.out.block _ Z22.out).trans X22.out)
                        obtain ⟨q0, q1, q2, q3, q4, q5, q6, q7⟩ := cells8 ((K1115.out.block _ Z23.out).trans X23.out)
                        have BW := Lib.hid (B7.out.trans ((K9.out.trans (K915.out.mono K9.out.size)).mono B7.out.size))
                        have j0 : (0 : Int) ≤ ji := by omega
                        go_upto_region 41 with fail
                        obtain ⟨Nz, hNz⟩ : ∃ N, N = w15.heap.size := ⟨_, rfl⟩
                        have S0 := held_at hNz
                        have la : w8.heap.size < Nz := by have := Z22.out; have := K915.out.size; omega
                        have lb : w10.heap.size < Nz := by have := Z23.out; have := K1115.out.size; omega
                        have HNz := Lib.hid hNz
                        clear hNz
                        have LWz : Hid (∀ W, ((∀ b o, b < Nz → W.cell? ⟨b, o, none⟩ = w15.cell? ⟨b, o, none⟩) ∧ Hid (Below Nz w15 W) ∧ Hid (Nz ≤ W.heap.size)) → Below w.heap.size w W) := fun W h => BW.out.trans (h.2.1.out.mono (by rw [HNz.out]; exact BW.out.size))
                        have CFrz : Hid (∀ W, ((∀ b o, b < Nz → W.cell? ⟨b, o, none⟩ = w15.cell? ⟨b, o, none⟩) ∧ Hid (Below Nz w15 W) ∧ Hid (Nz ≤ W.heap.size)) → Calls Try.prog 34 #[vv Ls.k Ls.i Ls.s (.slice o8 Ls.l.length c8a) (.slice oK8 Ls.ks.length c8b) Ls.tk Ls.to sec, .int .i64 (ji : Int)] W (FrPost w8.heap.size Yi W)) := fun W h => by rw [HYi.out]; exact from_any (V := (lst l).sx sec) HXi.out (HL9.out W (K915.out.trans (h.2.1.out.mono (by have := HNz.out; have := K915.out.size; omega)))) (by have := h.2.2.out; have := HNz.out; have := K915.out.size; have := Z22.out; omega)
                        have CSSz : Hid (∀ W, ((∀ b o, b < Nz → W.cell? ⟨b, o, none⟩ = w15.cell? ⟨b, o, none⟩) ∧ Hid (Below Nz w15 W) ∧ Hid (Nz ≤ W.heap.size)) → ∀ (W1 : World) (oLf oKf : Option Addr) (cLf cKf : Nat) (cf : Nat → Nat → Value), Opn w8.heap.size W1 Yi oLf oKf cLf cKf cf → Below W1.heap.size W1 W → w8.heap.size ≤ W1.heap.size → Calls Try.prog 23 #[vv Yi.k Yi.i Yi.s (.slice oLi Yi.l.length cLi) (.slice oKi Yi.ks.length cKi) Yi.tk Yi.to Yi.x, vv Yi.k Yi.i Yi.s (.slice oLf Yi.l.length cLf) (.slice oKf Yi.ks.length cKf) Yi.tk Yi.to Yi.x, .bool true] W fun e w' => e = .returned (.bool true) ∧ Below W.heap.size W w') := fun W h => fun W1 oLf oKf cLf cKf cf hO hB hW => rsame_any 60000 (Nat.le_refl _) w10.heap.size Yi _ _ W (by omega) (HOi.out.lies.keptP (P' := fun b => b < w10.heap.size) (w' := W) fun k hk => ⟨hk.2, (h.2.1.out.block k (by have := hk.2; have := Z23.out; have := K1115.out.size; have := HNz.out; omega)).trans ((K1115.out.block k (by have := hk.2; have := Z23.out; omega)).trans (K11.out.block k hk.2))⟩) (((hO.kept (hB.mono hW)).lies).mono fun b hb => by have := Z22.out; have := K10.out.size; omega) (by have := h.2.2.out; have := HNz.out; have := K1115.out.size; have := Z23.out; omega)
                        have CAWz : Hid (∀ W, ((∀ b o, b < Nz → W.cell? ⟨b, o, none⟩ = w15.cell? ⟨b, o, none⟩) ∧ Hid (Below Nz w15 W) ∧ Hid (Nz ≤ W.heap.size)) → Calls Try.prog 11 #[] W fun e w' => e = .returned (.bool true) ∧ Below W.heap.size W w') := fun W h => awake_any W
                        refine wp_region_noPanic ?_
                        refine wp_region_held_drew (S := (fun W => (∀ b o, b < Nz → W.cell? ⟨b, o, none⟩ = w15.cell? ⟨b, o, none⟩) ∧ Hid (Below Nz w15 W) ∧ Hid (Nz ≤ W.heap.size))) (by kernel_rfl) ?_ (fun hH => ?_)
                        · exact S0
                        refine wpAnyH_take (i := 0) (oi := { dst := some 252, op := Op.move (Operand.tmp 24), type := 30, pos := "law.go:159", after := #[], guard := none }) (v := ?_) rfl (by kernel_rfl) (by kernel_rfl) (by kernel_rfl) (fun _ _ _ h => h) (Or.inl ⟨by rfl, ?_⟩) (by assumption) ?_
                        rotate_left
                        · (intro w hSw; (try dsimp only at hSw); go_simp; try with_reducible rfl)
                        try simp only [Act.put, List.setIfInBounds_toArray, List.set_cons_zero, List.set_cons_succ]
                        refine wpAnyH_take (i := 1) (oi := { dst := some 253, op := Op.binOp BinOp.eql 30 (Operand.tmp 252) (Operand.const (Value.int IntKind.i64 0)) 30, type := 4, pos := "law.go:159", after := #[{ on := 0, ground := Ground.data }], guard := none }) (v := ?_) rfl (by kernel_rfl) (by kernel_rfl) (by kernel_rfl) (fun _ _ _ h => h) (Or.inl ⟨by rfl, ?_⟩) (by assumption) ?_
                        rotate_left
                        · (intro w hSw; (try dsimp only at hSw); go_simp; try with_reducible rfl)
                        try simp only [Act.put, List.setIfInBounds_toArray, List.set_cons_zero, List.set_cons_succ]
                        refine wpAnyH_take (i := 2) (oi := { dst := some 254, op := Op.move (Operand.tmp 253), type := 4, pos := "law.go:159", after := #[{ on := 1, ground := Ground.data }], guard := none }) (v := ?_) rfl (by kernel_rfl) (by kernel_rfl) (by kernel_rfl) (fun _ _ _ h => h) (Or.inl ⟨by rfl, ?_⟩) (by assumption) ?_
                        rotate_left
                        · (intro w hSw; (try dsimp only at hSw); go_simp; try with_reducible rfl)
                        try simp only [Act.put, List.setIfInBounds_toArray, List.set_cons_zero, List.set_cons_succ]
                        refine wpAnyH_take (i := 3) (oi := { dst := some 255, op := Op.load 27 (Operand.tmp 23), type := 27, pos := "law.go:159", after := #[{ on := 2, ground := Ground.guard }], guard := some (2, true) }) (v := ?_) rfl (by kernel_rfl) (by kernel_rfl) (by kernel_rfl) (fun _ _ _ h => h) (Or.inl ⟨by rfl, ?_⟩) (by assumption) ?_
                        rotate_left
                        · (intro w hSw; (try dsimp only at hSw); go_simp; try with_reducible rfl)
                        try simp only [Act.put, List.setIfInBounds_toArray, List.set_cons_zero, List.set_cons_succ]
                        refine wpAnyH_take (i := 4) (oi := { dst := some 256, op := Op.load 27 (Operand.tmp 22), type := 27, pos := "law.go:159", after := #[{ on := 2, ground := Ground.guard }], guard := some (2, true) }) (v := ?_) rfl (by kernel_rfl) (by kernel_rfl) (by kernel_rfl) (fun _ _ _ h => h) (Or.inl ⟨by rfl, ?_⟩) (by assumption) ?_
                        rotate_left
                        · (intro w hSw; (try dsimp only at hSw); go_simp; try with_reducible rfl)
                        try simp only [Act.put, List.setIfInBounds_toArray, List.set_cons_zero, List.set_cons_succ]
                        refine wpAnyH_take (i := 5) (oi := { dst := some 257, op := Op.move (Operand.tmp 3), type := 2, pos := "law.go:159", after := #[{ on := 2, ground := Ground.guard }], guard := some (2, true) }) (v := ?_) rfl (by kernel_rfl) (by kernel_rfl) (by kernel_rfl) (fun _ _ _ h => h) (Or.inl ⟨by rfl, ?_⟩) (by assumption) ?_
                        rotate_left
                        · (intro w hSw; (try dsimp only at hSw); go_simp; try with_reducible rfl)
                        try simp only [Act.put, List.setIfInBounds_toArray, List.set_cons_zero, List.set_cons_succ]
                        refine wpAnyH_ready (rs := [6]) (by kernel_rfl) (by simp) ?_
                        refine AllReadyH.cons (o := { dst := some 258, op := Op.call { callee := Callee.value (Operand.func 34), args := #[Operand.tmp 256, Operand.tmp 257], argTypes := #[27, 3] }, type := 27, pos := "law.go:159", after := #[{ on := 4, ground := Ground.data }, { on := 5, ground := Ground.data }, { on := 2, ground := Ground.chain }, { on := 2, ground := Ground.guard }], guard := some (2, true) }) rfl (fun K hK => ?_) AllReadyH.nil
                        go_simp
                        refine (CFrz.out _ hH).mono ?_
                        rintro e W_0 ⟨oLf, oKf, cLf, cKf, cf, rfl, Of, b⟩
                        refine hK.out _ _ ?_ (fun hH' => ?_)
                        · exact held_next (by assumption) hH
                        have OF := Lib.hid Of
                        clear Of
                        clear hK K hH
                        have hH := hH'
                        clear hH'
                        try simp only [Act.put, List.setIfInBounds_toArray, List.set_cons_zero, List.set_cons_succ]
                        refine wpAnyH_ready (rs := [7]) (by kernel_rfl) (by simp) ?_
                        refine AllReadyH.cons (o := { dst := some 259, op := Op.call { callee := Callee.value (Operand.func 23), args := #[Operand.tmp 255, Operand.tmp 258, Operand.const (Value.bool true)], argTypes := #[27, 27, 4] }, type := 4, pos := "law.go:159", after := #[{ on := 3, ground := Ground.data }, { on := 6, ground := Ground.data }, { on := 6, ground := Ground.chain }, { on := 2, ground := Ground.guard }], guard := some (2, true) }) rfl (fun K hK => ?_) AllReadyH.nil
                        go_simp
                        refine (CSSz.out _ hH W_0 _ _ _ _ _ OF.out (Below.refl _ _) (by have := hH.2.2.out; have := HNz.out; have := K915.out.size; have := Z22.out; omega)).mono ?_
                        rintro e W_1 ⟨rfl, b⟩
                        refine hK.out _ _ ?_ (fun hH' => ?_)
                        · exact held_next (by assumption) hH
                        clear hK K hH
                        have hH := hH'
                        clear hH'
                        try simp only [Act.put, List.setIfInBounds_toArray, List.set_cons_zero, List.set_cons_succ]
                        refine wpAnyH_take (i := 8) (oi := { dst := some 260, op := Op.pick (Operand.tmp 254) (Operand.tmp 259) (Operand.const (Value.bool false)), type := 4, pos := "law.go:159", after := #[{ on := 2, ground := Ground.data }, { on := 7, ground := Ground.data }], guard := none }) (v := ?_) rfl (by kernel_rfl) (by kernel_rfl) (by kernel_rfl) (fun _ _ _ h => h) (Or.inl ⟨by rfl, ?_⟩) (by assumption) ?_
                        rotate_left
                        · (intro w hSw; (try dsimp only at hSw); go_simp; try with_reducible rfl)
                        try simp only [Act.put, List.setIfInBounds_toArray, List.set_cons_zero, List.set_cons_succ]
                        refine wpAnyH_take (i := 9) (oi := { dst := some 261, op := Op.move (Operand.tmp 260), type := 4, pos := "law.go:159", after := #[{ on := 8, ground := Ground.data }, { on := 7, ground := Ground.chain }], guard := none }) (v := ?_) rfl (by kernel_rfl) (by kernel_rfl) (by kernel_rfl) (fun _ _ _ h => h) (Or.inl ⟨by rfl, ?_⟩) (by assumption) ?_
                        rotate_left
                        · (intro w hSw; (try dsimp only at hSw); go_simp; try with_reducible rfl)
                        try simp only [Act.put, List.setIfInBounds_toArray, List.set_cons_zero, List.set_cons_succ]
                        refine wpAnyH_take (i := 10) (oi := { dst := some 262, op := Op.move (Operand.tmp 26), type := 30, pos := "law.go:159", after := #[{ on := 9, ground := Ground.guard }], guard := some (9, true) }) (v := ?_) rfl (by kernel_rfl) (by kernel_rfl) (by kernel_rfl) (fun _ _ _ h => h) (Or.inl ⟨by rfl, ?_⟩) (by assumption) ?_
                        rotate_left
                        · (intro w hSw; (try dsimp only at hSw); go_simp; try with_reducible rfl)
                        try simp only [Act.put, List.setIfInBounds_toArray, List.set_cons_zero, List.set_cons_succ]
                        refine wpAnyH_take (i := 11) (oi := { dst := some 263, op := Op.binOp BinOp.eql 30 (Operand.tmp 262) (Operand.const (Value.int IntKind.i64 8)) 30, type := 4, pos := "law.go:159", after := #[{ on := 10, ground := Ground.data }, { on := 9, ground := Ground.guard }], guard := some (9, true) }) (v := ?_) rfl (by kernel_rfl) (by kernel_rfl) (by kernel_rfl) (fun _ _ _ h => h) (Or.inl ⟨by rfl, ?_⟩) (by assumption) ?_
                        rotate_left
                        · (intro w hSw; (try dsimp only at hSw); go_simp; try with_reducible rfl)
                        try simp only [Act.put, List.setIfInBounds_toArray, List.set_cons_zero, List.set_cons_succ]
                        refine wpAnyH_take (i := 12) (oi := { dst := some 264, op := Op.pick (Operand.tmp 261) (Operand.tmp 263) (Operand.const (Value.bool false)), type := 4, pos := "law.go:159", after := #[{ on := 9, ground := Ground.data }, { on := 11, ground := Ground.data }], guard := none }) (v := ?_) rfl (by kernel_rfl) (by kernel_rfl) (by kernel_rfl) (fun _ _ _ h => h) (Or.inl ⟨by rfl, ?_⟩) (by assumption) ?_
                        rotate_left
                        · (intro w hSw; (try dsimp only at hSw); go_simp; try with_reducible rfl)
                        try simp only [Act.put, List.setIfInBounds_toArray, List.set_cons_zero, List.set_cons_succ]
                        refine wpAnyH_take (i := 13) (oi := { dst := some 265, op := Op.move (Operand.tmp 264), type := 4, pos := "law.go:159", after := #[{ on := 12, ground := Ground.data }, { on := 9, ground := Ground.chain }], guard := none }) (v := ?_) rfl (by kernel_rfl) (by kernel_rfl) (by kernel_rfl) (fun _ _ _ h => h) (Or.inl ⟨by rfl, ?_⟩) (by assumption) ?_
                        rotate_left
                        · (intro w hSw; (try dsimp only at hSw); go_simp; try with_reducible rfl)
                        try simp only [Act.put, List.setIfInBounds_toArray, List.set_cons_zero, List.set_cons_succ]
                        refine wpAnyH_take (i := 14) (oi := { dst := some 266, op := Op.move (Operand.tmp 28), type := 30, pos := "law.go:159", after := #[{ on := 13, ground := Ground.guard }], guard := some (13, true) }) (v := ?_) rfl (by kernel_rfl) (by kernel_rfl) (by kernel_rfl) (fun _ _ _ h => h) (Or.inl ⟨by rfl, ?_⟩) (by assumption) ?_
                        rotate_left
                        · (intro w hSw; (try dsimp only at hSw); go_simp; try with_reducible rfl)
                        try simp only [Act.put, List.setIfInBounds_toArray, List.set_cons_zero, List.set_cons_succ]
                        refine wpAnyH_take (i := 15) (oi := { dst := some 267, op := Op.binOp BinOp.eql 30 (Operand.tmp 266) (Operand.const (Value.int IntKind.i64 8)) 30, type := 4, pos := "law.go:159", after := #[{ on := 14, ground := Ground.data }, { on := 13, ground := Ground.guard }], guard := some (13, true) }) (v := ?_) rfl (by kernel_rfl) (by kernel_rfl) (by kernel_rfl) (fun _ _ _ h => h) (Or.inl ⟨by rfl, ?_⟩) (by assumption) ?_
                        rotate_left
                        · (intro w hSw; (try dsimp only at hSw); go_simp; try with_reducible rfl)
                        try simp only [Act.put, List.setIfInBounds_toArray, List.set_cons_zero, List.set_cons_succ]
                        refine wpAnyH_take (i := 16) (oi := { dst := some 268, op := Op.pick (Operand.tmp 265) (Operand.tmp 267) (Operand.const (Value.bool false)), type := 4, pos := "law.go:159", after := #[{ on := 13, ground := Ground.data }, { on := 15, ground := Ground.data }], guard := none }) (v := ?_) rfl (by kernel_rfl) (by kernel_rfl) (by kernel_rfl) (fun _ _ _ h => h) (Or.inl ⟨by rfl, ?_⟩) (by assumption) ?_
                        rotate_left
                        · (intro w hSw; (try dsimp only at hSw); go_simp; try with_reducible rfl)
                        try simp only [Act.put, List.setIfInBounds_toArray, List.set_cons_zero, List.set_cons_succ]
                        refine wpAnyH_take (i := 17) (oi := { dst := some 269, op := Op.move (Operand.tmp 268), type := 4, pos := "law.go:159", after := #[{ on := 16, ground := Ground.data }, { on := 13, ground := Ground.chain }], guard := none }) (v := ?_) rfl (by kernel_rfl) (by kernel_rfl) (by kernel_rfl) (fun _ _ _ h => h) (Or.inl ⟨by rfl, ?_⟩) (by assumption) ?_
                        rotate_left
                        · (intro w hSw; (try dsimp only at hSw); go_simp; try with_reducible rfl)
                        try simp only [Act.put, List.setIfInBounds_toArray, List.set_cons_zero, List.set_cons_succ]
                        refine wpAnyH_ready (rs := [18]) (by kernel_rfl) (by simp) ?_
                        refine AllReadyH.cons (o := { dst := some 270, op := Op.call { callee := Callee.value (Operand.func 11), args := #[], argTypes := #[] }, type := 4, pos := "law.go:159", after := #[{ on := 17, ground := Ground.chain }, { on := 17, ground := Ground.guard }], guard := some (17, true) }) rfl (fun K hK => ?_) AllReadyH.nil
                        go_simp
                        refine (CAWz.out _ hH).mono ?_
                        rintro e W_2 ⟨rfl, b⟩
                        refine hK.out _ _ ?_ (fun hH' => ?_)
                        · exact held_next (by assumption) hH
                        clear hK K hH
                        have hH := hH'
                        clear hH'
                        try simp only [Act.put, List.setIfInBounds_toArray, List.set_cons_zero, List.set_cons_succ]
                        refine wpAnyH_take (i := 19) (oi := { dst := some 271, op := Op.pick (Operand.tmp 269) (Operand.tmp 270) (Operand.const (Value.bool false)), type := 4, pos := "law.go:159", after := #[{ on := 17, ground := Ground.data }, { on := 18, ground := Ground.data }], guard := none }) (v := ?_) rfl (by kernel_rfl) (by kernel_rfl) (by kernel_rfl) (fun _ _ _ h => h) (Or.inl ⟨by rfl, ?_⟩) (by assumption) ?_
                        rotate_left
                        · (intro w hSw; (try dsimp only at hSw); go_simp; try with_reducible rfl)
                        try simp only [Act.put, List.setIfInBounds_toArray, List.set_cons_zero, List.set_cons_succ]
                        refine wpAnyH_take (i := 20) (oi := { dst := some 10, op := Op.assign (Operand.tmp 271), type := 4, pos := "law.go:159", after := #[{ on := 19, ground := Ground.data }, { on := 18, ground := Ground.chain }, { on := 0, ground := Ground.phase }, { on := 1, ground := Ground.phase }, { on := 2, ground := Ground.phase }, { on := 3, ground := Ground.phase }, { on := 4, ground := Ground.phase }, { on := 5, ground := Ground.phase }, { on := 6, ground := Ground.phase }, { on := 7, ground := Ground.phase }, { on := 8, ground := Ground.phase }, { on := 9, ground := Ground.phase }, { on := 10, ground := Ground.phase }, { on := 11, ground := Ground.phase }, { on := 12, ground := Ground.phase }, { on := 13, ground := Ground.phase }, { on := 14, ground := Ground.phase }, { on := 15, ground := Ground.phase }, { on := 16, ground := Ground.phase }, { on := 17, ground := Ground.phase }, { on := 18, ground := Ground.phase }, { on := 19, ground := Ground.phase }], guard := none }) (v := ?_) rfl (by kernel_rfl) (by kernel_rfl) (by kernel_rfl) (fun _ _ _ h => h) (Or.inl ⟨by rfl, ?_⟩) (by assumption) ?_
                        rotate_left
                        · (intro w hSw; (try dsimp only at hSw); go_simp; try with_reducible rfl)
                        try simp only [Act.put, List.setIfInBounds_toArray, List.set_cons_zero, List.set_cons_succ]
                        refine wpAnyH_done (by kernel_rfl) ?_ _
                        refine NoPanic.normal ?_
                        have BZ := Lib.hid (LWz.out _ hH)
                        clear S0 hH LWz HNz la lb CFrz CSSz CAWz q0 q1 q2 q3 q4 q5 q6 q7 s0 s1 s2 s3 s4 s5 s6 s7
                        go_wp2_with fail
                        go_ret
                        exact ⟨rfl, BZ.out⟩
    · have g1 : decide ((40 : Int) < (ks.length : Int)) = false := by simp; omega
      have g2 : decide ((40 : Int) < (l.length : Int)) = true := by simp; omega
      go_enter Try.func8, Try.ntmps8
      go_wp2_with fail
      refine (awake_any _).mono ?_
      rintro e wz ⟨rfl, bz⟩
      have BZ := Lib.hid (B0.out.trans (bz.mono B0.out.size))
      clear bz
      go_wp2_with fail
      go_ret
      exact ⟨rfl, BZ.out⟩
  · have g1 : decide ((40 : Int) < (ks.length : Int)) = true := by simp; omega
    go_enter Try.func8, Try.ntmps8
    go_wp2_with fail
    refine (awake_any _).mono ?_
    rintro e wz ⟨rfl, bz⟩
    have BZ := Lib.hid (B0.out.trans (bz.mono B0.out.size))
    clear bz
    go_wp2_with fail
    go_ret
    exact ⟨rfl, BZ.out⟩
end Go.Proofs.Ytfgkkccgecnchaa
