/- The contract of the parser's functions, by fuel; whole. -/
import Derived.Test.YtncjncacfagldaaDoorW
namespace Go.Proofs.YtncjncacfagldaaDoor
open Go.RowKit
attribute [local go_sem] field66_0 field66_1 field66_2 field66_3 field66_4

/-- what the model of fuel n answers, the three functions answer -/
structure Gd (R : Nat) (Z : Cz) (inn : List UInt8 → Ps → Ex × Nat × Ps) (n : Nat) : Prop where
  ex : ∀ (W : World) (s : St), Rd W R Z s → 3 * (Z.acc.length - s.p) + 2 < n → Calls Tryd.prog 35 #[.pointer (some ⟨R, 0, none⟩)] W (EP W R Z s.p ((fs (Z.cx inn) n).ex s))
  jo : ∀ (W : World) (s : St) (lo : Nat), Rd W R Z s → 3 * (Z.acc.length - s.p) + 1 < n → 1 ≤ lo → lo ≤ 6 → Calls Tryd.prog 53 #[.pointer (some ⟨R, 0, none⟩), .int .i64 lo] W (EP W R Z s.p ((fs (Z.cx inn) n).jo lo s))
  un : ∀ (W : World) (s : St), Rd W R Z s → 3 * (Z.acc.length - s.p) < n → Calls Tryd.prog 76 #[.pointer (some ⟨R, 0, none⟩)] W (EP W R Z s.p ((fs (Z.cx inn) n).un s))
theorem all_gd {R : Nat} {Z : Cz} {inn : List UInt8 → Ps → Ex × Nat × Ps} (ht : TextOk R Z inn) : ∀ n, Gd R Z inn n
  | 0 => ⟨fun W s _ h => by omega, fun W s lo _ h => by omega, fun W s _ h => by omega⟩
  | n + 1 => by
    have ih := all_gd ht n
    refine ⟨fun W s hr hn => ?_, fun W s lo hr hn h1 h6 => ?_, fun W s hr hn => ?_⟩
    · exact expr_any hr (fun W' t lo hr' ht' h1 h6 => ih.jo W' t lo hr' (by omega) h1 h6) (fun W' t hr' ht' => ih.ex W' t hr' (by have := hr'.le; omega))
    · exact joined_any hr h1 h6 (fun W' t hr' ht' => ih.un W' t hr' (by omega)) (fun W' t lo hr' ht' h1 h6 => ih.jo W' t lo hr' (by have := hr'.le; omega) h1 h6)
    · exact unary_any hr (fun W' t hr' ht' => ih.un W' t hr' (by have := hr'.le; omega)) (fun W' hr' => post_any hr' ht (fun W2 t hr2 ht2 => ih.ex W2 t hr2 (by have := hr2.le; omega)))
theorem whole_eq (Z : Cz) (inn : List UInt8 → Ps → Ex × Nat × Ps) : wholeM (Z.cx inn) = (((fs (Z.cx inn) (3 * Z.acc.length + 3)).ex ⟨0, 0, ps0⟩).1, if (Z.tz ((fs (Z.cx inn) (3 * Z.acc.length + 3)).ex ⟨0, 0, ps0⟩).2.p).1.k = 0 then ((fs (Z.cx inn) (3 * Z.acc.length + 3)).ex ⟨0, 0, ps0⟩).2 else Z.stray ((fs (Z.cx inn) (3 * Z.acc.length + 3)).ex ⟨0, 0, ps0⟩).2) := by
  unfold wholeM
  simp only [Cz.len_eq, Cz.tk_eq, stray_eq]
set_option maxRecDepth 100000 in
set_option maxHeartbeats 2000000 in
theorem whole_any {w : World} {R : Nat} {Z : Cz} {inn : List UInt8 → Ps → Ex × Nat × Ps} (h : Rd w R Z ⟨0, 0, ps0⟩) (ht : TextOk R Z inn) : Calls Tryd.prog 22 #[.pointer (some ⟨R, 0, none⟩)] w (EP w R Z 0 (wholeM (Z.cx inn))) := by
  have HI := Lib.hid (whole_eq Z inn)
  have HE := Lib.hid ((all_gd ht (3 * Z.acc.length + 3)).ex w ⟨0, 0, ps0⟩ h (by show 3 * (Z.acc.length - 0) + 2 < _; omega))
  have HZ := Lib.hid h.sz
  generalize (fs (Z.cx inn) (3 * Z.acc.length + 3)).ex ⟨0, 0, ps0⟩ = E at *
  generalize wholeM (Z.cx inn) = M at *
  clear h ht
  go_enter Tryd.func22, Tryd.ntmps22
  go_wp2_with fail
  refine HE.out.mono ?_
  rintro e w1 ⟨b, rfl, hx, hr, hf, hp⟩
  have H1 := Lib.hid (And.intro hx (And.intro hr hf))
  clear hx hf hp HE
  have HT := Lib.hid (tok_any hr E.2.p (by have := hr.le; have := HZ.out.n; omega))
  obtain ⟨⟨r0, r1, r2, r3, r4, r5, r6, r7, r8, r9, r10⟩, -, hR⟩ := rc11 hr.blk
  clear r0 r2 r3 r4 r5 r6 r7 r8 r9 r10 hr
  generalize Z.tz E.2.p = X at *
  go_wp2_with fail
  refine HT.out.mono ?_
  rintro e w2 ⟨rfl, c2⟩
  have H2 := Lib.hid (And.intro (H1.out.1.fr (Fm.of c2)) (And.intro (H1.out.2.1.below c2) (H1.out.2.2.tr (Fm.of c2))))
  clear c2 HT H1
  by_cases h0 : X.1.k = 0
  · have e0 : ((X.1.k : Int) != 0) = false := by simp [h0]
    have HM : Hid (M = (E.1, E.2)) := by unfold Hid; rw [HI.out, if_pos h0]
    clear h0 HI
    go_wp2_with fail
    go_ret
    rw [HM.out]
    exact ⟨b, rfl, H2.out.1, H2.out.2.1, H2.out.2.2, Nat.zero_le _⟩
  · have e0 : ((X.1.k : Int) != 0) = true := by rw [bne_iff_ne]; omega
    have HM : Hid (M = (E.1, Z.stray E.2)) := by unfold Hid; rw [HI.out, if_neg h0]
    clear h0 HI
    go_wp2_with fail
    refine (stray_any H2.out.2.1).mono ?_
    rintro e w3 ⟨rfl, h3, f3⟩
    have H3 := Lib.hid (And.intro (H2.out.1.fr f3) (And.intro h3 (H2.out.2.2.tr f3)))
    clear h3 f3
    go_wp2_with fail
    go_ret
    rw [HM.out]
    exact ⟨b, rfl, H3.out.1, H3.out.2.1, H3.out.2.2, Nat.zero_le _⟩
end Go.Proofs.YtncjncacfagldaaDoor
