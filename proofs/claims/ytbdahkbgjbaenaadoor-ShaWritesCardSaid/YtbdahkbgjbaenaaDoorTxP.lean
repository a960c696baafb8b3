/-
  Any fingerprint has the text that the document says and is read of it; any text is the fingerprint whose text it is, or none; a fingerprint's beginning is the document's number. Conditions: the table of the rounds' words (surety/sha.roots) reads as the program's text lays it; the card ties it.
-/
import Derived.Test.YtbdahkbgjbaenaaDoorTy
import Derived.Test.YtbdahkbgjbaenaaDoorZ
import Derived.WideKeyArr2
namespace Go.Proofs.YtbdahkbgjbaenaaDoor
open Go.ChangeShapes Go.WideShapes Go.ChangeAt Go.RowKit
open Go.ChangeMaps (open_string shut_string)

theorem cells27 : Tryd.prog.cellsOf 27 = 32 := by kernel_rfl
theorem cells5 : Tryd.prog.cellsOf 5 = 1 := by kernel_rfl
theorem arr27 : WideMaps.ArrKey Tryd.prog 27 5 32 := ⟨Tryd.underlying27, by kernel_rfl, by kernel_rfl, cells27⟩
theorem u8_bd {a : Int} (h : (Lit.int .u8 a).wf = true) : 0 ≤ a ∧ a < 256 := by
  have := bounds_u8 h
  omega
/-- the number at place j -/
def intAt (xs : Array Value) (j : Nat) : Int := match xs[j]? with | some (.int _ a) => a | _ => 0
theorem intAt_of {xs : Array Value} {j : Nat} {q : IntKind} {a : Int} (h : xs[j]? = some (.int q a)) : intAt xs j = a := by unfold intAt; rw [h]
theorem mk_intAt (xs : Array Value) (hn : xs.size = 32) (each : ∀ j, j < 32 → ∃ a, xs[j]? = some (.int .u8 a)) : xs = mk .u8 32 (intAt xs) := by
  apply Array.ext_getElem?
  intro i
  by_cases hi : i < 32
  · obtain ⟨a, e⟩ := each i hi
    rw [mk_get .u8 32 (intAt xs) i hi, intAt_of e, e]
  · rw [Array.getElem?_eq_none (by omega), Array.getElem?_eq_none (by rw [mk_size]; omega)]
/-- a fingerprint by value, opened -/
theorem open27 {H : Type} {enc : TypeId × Value → H} {w : World} {base : Nat} {spare : Nat → Bool} {held : Bool} {r : Reach} {b0 : Nat} {v : Value} {d : DataW H} {p : List MemPlace}
    (hv : Value.okWide Tryd.prog w r b0 27 v) (h : DataW.Trod enc Tryd.prog w base spare held 27 v d p) : ∃ F : Nat → Int, v = .agg (mk .u8 32 F) ∧ ∀ j, j < 32 → 0 ≤ F j ∧ F j < 256 := by
  obtain ⟨xs, rfl, hn⟩ := WideMaps.okWide_arr arr27 hv
  obtain ⟨fuel, hf⟩ := h
  cases fuel with
  | zero => simp [DataW.trod] at hf
  | succ m =>
    rw [DataW.trod_step] at hf
    unfold DataW.trodStep at hf
    simp only [Tryd.underlying27, Value.cells, cells5] at hf
    rw [if_pos (by rw [cells27]; simpa using hn)] at hf
    simp only [Option.map_eq_some_iff] at hf
    obtain ⟨ys, hy, -⟩ := hf
    have each : ∀ j, j < 32 → ∃ a, xs[j]? = some (.int .u8 a) ∧ 0 ≤ a ∧ a < 256 := by
      intro j hj
      have h1 := mapM_some_get hy j j (by simp [hj])
      have h2 : j < ys.length := by rw [mapM_some_length hy]; simpa using hj
      rw [List.getElem?_eq_getElem h2] at h1
      obtain ⟨a, ea, _, wa⟩ := DataW.trod_int Tryd.underlying5 h1
      refine ⟨a, ?_, ?_⟩
      · have : ((xs.toList.drop (j * 1)).take 1)[0]? = some (.int .u8 a) := by rw [ea]; rfl
        rw [Nat.mul_one, List.getElem?_take] at this
        simp at this
        exact this
      · exact u8_bd wa
    exact ⟨intAt xs, congrArg Value.agg (mk_intAt xs hn fun j hj => by obtain ⟨a, e, _⟩ := each j hj; exact ⟨a, e⟩), fun j hj => by
      obtain ⟨a, e, h1, h2⟩ := each j hj
      rw [intAt_of e]; exact ⟨h1, h2⟩⟩
end Go.Proofs.YtbdahkbgjbaenaaDoor
namespace Go.Proofs.YtbdahkbgjbaenaaDoor.shaTexts
open Go.ChangeShapes Go.WideShapes Go.ChangeAt Go.RowKit
open Go.ChangeMaps (open_string shut_string)

/-- The door's own heap meets the condition: closed facts. -/
theorem door_met (os : Os) (args : Array Value) : laidMetH Tryd.prog Rows.shaTextsRow.laid ((World.doorLaid Tryd.prog 58 os).forCall (fun _ _ => 0) ⟨#[], args, []⟩).memory :=
  laidMetH_of_parts3 (fuel := 8) (laidMet_of_run' 8 (by kernel_rfl) (by kernel_rfl)) (by kernel_rfl) (by kernel_rfl)
theorem tab_of {W : World} (h : laidMetH Tryd.prog Rows.shaTextsRow.laid W) : Tab W := by
  rw [MakeChecks.laidMetH_plain _ _ _ (by kernel_rfl)] at h
  exact of_laid rfl h
set_option maxRecDepth 100000 in
theorem lifted (os : Os) (started : os.Started) (H : Type) (enc : TypeId × Value → H) :
    ReturnsInHanded {} Tryd.checked os 5 .any (fun w args => (Rows.shaTextsSpec.pre enc Tryd.prog Tryd.f5 [] false w args ∧ laidMetH Tryd.prog Rows.shaTextsRow.laid w) ∧ sizedMet enc Tryd.prog Tryd.f5 (OpenSpec.ofChange Rows.shaTextsSpec) false w args)
      (Rows.shaTextsSpec.post enc Tryd.prog Tryd.f5 false true false false) := by
  refine returnsInHanded_of_change_and (C := Tryd.checked) (X := fun w _ => laidMetH Tryd.prog Rows.shaTextsRow.laid w) (fun _ _ _ hh h => h.of_heap hh) own started (by kernel_rfl) Tryd.func5
    (ChangeSpec.witness_shaped (enc := enc) (C := Tryd.checked) (os := os) (X := fun w _ => laidMetH Tryd.prog Rows.shaTextsRow.laid w) false (World.doorLaid Tryd.prog 58 os) #[.agg #[.int .u8 0, .int .u8 0, .int .u8 0, .int .u8 0, .int .u8 0, .int .u8 0, .int .u8 0, .int .u8 0, .int .u8 0, .int .u8 0, .int .u8 0, .int .u8 0, .int .u8 0, .int .u8 0, .int .u8 0, .int .u8 0, .int .u8 0, .int .u8 0, .int .u8 0, .int .u8 0, .int .u8 0, .int .u8 0, .int .u8 0, .int .u8 0, .int .u8 0, .int .u8 0, .int .u8 0, .int .u8 0, .int .u8 0, .int .u8 0, .int .u8 0, .int .u8 0], .string ⟨#[]⟩] 8 rfl (World.shaped_of_RefB (by kernel_rfl) (by kernel_rfl)) (by kernel_rfl) (by kernel_rfl) (by kernel_rfl) (door_met os _)) ?_
  intro W base args ds gs before hval0 hW _ _ hL _
  have hval : ∀ (j : Nat) t v, Tryd.f5.params[j]? = some t → args[j]? = some v → Value.okWide Tryd.prog W .any base t v := hval0
  have hW' := hW
  obtain ⟨p, q, hA0, hV, rfl, hfz, hnd⟩ := hW
  have hA : DataW.TrodAll enc Tryd.prog W 0 (fun _ => true) true Tryd.f5.params.toList args.toList ds p := hA0
  rw [Tryd.params5] at hA hval
  obtain ⟨v0, vs0, d0, ds0, p0, q0, hargs, rfl, rfl, h0, r0⟩ := trodAll_cons hA
  obtain ⟨v1, vs1, d1, ds1, p1, q1, rfl, rfl, rfl, h1, r1⟩ := trodAll_cons r0
  obtain ⟨rfl, rfl, rfl⟩ := trodAll_nil r1
  obtain rfl : args = #[v0, v1] := by cases args; simp_all
  obtain ⟨rfl, rfl⟩ := trodVars_none hV
  obtain ⟨F, rfl, hF⟩ := open27 (hval 0 27 v0 rfl rfl) h0
  obtain ⟨s, rfl, rfl, rfl, hs⟩ := open_string Tryd.underlying9 (hval 1 9 v1 rfl rfl) h1
  have tab := tab_of hL
  clear hA0 hval0
  simp only [List.append_nil] at hW'
  have hlt : ∀ x ∈ p0, x.block < W.heap.size := fun x hx => by simpa using hW'.lt x hx
  refine (texts_walk F s W hF tab).mono fun e W' ⟨he, bel⟩ => ?_
  subst he
  exact ⟨_, rfl, _, _, _, [], p0, [], hW', trodAll_mk1 (shut_bool Tryd.underlying4 _), by
    have := trodAll_cons_mk (Below.trod laidOut (by kernel_rfl) (of_decide_eq_true (by kernel_rfl)) h0 bel hlt) (trodAll_cons_mk (shut_string Tryd.underlying9 hs) trodAll_mk0)
    simp only [List.append_nil] at this
    exact this, rfl, bel.frame _, fun h => by cases h⟩
theorem holds : Rows.ShaTextsSaid :=
  OpenClaim.holds_of_wide 5 Tryd.f5 rfl rfl rfl rfl rfl rfl rfl ⟨rfl, rfl, rfl, rfl, rfl⟩ rfl rfl rfl rfl rfl (by kernel_rfl) Tryd.func5 (by kernel_rfl)
    (of_decide_eq_true (by kernel_rfl)) (by unfold Func.isWrapper; first | (rw [if_pos (by decide +kernel)]; kernel_rfl) | (rw [if_neg (by decide +kernel)]; exact ⟨rfl, rfl⟩))
    (fun os started H enc _ => lifted os started H enc)
end Go.Proofs.YtbdahkbgjbaenaaDoor.shaTexts
