/- The document's examples, reckoned. -/
import Derived.Test.YtfgkkccgecnchaaOf
import Derived.Test.YtfgkkccgecnchaaV
import Derived.Test.YtfgkkccgecnchaaK
namespace Go.Proofs.Ytfgkkccgecnchaa
open Go.RowKit

theorem els_lst (l : List Val) : els (lst l) = l := by unfold els cnt lst; simp [Val.k, Val.l]
theorem els_flat (k i : Int) (s : ByteArray) (t1 t2 : Int) : els (flat k i s t1 t2) = [] := by unfold els; simp [flat, Val.l]
def exA : Val := lst [flat 2 1 ⟨#[]⟩ 0 0, flat 2 2 ⟨#[]⟩ 0 0]
def exB : Val := lst [flat 6 0 ⟨#[]⟩ 2 0, flat 2 2 ⟨#[]⟩ 0 0]
def exC : Val := lst [flat 2 1 ⟨#[]⟩ 0 0, flat 3 0 ⟨#[97]⟩ 0 0]
theorem ref_int (i t1 t2 : Int) : refV (flat 2 i ⟨#[]⟩ 0 0) (flat 6 0 ⟨#[]⟩ t1 t2) = fits (flat 2 i ⟨#[]⟩ 0 0) t1 t2 := by rw [refV_eq]; rfl
theorem fits_int (i : Int) : fits (flat 2 i ⟨#[]⟩ 0 0) 2 0 = true := by rw [fits_eq]; simp [flat, Val.k]
theorem ref_same (i : Int) : refV (flat 2 i ⟨#[]⟩ 0 0) (flat 2 i ⟨#[]⟩ 0 0) = true := by
  have : ord (flat 2 i ⟨#[]⟩ 0 0) (flat 2 i ⟨#[]⟩ 0 0) = 0 := by rw [ord_eq]; simp [flat, Val.k, Val.i, cmpI]
  rw [refV_eq, this]; simp [refRaw, flat, Val.k]
theorem ex1 : refV exA exB = true := by
  rw [refV_eq]
  unfold exA exB
  rw [els_lst, els_lst]
  simp only [eqL, ref_int, fits_int, ref_same]
  rfl
theorem ex2 : refV exB exA = false := by
  have : refV (flat 6 0 ⟨#[]⟩ 2 0) (flat 2 1 ⟨#[]⟩ 0 0) = false := by rw [refV_eq]; rfl
  rw [refV_eq]
  unfold exA exB
  rw [els_lst, els_lst]
  simp only [eqL, this]
  rfl
theorem ex3 : typeOf exC = (4, 0) := by
  have h1 : typeOf (flat 2 1 ⟨#[]⟩ 0 0) = (2, 0) := by rw [typeOf_eq]; rfl
  have h2 : typeOf (flat 3 0 ⟨#[97]⟩ 0 0) = (3, 0) := by rw [typeOf_eq]; rfl
  have h3 : tyEl exC = 0 := by
    unfold tyEl exC
    rw [els_lst]
    simp only [List.map, h1, h2]
    decide
  rw [typeOf_eq, h3]; rfl
theorem ex4 : chk exB = true := by
  have o1 : ok1 (flat 6 0 ⟨#[]⟩ 2 0) = true := by decide +kernel
  have o2 : ok1 (flat 2 2 ⟨#[]⟩ 0 0) = true := by decide +kernel
  have o3 : ok1 exB = true := by decide +kernel
  have w1 : ∀ k i s t1 t2, weight (flat k i s t1 t2) = 1 := fun k i s t1 t2 => by rw [weight_eq, els_flat]; rfl
  have w2 : weight exB = 3 := by rw [weight_eq]; unfold exB; rw [els_lst]; simp [w1]
  unfold chk
  rw [w2]
  have : okT 8 exB = true := by
    rw [okT, o3]
    show (true && [flat 6 0 ⟨#[]⟩ 2 0, flat 2 2 ⟨#[]⟩ 0 0].all (okT 7)) = true
    have f1 : okT 7 (flat 6 0 ⟨#[]⟩ 2 0) = true := okT_flat o1 rfl
    have f2 : okT 7 (flat 2 2 ⟨#[]⟩ 0 0) = true := okT_flat o2 rfl
    simp [f1, f2]
  rw [this]; rfl
end Go.Proofs.Ytfgkkccgecnchaa
