import Derived.Test.YtfmcngncaffloaaDoorRefB
import Derived.Test.YtfmcngncaffloaaDoorPlain4
namespace Go.Proofs.YtfmcngncaffloaaDoor
open Go.RowKit

theorem kind_1 (w : World) : Calls Tryd.prog 54 #[I 1] w fun e w' => e = .returned (I 0) ∧ w' = w := kind_any 1 w
theorem kind_2 (w : World) : Calls Tryd.prog 54 #[I 2] w fun e w' => e = .returned (I 1) ∧ w' = w := kind_any 2 w
theorem kind_3 (w : World) : Calls Tryd.prog 54 #[I 3] w fun e w' => e = .returned (I 1) ∧ w' = w := kind_any 3 w
theorem kind_4 (w : World) : Calls Tryd.prog 54 #[I 4] w fun e w' => e = .returned (I 2) ∧ w' = w := kind_any 4 w
theorem kind_5 (w : World) : Calls Tryd.prog 54 #[I 5] w fun e w' => e = .returned (I 3) ∧ w' = w := kind_any 5 w
theorem kind_6 (w : World) : Calls Tryd.prog 54 #[I 6] w fun e w' => e = .returned (I 3) ∧ w' = w := kind_any 6 w
theorem dots_zero (b : Wv.Bt) (k : Int) (ds : List Wv.Dt) : Hid (((ds.length : Int) == 0) = ((decide ((0 : Int) ≤ ds.length) && decide ((ds.length : Int) ≤ 0)) && Wv.dotsOk b k ds)) := by
  show ((ds.length : Int) == 0) = _
  cases ds with
  | nil => rfl
  | cons d l =>
    have h1 : (((d :: l).length : Int) == 0) = false := by rw [beq_eq_false_iff_ne]; simp only [List.length_cons]; omega
    have h2 : decide (((d :: l).length : Int) ≤ 0) = false := by rw [decide_eq_false_iff_not]; simp only [List.length_cons]; omega
    rw [h1, h2]
    simp

end Go.Proofs.YtfmcngncaffloaaDoor
