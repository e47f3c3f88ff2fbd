import Derived.Test.YtfmcngncaffloaaDoorRefA
import Derived.Test.YtfmcngncaffloaaDoorCovA
import Derived.Test.YtfmcngncaffloaaDoorEqD
namespace Go.Proofs.YtfmcngncaffloaaDoor
open Go.RowKit
set_option maxRecDepth 100000

set_option maxHeartbeats 400000 in
theorem kind_any (op : Int) (w : World) :
    Calls Tryd.prog 54 #[I op] w fun e w' => e = .returned (I (if Wv.isOp op then Wv.rKind op else -1)) ∧ w' = w := by
  have h : op = 1 ∨ op = 2 ∨ op = 3 ∨ op = 4 ∨ op = 5 ∨ op = 6 ∨ ¬ (1 ≤ op ∧ op ≤ 6) := by omega
  rcases h with rfl | rfl | rfl | rfl | rfl | rfl | h
  · go_enter Tryd.func54, Tryd.ntmps54
    go_wp2
    go_ret
    exact ⟨rfl, rfl⟩
  · go_enter Tryd.func54, Tryd.ntmps54
    go_wp2
    go_ret
    exact ⟨rfl, rfl⟩
  · go_enter Tryd.func54, Tryd.ntmps54
    go_wp2
    go_ret
    exact ⟨rfl, rfl⟩
  · go_enter Tryd.func54, Tryd.ntmps54
    go_wp2
    go_ret
    exact ⟨rfl, rfl⟩
  · go_enter Tryd.func54, Tryd.ntmps54
    go_wp2
    go_ret
    exact ⟨rfl, rfl⟩
  · go_enter Tryd.func54, Tryd.ntmps54
    go_wp2
    go_ret
    exact ⟨rfl, rfl⟩
  · have e : (if Wv.isOp op then Wv.rKind op else -1) = -1 := by rw [if_neg]; simp [Wv.isOp]; omega
    rw [e]
    have h1 : (op == 1) = false := by simp; omega
    have h2 : (op == 2) = false := by simp; omega
    have h3 : (op == 3) = false := by simp; omega
    have h4 : (op == 4) = false := by simp; omega
    have h5 : (op == 5) = false := by simp; omega
    have h6 : (op == 6) = false := by simp; omega
    clear h e
    go_enter Tryd.func54, Tryd.ntmps54
    go_wp2
    go_ret
    exact ⟨rfl, rfl⟩

end Go.Proofs.YtfmcngncaffloaaDoor
