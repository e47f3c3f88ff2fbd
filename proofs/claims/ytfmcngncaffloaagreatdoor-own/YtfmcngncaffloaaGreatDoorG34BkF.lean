import Derived.Test.YtfmcngncaffloaaGreatDoorG13BkJ
import Derived.Test.YtfmcngncaffloaaGreatDoorG01SumA
namespace Go.Proofs.YtfmcngncaffloaaGreatDoor
open Go.RowKit

theorem pk_neg (c n : Int) (h : c < 0) : Wv.pk c n = (-(c + 1)) % n := by unfold Wv.pk; rw [if_pos h]
theorem pk_pos (c n : Int) (h : ¬ c < 0) : Wv.pk c n = c % n := by unfold Wv.pk; rw [if_neg h]

set_option maxHeartbeats 400000 in
theorem pick_any (c n : Int) (w : World) (hc : -9223372036854775808 ≤ c ∧ c ≤ 9223372036854775807) (hn : 0 < n ∧ n ≤ 1048576) :
    Calls Tryz.prog 13 #[.int .i64 c, .int .i64 n] w fun e w' => e = .returned (.int .i64 (Wv.pk c n)) ∧ w' = w := by
  go_enter Tryz.func13, Tryz.ntmps13
  by_cases h : c < 0
  · rw [pk_neg c n h]
    go_wp2
    go_ret
    exact ⟨ret_int (by rw [← Int.neg_tmod, Int.tmod_eq_emod_of_nonneg (by omega)]), rfl⟩
  · rw [pk_pos c n h]
    go_wp2
    go_ret
    exact ⟨rfl, rfl⟩

end Go.Proofs.YtfmcngncaffloaaGreatDoor
