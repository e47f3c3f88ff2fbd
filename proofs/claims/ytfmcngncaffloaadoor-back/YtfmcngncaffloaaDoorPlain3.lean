import Derived.Test.YtfmcngncaffloaaDoorPlain2
namespace Go.Proofs.YtfmcngncaffloaaDoor.Wv

theorem clkTo_no (b : Bt) : ∀ n k, k < n → cOk b k = false → clkTo b n = false
  | n + 1, k, hk, h => by
    rw [clkTo]
    rcases Nat.lt_succ_iff_lt_or_eq.1 hk with hk | rfl
    · rw [clkTo_no b n k hk h]; rfl
    · rw [h]; simp
theorem dotsTo_no (b : Bt) (i : Int) (ds : List Dt) : ∀ n k, k < n → dOk b i ds k = false → dotsTo b i ds n = false
  | n + 1, k, hk, h => by
    rw [dotsTo]
    rcases Nat.lt_succ_iff_lt_or_eq.1 hk with hk | rfl
    · rw [dotsTo_no b i ds n k hk h]; rfl
    · rw [h]; simp
theorem effsTo_no (b : Bt) : ∀ n k : Nat, k < n → effOk b k (b.effs.getD k ⟨0, 0, 0, ⟨0, 0, 0⟩, []⟩) = false → effsTo b n = false
  | n + 1, k, hk, h => by
    rw [effsTo]
    rcases Nat.lt_succ_iff_lt_or_eq.1 hk with hk | rfl
    · rw [effsTo_no b n k hk h]; rfl
    · rw [h]; simp

end Go.Proofs.YtfmcngncaffloaaDoor.Wv
