import Derived.Test.YtfmcngncaffloaaGreatDoorG04PoA
namespace Go.Proofs.YtfmcngncaffloaaGreatDoor
open Go.RowKit
set_option maxRecDepth 100000

def eq3 (a1 a2 a3 b1 b2 b3 : Int) : Bool := (a1 == b1) && (a2 == b2) && (a3 == b3)
set_option maxHeartbeats 400000 in
theorem run_eql_dot (a1 a2 a3 b1 b2 b3 : Int) (w : World) :
    (binOp .eql 146 (.agg #[I a1, I a2, I a3]) (.agg #[I b1, I b2, I b3])).run Tryz.prog w = .ok (.bool (eq3 a1 a2 a3 b1 b2 b3)) w := by
  go_simp
  unfold eq3
  by_cases h1 : a1 = b1 <;> by_cases h2 : a2 = b2 <;> by_cases h3 : a3 = b3 <;> simp [h1, h2, h3]
set_option maxHeartbeats 400000 in
theorem run_neq_dot (a1 a2 a3 b1 b2 b3 : Int) (w : World) :
    (binOp .neq 146 (.agg #[I a1, I a2, I a3]) (.agg #[I b1, I b2, I b3])).run Tryz.prog w = .ok (.bool (!eq3 a1 a2 a3 b1 b2 b3)) w := by
  go_simp
  unfold eq3
  by_cases h1 : a1 = b1 <;> by_cases h2 : a2 = b2 <;> by_cases h3 : a3 = b3 <;> simp [h1, h2, h3]
end Go.Proofs.YtfmcngncaffloaaGreatDoor
