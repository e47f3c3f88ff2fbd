import Derived.Test.YtfmcngncaffloaaDoorGe
import Derived.Test.YtfmcngncaffloaaDoorSaid
import Derived.Deep.RegionHeld3
namespace Go.Proofs.YtfmcngncaffloaaDoor
open Go.RowKit
set_option maxRecDepth 100000

set_option maxHeartbeats 400000 in
theorem errno_nil (w : World) :
    Calls Tryd.prog 21 #[.nilIface] w fun e w' => e = .returned (I 0) ∧ w' = w := by
  go_enter Tryd.func21, Tryd.ntmps21
  go_wp2
  go_ret
  exact ⟨rfl, rfl⟩

theorem is_faults (v : Value) (w : World) (eb ef : Addr) (g : Gl w eb ef) (hv : IsFault2 eb v) :
    Calls Tryd.prog 37 #[v, Sent ef] w fun e w' => e = .returned (.bool false) ∧ Below w.heap.size w w' := by
  obtain ⟨ca, ta, ha⟩ := g.atB
  obtain ⟨cb, tb, hb⟩ := g.atF
  rcases hv with ⟨s, rfl⟩ | ⟨s, t, rfl⟩
  · exact is_fault s eb ef ca cb ta tb w g.ne ha hb
  · exact is_fault2 s t eb ef ca cb ta tb w g.ne ha hb

set_option maxHeartbeats 800000 in
theorem errno_fault (T : TypeId) (x : Value) (w : World) (eb ef : Addr) (g : Gl w eb ef) (hv : IsFault2 eb (.iface T x)) :
    Calls Tryd.prog 21 #[.iface T x] w fun e w' => e = .returned (I 16) ∧ Below w.heap.size w w' := by
  have hF := g.errFrame
  have hz := lt_of_cell hF
  have g' : Hid (Gl w eb ef) := g
  have hv' : Hid (IsFault2 eb (.iface T x)) := hv
  clear g hv
  go_enter Tryd.func21, Tryd.ntmps21
  go_wp2_with (first | (go_at_call 37; refine (is_faults _ _ eb ef ?_ hv'.out).mono ?_; exact g'.out; rintro e w1 ⟨rfl, hb1⟩))
  go_ret
  exact ⟨rfl, hb1⟩

end Go.Proofs.YtfmcngncaffloaaDoor
