import Derived.Test.YtfmcngncaffloaaGreatDoorPoG
import Derived.Conc.SmallLaws
namespace Go.Proofs.YtfmcngncaffloaaGreatDoor
open Go.RowKit
set_option maxRecDepth 100000

theorem infoU : (Tryz.prog.info? 164).map (·.bytes) = some 0 := by kernel_rfl
theorem mkchan (w : World) : (Instr.makeChan 116 (.int .i64 40)).run Tryz.prog w = .ok (.chan (some w.heap.size)) (w.alloc (.chan 40 #[] false 0 0 false)) := by
  obtain ⟨i, hi, hb⟩ := Option.map_eq_some_iff.1 infoU
  simpa using Go.Conc.run_makeChan (P := Tryz.prog) (w := w) Tryz.underlying116 hi .i64 40 (by omega) (by rw [hb]; omega)
def PnewOk (w : World) (own : Clr) (c : Nat) (e : Ending) (w' : World) : Prop := ∃ pp ch own', e = .returned (.pointer (some ⟨pp, 0, none⟩)) ∧ Below w.heap.size w w' ∧ Ext own own' w.heap.size ∧ PoIn w' own' c pp ch (.slice none 0 0) []
set_option maxHeartbeats 800000 in
theorem pnew_any (own : Clr) (c : Nat) (w : World) :
    Calls Tryz.prog 37 #[] w fun e w' => PnewOk w own c e w' := by
  have hmc := fun W => mkchan W
  go_enter Tryz.func37, Tryz.ntmps37
  go_wp2
  go_ret
  refine ⟨_, w.heap.size, newTo own w.heap.size c, rfl, ((Below.refl _ _).alloc (Nat.le_refl _) _).alloc (by simp) _, newTo_ext _ _ _, ⟨?_, ⟨#[], 0, 0, ?_, rfl⟩, ⟨rfl, .inl ⟨rfl, rfl⟩⟩, newTo_new _ _ _ _ (by simp), newTo_new _ _ _ _ (Nat.le_refl _), fun g e => (by simp [Value.ownBlock] at e), by simp⟩⟩
  · have := heap_alloc_new (w.alloc (.chan 40 #[] false 0 0 false)) (.cells #[.chan (some w.heap.size), .slice none 0 0] 119)
    rw [World.size_alloc] at this
    exact this
  · rw [Below.heap_alloc _ _ _ (by simp)]
    exact (MapKept.heap_alloc w _).1

end Go.Proofs.YtfmcngncaffloaaGreatDoor
