import Derived.Test.YtfmcngncaffloaaDoorPow
namespace Go.Proofs.YtfmcngncaffloaaDoor
open Go.RowKit

/-- A fault of a batch: one deep over the sentinel at eb; one or two deep. -/
def IsFault (eb : Addr) (v : Value) : Prop := ∃ s, v = Flt s (Sent eb)
def IsFault2 (eb : Addr) (v : Value) : Prop := (∃ s, v = Flt s (Sent eb)) ∨ ∃ s t, v = Flt s (Flt t (Sent eb))
def ErrEnd2 (ok : Bool) (eb : Addr) (e : Ending) : Prop := if ok then e = .returned .nilIface else ∃ v, e = .returned v ∧ IsFault2 eb v
/-- How a check ends: nil, or a fault. -/
def ErrEnd (ok : Bool) (eb : Addr) (e : Ending) : Prop := if ok then e = .returned .nilIface else ∃ v, e = .returned v ∧ IsFault eb v
theorem errEnd_no {ok : Bool} {eb : Addr} {s : ByteArray} (h : ok = false) : ErrEnd ok eb (.returned (Flt s (Sent eb))) := by
  rw [h]; exact ⟨_, rfl, ⟨_, rfl⟩⟩
theorem errEnd_yes {ok : Bool} {eb : Addr} (h : ok = true) : ErrEnd ok eb (.returned .nilIface) := by
  rw [h]; rfl

end Go.Proofs.YtfmcngncaffloaaDoor
