import Derived.Test.YtfmcngncaffloaaGreatDoorG13BkJ
import Derived.Test.YtfmcngncaffloaaGreatDoorG04PoA
import Derived.Test.YtfmcngncaffloaaGreatDoorG17Said
import Derived.Deep.RegionHeld3
import Derived.Deep.RegionLaw
namespace Go.Proofs.YtfmcngncaffloaaGreatDoor
open Go.RowKit
set_option maxRecDepth 100000

abbrev FltF (n : Int) (why : Value) : Value := .iface 276 (.agg #[I n, why])
/-- What the package-level errors of frames hold. -/
structure Gd (w : World) : Prop where
  cut : ∃ a, w.cell? ⟨7, 0, none⟩ = some (Sent a)
  len : ∃ a, w.cell? ⟨5, 0, none⟩ = some (Sent a)
  sum : ∃ a, w.cell? ⟨6, 0, none⟩ = some (Sent a)
  rest : ∃ a, w.cell? ⟨2, 0, none⟩ = some (Sent a)
theorem Gd.kept {w w' : World} (g : Gd w) (hb : Below w.heap.size w w') : Gd w' :=
  ⟨g.cut.imp fun _ h => cell_kept hb h, g.len.imp fun _ h => cell_kept hb h, g.sum.imp fun _ h => cell_kept hb h, g.rest.imp fun _ h => cell_kept hb h⟩
/-- A reader, and how far it has come. -/
def Rd (w : World) (g : Nat) (c : List UInt8) : Wv.St → Prop
  | some k => Blk w g #[.string ⟨c.toArray⟩, I k, .nilIface] 252
  | none => ∃ a n why, Blk w g #[.string ⟨c.toArray⟩, I a, FltF n why] 252
theorem Rd.grown {w w' : World} {g : Nat} {c : List UInt8} {q : Wv.St} {row : Option Nat} (h : Rd w g c q) (hg : w.grownBy w' row) (hne : some g ≠ row) : Rd w' g c q := by
  cases q with
  | some k => exact Blk.grown h hg hne
  | none => obtain ⟨a, n, y, h⟩ := h; exact ⟨a, n, y, Blk.grown h hg hne⟩
theorem Rd.kept {w w' : World} {B g : Nat} {c : List UInt8} {q : Wv.St} (h : Rd w g c q) (hb : Below B w w') (hg : g < B) : Rd w' g c q := by
  cases q with
  | some k => exact Blk.kept h hb hg
  | none => obtain ⟨a, n, y, h⟩ := h; exact ⟨a, n, y, Blk.kept h hb hg⟩
theorem Rd.lt {w : World} {g : Nat} {c : List UInt8} {q : Wv.St} (h : Rd w g c q) : g < w.heap.size := by
  cases q with
  | some k => exact Blk.lt h
  | none => obtain ⟨a, n, y, h⟩ := h; exact Blk.lt h
theorem grown_refl (w : World) (row : Option Nat) : w.grownBy w row := ⟨rfl, rfl, rfl, Nat.le_refl _, fun _ _ _ => rfl⟩

end Go.Proofs.YtfmcngncaffloaaGreatDoor
