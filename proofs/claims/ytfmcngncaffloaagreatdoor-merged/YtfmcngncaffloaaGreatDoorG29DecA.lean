import Derived.Test.YtfmcngncaffloaaGreatDoorG15BkJ
import Derived.Test.YtfmcngncaffloaaGreatDoorG05PoA
import Derived.Test.YtfmcngncaffloaaGreatDoorG19Said
import Derived.Deep.RegionHeld3
import Derived.Deep.RegionLaw
namespace Go.Proofs.YtfmcngncaffloaaGreatDoor
open Go.RowKit
set_option maxRecDepth 100000

abbrev FltF (n : Int) (why : Value) : Value := .iface 276 (.agg #[I n, why])
/-- What the package-level errors of frames hold. -/
structure Gd (w : World) : Prop where
  cut : ∃ a, w.cell? ⟨7, 0, none⟩ = some (Sent a)
  len : ∃ a, w.cell? ⟨5, 0, none⟩ = some (Sent a)
  sum : ∃ a, w.cell? ⟨6, 0, none⟩ = some (Sent a)
  rest : ∃ a, w.cell? ⟨2, 0, none⟩ = some (Sent a)
theorem Gd.kept {w w' : World} (g : Gd w) (hb : Below w.heap.size w w') : Gd w' :=
  ⟨g.cut.imp fun _ h => cell_kept hb h, g.len.imp fun _ h => cell_kept hb h, g.sum.imp fun _ h => cell_kept hb h, g.rest.imp fun _ h => cell_kept hb h⟩
/-- A reader, and how far it has come. -/
def Rd (w : World) (g : Nat) (c : List UInt8) : Wv.St → Prop
  | some k => Blk w g #[.string ⟨c.toArray⟩, I k, .nilIface] 252
  | none => ∃ a n why, Blk w g #[.string ⟨c.toArray⟩, I a, FltF n why] 252
theorem Rd.grown {w w' : World} {g : Nat} {c : List UInt8} {q : Wv.St} {row : Option Nat} (h : Rd w g c q) (hg : w.grownBy w' row) (hne : some g ≠ row) : Rd w' g c q := by
  cases q with
  | some k => exact Blk.grown h hg hne
  | none => obtain ⟨a, n, y, h⟩ := h; exact ⟨a, n, y, Blk.grown h hg hne⟩
theorem Rd.kept {w w' : World} {B g : Nat} {c : List UInt8} {q : Wv.St} (h : Rd w g c q) (hb : Below B w w') (hg : g < B) : Rd w' g c q := by
  cases q with
  | some k => exact Blk.kept h hb hg
  | none => obtain ⟨a, n, y, h⟩ := h; exact ⟨a, n, y, Blk.kept h hb hg⟩
theorem Rd.lt {w : World} {g : Nat} {c : List UInt8} {q : Wv.St} (h : Rd w g c q) : g < w.heap.size := by
  cases q with
  | some k => exact Blk.lt h
  | none => obtain ⟨a, n, y, h⟩ := h; exact Blk.lt h
theorem grown_set (w : World) (g j : Nat) (u : Value) : w.grownBy (w.setCell ⟨g, j, none⟩ u) (some g) :=
  ⟨rfl, rfl, rfl, by simp [World.setCell], fun k _ hk => heap_setCell_other w ⟨g, j, none⟩ k u (fun e => hk (by rw [e]))⟩
theorem grown_refl (w : World) (row : Option Nat) : w.grownBy w row := ⟨rfl, rfl, rfl, Nat.le_refl _, fun _ _ _ => rfl⟩

set_option maxHeartbeats 400000 in
theorem fail_some (c : List UInt8) (k : Nat) (g : Nat) (T : TypeId) (x : Value) (w : World) (h : Rd w g c (some k)) :
    Calls Tryz.prog 166 #[.pointer (some ⟨g, 0, none⟩), .iface T x] w fun e w' => e = .returned (.tuple #[]) ∧ Rd w' g c none ∧ w.grownBy w' (some g) := by
  have h' : Hid (Blk w g #[.string ⟨c.toArray⟩, I k, .nilIface] 252) := h
  have c0 : w.cell? ⟨g, 0, none⟩ = some (.string ⟨c.toArray⟩) := h'.out.cell 0
  have c1 : w.cell? ⟨g, 1, none⟩ = some (I k) := h'.out.cell 1
  have c2 : w.cell? ⟨g, 2, none⟩ = some .nilIface := h'.out.cell 2
  have z2 := h'.out.frozen 2
  clear h
  go_enter Tryz.func166, Tryz.ntmps166
  go_wp2
  go_end0
  exact ⟨rfl, ⟨_, _, _, h'.out.set 2 _⟩, grown_set _ _ _ _⟩

set_option maxHeartbeats 400000 in
theorem fail_none (c : List UInt8) (g : Nat) (v : Value) (w : World) (h : Rd w g c none) :
    Calls Tryz.prog 166 #[.pointer (some ⟨g, 0, none⟩), v] w fun e w' => e = .returned (.tuple #[]) ∧ Rd w' g c none ∧ w.grownBy w' (some g) := by
  obtain ⟨a, n, y, h⟩ := h
  have h' : Hid (Blk w g #[.string ⟨c.toArray⟩, I a, FltF n y] 252) := h
  have c2 : w.cell? ⟨g, 2, none⟩ = some (FltF n y) := h'.out.cell 2
  clear h
  go_enter Tryz.func166, Tryz.ntmps166
  go_wp2
  go_end0
  exact ⟨rfl, ⟨_, _, _, h'.out⟩, grown_refl _ _⟩

set_option maxHeartbeats 400000 in
theorem fail_nil (c : List UInt8) (k : Nat) (g : Nat) (w : World) (h : Rd w g c (some k)) :
    Calls Tryz.prog 166 #[.pointer (some ⟨g, 0, none⟩), .nilIface] w fun e w' => e = .returned (.tuple #[]) ∧ Rd w' g c (some k) ∧ w.grownBy w' (some g) := by
  have h' : Hid (Blk w g #[.string ⟨c.toArray⟩, I k, .nilIface] 252) := h
  have c2 : w.cell? ⟨g, 2, none⟩ = some .nilIface := h'.out.cell 2
  clear h
  go_enter Tryz.func166, Tryz.ntmps166
  go_wp2
  go_end0
  exact ⟨rfl, h'.out, grown_refl _ _⟩

end Go.Proofs.YtfmcngncaffloaaGreatDoor
