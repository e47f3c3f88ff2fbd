import Derived.Test.YtfmcngncaffloaaDoorSumB
namespace Go.Proofs.YtfmcngncaffloaaDoor
open Go.RowKit

abbrev I (n : Int) : Value := .int .i64 n
/-- An error of errors.New's make; a fault of a batch. -/
abbrev Sent (a : Addr) : Value := .iface 149 (.pointer (some a))
abbrev Flt (s : ByteArray) (why : Value) : Value := .iface 91 (.agg #[.string s, why])
/-- What the package-level variables hold, as far as Encode reads them. -/
structure Gl (w : World) (eb ef : Addr) : Prop where
  errBatch : w.cell? ⟨4, 0, none⟩ = some (Sent eb)
  errFrame : w.cell? ⟨0, 0, none⟩ = some (Sent ef)
  ne : eb ≠ ef
  atB : ∃ ca ta, w.heap[eb.block]? = some (.cells ca ta (0, 0))
  atF : ∃ ca ta, w.heap[ef.block]? = some (.cells ca ta (0, 0))
  rules : ∀ j, j < 42 → w.cell? ⟨5, j, none⟩ = some (I (Wv.tab.getD j 0))
theorem lt_of_cell {w : World} {b o : Nat} {u : Value} (h : w.cell? ⟨b, o, none⟩ = some u) : b < w.heap.size := World.block_lt_of_cell? w _ h
theorem lt_of_heap {w : World} {k : Nat} {o : Obj} (h : w.heap[k]? = some o) : k < w.heap.size := (Array.getElem?_eq_some_iff.1 h).1
/-- A cell, a block that were there stand there still. -/
theorem cell_kept {w w' : World} (hb : Below w.heap.size w w') {b o : Nat} {u : Value} (h : w.cell? ⟨b, o, none⟩ = some u) : w'.cell? ⟨b, o, none⟩ = some u := by
  rw [hb.cell (p := ⟨b, o, none⟩) (lt_of_cell h)]; exact h
theorem heap_kept {w w' : World} (hb : Below w.heap.size w w') {k : Nat} {o : Obj} (h : w.heap[k]? = some o) : w'.heap[k]? = some o := by
  rw [hb.block k (lt_of_heap h)]; exact h
theorem Gl.kept {w w' : World} {eb ef : Addr} (g : Gl w eb ef) (hb : Below w.heap.size w w') : Gl w' eb ef :=
  ⟨cell_kept hb g.errBatch, cell_kept hb g.errFrame, g.ne, g.atB.imp fun _ h => h.imp fun _ h => heap_kept hb h, g.atF.imp fun _ h => h.imp fun _ h => heap_kept hb h, fun j h => cell_kept hb (g.rules j h)⟩
theorem heap_new {w : World} {k : Nat} {o : Obj} (h : w.heap[k]? = some o) (p : Obj) : (w.alloc p).heap[k]? = some o := by
  rw [Below.heap_alloc w p k (lt_of_heap h)]; exact h
theorem belowN {B : Nat} {w w' : World} (h : Below B w w') (n : Nat) : Below B w (w'.drewN n) := ⟨h.os, h.tape, h.output, h.size, h.block⟩

end Go.Proofs.YtfmcngncaffloaaDoor
