import Derived.Test.YtfmcngncaffloaaGreatDoorG27DecA
import Derived.Deep.QuietTactic
import Derived.BigQuiet
import Derived.Test.YtfmcngncaffloaaGreatDoorG23AppF
import Derived.Deep.AppendLies
namespace Go.Proofs.YtfmcngncaffloaaGreatDoor
open Go.RowKit
set_option maxRecDepth 100000

end Go.Proofs.YtfmcngncaffloaaGreatDoor

namespace Go.Proofs.YtfmcngncaffloaaGreatDoor
open Go.RowKit
set_option maxRecDepth 100000

theorem grown_trans {w w' w2 : World} {row : Option Nat} (h : w.grownBy w' row) (h2 : w'.grownBy w2 row) : w.grownBy w2 row :=
  ⟨h2.os.trans h.os, h2.tape.trans h.tape, h2.output.trans h.output, Nat.le_trans h.size h2.size, fun k hk hr => (h2.block k (Nat.lt_of_lt_of_le hk h.size) hr).trans (h.block k hk hr)⟩
theorem below_g {w0 w w' : World} {g : Nat} (h : Below w0.heap.size w0 w) (hg : w.grownBy w' (some g)) (hw : w0.heap.size ≤ g) : Below w0.heap.size w0 w' :=
  h.grown hg h.size (fun k e => by cases e; exact hw)

theorem grown_new {w w' : World} {o : Obj} {row : Option Nat} (h : (w.alloc o).grownBy w' row) : w.grownBy w' row :=
  ⟨h.os, h.tape, h.output, Nat.le_trans (by simp) h.size, fun k hk hr => (h.block k (by simp; omega) hr).trans (Below.heap_alloc w o k hk)⟩
theorem grown_set_new {w w' : World} {row : Option Nat} (h : w.grownBy w' row) {a : Addr} (ha : w.heap.size ≤ a.block) (u : Value) : w.grownBy (w'.setCell a u) row :=
  ⟨h.os, h.tape, h.output, Nat.le_trans h.size (by simp [World.setCell]), fun k hk hr => (heap_setCell_other w' a k u (by omega)).trans (h.block k hk hr)⟩
theorem Rd.other {w : World} {g : Nat} {c : List UInt8} {q : Wv.St} (h : Rd w g c q) {a : Addr} (ha : g ≠ a.block) (u : Value) : Rd (w.setCell a u) g c q := by
  cases q with
  | some k => exact Blk.other h ha u
  | none => obtain ⟨b, n, y, h⟩ := h; exact ⟨b, n, y, Blk.other h ha u⟩
theorem Rd.alloc {w : World} {g : Nat} {c : List UInt8} {q : Wv.St} (h : Rd w g c q) (o : Obj) : Rd (w.alloc o) g c q := by
  cases q with
  | some k => exact Blk.alloc h o
  | none => obtain ⟨b, n, y, h⟩ := h; exact ⟨b, n, y, Blk.alloc h o⟩

end Go.Proofs.YtfmcngncaffloaaGreatDoor

namespace Go.Proofs.YtfmcngncaffloaaGreatDoor
open Go.RowKit
set_option maxRecDepth 100000

abbrev eff0 : Array Value := #[.int .i64 0, .int .i64 0, .int .i64 0, .int .i64 0, .int .i64 0, .int .i64 0, .slice none 0 0]
/-- The reading of an effect under way: the reader, the answer's block, the effect's. -/
structure Ew (w w0 wi : World) (g E : Nat) (c : List UInt8) (q : Wv.St) (es : Array Value) : Prop where
  rd : Rd wi g c q
  grown : w.grownBy wi (some g)
  below : Below w0.heap.size w0 wi
  kR : Blk wi w.heap.size eff0 149
  kE : Blk wi E es 149
  lt : w.heap.size < E
  lg : g < w.heap.size
  gg : w0.heap.size ≤ g
theorem Ew.kept {w w0 wi wj : World} {g E : Nat} {c : List UInt8} {q : Wv.St} {es : Array Value} (h : Ew w w0 wi g E c q es) (hb : Below wi.heap.size wi wj) : Ew w w0 wj g E c q es :=
  ⟨h.rd.kept hb h.rd.lt, grown_trans h.grown ⟨hb.os, hb.tape, hb.output, hb.size, fun k hk _ => hb.block k hk⟩, h.below.trans (hb.mono h.below.size), h.kR.kept hb h.kR.lt, h.kE.kept hb h.kE.lt, h.lt, h.lg, h.gg⟩
theorem Ew.alloc {w w0 wi : World} {g E : Nat} {c : List UInt8} {q : Wv.St} {es : Array Value} (h : Ew w w0 wi g E c q es) (o : Obj) : Ew w w0 (wi.alloc o) g E c q es :=
  h.kept ((Below.refl _ _).alloc (Nat.le_refl _) _)
theorem Ew.read {w w0 wi wj : World} {g E : Nat} {c : List UInt8} {q q' : Wv.St} {es : Array Value} (h : Ew w w0 wi g E c q es) (hg : wi.grownBy wj (some g)) (hr : Rd wj g c q') : Ew w w0 wj g E c q' es :=
  ⟨hr, grown_trans h.grown hg, below_g h.below hg h.gg, h.kR.grown hg (by have := h.lg; simp; omega), h.kE.grown hg (by have := h.lg; have := h.lt; simp; omega), h.lt, h.lg, h.gg⟩
theorem Ew.set {w w0 wi : World} {g E : Nat} {c : List UInt8} {q : Wv.St} {es : Array Value} (h : Ew w w0 wi g E c q es) (j : Nat) (u : Value) : Ew w w0 (wi.setCell ⟨E, j, none⟩ u) g E c q (es.setIfInBounds j u) :=
  ⟨h.rd.other (by have := h.lg; have := h.lt; show g ≠ E; omega) u, grown_set_new h.grown (by have := h.lt; show w.heap.size ≤ E; omega) u, h.below.setCell (by have := h.lt; have := h.lg; have := h.gg; show w0.heap.size ≤ E; omega) u, h.kR.other (by have := h.lt; show w.heap.size ≠ E; omega) u, h.kE.set j u, h.lt, h.lg, h.gg⟩
theorem Ew.begin {w w0 w3 : World} {g : Nat} {c : List UInt8} {q : Wv.St} (h1 : Rd w3 g c q) (h2 : w.grownBy w3 (some g)) (h3 : Below w0.heap.size w0 w3) (h4 : Blk w3 w.heap.size eff0 149) (h5 : g < w.heap.size) (h6 : w0.heap.size ≤ g) (es : Array Value) :
    Ew w w0 (w3.alloc (.cells es 149)) g w3.heap.size c q es :=
  ⟨h1.alloc _, grown_trans h2 (grown_new (grown_refl _ _)), h3.alloc h3.size _, h4.alloc _, heap_alloc_new w3 _, h4.lt, h5, h6⟩
/-- The answer's block written full. -/
abbrev put7 (w : World) (R : Nat) (a0 a1 a2 a3 a4 a5 a6 : Value) : World := ((((((w.setCell ⟨R, 0, none⟩ a0).setCell ⟨R, 1, none⟩ a1).setCell ⟨R, 2, none⟩ a2).setCell ⟨R, 3, none⟩ a3).setCell ⟨R, 4, none⟩ a4).setCell ⟨R, 5, none⟩ a5).setCell ⟨R, 6, none⟩ a6
theorem Ew.fin {w w0 wi : World} {g E : Nat} {c : List UInt8} {q : Wv.St} {es : Array Value} (h : Ew w w0 wi g E c q es) (a0 a1 a2 a3 a4 a5 a6 : Value) :
    Rd (put7 wi w.heap.size a0 a1 a2 a3 a4 a5 a6) g c q ∧ w.grownBy (put7 wi w.heap.size a0 a1 a2 a3 a4 a5 a6) (some g) := by
  have hl := h.lg
  refine ⟨?_, ?_⟩
  · unfold put7
    exact ((((((h.rd.other (by show g ≠ w.heap.size; omega) _).other (by show g ≠ w.heap.size; omega) _).other (by show g ≠ w.heap.size; omega) _).other (by show g ≠ w.heap.size; omega) _).other (by show g ≠ w.heap.size; omega) _).other (by show g ≠ w.heap.size; omega) _).other (by show g ≠ w.heap.size; omega) _
  · unfold put7
    exact grown_set_new (grown_set_new (grown_set_new (grown_set_new (grown_set_new (grown_set_new (grown_set_new h.grown (Nat.le_refl _) _) (Nat.le_refl _) _) (Nat.le_refl _) _) (Nat.le_refl _) _) (Nat.le_refl _) _) (Nat.le_refl _) _) (Nat.le_refl _) _
theorem Rd.drew {w : World} {g : Nat} {c : List UInt8} {q : Wv.St} (h : Rd w g c q) : Rd w.drew g c q := by
  cases q with
  | some k => exact Blk.drew h
  | none => obtain ⟨b, n, y, h⟩ := h; exact ⟨b, n, y, Blk.drew h⟩
theorem Ew.drew {w w0 wi : World} {g E : Nat} {c : List UInt8} {q : Wv.St} {es : Array Value} (h : Ew w w0 wi g E c q es) : Ew w w0 wi.drew g E c q es :=
  ⟨h.rd.drew, ⟨h.grown.os, h.grown.tape, h.grown.output, h.grown.size, h.grown.block⟩, h.below.drew, h.kR.drew, h.kE.drew, h.lt, h.lg, h.gg⟩
theorem Ew.grow {w w0 wi wj : World} {g E : Nat} {c : List UInt8} {q : Wv.St} {es : Array Value} {row : Option Nat} (h : Ew w w0 wi g E c q es) (hg : wi.grownBy wj row) (hr : ∀ b, row = some b → E < b) : Ew w w0 wj g E c q es := by
  have h1 := h.lt
  have h2 := h.lg
  have h3 := h.gg
  have ne : ∀ k, k ≤ E → some k ≠ row := fun k hk e => by have := hr k e.symm; omega
  exact ⟨h.rd.grown hg (ne _ (by omega)), ⟨hg.os.trans h.grown.os, hg.tape.trans h.grown.tape, hg.output.trans h.grown.output, Nat.le_trans h.grown.size hg.size, fun k hk hk2 => (hg.block k (Nat.lt_of_lt_of_le hk h.grown.size) (ne _ (by omega))).trans (h.grown.block k hk hk2)⟩,
    h.below.grown hg h.below.size (fun k e => by have := hr k e; omega), h.kR.grown hg (ne _ (by omega)), h.kE.grown hg (ne _ (by omega)), h.lt, h.lg, h.gg⟩
theorem own_mono {w : World} {base base' : Nat} {e : TypeId} {size n : Nat} {v : Value} {xs : List Value} (h : w.ownsRow base e size v n xs) (hb : base' ≤ base) : w.ownsRow base' e size v n xs := by
  refine ⟨h.1, ?_⟩
  rcases h.2 with h2 | ⟨g, cap, cur, rfl, hbg, r⟩
  · exact .inl h2
  · exact .inr ⟨g, cap, cur, rfl, Nat.le_trans hb hbg, r⟩
theorem flat_snoc {α : Type} (f : α → List Value) (l : List α) (x : α) : flat f (l ++ [x]) = flat f l ++ f x := by
  induction l with
  | nil => simp [flat]
  | cons y l ih => simp only [List.cons_append, flat, ih, List.append_assoc]
end Go.Proofs.YtfmcngncaffloaaGreatDoor

namespace Go.Proofs.YtfmcngncaffloaaGreatDoor
open Go.RowKit
set_option maxRecDepth 100000

end Go.Proofs.YtfmcngncaffloaaGreatDoor
