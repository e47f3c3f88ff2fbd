import Derived.Test.YtfmcngncaffloaaGreatDoorG43CsB
namespace Go.Proofs.YtfmcngncaffloaaGreatDoor
open Go.RowKit
set_option maxRecDepth 100000

abbrev cf0 (x : Int) : List UInt8 := Wv.frameB (cb0 x)
abbrev cf1 (y : Int) : List UInt8 := Wv.frameB (cb1 y)
def m01 (x : Int) : Ms := ⟨1, 0, 1, cf0 x, false⟩
def m02 (x : Int) : Ms := ⟨1, 0, 2, cf0 x, false⟩
def m10 (y : Int) : Ms := ⟨1, 1, 0, cf1 y, false⟩
def m12 (y : Int) : Ms := ⟨1, 1, 2, cf1 y, false⟩
def cs1 (x : Int) : Sto := ⟨[cA1 x, newR 1 3, newR 2 3], [m01 x, m02 x]⟩
def cs2 (x : Int) : Sto := ⟨[cA1 x, cB1 x, newR 2 3], [m02 x]⟩
def cs3 (x y : Int) : Sto := ⟨[cA1 x, commitS (cB2 x y), newR 2 3], [m02 x, m10 y, m12 y]⟩
def cs4 (x y : Int) : Sto := ⟨[cA1 x, commitS (cB2 x y), newR 2 3], [m02 x, m10 y, m12 y, m12 y]⟩
def cs5 (x y : Int) (j k : Nat) : Sto := ⟨[cA1 x, commitS (cB2 x y), newR 2 3], [m02 x, m10 y, m12 y, spoilM (m12 y) j k]⟩
def cs7 (x y : Int) : Sto := ⟨[cA1 x, commitS (cB2 x y), cC1 y], [m02 x, m10 y, m12 y]⟩
def cs8 (x y : Int) : Sto := ⟨[cA1 x, commitS (cB2 x y), cC1 y], [m02 x, m10 y]⟩
def cs9 (x y : Int) : Sto := ⟨[cA1 x, commitS (cB2 x y), cC2 x y], [m10 y]⟩
section
variable {x y : Int}
variable {w0 w : World} {eb ef : Addr} {s : Nat} {P : Nat → Prop}
theorem acs_lit1 (w : World) (a b c d e : Int) (ob : Nat) (hb : b = ob) : AcsAt (w.alloc (.cells #[I a, I b, I c, I d, I e] 41)) w.heap.size [⟨a, ob, c, d⟩] := by
  have hB : Blk (w.alloc (.cells #[I a, I b, I c, I d, I e] 41)) w.heap.size #[I a, I b, I c, I d, I e] 41 := heap_alloc_new w _
  intro i hi
  have : i = 0 := by simpa using hi
  subst this
  subst hb
  exact ⟨hB.cell 0, hB.cell 1, hB.cell 2, hB.cell 3⟩
theorem acs_lit2 (w : World) (a b c d e a' b' c' d' e' : Int) (ob ob' : Nat) (hb : b = ob) (hb' : b' = ob') : AcsAt (w.alloc (.cells #[I a, I b, I c, I d, I e, I a', I b', I c', I d', I e'] 41)) w.heap.size [⟨a, ob, c, d⟩, ⟨a', ob', c', d'⟩] := by
  have hB : Blk (w.alloc (.cells #[I a, I b, I c, I d, I e, I a', I b', I c', I d', I e'] 41)) w.heap.size #[I a, I b, I c, I d, I e, I a', I b', I c', I d', I e'] 41 := heap_alloc_new w _
  intro i hi
  subst hb hb'
  rcases i with _ | _ | i
  · exact ⟨hB.cell 0, hB.cell 1, hB.cell 2, hB.cell 3⟩
  · exact ⟨hB.cell 5, hB.cell 6, hB.cell 7, hB.cell 8⟩
  · exact absurd hi (by simp)
end

end Go.Proofs.YtfmcngncaffloaaGreatDoor

namespace Go.Proofs.YtfmcngncaffloaaGreatDoor
open Go.RowKit
set_option maxRecDepth 100000

theorem lit_At (w : World) (cs : List Value) (t : TypeId) : At (w.alloc (.cells cs.toArray t)) (some ⟨w.heap.size, 0, none⟩) cs := fun j u hj => ⟨w.heap.size, 0, rfl, by have := lit_any w cs t j u hj; rw [Addr.add_lit] at this; exact this⟩
def CsOk (w : World) (e : Ending) (w' : World) : Prop := e = .returned (.bool true) ∧ Below w.heap.size w w'
end Go.Proofs.YtfmcngncaffloaaGreatDoor
