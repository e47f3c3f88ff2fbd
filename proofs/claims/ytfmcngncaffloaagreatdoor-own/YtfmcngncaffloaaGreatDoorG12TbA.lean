import Derived.Test.YtfmcngncaffloaaGreatDoorG04PoA
import Derived.Test.YtfmcngncaffloaaGreatDoorG02Glob
import Derived.Lib.ConvBytes
import Derived.Lib.SmallJoins
import Derived.Laws.BitsAllLaws
namespace Go.Proofs.YtfmcngncaffloaaGreatDoor
open Go.RowKit
set_option maxRecDepth 100000

/-- Bytes of the call's own, in a row that came of a string. -/
def Tb (w : World) (g : Nat) (l : List UInt8) : Prop := ∃ cur : Array Value, w.heap[g]? = some (.cells cur 5 (cur.size, cur.size + 1)) ∧ ∀ j (hj : j < l.length), cur[j]? = some (B8 l[j])
theorem Tb.begin (w : World) (l : List UInt8) : Tb (Lib.bytesWorld w 5 ⟨l.toArray⟩) w.heap.size l :=
  ⟨_, Lib.bytesWorld_at_new w _ _, fun j hj => by simp [Lib.bytesCells, Array.getElem?_append, hj]⟩
theorem Tb.lt {w : World} {g : Nat} {l : List UInt8} (h : Tb w g l) : g < w.heap.size := by
  obtain ⟨cur, hc, _⟩ := h
  exact (Array.getElem?_eq_some_iff.1 hc).1
theorem Tb.cell {w : World} {g : Nat} {l : List UInt8} (h : Tb w g l) (j : Nat) (hj : j < l.length) : w.cell? ⟨g, j, none⟩ = some (B8 l[j]) := by
  obtain ⟨cur, hc, h2⟩ := h
  rw [Joins.cell_of_block hc]
  exact h2 j hj
theorem Tb.free {w : World} {g : Nat} {l : List UInt8} (h : Tb w g l) (j : Nat) (hj : j < l.length) : w.frozen? ⟨g, j, none⟩ = false := by
  obtain ⟨cur, hc, h2⟩ := h
  have := (Array.getElem?_eq_some_iff.1 (h2 j hj)).1
  simp [World.frozen?, hc]
  omega
theorem Tb.set {w : World} {g : Nat} {l : List UInt8} (h : Tb w g l) (j : Nat) (x : UInt8) : Tb (w.setCell ⟨g, j, none⟩ (B8 x)) g (l.set j x) := by
  obtain ⟨cur, hc, h2⟩ := h
  refine ⟨cur.setIfInBounds j (B8 x), ?_, fun k hk => ?_⟩
  · have := Joins.block_setCell hc (B8 x) (i := j)
    simpa using this
  · have hk' : k < l.length := by simpa using hk
    have hs := (Array.getElem?_eq_some_iff.1 (h2 k hk')).1
    rw [Array.getElem?_setIfInBounds]
    by_cases e : j = k
    · subst e
      simp [hs]
    · simp [e, h2 k hk']
theorem Tb.kept {w w' : World} {g : Nat} {l : List UInt8} (h : Tb w g l) (hb : Below w.heap.size w w') : Tb w' g l := by
  have hl := h.lt
  obtain ⟨cur, hc, h2⟩ := h
  exact ⟨cur, by rw [hb.block g hl]; exact hc, h2⟩
end Go.Proofs.YtfmcngncaffloaaGreatDoor
