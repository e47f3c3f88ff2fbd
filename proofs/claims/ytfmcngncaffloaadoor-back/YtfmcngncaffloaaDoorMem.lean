import Derived.Test.YtfmcngncaffloaaDoorGlob
import Derived.Test.YtfmcngncaffloaaDoorPlain2
namespace Go.Proofs.YtfmcngncaffloaaDoor
open Go.RowKit
set_option maxRecDepth 100000

def dotCells (d : Wv.Dt) : List Value := [I d.o, I d.s, I d.i]
abbrev dotV (d : Wv.Dt) : Value := .agg #[I d.o, I d.s, I d.i]
/-- These cells stand behind one another from the address on. -/
def At (w : World) (a : Option Addr) (cells : List Value) : Prop := ∀ j u, cells[j]? = some u → ∃ b o, a = some ⟨b, o, none⟩ ∧ w.cell? ⟨b, o + j, none⟩ = some u
theorem At.kept {w w' : World} {a : Option Addr} {cs : List Value} (h : At w a cs) (hb : Below w.heap.size w w') : At w' a cs := by
  intro j u hj
  obtain ⟨b, o, e, hc⟩ := h j u hj
  exact ⟨b, o, e, cell_kept hb hc⟩
theorem At.first {w : World} {a : Option Addr} {cs : List Value} (h : At w a cs) (hn : 0 < cs.length) : ∃ b o, a = some ⟨b, o, none⟩ ∧ b < w.heap.size ∧ ∀ j u, cs[j]? = some u → w.cell? ⟨b, o + j, none⟩ = some u := by
  obtain ⟨b, o, e, hc⟩ := h 0 _ (List.getElem?_eq_getElem hn)
  refine ⟨b, o, e, lt_of_cell hc, fun j u hj => ?_⟩
  obtain ⟨b', o', e', hc'⟩ := h j u hj
  rw [e] at e'
  cases e'
  exact hc'
/-- A batch without its effects: its numbers, its Clock in memory, whatever its Effects are. -/
abbrev batV (b : Wv.Bt) (ca : Option Addr) (cc : Nat) (ev : Value) : Value := .agg #[I b.o, I b.s, I b.t, .slice ca b.clock.length cc, ev]
theorem clock_at {w : World} {ca : Option Addr} {zs : List Int} (h : At w ca (zs.map I)) {k : Nat} (hk : k < zs.length) : ∃ b o, ca = some ⟨b, o, none⟩ ∧ b < w.heap.size ∧ w.cell? ⟨b, o + k, none⟩ = some (I (zs.getD k 0)) := by
  obtain ⟨b, o, e, hb, hc⟩ := h.first (by simp; omega)
  exact ⟨b, o, e, hb, hc k _ (by simp [hk])⟩

end Go.Proofs.YtfmcngncaffloaaDoor
