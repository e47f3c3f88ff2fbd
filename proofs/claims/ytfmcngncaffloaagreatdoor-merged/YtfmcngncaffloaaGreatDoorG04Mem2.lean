import Derived.Test.YtfmcngncaffloaaGreatDoorG02Glob
import Derived.Test.YtfmcngncaffloaaGreatDoorG03Plain2
namespace Go.Proofs.YtfmcngncaffloaaGreatDoor
open Go.RowKit
set_option maxRecDepth 100000

def dotCells (d : Wv.Dt) : List Value := [I d.o, I d.s, I d.i]
abbrev dotV (d : Wv.Dt) : Value := .agg #[I d.o, I d.s, I d.i]
/-- These cells stand behind one another from the address on. -/
def At (w : World) (a : Option Addr) (cells : List Value) : Prop := ∀ j u, cells[j]? = some u → ∃ b o, a = some ⟨b, o, none⟩ ∧ w.cell? ⟨b, o + j, none⟩ = some u
theorem At.kept {w w' : World} {a : Option Addr} {cs : List Value} (h : At w a cs) (hb : Below w.heap.size w w') : At w' a cs := by
  intro j u hj
  obtain ⟨b, o, e, hc⟩ := h j u hj
  exact ⟨b, o, e, cell_kept hb hc⟩
theorem At.first {w : World} {a : Option Addr} {cs : List Value} (h : At w a cs) (hn : 0 < cs.length) : ∃ b o, a = some ⟨b, o, none⟩ ∧ b < w.heap.size ∧ ∀ j u, cs[j]? = some u → w.cell? ⟨b, o + j, none⟩ = some u := by
  obtain ⟨b, o, e, hc⟩ := h 0 _ (List.getElem?_eq_getElem hn)
  refine ⟨b, o, e, lt_of_cell hc, fun j u hj => ?_⟩
  obtain ⟨b', o', e', hc'⟩ := h j u hj
  rw [e] at e'
  cases e'
  exact hc'
/-- A batch without its effects: its numbers, its Clock in memory, whatever its Effects are. -/
abbrev batV (b : Wv.Bt) (ca : Option Addr) (cc : Nat) (ev : Value) : Value := .agg #[I b.o, I b.s, I b.t, .slice ca b.clock.length cc, ev]
theorem clock_at {w : World} {ca : Option Addr} {zs : List Int} (h : At w ca (zs.map I)) {k : Nat} (hk : k < zs.length) : ∃ b o, ca = some ⟨b, o, none⟩ ∧ b < w.heap.size ∧ w.cell? ⟨b, o + k, none⟩ = some (I (zs.getD k 0)) := by
  obtain ⟨b, o, e, hb, hc⟩ := h.first (by simp; omega)
  exact ⟨b, o, e, hb, hc k _ (by simp [hk])⟩

end Go.Proofs.YtfmcngncaffloaaGreatDoor

namespace Go.Proofs.YtfmcngncaffloaaGreatDoor
open Go.RowKit

/-- An effect in memory: what it is, and where its Dots lie. -/
structure Em where
  e : Wv.Ef
  da : Option Addr
  dc : Nat
def Em.dv (m : Em) : Value := .slice m.da m.e.dots.length m.dc
def Em.cells (m : Em) : List Value := [I m.e.op, I m.e.ob, I m.e.va, I m.e.ref.o, I m.e.ref.s, I m.e.ref.i, m.dv]
abbrev effV (m : Em) : Value := .agg #[I m.e.op, I m.e.ob, I m.e.va, I m.e.ref.o, I m.e.ref.s, I m.e.ref.i, .slice m.da m.e.dots.length m.dc]
def flat {α : Type} (f : α → List Value) : List α → List Value
  | [] => []
  | x :: l => f x ++ flat f l
theorem flat_len {α : Type} (f : α → List Value) (n : Nat) (hf : ∀ x, (f x).length = n) : ∀ l : List α, (flat f l).length = l.length * n
  | [] => by simp [flat]
  | x :: l => by simp [flat, hf, flat_len f n hf l, Nat.add_mul]; omega
theorem flat_get {α : Type} (f : α → List Value) (n : Nat) (hf : ∀ x, (f x).length = n) : ∀ (l : List α) (k : Nat) (hk : k < l.length) (j : Nat), j < n → (flat f l)[k * n + j]? = (f l[k])[j]?
  | x :: l, 0, _, j, hj => by
    rw [flat, List.getElem?_append_left (by rw [hf]; omega)]; simp
  | x :: l, k + 1, hk, j, hj => by
    rw [flat, List.getElem?_append_right (by rw [hf, Nat.add_mul]; omega), hf, show (k + 1) * n + j - n = k * n + j by rw [Nat.add_mul]; omega]
    have := flat_get f n hf l k (by simpa using hk) j hj
    simpa using this
theorem dotCells_len (d : Wv.Dt) : (dotCells d).length = 3 := rfl
theorem emCells_len (m : Em) : m.cells.length = 7 := rfl
/-- A batch in memory. -/
structure BatAt (w : World) (b : Wv.Bt) (ca ea : Option Addr) (ms : List Em) : Prop where
  clock : At w ca (b.clock.map I)
  effs : b.effs = ms.map (·.e)
  cells : At w ea (flat Em.cells ms)
  dots : ∀ m ∈ ms, At w m.da (flat dotCells m.e.dots)
abbrev bV (b : Wv.Bt) (ca ea : Option Addr) (cc ec : Nat) : Value := batV b ca cc (.slice ea b.effs.length ec)
theorem BatAt.kept {w w' : World} {b : Wv.Bt} {ca ea : Option Addr} {ms : List Em} (h : BatAt w b ca ea ms) (hb : Below w.heap.size w w') : BatAt w' b ca ea ms :=
  ⟨h.clock.kept hb, h.effs, h.cells.kept hb, fun m hm => (h.dots m hm).kept hb⟩
/-- The Dots, one by one. -/
theorem dots_at {w : World} {da : Option Addr} {ds : List Wv.Dt} (h : At w da (flat dotCells ds)) (hn : 0 < ds.length) : ∃ p q, da = some ⟨p, q, none⟩ ∧ p < w.heap.size ∧
    ∀ k (hk : k < ds.length), w.cell? ⟨p, q + k * 3, none⟩ = some (I ds[k].o) ∧ w.cell? ⟨p, q + k * 3 + 1, none⟩ = some (I ds[k].s) ∧ w.cell? ⟨p, q + k * 3 + 2, none⟩ = some (I ds[k].i) := by
  obtain ⟨p, q, e, hp, hc⟩ := h.first (by rw [flat_len _ 3 dotCells_len]; omega)
  refine ⟨p, q, e, hp, fun k hk => ⟨?_, ?_, ?_⟩⟩
  · have := hc (k * 3 + 0) _ ((flat_get dotCells 3 dotCells_len ds k hk 0 (by omega)).trans rfl); simpa using this
  · have := hc (k * 3 + 1) _ ((flat_get dotCells 3 dotCells_len ds k hk 1 (by omega)).trans rfl); simpa [Nat.add_assoc] using this
  · have := hc (k * 3 + 2) _ ((flat_get dotCells 3 dotCells_len ds k hk 2 (by omega)).trans rfl); simpa [Nat.add_assoc] using this
/-- The effects, one by one. -/
theorem effs_at {w : World} {ea : Option Addr} {ms : List Em} (h : At w ea (flat Em.cells ms)) (hn : 0 < ms.length) : ∃ p q, ea = some ⟨p, q, none⟩ ∧ p < w.heap.size ∧
    ∀ k (hk : k < ms.length), w.cell? ⟨p, q + k * 7, none⟩ = some (I ms[k].e.op) ∧ w.cell? ⟨p, q + k * 7 + 1, none⟩ = some (I ms[k].e.ob) ∧ w.cell? ⟨p, q + k * 7 + 2, none⟩ = some (I ms[k].e.va) ∧
      w.cell? ⟨p, q + k * 7 + 3, none⟩ = some (I ms[k].e.ref.o) ∧ w.cell? ⟨p, q + k * 7 + 4, none⟩ = some (I ms[k].e.ref.s) ∧ w.cell? ⟨p, q + k * 7 + 5, none⟩ = some (I ms[k].e.ref.i) ∧
      w.cell? ⟨p, q + k * 7 + 6, none⟩ = some (.slice ms[k].da ms[k].e.dots.length ms[k].dc) := by
  obtain ⟨p, q, e, hp, hc⟩ := h.first (by rw [flat_len _ 7 emCells_len]; omega)
  refine ⟨p, q, e, hp, fun k hk => ⟨?_, ?_, ?_, ?_, ?_, ?_, ?_⟩⟩
  · have := hc (k * 7 + 0) _ ((flat_get Em.cells 7 emCells_len ms k hk 0 (by omega)).trans rfl); simpa using this
  · have := hc (k * 7 + 1) _ ((flat_get Em.cells 7 emCells_len ms k hk 1 (by omega)).trans rfl); simpa [Nat.add_assoc] using this
  · have := hc (k * 7 + 2) _ ((flat_get Em.cells 7 emCells_len ms k hk 2 (by omega)).trans rfl); simpa [Nat.add_assoc] using this
  · have := hc (k * 7 + 3) _ ((flat_get Em.cells 7 emCells_len ms k hk 3 (by omega)).trans rfl); simpa [Nat.add_assoc] using this
  · have := hc (k * 7 + 4) _ ((flat_get Em.cells 7 emCells_len ms k hk 4 (by omega)).trans rfl); simpa [Nat.add_assoc] using this
  · have := hc (k * 7 + 5) _ ((flat_get Em.cells 7 emCells_len ms k hk 5 (by omega)).trans rfl); simpa [Nat.add_assoc] using this
  · have := hc (k * 7 + 6) _ ((flat_get Em.cells 7 emCells_len ms k hk 6 (by omega)).trans rfl); simpa [Nat.add_assoc, Em.dv] using this

end Go.Proofs.YtfmcngncaffloaaGreatDoor
