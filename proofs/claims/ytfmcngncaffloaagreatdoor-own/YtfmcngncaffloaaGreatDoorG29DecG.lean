import Derived.Test.YtfmcngncaffloaaGreatDoorG28DecE
namespace Go.Proofs.YtfmcngncaffloaaGreatDoor
open Go.RowKit
set_option maxRecDepth 100000

abbrev bat0 : Array Value := #[.int .i64 0, .int .i64 0, .int .i64 0, .slice none 0 0, .slice none 0 0]
/-- The reading of a batch under way: the reader, the answer's block, the batch's. -/
structure Bw (w w0 wi : World) (g E : Nat) (c : List UInt8) (q : Wv.St) (es : Array Value) : Prop where
  rd : Rd wi g c q
  grown : w.grownBy wi (some g)
  below : Below w0.heap.size w0 wi
  kR : Blk wi w.heap.size bat0 124
  kE : Blk wi E es 124
  lt : w.heap.size < E
  lg : g < w.heap.size
  gg : w0.heap.size ≤ g
theorem Bw.kept {w w0 wi wj : World} {g E : Nat} {c : List UInt8} {q : Wv.St} {es : Array Value} (h : Bw w w0 wi g E c q es) (hb : Below wi.heap.size wi wj) : Bw w w0 wj g E c q es :=
  ⟨h.rd.kept hb h.rd.lt, grown_trans h.grown ⟨hb.os, hb.tape, hb.output, hb.size, fun k hk _ => hb.block k hk⟩, h.below.trans (hb.mono h.below.size), h.kR.kept hb h.kR.lt, h.kE.kept hb h.kE.lt, h.lt, h.lg, h.gg⟩
theorem Bw.alloc {w w0 wi : World} {g E : Nat} {c : List UInt8} {q : Wv.St} {es : Array Value} (h : Bw w w0 wi g E c q es) (o : Obj) : Bw w w0 (wi.alloc o) g E c q es :=
  h.kept ((Below.refl _ _).alloc (Nat.le_refl _) _)
theorem Bw.read {w w0 wi wj : World} {g E : Nat} {c : List UInt8} {q q' : Wv.St} {es : Array Value} (h : Bw w w0 wi g E c q es) (hg : wi.grownBy wj (some g)) (hr : Rd wj g c q') : Bw w w0 wj g E c q' es :=
  ⟨hr, grown_trans h.grown hg, below_g h.below hg h.gg, h.kR.grown hg (by have := h.lg; simp; omega), h.kE.grown hg (by have := h.lg; have := h.lt; simp; omega), h.lt, h.lg, h.gg⟩
theorem Bw.set {w w0 wi : World} {g E : Nat} {c : List UInt8} {q : Wv.St} {es : Array Value} (h : Bw w w0 wi g E c q es) (j : Nat) (u : Value) : Bw w w0 (wi.setCell ⟨E, j, none⟩ u) g E c q (es.setIfInBounds j u) :=
  ⟨h.rd.other (by have := h.lg; have := h.lt; show g ≠ E; omega) u, grown_set_new h.grown (by have := h.lt; show w.heap.size ≤ E; omega) u, h.below.setCell (by have := h.lt; have := h.lg; have := h.gg; show w0.heap.size ≤ E; omega) u, h.kR.other (by have := h.lt; show w.heap.size ≠ E; omega) u, h.kE.set j u, h.lt, h.lg, h.gg⟩
theorem Bw.begin {w w0 w3 : World} {g : Nat} {c : List UInt8} {q : Wv.St} (h1 : Rd w3 g c q) (h2 : w.grownBy w3 (some g)) (h3 : Below w0.heap.size w0 w3) (h4 : Blk w3 w.heap.size bat0 124) (h5 : g < w.heap.size) (h6 : w0.heap.size ≤ g) (es : Array Value) :
    Bw w w0 (w3.alloc (.cells es 124)) g w3.heap.size c q es :=
  ⟨h1.alloc _, grown_trans h2 (grown_new (grown_refl _ _)), h3.alloc h3.size _, h4.alloc _, heap_alloc_new w3 _, h4.lt, h5, h6⟩
/-- The answer's block written full. -/
abbrev put5 (w : World) (R : Nat) (a0 a1 a2 a3 a4 : Value) : World := ((((w.setCell ⟨R, 0, none⟩ a0).setCell ⟨R, 1, none⟩ a1).setCell ⟨R, 2, none⟩ a2).setCell ⟨R, 3, none⟩ a3).setCell ⟨R, 4, none⟩ a4
theorem Bw.fin {w w0 wi : World} {g E : Nat} {c : List UInt8} {q : Wv.St} {es : Array Value} (h : Bw w w0 wi g E c q es) (a0 a1 a2 a3 a4 : Value) :
    Rd (put5 wi w.heap.size a0 a1 a2 a3 a4) g c q ∧ w.grownBy (put5 wi w.heap.size a0 a1 a2 a3 a4) (some g) := by
  have hl := h.lg
  refine ⟨?_, ?_⟩
  · unfold put5
    exact ((((h.rd.other (by show g ≠ w.heap.size; omega) _).other (by show g ≠ w.heap.size; omega) _).other (by show g ≠ w.heap.size; omega) _).other (by show g ≠ w.heap.size; omega) _).other (by show g ≠ w.heap.size; omega) _
  · unfold put5
    exact grown_set_new (grown_set_new (grown_set_new (grown_set_new (grown_set_new h.grown (Nat.le_refl _) _) (Nat.le_refl _) _) (Nat.le_refl _) _) (Nat.le_refl _) _) (Nat.le_refl _) _
theorem Bw.drew {w w0 wi : World} {g E : Nat} {c : List UInt8} {q : Wv.St} {es : Array Value} (h : Bw w w0 wi g E c q es) : Bw w w0 wi.drew g E c q es :=
  ⟨h.rd.drew, ⟨h.grown.os, h.grown.tape, h.grown.output, h.grown.size, h.grown.block⟩, h.below.drew, h.kR.drew, h.kE.drew, h.lt, h.lg, h.gg⟩
theorem Bw.grow {w w0 wi wj : World} {g E : Nat} {c : List UInt8} {q : Wv.St} {es : Array Value} {row : Option Nat} (h : Bw w w0 wi g E c q es) (hg : wi.grownBy wj row) (hr : ∀ b, row = some b → E < b) : Bw w w0 wj g E c q es := by
  have h1 := h.lt
  have h2 := h.lg
  have h3 := h.gg
  have ne : ∀ k, k ≤ E → some k ≠ row := fun k hk e => by have := hr k e.symm; omega
  exact ⟨h.rd.grown hg (ne _ (by omega)), ⟨hg.os.trans h.grown.os, hg.tape.trans h.grown.tape, hg.output.trans h.grown.output, Nat.le_trans h.grown.size hg.size, fun k hk hk2 => (hg.block k (Nat.lt_of_lt_of_le hk h.grown.size) (ne _ (by omega))).trans (h.grown.block k hk hk2)⟩,
    h.below.grown hg h.below.size (fun k e => by have := hr k e; omega), h.kR.grown hg (ne _ (by omega)), h.kE.grown hg (ne _ (by omega)), h.lt, h.lg, h.gg⟩
/-- A batch of lists of their own. -/
structure OwB (w : World) (base : Nat) (vC vE : Value) (cl : List Int) (ms : List Em) : Prop where
  clock : w.ownsRow base 3 1 vC cl.length (cl.map I)
  cells : w.ownsRow base 149 7 vE ms.length (flat Em.cells ms)
  dots : ∀ m ∈ ms, w.ownsRow base 146 3 m.dv m.e.dots.length (flat dotCells m.e.dots)
  ce : ∀ g, vC.ownBlock = some g → vE.ownBlock ≠ some g
  cd : ∀ m ∈ ms, ∀ g, m.dv.ownBlock = some g → vC.ownBlock ≠ some g ∧ vE.ownBlock ≠ some g
  dd : ms.Pairwise fun m m' => ∀ g, m.dv.ownBlock = some g → m'.dv.ownBlock ≠ some g
theorem OwB.kept {w w' : World} {base : Nat} {vC vE : Value} {cl : List Int} {ms : List Em} (h : OwB w base vC vE cl ms) (hk : ∀ b, b < w.heap.size → base ≤ b → w'.heap[b]? = w.heap[b]?) : OwB w' base vC vE cl ms :=
  ⟨own_kept h.clock fun b hb => hk b (h.clock.lt b hb).2 (h.clock.lt b hb).1, own_kept h.cells fun b hb => hk b (h.cells.lt b hb).2 (h.cells.lt b hb).1,
    fun m hm => own_kept (h.dots m hm) fun b hb => hk b ((h.dots m hm).lt b hb).2 ((h.dots m hm).lt b hb).1, h.ce, h.cd, h.dd⟩
theorem OwB.mono {w : World} {base base' : Nat} {vC vE : Value} {cl : List Int} {ms : List Em} (h : OwB w base vC vE cl ms) (hb : base' ≤ base) : OwB w base' vC vE cl ms :=
  ⟨own_mono h.clock hb, own_mono h.cells hb, fun m hm => own_mono (h.dots m hm) hb, h.ce, h.cd, h.dd⟩
theorem OwB.push {w w' : World} {base : Nat} {vC vE vE' : Value} {cl : List Int} {ms : List Em} {m : Em} (h : OwB w base vC vE cl ms)
    (hk : ∀ b, b < w.heap.size → base ≤ b → vE.ownBlock ≠ some b → w'.heap[b]? = w.heap[b]?)
    (hE : w'.ownsRow base 149 7 vE' (ms.length + 1) (flat Em.cells ms ++ m.cells))
    (hat : vE'.ownBlock = vE.ownBlock ∨ ∃ b, vE'.ownBlock = some b ∧ w.heap.size ≤ b)
    (hD : w'.ownsRow base 146 3 m.dv m.e.dots.length (flat dotCells m.e.dots))
    (hDn : ∀ b, m.dv.ownBlock = some b → w.heap.size ≤ b ∧ vE'.ownBlock ≠ some b) : OwB w' base vC vE' cl (ms ++ [m]) := by
  have hE' : ∀ b, b < w.heap.size → vE.ownBlock ≠ some b → vE'.ownBlock ≠ some b := by
    intro b hb hn
    rcases hat with e | ⟨b', e, hb'⟩
    · rw [e]; exact hn
    · rw [e]; intro x; cases x; omega
  refine ⟨own_kept h.clock fun b hb => hk b (h.clock.lt b hb).2 (h.clock.lt b hb).1 (h.ce b hb), ?_, ?_, fun b hb => hE' b (h.clock.lt b hb).2 (h.ce b hb), ?_, ?_⟩
  · rw [flat_snoc, List.length_append]; exact hE
  · intro x hx
    rw [List.mem_append, List.mem_singleton] at hx
    rcases hx with hx | rfl
    · exact own_kept (h.dots x hx) fun b hb => hk b ((h.dots x hx).lt b hb).2 ((h.dots x hx).lt b hb).1 (h.cd x hx b hb).2
    · exact hD
  · intro x hx b hb
    rw [List.mem_append, List.mem_singleton] at hx
    rcases hx with hx | rfl
    · exact ⟨(h.cd x hx b hb).1, hE' b ((h.dots x hx).lt b hb).2 (h.cd x hx b hb).2⟩
    · refine ⟨fun e => ?_, (hDn b hb).2⟩
      have := (h.clock.lt b e).2
      have := (hDn b hb).1
      omega
  · rw [List.pairwise_append]
    refine ⟨h.dd, List.pairwise_singleton _ _, ?_⟩
    intro x hx y hy b hb
    rw [List.mem_singleton] at hy
    subst hy
    intro e
    have := ((h.dots x hx).lt b hb).2
    have := (hDn b e).1
    omega

end Go.Proofs.YtfmcngncaffloaaGreatDoor

namespace Go.Proofs.YtfmcngncaffloaaGreatDoor
open Go.RowKit
set_option maxRecDepth 100000

end Go.Proofs.YtfmcngncaffloaaGreatDoor
