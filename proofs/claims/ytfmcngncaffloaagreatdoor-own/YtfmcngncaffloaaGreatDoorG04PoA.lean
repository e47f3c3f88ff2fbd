import Derived.Test.YtfmcngncaffloaaGreatDoorG02Glob
import Derived.Test.YtfmcngncaffloaaGreatDoorG03Plain2
import Derived.Laws.CopyOwn
import Derived.Laws.OwnMore
import Derived.Deep.MidRow
import Derived.Maps.AppendAt
import Derived.Conc.LoneCalls
import Derived.Conc.LoneSelect
namespace Go.Proofs.YtfmcngncaffloaaGreatDoor
open Go.RowKit
set_option maxRecDepth 100000

def dotCells (d : Wv.Dt) : List Value := [I d.o, I d.s, I d.i]
abbrev dotV (d : Wv.Dt) : Value := .agg #[I d.o, I d.s, I d.i]
/-- These cells stand behind one another from the address on. -/
def At (w : World) (a : Option Addr) (cells : List Value) : Prop := ∀ j u, cells[j]? = some u → ∃ b o, a = some ⟨b, o, none⟩ ∧ w.cell? ⟨b, o + j, none⟩ = some u
theorem At.kept {w w' : World} {a : Option Addr} {cs : List Value} (h : At w a cs) (hb : Below w.heap.size w w') : At w' a cs := by
  intro j u hj
  obtain ⟨b, o, e, hc⟩ := h j u hj
  exact ⟨b, o, e, cell_kept hb hc⟩
theorem At.first {w : World} {a : Option Addr} {cs : List Value} (h : At w a cs) (hn : 0 < cs.length) : ∃ b o, a = some ⟨b, o, none⟩ ∧ b < w.heap.size ∧ ∀ j u, cs[j]? = some u → w.cell? ⟨b, o + j, none⟩ = some u := by
  obtain ⟨b, o, e, hc⟩ := h 0 _ (List.getElem?_eq_getElem hn)
  refine ⟨b, o, e, lt_of_cell hc, fun j u hj => ?_⟩
  obtain ⟨b', o', e', hc'⟩ := h j u hj
  rw [e] at e'
  cases e'
  exact hc'
/-- A batch without its effects: its numbers, its Clock in memory, whatever its Effects are. -/
abbrev batV (b : Wv.Bt) (ca : Option Addr) (cc : Nat) (ev : Value) : Value := .agg #[I b.o, I b.s, I b.t, .slice ca b.clock.length cc, ev]
theorem clock_at {w : World} {ca : Option Addr} {zs : List Int} (h : At w ca (zs.map I)) {k : Nat} (hk : k < zs.length) : ∃ b o, ca = some ⟨b, o, none⟩ ∧ b < w.heap.size ∧ w.cell? ⟨b, o + k, none⟩ = some (I (zs.getD k 0)) := by
  obtain ⟨b, o, e, hb, hc⟩ := h.first (by simp; omega)
  exact ⟨b, o, e, hb, hc k _ (by simp [hk])⟩

end Go.Proofs.YtfmcngncaffloaaGreatDoor

namespace Go.Proofs.YtfmcngncaffloaaGreatDoor
open Go.RowKit

/-- An effect in memory: what it is, and where its Dots lie. -/
structure Em where
  e : Wv.Ef
  da : Option Addr
  dc : Nat
def Em.dv (m : Em) : Value := .slice m.da m.e.dots.length m.dc
def Em.cells (m : Em) : List Value := [I m.e.op, I m.e.ob, I m.e.va, I m.e.ref.o, I m.e.ref.s, I m.e.ref.i, m.dv]
abbrev effV (m : Em) : Value := .agg #[I m.e.op, I m.e.ob, I m.e.va, I m.e.ref.o, I m.e.ref.s, I m.e.ref.i, .slice m.da m.e.dots.length m.dc]
def flat {α : Type} (f : α → List Value) : List α → List Value
  | [] => []
  | x :: l => f x ++ flat f l
theorem flat_len {α : Type} (f : α → List Value) (n : Nat) (hf : ∀ x, (f x).length = n) : ∀ l : List α, (flat f l).length = l.length * n
  | [] => by simp [flat]
  | x :: l => by simp [flat, hf, flat_len f n hf l, Nat.add_mul]; omega
theorem flat_get {α : Type} (f : α → List Value) (n : Nat) (hf : ∀ x, (f x).length = n) : ∀ (l : List α) (k : Nat) (hk : k < l.length) (j : Nat), j < n → (flat f l)[k * n + j]? = (f l[k])[j]?
  | x :: l, 0, _, j, hj => by
    rw [flat, List.getElem?_append_left (by rw [hf]; omega)]; simp
  | x :: l, k + 1, hk, j, hj => by
    rw [flat, List.getElem?_append_right (by rw [hf, Nat.add_mul]; omega), hf, show (k + 1) * n + j - n = k * n + j by rw [Nat.add_mul]; omega]
    have := flat_get f n hf l k (by simpa using hk) j hj
    simpa using this
theorem dotCells_len (d : Wv.Dt) : (dotCells d).length = 3 := rfl
theorem emCells_len (m : Em) : m.cells.length = 7 := rfl
/-- A batch in memory. -/
structure BatAt (w : World) (b : Wv.Bt) (ca ea : Option Addr) (ms : List Em) : Prop where
  clock : At w ca (b.clock.map I)
  effs : b.effs = ms.map (·.e)
  cells : At w ea (flat Em.cells ms)
  dots : ∀ m ∈ ms, At w m.da (flat dotCells m.e.dots)
abbrev bV (b : Wv.Bt) (ca ea : Option Addr) (cc ec : Nat) : Value := batV b ca cc (.slice ea b.effs.length ec)
theorem BatAt.kept {w w' : World} {b : Wv.Bt} {ca ea : Option Addr} {ms : List Em} (h : BatAt w b ca ea ms) (hb : Below w.heap.size w w') : BatAt w' b ca ea ms :=
  ⟨h.clock.kept hb, h.effs, h.cells.kept hb, fun m hm => (h.dots m hm).kept hb⟩
/-- The Dots, one by one. -/
theorem dots_at {w : World} {da : Option Addr} {ds : List Wv.Dt} (h : At w da (flat dotCells ds)) (hn : 0 < ds.length) : ∃ p q, da = some ⟨p, q, none⟩ ∧ p < w.heap.size ∧
    ∀ k (hk : k < ds.length), w.cell? ⟨p, q + k * 3, none⟩ = some (I ds[k].o) ∧ w.cell? ⟨p, q + k * 3 + 1, none⟩ = some (I ds[k].s) ∧ w.cell? ⟨p, q + k * 3 + 2, none⟩ = some (I ds[k].i) := by
  obtain ⟨p, q, e, hp, hc⟩ := h.first (by rw [flat_len _ 3 dotCells_len]; omega)
  refine ⟨p, q, e, hp, fun k hk => ⟨?_, ?_, ?_⟩⟩
  · have := hc (k * 3 + 0) _ ((flat_get dotCells 3 dotCells_len ds k hk 0 (by omega)).trans rfl); simpa using this
  · have := hc (k * 3 + 1) _ ((flat_get dotCells 3 dotCells_len ds k hk 1 (by omega)).trans rfl); simpa [Nat.add_assoc] using this
  · have := hc (k * 3 + 2) _ ((flat_get dotCells 3 dotCells_len ds k hk 2 (by omega)).trans rfl); simpa [Nat.add_assoc] using this
/-- The effects, one by one. -/
theorem effs_at {w : World} {ea : Option Addr} {ms : List Em} (h : At w ea (flat Em.cells ms)) (hn : 0 < ms.length) : ∃ p q, ea = some ⟨p, q, none⟩ ∧ p < w.heap.size ∧
    ∀ k (hk : k < ms.length), w.cell? ⟨p, q + k * 7, none⟩ = some (I ms[k].e.op) ∧ w.cell? ⟨p, q + k * 7 + 1, none⟩ = some (I ms[k].e.ob) ∧ w.cell? ⟨p, q + k * 7 + 2, none⟩ = some (I ms[k].e.va) ∧
      w.cell? ⟨p, q + k * 7 + 3, none⟩ = some (I ms[k].e.ref.o) ∧ w.cell? ⟨p, q + k * 7 + 4, none⟩ = some (I ms[k].e.ref.s) ∧ w.cell? ⟨p, q + k * 7 + 5, none⟩ = some (I ms[k].e.ref.i) ∧
      w.cell? ⟨p, q + k * 7 + 6, none⟩ = some (.slice ms[k].da ms[k].e.dots.length ms[k].dc) := by
  obtain ⟨p, q, e, hp, hc⟩ := h.first (by rw [flat_len _ 7 emCells_len]; omega)
  refine ⟨p, q, e, hp, fun k hk => ⟨?_, ?_, ?_, ?_, ?_, ?_, ?_⟩⟩
  · have := hc (k * 7 + 0) _ ((flat_get Em.cells 7 emCells_len ms k hk 0 (by omega)).trans rfl); simpa using this
  · have := hc (k * 7 + 1) _ ((flat_get Em.cells 7 emCells_len ms k hk 1 (by omega)).trans rfl); simpa [Nat.add_assoc] using this
  · have := hc (k * 7 + 2) _ ((flat_get Em.cells 7 emCells_len ms k hk 2 (by omega)).trans rfl); simpa [Nat.add_assoc] using this
  · have := hc (k * 7 + 3) _ ((flat_get Em.cells 7 emCells_len ms k hk 3 (by omega)).trans rfl); simpa [Nat.add_assoc] using this
  · have := hc (k * 7 + 4) _ ((flat_get Em.cells 7 emCells_len ms k hk 4 (by omega)).trans rfl); simpa [Nat.add_assoc] using this
  · have := hc (k * 7 + 5) _ ((flat_get Em.cells 7 emCells_len ms k hk 5 (by omega)).trans rfl); simpa [Nat.add_assoc] using this
  · have := hc (k * 7 + 6) _ ((flat_get Em.cells 7 emCells_len ms k hk 6 (by omega)).trans rfl); simpa [Nat.add_assoc, Em.dv] using this

end Go.Proofs.YtfmcngncaffloaaGreatDoor

namespace Go.Proofs.YtfmcngncaffloaaGreatDoor
open Go.RowKit
set_option maxRecDepth 100000

/-- A block that is known whole. -/
def Blk (w : World) (g : Nat) (cs : Array Value) (t : TypeId) : Prop := w.heap[g]? = some (.cells cs t (0, 0))
theorem Blk.cell {w : World} {g : Nat} {cs : Array Value} {t : TypeId} (h : Blk w g cs t) (j : Nat) : w.cell? ⟨g, j, none⟩ = cs[j]? := by
  rw [cell_of_row w g j cs t (0, 0) h]
theorem Blk.frozen {w : World} {g : Nat} {cs : Array Value} {t : TypeId} (h : Blk w g cs t) (j : Nat) : w.frozen? ⟨g, j, none⟩ = false := frozen_of_row w g j cs t h
theorem Blk.set {w : World} {g : Nat} {cs : Array Value} {t : TypeId} (h : Blk w g cs t) (j : Nat) (u : Value) : Blk (w.setCell ⟨g, j, none⟩ u) g (cs.setIfInBounds j u) t := heap_setCell_same w g j cs t u h
theorem Blk.other {w : World} {g : Nat} {cs : Array Value} {t : TypeId} (h : Blk w g cs t) {a : Addr} (ha : g ≠ a.block) (u : Value) : Blk (w.setCell a u) g cs t := (heap_setCell_other w a g u ha).trans h
theorem Blk.lt {w : World} {g : Nat} {cs : Array Value} {t : TypeId} (h : Blk w g cs t) : g < w.heap.size := by
  have := Array.getElem?_eq_some_iff.1 h
  exact this.1
theorem Blk.grown {w w' : World} {g : Nat} {cs : Array Value} {t : TypeId} {row : Option Nat} (h : Blk w g cs t) (hg : w.grownBy w' row) (hne : some g ≠ row) : Blk w' g cs t := (hg.block g h.lt hne).trans h
theorem Blk.kept {w w' : World} {B g : Nat} {cs : Array Value} {t : TypeId} (h : Blk w g cs t) (hb : Below B w w') (hg : g < B) : Blk w' g cs t := (hb.block g hg).trans h

theorem Blk.second (w : World) (o : Obj) (cs : Array Value) (t : TypeId) : Blk ((w.alloc o).alloc (.cells cs t)) (w.heap.size + 1) cs t := by
  have := heap_alloc_new (w.alloc o) (.cells cs t)
  rwa [show (w.alloc o).heap.size = w.heap.size + 1 by simp] at this
theorem own_at {w : World} {base : Nat} {e : TypeId} {size g n c : Nat} {xs : List Value} (h : w.ownsRow base e size (.slice (some ⟨g, 0, none⟩) n c) n xs) : At w (some ⟨g, 0, none⟩) xs := by
  intro j u hj
  refine ⟨g, 0, rfl, ?_⟩
  have hl : j < xs.length := (List.getElem?_eq_some_iff.1 hj).1
  rw [Nat.zero_add, h.cellAt j (by rw [← h.1]; exact hl)]
  exact hj
theorem own_kept {w w' : World} {base : Nat} {e : TypeId} {size n : Nat} {v : Value} {xs : List Value} (h : w.ownsRow base e size v n xs) (hb : ∀ g, v.ownBlock = some g → w'.heap[g]? = w.heap[g]?) : w'.ownsRow base e size v n xs := by
  refine ⟨h.1, ?_⟩
  rcases h.2 with h2 | ⟨g, cap, cur, rfl, hbg, hg, r⟩
  · exact .inl h2
  · exact .inr ⟨g, cap, cur, rfl, hbg, (hb g rfl).trans hg, r⟩
theorem lit_any (w : World) (cs : List Value) (t : TypeId) : ∀ j u, cs[j]? = some u → (w.alloc (.cells cs.toArray t)).cell? ((⟨w.heap.size, 0, none⟩ : Addr).add j) = some u := by
  intro j u hu
  rw [Addr.add_lit, Nat.zero_add, World.cell?_alloc_mark]
  simpa using hu
theorem lit_drew (w : World) (cs : List Value) (t : TypeId) : ∀ j u, cs[j]? = some u → (w.alloc (.cells cs.toArray t)).drew.cell? ((⟨w.heap.size, 0, none⟩ : Addr).add j) = some u := lit_any w cs t
theorem Blk.drew {w : World} {g : Nat} {cs : Array Value} {t : TypeId} (h : Blk w g cs t) : Blk w.drew g cs t := h
theorem Blk.alloc {w : World} {g : Nat} {cs : Array Value} {t : TypeId} (h : Blk w g cs t) (o : Obj) : Blk (w.alloc o) g cs t := (Below.heap_alloc w o g h.lt).trans h

end Go.Proofs.YtfmcngncaffloaaGreatDoor

namespace Go.Proofs.YtfmcngncaffloaaGreatDoor
open Go.RowKit
set_option maxRecDepth 100000

/-- All blocks but those of F are as they were; new ones may have come. -/
structure Tch (F : Nat → Prop) (w w' : World) : Prop where
  os : w'.os = w.os
  tape : w'.tape = w.tape
  output : w'.output = w.output
  size : w.heap.size ≤ w'.heap.size
  block : ∀ k, k < w.heap.size → ¬ F k → w'.heap[k]? = w.heap[k]?
theorem Tch.refl (F : Nat → Prop) (w : World) : Tch F w w := ⟨rfl, rfl, rfl, Nat.le_refl _, fun _ _ _ => rfl⟩
theorem Tch.mono {F G : Nat → Prop} {w w' : World} (h : Tch F w w') (hs : ∀ k, k < w.heap.size → F k → G k) : Tch G w w' :=
  ⟨h.os, h.tape, h.output, h.size, fun k hk hn => h.block k hk (fun hf => hn (hs k hk hf))⟩
theorem Tch.trans {F G H : Nat → Prop} {w w1 w2 : World} (h : Tch F w w1) (h2 : Tch G w1 w2) (hF : ∀ k, k < w.heap.size → F k → H k) (hG : ∀ k, k < w.heap.size → G k → H k) : Tch H w w2 :=
  ⟨h2.os.trans h.os, h2.tape.trans h.tape, h2.output.trans h.output, Nat.le_trans h.size h2.size, fun k hk hn => (h2.block k (Nat.lt_of_lt_of_le hk h.size) (fun hf => hn (hG k hk hf))).trans (h.block k hk (fun hf => hn (hF k hk hf)))⟩
theorem Tch.then {F : Nat → Prop} {w w1 w2 : World} (h : Tch F w w1) (h2 : Tch F w1 w2) : Tch F w w2 := h.trans h2 (fun _ _ h => h) (fun _ _ h => h)
theorem Tch.below {F : Nat → Prop} {w w' : World} (h : Below w.heap.size w w') : Tch F w w' := ⟨h.os, h.tape, h.output, h.size, fun k hk _ => h.block k hk⟩
theorem Tch.grown {w w' : World} {row : Option Nat} (h : w.grownBy w' row) : Tch (fun k => row = some k) w w' :=
  ⟨h.os, h.tape, h.output, h.size, fun k hk hn => h.block k hk (fun e => hn e.symm)⟩
theorem Tch.drew {F : Nat → Prop} {w w' : World} (h : Tch F w w') : Tch F w w'.drew := ⟨h.os, h.tape, h.output, h.size, h.block⟩
theorem Tch.drewN {F : Nat → Prop} {w w' : World} (h : Tch F w w') (n : Nat) : Tch F w (w'.drewN n) := ⟨h.os, h.tape, h.output, h.size, h.block⟩
theorem Tch.alloc {F : Nat → Prop} {w w' : World} (h : Tch F w w') (o : Obj) : Tch F w (w'.alloc o) :=
  h.then (Tch.below ((Below.refl _ _).alloc (Nat.le_refl _) o))
theorem Tch.setCell {F : Nat → Prop} {w w' : World} (h : Tch F w w') (a : Addr) (v : Value) (ha : F a.block ∨ w.heap.size ≤ a.block) : Tch F w (w'.setCell a v) :=
  ⟨h.os, h.tape, h.output, by simpa using h.size, fun k hk hn => by
    rw [heap_setCell_other _ a k _ (fun e => by subst e; rcases ha with ha | ha; exact hn ha; omega)]
    exact h.block k hk hn⟩
theorem Tch.blk {F : Nat → Prop} {w w' : World} (h : Tch F w w') {g : Nat} {cur : Array Value} {t : TypeId} (hb : Blk w g cur t) (hn : ¬ F g) : Blk w' g cur t := (h.block g hb.lt hn).trans hb
theorem Tch.toBelow {F : Nat → Prop} {w w' : World} (h : Tch F w w') {B : Nat} (hB : B ≤ w.heap.size) (hF : ∀ k, k < B → ¬ F k) : Below B w w' :=
  ⟨h.os, h.tape, h.output, h.size, fun k hk => h.block k (by omega) (hF k hk)⟩
theorem cell_same {w w' : World} {a : Addr} {v : Value} (h : w.cell? a = some v) (hb : w'.heap[a.block]? = w.heap[a.block]?) : w'.cell? a = some v := by
  have : w'.cell? a = w.cell? a := by unfold World.cell?; rw [hb]
  rw [this]; exact h
theorem Tch.cell {F : Nat → Prop} {w w' : World} (h : Tch F w w') {g o : Nat} {v : Value} (hc : w.cell? ⟨g, o, none⟩ = some v) (hn : ¬ F g) : w'.cell? ⟨g, o, none⟩ = some v :=
  cell_same hc (h.block g (lt_of_cell hc) hn)

end Go.Proofs.YtfmcngncaffloaaGreatDoor

namespace Go.Proofs.YtfmcngncaffloaaGreatDoor
open Go.RowKit
set_option maxRecDepth 100000

/-- As Code.wp, of calls that may communicate. -/
def wpN (P : Program) (c : Code) (Q : Exit → Act → World → Prop) (a : Act) (w : World) : Prop :=
  ∀ (b : Frame) (k : List Item) (cs : List Frame), b.kind ≠ .early → ∃ e a' w', Q e a' w' ∧ Arrives P (lone (b.at a (.code c :: k)) cs w) b k cs e a' w'
/-- The same of what is left of a region. -/
def wpR (P : Program) (ops : Array Oper) (Q : Exit → Act → World → Prop) (l : List Nat) (a : Act) (w : World) : Prop :=
  ∀ (b : Frame) (k : List Item) (cs : List Frame), b.kind ≠ .early → ∃ e a' w', Q e a' w' ∧ Arrives P (lone (b.at a (.inRegion ops l :: k)) cs w) b k cs e a' w'
section
variable {P : Program} {Q : Exit → Act → World → Prop} {a : Act} {w : World} {ops : Array Oper}
theorem wpN_of {c : Code} (h : c.wp P Q a w) : wpN P c Q a w := fun b k cs _ => h b k cs
theorem wpN_seq {x y : Code} (h : wpN P x (Exit.then (wpN P y Q) Q) a w) : wpN P (Code.seq x y) Q a w := by
  intro b k cs hb
  obtain ⟨e, a₁, w₁, hq, harr⟩ := h b (.code y :: k) cs hb
  cases e with
  | normal =>
    obtain ⟨e₂, a₂, w₂, hq₂, harr₂⟩ := hq b k cs hb
    exact ⟨e₂, a₂, w₂, hq₂, .of_steps (.head step_seq harr) harr₂⟩
  | exit id => exact ⟨_, a₁, w₁, hq, .of_steps (.one step_seq) (.pass (x := .code y) rfl (fun _ _ => .inl (by simp)) harr)⟩
  | goto l => exact ⟨_, a₁, w₁, hq, .of_steps (.one step_seq) (.pass (x := .code y) rfl (fun _ _ => .inl (by simp)) harr)⟩
  | ret => exact ⟨_, a₁, w₁, hq, .of_steps (.one step_seq) (.pass (x := .code y) rfl (fun _ _ => .inl (by simp)) harr)⟩
  | panic ch => exact ⟨_, a₁, w₁, hq, .of_steps (.one step_seq) (.pass (x := .code y) rfl (fun _ _ => .inl (by simp)) harr)⟩
  | outgrown => exact ⟨_, a₁, w₁, hq, .of_steps (.one step_seq) (.pass (x := .code y) rfl (fun _ _ => .inl (by simp)) harr)⟩
theorem wpR_of {l : List Nat} (h : wpOps P ops Q l a w) : wpR P ops Q l a w := fun b k cs _ => wp_ops l a w h b k cs
theorem wpR_value {i : Nat} {rest : List Nat} {o : Oper} {v : Value} {w' : World} (ho : ops[i]? = some o) (hw : Region.wanted o (yielded ops a.tmps) = true) (hr : (execOp a.eval o).run P w = .ok (.value v) w') (h : wpR P ops Q rest (a.put o.dst v) w') : wpR P ops Q (i :: rest) a w := by
  intro b k cs hb
  obtain ⟨e, a', w'', hq, harr⟩ := h b k cs hb
  have hg := stepG_op (P := P) (b := b) (k := k) (cs := cs) (w := w) (rest := rest) ho hw
  have hfin : (b.at a (.inRegion ops (i :: rest) :: k)).finish v = b.at (a.put o.dst v) (.inRegion ops rest :: k) := by rw [Frame.finish_at, ho]; rfl
  refine ⟨e, a', w'', hq, .of_steps (.one (step_lone_go ?_)) harr⟩
  rw [hg, ← hfin]; simp [stepG.apply, hr]
theorem wpR_comm {i : Nat} {rest : List Nat} {o : Oper} {v : Value} {w1 w' : World} {cases : Array CommCase} {blocking : Bool} {shape : CommShape} (ho : ops[i]? = some o) (hw : Region.wanted o (yielded ops a.tmps) = true) (hr : (execOp a.eval o).run P w = .ok (.comm cases blocking shape) w1)
    (hst : ∀ fr cs es, stepG P true (Go.Conc.G fr cs) w = .comm (Go.Conc.G fr cs) cases blocking shape w1 es → step P (Go.Conc.solo (Go.Conc.G fr cs) w) = .next (Go.Conc.solo (Go.Conc.G (fr.finish v) cs) w')) (h : wpR P ops Q rest (a.put o.dst v) w') : wpR P ops Q (i :: rest) a w := by
  intro b k cs hb
  obtain ⟨e, a', w'', hq, harr⟩ := h b k cs hb
  have hfin : (b.at a (.inRegion ops (i :: rest) :: k)).finish v = b.at (a.put o.dst v) (.inRegion ops rest :: k) := by rw [Frame.finish_at, ho]; rfl
  have hs := hst (b.at a (.inRegion ops (i :: rest) :: k)) cs _ (Go.Conc.stepG_comm ho hw hb hr)
  rw [hfin, ← Go.Conc.lone_eq_solo, ← Go.Conc.lone_eq_solo] at hs
  exact ⟨e, a', w'', hq, .of_steps (.one hs) harr⟩
theorem wpN_region {id : Nat} (h : wpR P ops Q (List.range ops.size) a w) : wpN P (Code.region id ops false) Q a w :=
  fun b k cs hb => let ⟨e, a', w', q, r⟩ := h b k cs hb; ⟨e, a', w', q, .of_steps (.one step_region) r⟩
theorem wpR_end (h : Q .normal a w) : wpR P ops Q [] a w := wpR_of h
end
theorem calls_of_wpN {P : Program} {f : FuncId} {fn : Func} {c : Code} {args : Array Value} {w : World} {R : Ending → World → Prop}
    (hf : P.funcs[f]? = some fn) (hb : fn.body = some c)
    (h : wpN P c (bodyPost P fn R) { tmps := args ++ Array.replicate (fn.ntmps - args.size) undef, defers := [] } w) :
    Calls P f args w R := by
  intro cs
  let b : Frame := { (default : Frame) with fn := f, kind := .normal }
  have henter : Frame.enter P f args .normal =
      b.at { tmps := args ++ Array.replicate (fn.ntmps - args.size) undef, defers := [] } [.code c] := by
    simp [Frame.enter, Frame.at, hf, hb, b]
  obtain ⟨e, a', w', hq, harr⟩ := h b [] cs (by simp [b])
  rw [← henter] at harr
  cases e with
  | normal =>
    obtain ⟨hd, v, hr, hR⟩ := hq
    exact ⟨.returned v, w', _, hR, Steps.trans harr (.one step_end), rfl, rfl, hd, rfl, fn, hf, hr⟩
  | ret =>
    obtain ⟨hd, v, hr, hR⟩ := hq
    obtain ⟨todo, hs⟩ := harr
    exact ⟨.returned v, w', _, hR, hs, rfl, rfl, hd, rfl, fn, hf, hr⟩
  | panic chain =>
    obtain ⟨hd, hR⟩ := hq
    obtain ⟨todo, hs⟩ := harr
    exact ⟨.panicked chain, w', _, hR, hs, rfl, rfl, hd, fn, hf⟩
  | exit id => exact hq.elim
  | goto l => exact hq.elim
  | outgrown => exact ⟨.outgrown, w', b, hq, harr.resolve_left (by simp [b]), rfl, trivial⟩
/-- A channel's block is another one now. -/
theorem Tch.setChan {F : Nat → Prop} {w w' : World} (h : Tch F w w') (c cap : Nat) (buf : Array Value) (cl : Bool) (s r : Nat) (tm : Bool) (hc : F c ∨ w.heap.size ≤ c) : Tch F w (w'.setChan c cap buf cl s r tm) :=
  ⟨h.os, h.tape, h.output, by rw [Go.Conc.size_setChan]; exact h.size, fun k hk hn => by
    have : k ≠ c := by rintro rfl; rcases hc with hc | hc; exact hn hc; omega
    rw [← h.block k hk hn]
    simp only [World.setChan]
    rw [Array.getElem?_setIfInBounds_ne (by omega)]⟩

end Go.Proofs.YtfmcngncaffloaaGreatDoor
