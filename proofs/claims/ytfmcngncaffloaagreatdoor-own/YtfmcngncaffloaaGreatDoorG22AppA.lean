import Derived.Test.YtfmcngncaffloaaGreatDoorG04PoA
import Derived.Test.YtfmcngncaffloaaGreatDoorG20Gr
import Derived.Maps.AppendAt
namespace Go.Proofs.YtfmcngncaffloaaGreatDoor
open Go.RowKit
set_option maxRecDepth 100000

/-- A slice of bytes of the call's own. -/
def OwnB (w : World) (B : Nat) (v : Value) (l : List UInt8) : Prop := w.ownsRow B 5 1 v l.length (l.map B8)
theorem OwnB.nil (w : World) (B : Nat) : OwnB w B (.slice none 0 0) [] := World.ownsRow_nil w B _ 1
theorem infoU8 : (Tryz.prog.info? 5).map (fun i => (i.zero, i.size, i.bytes)) = some (some (.int .u8 0), 1, 1) := by kernel_rfl
theorem B8_one (l : List UInt8) : ∀ u ∈ l.map B8, u.oneCell' = true := by
  intro u hu
  obtain ⟨_, _, rfl⟩ := List.mem_map.1 hu
  rfl
theorem OwnB.append {w : World} {B : Nat} {v' : Value} {l news : List UInt8} {n : Nat} (hn : n = news.length) (h : w.ownsRow B 5 1 v' (l.length + n) (l.map B8 ++ news.map B8)) : OwnB w B v' (l ++ news) := by
  subst hn
  unfold OwnB
  rw [List.length_append, List.map_append]
  exact h
theorem lit_cells (w : World) (cs : Array Value) (l : List UInt8) (hcs : cs = (l.map B8).toArray) : ∀ j u, (l.map B8)[j]? = some u → (w.alloc (.cells cs 5)).cell? ((⟨w.heap.size, 0, none⟩ : Addr).add j) = some u := by
  intro j u hu
  rw [Addr.add_lit, Nat.zero_add, World.cell?_alloc_mark, hcs]
  simpa using hu
/-- What an append onto v leaves: all blocks but v's own as they were; the new slice's own block is v's, or new. -/
structure Grew (w w' : World) (v v' : Value) : Prop where
  grown : w.grownBy w' v.ownBlock
  own : v'.ownBlock = v.ownBlock ∨ ∃ k, v'.ownBlock = some k ∧ w.heap.size ≤ k
theorem Grew.trans {w w1 w2 : World} {v v1 v2 : Value} (h : Grew w w1 v v1) (k : Grew w1 w2 v1 v2) : Grew w w2 v v2 := by
  have hs := h.grown.size
  refine ⟨⟨k.grown.os.trans h.grown.os, k.grown.tape.trans h.grown.tape, k.grown.output.trans h.grown.output, Nat.le_trans hs k.grown.size, fun j hj hne => ?_⟩, ?_⟩
  · rw [k.grown.block j (by omega) ?_, h.grown.block j hj hne]
    rcases h.own with e | ⟨q, e, hq⟩
    · rw [e]; exact hne
    · rw [e]; intro x; cases x; omega
  · rcases k.own with e | ⟨q, e, hq⟩
    · rw [e]
      exact h.own
    · exact Or.inr ⟨q, e, by omega⟩
theorem Grew.of_below {w w' : World} (h : Below w.heap.size w w') (v : Value) : Grew w w' v v := ⟨⟨h.os, h.tape, h.output, h.size, fun k hk _ => h.block k hk⟩, Or.inl rfl⟩
theorem Grew.refl (w : World) (v : Value) : Grew w w v v := Grew.of_below (Below.refl _ _) v
theorem OwnB.kept {w w' : World} {B : Nat} {v : Value} {l : List UInt8} (h : OwnB w B v l) (hb : Below w.heap.size w w') : OwnB w' B v l := by
  refine World.ownsRow.kept (row := none) h ⟨hb.os, hb.tape, hb.output, hb.size, fun k hk _ => hb.block k hk⟩ ?_
  cases v.ownBlock <;> simp
theorem Grew.below {w w' : World} {v v' : Value} {B : Nat} {l : List UInt8} (h : Grew w w' v v') (hB : B ≤ w.heap.size) (ho : OwnB w B v l) : Below B w w' :=
  (Below.refl B w).grown h.grown hB (fun k hk => (ho.lt k hk).1)
/-- A cell of another block stands. -/
theorem Grew.cell {w w' : World} {v v' : Value} (h : Grew w w' v v') {b o : Nat} {u : Value} (hne : some b ≠ v.ownBlock) (hc : w.cell? ⟨b, o, none⟩ = some u) : w'.cell? ⟨b, o, none⟩ = some u :=
  h.grown.cell hc hne
theorem Grew.ne {w w' : World} {v v' : Value} (h : Grew w w' v v') {b : Nat} (hb : b < w.heap.size) (hne : some b ≠ v.ownBlock) : some b ≠ v'.ownBlock := by
  rcases h.own with e | ⟨q, e, hq⟩
  · rw [e]; exact hne
  · rw [e]; intro x; cases x; omega
theorem OwnB.new_ne {w : World} {B : Nat} {v : Value} {l : List UInt8} (h : OwnB w B v l) {b : Nat} (hb : w.heap.size ≤ b) : some b ≠ v.ownBlock := by
  intro e
  have := (h.lt b e.symm).2
  omega
theorem Grew.app {w w' : World} {v v' : Value} (hg : w.grownBy w' v.ownBlock) (hat : v'.ownBlock = v.ownBlock ∨ v'.ownBlock = some w.heap.size) : Grew w w' v v' :=
  ⟨hg, hat.imp id fun e => ⟨_, e, Nat.le_refl _⟩⟩
theorem Grew.new {w : World} (o : Obj) (v : Value) : Grew w (w.alloc o) v v := Grew.of_below ((Below.refl _ _).alloc (Nat.le_refl _) _) v

set_option maxHeartbeats 800000 in
theorem two_any (v : Value) (l : List UInt8) (n : Int) (B : Nat) (w : World) (hB : B ≤ w.heap.size) (ho : OwnB w B v l) (hl : l.length ≤ 1048576) :
    Calls Tryz.prog 159 #[v, I n] w fun e w' => ∃ v', e = .returned v' ∧ OwnB w' B v' (l ++ Wv.be2 n) ∧ Grew w w' v v' := by
  obtain ⟨i, hi, hz0, hz1, hz2⟩ := info_parts infoU8
  have HO : Hid (OwnB w B v l) := ho
  have HC : Hid (#[Value.int .u8 (n / 256 % 256), Value.int .u8 (n % 256)] = ((Wv.be2 n).map B8).toArray) := by
    show #[Value.int .u8 (n / 256 % 256), Value.int .u8 (n % 256)] = _
    simp only [Wv.be2, B8, List.map, Wv.ofNat_toNat]
  clear ho
  go_enter Tryz.func159, Tryz.ntmps159
  go_wp2_with (first | (at_builtin; go_must (refine wpList_append_own_at _ rfl _ _ _ rfl B 5 i (.int .u8 0) 1 1 Tryz.underlying170 hi hz0 hz1 hz2 rfl (by omega) v l.length (l.map B8) rfl (HO.out.alloc _) ⟨w.heap.size, 0, none⟩ 2 2 ((Wv.be2 n).map B8) rfl rfl (lit_cells w _ _ HC.out) (B8_one _) (by unfold maxLen; omega) (by omega) (by simp; omega) ?_; intro v' w' hown hgrow hnil hat)))
  go_ret
  exact ⟨_, rfl, OwnB.append rfl hown, (Grew.new _ v).trans (Grew.app hgrow hat)⟩

end Go.Proofs.YtfmcngncaffloaaGreatDoor
