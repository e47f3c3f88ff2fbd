import Derived.Test.YtfmcngncaffloaaDoorRefB2
import Derived.Test.YtfmcngncaffloaaDoorMem2
namespace Go.Proofs.YtfmcngncaffloaaDoor
open Go.RowKit
set_option maxRecDepth 100000

theorem kind_none (op : Int) (w : World) (h : ¬ (1 ≤ op ∧ op ≤ 6)) : Calls Tryd.prog 54 #[I op] w fun e w' => e = .returned (I (-1)) ∧ w' = w := by
  have e : (if Wv.isOp op then Wv.rKind op else -1) = -1 := by rw [if_neg]; simp [Wv.isOp]; omega
  have := kind_any op w
  rw [e] at this
  exact this

set_option maxHeartbeats 1600000 in
theorem isEffect_0 (b : Wv.Bt) (ca : Option Addr) (cc ec p q : Nat) (k : Nat) (m : Em) (w : World) (hk : k < b.effs.length) (hp : p < w.heap.size)
    (c0 : w.cell? ⟨p, q + k * 7, none⟩ = some (I m.e.op)) (c1 : w.cell? ⟨p, q + k * 7 + 1, none⟩ = some (I m.e.ob)) (c2 : w.cell? ⟨p, q + k * 7 + 2, none⟩ = some (I m.e.va)) (c3 : w.cell? ⟨p, q + k * 7 + 3, none⟩ = some (I m.e.ref.o)) (c4 : w.cell? ⟨p, q + k * 7 + 4, none⟩ = some (I m.e.ref.s)) (c5 : w.cell? ⟨p, q + k * 7 + 5, none⟩ = some (I m.e.ref.i)) (c6 : w.cell? ⟨p, q + k * 7 + 6, none⟩ = some (.slice m.da m.e.dots.length m.dc)) (hop : ¬ (1 ≤ m.e.op ∧ m.e.op ≤ 6)) :
    Calls Tryd.prog 38 #[bV b ca (some ⟨p, q, none⟩) cc ec, I k] w fun e w' => e = .returned (.bool (Wv.effOk b k m.e)) ∧ Below w.heap.size w w' := by
  have hki : (k : Int) < (b.effs.length : Int) := by omega
  have HF : Hid (Wv.effOk b k m.e = false) := by
    have : Wv.isOp m.e.op = false := by simp [Wv.isOp]; omega
    show Wv.effOk b k m.e = false
    simp [Wv.effOk, this]
  have HOP : Hid (¬ (1 ≤ m.e.op ∧ m.e.op ≤ 6)) := hop
  clear hop
  go_enter Tryd.func38, Tryd.ntmps38
  go_wp2_with (first | (go_at_call 54; refine (kind_none _ _ HOP.out).mono ?_; rintro e w' ⟨rfl, h⟩; subst h))
  go_ret
  exact ⟨ret_bool HF.out.symm, ((Below.refl _ _).alloc (Nat.le_refl _) _).alloc (by simp) _⟩

end Go.Proofs.YtfmcngncaffloaaDoor
