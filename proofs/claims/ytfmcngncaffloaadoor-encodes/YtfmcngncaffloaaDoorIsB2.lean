import Derived.Test.YtfmcngncaffloaaDoorIsB
import Derived.Deep.RegionHeld3
namespace Go.Proofs.YtfmcngncaffloaaDoor
open Go.RowKit
set_option maxRecDepth 100000

theorem isB_num (b : Wv.Bt) (h : ¬ hNum b) : Wv.isB b = false := by rw [Wv.isB, headNo b h]; rfl
theorem isB_clk (b : Wv.Bt) (k : Nat) (hk : k < b.clock.length) (h : Wv.cOk b k = false) : Wv.isB b = false := by
  rw [Wv.isB, Wv.headOk, show Wv.clkOk b = false from Wv.clkTo_no b _ k hk h]; simp
theorem isB_own (b : Wv.Bt) (h0 : 0 ≤ b.o) (h1 : b.o < b.clock.length) (h : ¬ b.clock.getD b.o.toNat 0 = b.s - 1) : Wv.isB b = false := by
  refine isB_clk b b.o.toNat (by omega) ?_
  have e : ((b.o.toNat : Nat) : Int) = b.o := by omega
  have h' : (b.clock.getD b.o.toNat 0 == b.s - 1) = false := by rw [beq_eq_false_iff_ne]; exact h
  simp only [Wv.cOk, e, h']
  simp

set_option maxHeartbeats 1600000 in
theorem isBatch_1 (b : Wv.Bt) (ca ea : Option Addr) (cc ec : Nat) (w : World) (h1 : ¬ (2 ≤ b.clock.length ∧ b.clock.length ≤ 4 ∧ 0 ≤ b.o ∧ b.o < b.clock.length)) :
    Calls Tryd.prog 22 #[bV b ca ea cc ec] w fun e w' => e = .returned (.bool (Wv.isB b)) ∧ Below w.heap.size w w' := by
  have HF : Hid (Wv.isB b = false) := isB_num b (by unfold hNum; omega)
  have HN : Hid (¬ (2 ≤ b.clock.length ∧ b.clock.length ≤ 4 ∧ 0 ≤ b.o ∧ b.o < b.clock.length)) := h1
  clear h1
  go_enter Tryd.func22, Tryd.ntmps22
  go_wp2_with fail
  all_goals first | (go_ret; exact ⟨ret_bool HF.out.symm, (Below.refl _ _).alloc (Nat.le_refl _) _⟩) | (exfalso; exact HN.out (by omega))

set_option maxHeartbeats 1600000 in
theorem isBatch_2a (b : Wv.Bt) (ca ea : Option Addr) (cc ec : Nat) (w : World) (a1 : 2 ≤ b.clock.length) (a2 : b.clock.length ≤ 4) (a3 : 0 ≤ b.o) (a4 : b.o < b.clock.length) (g0 : b.s < 1) :
    Calls Tryd.prog 22 #[bV b ca ea cc ec] w fun e w' => e = .returned (.bool (Wv.isB b)) ∧ Below w.heap.size w w' := by
  have HF : Hid (Wv.isB b = false) := isB_num b (by unfold hNum; omega)
  have k1 : (2 : Int) ≤ (b.clock.length : Int) := by omega
  have k2 : (b.clock.length : Int) ≤ 4 := by omega
  have d0 : decide (b.s < 1) = true := by simp; omega
  go_enter Tryd.func22, Tryd.ntmps22
  go_wp2_with fail
  go_quiet (fail)
  go_wp2
  go_ret
  exact ⟨ret_bool HF.out.symm, belowN ((Below.refl _ _).alloc (Nat.le_refl _) _) _⟩

set_option maxHeartbeats 1600000 in
theorem isBatch_2b (b : Wv.Bt) (ca ea : Option Addr) (cc ec : Nat) (w : World) (a1 : 2 ≤ b.clock.length) (a2 : b.clock.length ≤ 4) (a3 : 0 ≤ b.o) (a4 : b.o < b.clock.length) (g0 : 1 ≤ b.s) (g1 : 30 < b.s) :
    Calls Tryd.prog 22 #[bV b ca ea cc ec] w fun e w' => e = .returned (.bool (Wv.isB b)) ∧ Below w.heap.size w w' := by
  have HF : Hid (Wv.isB b = false) := isB_num b (by unfold hNum; omega)
  have k1 : (2 : Int) ≤ (b.clock.length : Int) := by omega
  have k2 : (b.clock.length : Int) ≤ 4 := by omega
  have d0 : decide (b.s < 1) = false := by simp; omega
  have d1 : decide (30 < b.s) = true := by simp; omega
  go_enter Tryd.func22, Tryd.ntmps22
  go_wp2_with fail
  go_quiet (fail)
  go_wp2
  go_ret
  exact ⟨ret_bool HF.out.symm, belowN ((Below.refl _ _).alloc (Nat.le_refl _) _) _⟩

set_option maxHeartbeats 1600000 in
theorem isBatch_2c (b : Wv.Bt) (ca ea : Option Addr) (cc ec : Nat) (w : World) (a1 : 2 ≤ b.clock.length) (a2 : b.clock.length ≤ 4) (a3 : 0 ≤ b.o) (a4 : b.o < b.clock.length) (g0 : 1 ≤ b.s) (g1 : b.s ≤ 30) (g2 : b.t < 1) :
    Calls Tryd.prog 22 #[bV b ca ea cc ec] w fun e w' => e = .returned (.bool (Wv.isB b)) ∧ Below w.heap.size w w' := by
  have HF : Hid (Wv.isB b = false) := isB_num b (by unfold hNum; omega)
  have k1 : (2 : Int) ≤ (b.clock.length : Int) := by omega
  have k2 : (b.clock.length : Int) ≤ 4 := by omega
  have d0 : decide (b.s < 1) = false := by simp; omega
  have d1 : decide (30 < b.s) = false := by simp; omega
  have d2 : decide (b.t < 1) = true := by simp; omega
  go_enter Tryd.func22, Tryd.ntmps22
  go_wp2_with fail
  go_quiet (fail)
  go_wp2
  go_ret
  exact ⟨ret_bool HF.out.symm, belowN ((Below.refl _ _).alloc (Nat.le_refl _) _) _⟩

set_option maxHeartbeats 1600000 in
theorem isBatch_2d (b : Wv.Bt) (ca ea : Option Addr) (cc ec : Nat) (w : World) (a1 : 2 ≤ b.clock.length) (a2 : b.clock.length ≤ 4) (a3 : 0 ≤ b.o) (a4 : b.o < b.clock.length) (g0 : 1 ≤ b.s) (g1 : b.s ≤ 30) (g2 : 1 ≤ b.t) (g3 : 200 < b.t) :
    Calls Tryd.prog 22 #[bV b ca ea cc ec] w fun e w' => e = .returned (.bool (Wv.isB b)) ∧ Below w.heap.size w w' := by
  have HF : Hid (Wv.isB b = false) := isB_num b (by unfold hNum; omega)
  have k1 : (2 : Int) ≤ (b.clock.length : Int) := by omega
  have k2 : (b.clock.length : Int) ≤ 4 := by omega
  have d0 : decide (b.s < 1) = false := by simp; omega
  have d1 : decide (30 < b.s) = false := by simp; omega
  have d2 : decide (b.t < 1) = false := by simp; omega
  have d3 : decide (200 < b.t) = true := by simp; omega
  go_enter Tryd.func22, Tryd.ntmps22
  go_wp2_with fail
  go_quiet (fail)
  go_wp2
  go_ret
  exact ⟨ret_bool HF.out.symm, belowN ((Below.refl _ _).alloc (Nat.le_refl _) _) _⟩

theorem isBatch_2 (b : Wv.Bt) (ca ea : Option Addr) (cc ec : Nat) (w : World) (a1 : 2 ≤ b.clock.length) (a2 : b.clock.length ≤ 4) (a3 : 0 ≤ b.o) (a4 : b.o < b.clock.length) (h2 : ¬ (1 ≤ b.s ∧ b.s ≤ 30 ∧ 1 ≤ b.t ∧ b.t ≤ 200)) :
    Calls Tryd.prog 22 #[bV b ca ea cc ec] w fun e w' => e = .returned (.bool (Wv.isB b)) ∧ Below w.heap.size w w' := by
  by_cases g1 : 1 ≤ b.s
  · by_cases g2 : b.s ≤ 30
    · by_cases g3 : 1 ≤ b.t
      · exact isBatch_2d b ca ea cc ec w a1 a2 a3 a4 g1 g2 g3 (by omega)
      · exact isBatch_2c b ca ea cc ec w a1 a2 a3 a4 g1 g2 (by omega)
    · exact isBatch_2b b ca ea cc ec w a1 a2 a3 a4 g1 (by omega)
  · exact isBatch_2a b ca ea cc ec w a1 a2 a3 a4 (by omega)

end Go.Proofs.YtfmcngncaffloaaDoor
