import Derived.Test.YtfmcngncaffloaaDoorIsB2
namespace Go.Proofs.YtfmcngncaffloaaDoor
open Go.RowKit
set_option maxRecDepth 100000

theorem get_map (l : List Int) (k : Nat) (h : k < l.length) : (l.map I)[k]? = some (I (l.getD k 0)) := by simp [h]
theorem clkTo_of (b : Wv.Bt) (h0 : 0 ≤ b.o) (ho : b.clock.getD b.o.toNat 0 = b.s - 1) (k : Nat) (h : 0 ≤ b.clock.getD k 0 ∧ b.clock.getD k 0 ≤ 30) (hto : Wv.clkTo b k = true) : Wv.clkTo b (k + 1) = true := by
  rw [Wv.clkTo, hto, Wv.cOk]
  by_cases e : (k : Int) = b.o
  · have : k = b.o.toNat := by omega
    rw [this, ho] at h ⊢
    simp [h]
    omega
  · have : ((k : Int) == b.o) = false := by rw [beq_eq_false_iff_ne]; exact e
    simp only [this, h.1, h.2]
    simp

set_option maxHeartbeats 1600000 in
theorem isBatch_3 (b : Wv.Bt) (ea : Option Addr) (cc ec p q : Nat) (w : World) (a1 : 2 ≤ b.clock.length) (a2 : b.clock.length ≤ 4) (a3 : 0 ≤ b.o) (a4 : b.o < b.clock.length) (g1 : 1 ≤ b.s) (g2 : b.s ≤ 30) (g3 : 1 ≤ b.t) (g4 : b.t ≤ 200)
    (hc : Hid (∀ j u, (b.clock.map I)[j]? = some u → w.cell? ⟨p, q + j, none⟩ = some u)) (hp : p < w.heap.size) (hz : ¬ b.clock.getD b.o.toNat 0 = b.s - 1) :
    Calls Tryd.prog 22 #[bV b (some ⟨p, q, none⟩) ea cc ec] w fun e w' => e = .returned (.bool (Wv.isB b)) ∧ Below w.heap.size w w' := by
  have HF : Hid (Wv.isB b = false) := isB_own b a3 a4 hz
  have k1 : (2 : Int) ≤ (b.clock.length : Int) := by omega
  have k2 : (b.clock.length : Int) ≤ 4 := by omega
  have c0 : w.cell? ⟨p, q + b.o.toNat, none⟩ = some (I (b.clock.getD b.o.toNat 0)) := hc.out _ _ (get_map b.clock _ (by omega))
  have hz' : (b.clock.getD b.o.toNat 0 != b.s - 1) = true := by rw [bne_iff_ne]; exact hz
  generalize b.clock.getD b.o.toNat 0 = z at c0 hz'
  have d0 : decide (b.s < 1) = false := by simp; omega
  have d1 : decide (30 < b.s) = false := by simp; omega
  have d2 : decide (b.t < 1) = false := by simp; omega
  have d3 : decide (200 < b.t) = false := by simp; omega
  clear hz
  go_enter Tryd.func22, Tryd.ntmps22
  go_wp2_with fail
  go_quiet (fail)
  go_wp2
  go_ret
  exact ⟨ret_bool HF.out.symm, belowN ((Below.refl _ _).alloc (Nat.le_refl _) _) _⟩

end Go.Proofs.YtfmcngncaffloaaDoor
