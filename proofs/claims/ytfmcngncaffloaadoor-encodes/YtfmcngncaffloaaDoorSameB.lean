import Derived.Test.YtfmcngncaffloaaDoorSameX
namespace Go.Proofs.YtfmcngncaffloaaDoor
open Go.RowKit
set_option maxRecDepth 100000
attribute [local go_sem ↓] run_eql_dot run_neq_dot

set_option maxHeartbeats 1600000 in
theorem sameB_any (b : Wv.Bt) (ca ea ca2 ea2 : Option Addr) (cc ec cc2 ec2 : Nat) (ms1 ms2 : List Em) (w : World) (h1 : BatAt w b ca ea ms1) (h2 : BatAt w b ca2 ea2 ms2) (hcl : b.clock.length ≤ 4611686018427387904) (hl : b.effs.length ≤ 4611686018427387904) (hd : ∀ m ∈ ms1, m.e.dots.length ≤ 4611686018427387904) :
    Calls Tryd.prog 12 #[bV b ca ea cc ec, bV b ca2 ea2 cc2 ec2] w fun e w' => e = .returned (.bool true) ∧ Below w.heap.size w w' := by
  have h1' : Hid (BatAt w b ca ea ms1) := h1
  have h2' : Hid (BatAt w b ca2 ea2 ms2) := h2
  have hd' : Hid (∀ m ∈ ms1, m.e.dots.length ≤ 4611686018427387904) := hd
  clear h1 h2 hd
  go_enter Tryd.func12, Tryd.ntmps12
  have HW : Hid (Below w.heap.size w ((w.alloc (.cells #[I b.o, I b.s, I b.t, .slice ca b.clock.length cc, .slice ea b.effs.length ec] 25)).alloc (.cells #[I b.o, I b.s, I b.t, .slice ca2 b.clock.length cc2, .slice ea2 b.effs.length ec2] 25))) := ((Below.refl _ _).alloc (Nat.le_refl _) _).alloc (by simp) _
  go_wp2_with fail
  refine (sameI_any b.clock ca ca2 cc cc2 _ (h1'.out.kept HW.out).clock (h2'.out.kept HW.out).clock hcl).mono ?_
  rintro e w1 ⟨rfl, hb1⟩
  have HB1 : Hid (Below w.heap.size w w1) := HW.out.trans (hb1.mono (by simp; omega))
  have hsz1 : w.heap.size + 1 < w1.heap.size := by have := hb1.size; simp at this; omega
  have y0 : w1.cell? ⟨w.heap.size, 0, none⟩ = some (I b.o) := (hb1.cell (p := ⟨w.heap.size, 0, none⟩) (by simp; omega)).trans (cell_second2 w _ _ _ 0)
  have x0 : w1.cell? ⟨w.heap.size + 1, 0, none⟩ = some (I b.o) := (hb1.cell (p := ⟨w.heap.size + 1, 0, none⟩) (by simp)).trans (Joins.cell_alloc_mark_at _ _ _ _ _ _ (by simp))
  have y1 : w1.cell? ⟨w.heap.size, 1, none⟩ = some (I b.s) := (hb1.cell (p := ⟨w.heap.size, 1, none⟩) (by simp; omega)).trans (cell_second2 w _ _ _ 1)
  have x1 : w1.cell? ⟨w.heap.size + 1, 1, none⟩ = some (I b.s) := (hb1.cell (p := ⟨w.heap.size + 1, 1, none⟩) (by simp)).trans (Joins.cell_alloc_mark_at _ _ _ _ _ _ (by simp))
  have y2 : w1.cell? ⟨w.heap.size, 2, none⟩ = some (I b.t) := (hb1.cell (p := ⟨w.heap.size, 2, none⟩) (by simp; omega)).trans (cell_second2 w _ _ _ 2)
  have x2 : w1.cell? ⟨w.heap.size + 1, 2, none⟩ = some (I b.t) := (hb1.cell (p := ⟨w.heap.size + 1, 2, none⟩) (by simp)).trans (Joins.cell_alloc_mark_at _ _ _ _ _ _ (by simp))
  have y3 : w1.cell? ⟨w.heap.size, 3, none⟩ = some (.slice ca b.clock.length cc) := (hb1.cell (p := ⟨w.heap.size, 3, none⟩) (by simp; omega)).trans (cell_second2 w _ _ _ 3)
  have x3 : w1.cell? ⟨w.heap.size + 1, 3, none⟩ = some (.slice ca2 b.clock.length cc2) := (hb1.cell (p := ⟨w.heap.size + 1, 3, none⟩) (by simp)).trans (Joins.cell_alloc_mark_at _ _ _ _ _ _ (by simp))
  have y4 : w1.cell? ⟨w.heap.size, 4, none⟩ = some (.slice ea b.effs.length ec) := (hb1.cell (p := ⟨w.heap.size, 4, none⟩) (by simp; omega)).trans (cell_second2 w _ _ _ 4)
  have x4 : w1.cell? ⟨w.heap.size + 1, 4, none⟩ = some (.slice ea2 b.effs.length ec2) := (hb1.cell (p := ⟨w.heap.size + 1, 4, none⟩) (by simp)).trans (Joins.cell_alloc_mark_at _ _ _ _ _ _ (by simp))
  clear hb1
  have HM : Hid (ms1.map (·.e) = ms2.map (·.e)) := by show ms1.map (·.e) = ms2.map (·.e); rw [← h1'.out.effs, ← h2'.out.effs]
  have HL : Hid (b.effs.length = ms1.length) := by show b.effs.length = ms1.length; rw [h1'.out.effs]; simp
  go_wp2_with fail
  rw [HL.out]
  refine (sameX_any ms1 ms2 HM.out ea ea2 ec ec2 _ (h1'.out.kept HB1.out).cells (h2'.out.kept HB1.out).cells (h1'.out.kept HB1.out).dots (h2'.out.kept HB1.out).dots (by rw [← HL.out]; exact hl) hd'.out).mono ?_
  rintro e w2 ⟨rfl, hb2⟩
  have HB2 : Hid (Below w.heap.size w w2) := HB1.out.trans (hb2.mono (by omega))
  replace x0 := cell_kept hb2 x0
  replace x1 := cell_kept hb2 x1
  replace x2 := cell_kept hb2 x2
  replace x3 := cell_kept hb2 x3
  replace x4 := cell_kept hb2 x4
  replace y0 := cell_kept hb2 y0
  replace y1 := cell_kept hb2 y1
  replace y2 := cell_kept hb2 y2
  replace y3 := cell_kept hb2 y3
  replace y4 := cell_kept hb2 y4
  clear hb2
  have t0 : (b.o == b.o) = true := by simp
  have t1 : (b.s == b.s) = true := by simp
  have t2 : (b.t == b.t) = true := by simp
  go_wp2_with fail

  go_ret
  exact ⟨rfl, HB2.out⟩

end Go.Proofs.YtfmcngncaffloaaDoor
