import Derived.Test.YtfmcngncaffloaaGreatDoorG02Glob
import Derived.RegionTactic
namespace Go.Proofs.YtfmcngncaffloaaGreatDoor
open Go.RowKit
set_option maxRecDepth 100000
def ruleV (op : Int) : Value := .agg #[I (Wv.rKind op), I (Wv.rLeast op), I (Wv.rGreat op), I (Wv.rRef op), I (Wv.rLeastD op), I (Wv.rMostD op)]

set_option maxHeartbeats 400000 in
theorem ruleof_no (op : Int) (w : World) (eb ef : Addr) (g : Gl w eb ef) (h : ¬ (1 ≤ op ∧ op ≤ 6)) :
    Calls Tryz.prog 67 #[I op] w fun e w' => (∃ s, e = .returned (.tuple #[.agg #[I 0, I 0, I 0, I 0, I 0, I 0], Flt s (Sent eb)])) ∧ Below w.heap.size w w' := by
  have h' : (!(decide (1 ≤ op) && decide (op ≤ 6))) = true := by simp; omega
  have hE := g.errBatch
  have hz := lt_of_cell hE
  clear g h
  go_enter Tryz.func67, Tryz.ntmps67
  go_wp2_with (go_at_call 115; refine (within_any _ _ _ _).mono ?_; rintro e w' ⟨rfl, h⟩; subst h)
  go_region
  go_wp2
  refine bodyPost_ret (v := .tuple #[.agg #[I 0, I 0, I 0, I 0, I 0, I 0], Flt _ (Sent eb)]) (by simp [results, Tryz.results67, go_sem]; rfl) rfl ⟨⟨_, rfl⟩, ?_⟩
  exact ((Below.refl _ _).alloc (Nat.le_refl _) _).drew

set_option maxHeartbeats 400000 in
theorem ruleof_1 (w : World) (eb ef : Addr) (g : Gl w eb ef) :
    Calls Tryz.prog 67 #[I 1] w fun e w' => e = .returned (.tuple #[ruleV 1, .nilIface]) ∧ Below w.heap.size w w' := by
  have c0 : w.cell? ⟨1, 6, none⟩ = some (I 0) := g.rules 6 (by decide)
  have c1 : w.cell? ⟨1, 7, none⟩ = some (I (-1000)) := g.rules 7 (by decide)
  have c2 : w.cell? ⟨1, 8, none⟩ = some (I 1000) := g.rules 8 (by decide)
  have c3 : w.cell? ⟨1, 9, none⟩ = some (I 0) := g.rules 9 (by decide)
  have c4 : w.cell? ⟨1, 10, none⟩ = some (I 0) := g.rules 10 (by decide)
  have c5 : w.cell? ⟨1, 11, none⟩ = some (I 0) := g.rules 11 (by decide)
  have hz := lt_of_cell c0
  clear g
  go_enter Tryz.func67, Tryz.ntmps67
  go_wp2_with (go_at_call 115; refine (within_any _ _ _ _).mono ?_; rintro e w' ⟨rfl, h⟩; subst h)
  refine bodyPost_ret (v := .tuple #[ruleV 1, .nilIface]) (by simp [results, Tryz.results67, go_sem, ruleV, Wv.rKind, Wv.rLeast, Wv.rGreat, Wv.rRef, Wv.rLeastD, Wv.rMostD]) rfl ⟨rfl, ?_⟩
  exact ((Below.refl _ _).alloc (Nat.le_refl _) _)

set_option maxHeartbeats 400000 in
theorem ruleof_2 (w : World) (eb ef : Addr) (g : Gl w eb ef) :
    Calls Tryz.prog 67 #[I 2] w fun e w' => e = .returned (.tuple #[ruleV 2, .nilIface]) ∧ Below w.heap.size w w' := by
  have c0 : w.cell? ⟨1, 12, none⟩ = some (I 1) := g.rules 12 (by decide)
  have c1 : w.cell? ⟨1, 13, none⟩ = some (I 0) := g.rules 13 (by decide)
  have c2 : w.cell? ⟨1, 14, none⟩ = some (I 255) := g.rules 14 (by decide)
  have c3 : w.cell? ⟨1, 15, none⟩ = some (I 0) := g.rules 15 (by decide)
  have c4 : w.cell? ⟨1, 16, none⟩ = some (I 0) := g.rules 16 (by decide)
  have c5 : w.cell? ⟨1, 17, none⟩ = some (I 0) := g.rules 17 (by decide)
  have hz := lt_of_cell c0
  clear g
  go_enter Tryz.func67, Tryz.ntmps67
  go_wp2_with (go_at_call 115; refine (within_any _ _ _ _).mono ?_; rintro e w' ⟨rfl, h⟩; subst h)
  refine bodyPost_ret (v := .tuple #[ruleV 2, .nilIface]) (by simp [results, Tryz.results67, go_sem, ruleV, Wv.rKind, Wv.rLeast, Wv.rGreat, Wv.rRef, Wv.rLeastD, Wv.rMostD]) rfl ⟨rfl, ?_⟩
  exact ((Below.refl _ _).alloc (Nat.le_refl _) _)

set_option maxHeartbeats 400000 in
theorem ruleof_3 (w : World) (eb ef : Addr) (g : Gl w eb ef) :
    Calls Tryz.prog 67 #[I 3] w fun e w' => e = .returned (.tuple #[ruleV 3, .nilIface]) ∧ Below w.heap.size w w' := by
  have c0 : w.cell? ⟨1, 18, none⟩ = some (I 1) := g.rules 18 (by decide)
  have c1 : w.cell? ⟨1, 19, none⟩ = some (I 0) := g.rules 19 (by decide)
  have c2 : w.cell? ⟨1, 20, none⟩ = some (I 0) := g.rules 20 (by decide)
  have c3 : w.cell? ⟨1, 21, none⟩ = some (I 0) := g.rules 21 (by decide)
  have c4 : w.cell? ⟨1, 22, none⟩ = some (I 1) := g.rules 22 (by decide)
  have c5 : w.cell? ⟨1, 23, none⟩ = some (I 150) := g.rules 23 (by decide)
  have hz := lt_of_cell c0
  clear g
  go_enter Tryz.func67, Tryz.ntmps67
  go_wp2_with (go_at_call 115; refine (within_any _ _ _ _).mono ?_; rintro e w' ⟨rfl, h⟩; subst h)
  refine bodyPost_ret (v := .tuple #[ruleV 3, .nilIface]) (by simp [results, Tryz.results67, go_sem, ruleV, Wv.rKind, Wv.rLeast, Wv.rGreat, Wv.rRef, Wv.rLeastD, Wv.rMostD]) rfl ⟨rfl, ?_⟩
  exact ((Below.refl _ _).alloc (Nat.le_refl _) _)

set_option maxHeartbeats 400000 in
theorem ruleof_4 (w : World) (eb ef : Addr) (g : Gl w eb ef) :
    Calls Tryz.prog 67 #[I 4] w fun e w' => e = .returned (.tuple #[ruleV 4, .nilIface]) ∧ Below w.heap.size w w' := by
  have c0 : w.cell? ⟨1, 24, none⟩ = some (I 2) := g.rules 24 (by decide)
  have c1 : w.cell? ⟨1, 25, none⟩ = some (I 0) := g.rules 25 (by decide)
  have c2 : w.cell? ⟨1, 26, none⟩ = some (I 255) := g.rules 26 (by decide)
  have c3 : w.cell? ⟨1, 27, none⟩ = some (I 0) := g.rules 27 (by decide)
  have c4 : w.cell? ⟨1, 28, none⟩ = some (I 0) := g.rules 28 (by decide)
  have c5 : w.cell? ⟨1, 29, none⟩ = some (I 150) := g.rules 29 (by decide)
  have hz := lt_of_cell c0
  clear g
  go_enter Tryz.func67, Tryz.ntmps67
  go_wp2_with (go_at_call 115; refine (within_any _ _ _ _).mono ?_; rintro e w' ⟨rfl, h⟩; subst h)
  refine bodyPost_ret (v := .tuple #[ruleV 4, .nilIface]) (by simp [results, Tryz.results67, go_sem, ruleV, Wv.rKind, Wv.rLeast, Wv.rGreat, Wv.rRef, Wv.rLeastD, Wv.rMostD]) rfl ⟨rfl, ?_⟩
  exact ((Below.refl _ _).alloc (Nat.le_refl _) _)

set_option maxHeartbeats 400000 in
theorem ruleof_5 (w : World) (eb ef : Addr) (g : Gl w eb ef) :
    Calls Tryz.prog 67 #[I 5] w fun e w' => e = .returned (.tuple #[ruleV 5, .nilIface]) ∧ Below w.heap.size w w' := by
  have c0 : w.cell? ⟨1, 30, none⟩ = some (I 3) := g.rules 30 (by decide)
  have c1 : w.cell? ⟨1, 31, none⟩ = some (I 0) := g.rules 31 (by decide)
  have c2 : w.cell? ⟨1, 32, none⟩ = some (I 255) := g.rules 32 (by decide)
  have c3 : w.cell? ⟨1, 33, none⟩ = some (I 1) := g.rules 33 (by decide)
  have c4 : w.cell? ⟨1, 34, none⟩ = some (I 0) := g.rules 34 (by decide)
  have c5 : w.cell? ⟨1, 35, none⟩ = some (I 0) := g.rules 35 (by decide)
  have hz := lt_of_cell c0
  clear g
  go_enter Tryz.func67, Tryz.ntmps67
  go_wp2_with (go_at_call 115; refine (within_any _ _ _ _).mono ?_; rintro e w' ⟨rfl, h⟩; subst h)
  refine bodyPost_ret (v := .tuple #[ruleV 5, .nilIface]) (by simp [results, Tryz.results67, go_sem, ruleV, Wv.rKind, Wv.rLeast, Wv.rGreat, Wv.rRef, Wv.rLeastD, Wv.rMostD]) rfl ⟨rfl, ?_⟩
  exact ((Below.refl _ _).alloc (Nat.le_refl _) _)

set_option maxHeartbeats 400000 in
theorem ruleof_6 (w : World) (eb ef : Addr) (g : Gl w eb ef) :
    Calls Tryz.prog 67 #[I 6] w fun e w' => e = .returned (.tuple #[ruleV 6, .nilIface]) ∧ Below w.heap.size w w' := by
  have c0 : w.cell? ⟨1, 36, none⟩ = some (I 3) := g.rules 36 (by decide)
  have c1 : w.cell? ⟨1, 37, none⟩ = some (I 0) := g.rules 37 (by decide)
  have c2 : w.cell? ⟨1, 38, none⟩ = some (I 0) := g.rules 38 (by decide)
  have c3 : w.cell? ⟨1, 39, none⟩ = some (I 2) := g.rules 39 (by decide)
  have c4 : w.cell? ⟨1, 40, none⟩ = some (I 0) := g.rules 40 (by decide)
  have c5 : w.cell? ⟨1, 41, none⟩ = some (I 0) := g.rules 41 (by decide)
  have hz := lt_of_cell c0
  clear g
  go_enter Tryz.func67, Tryz.ntmps67
  go_wp2_with (go_at_call 115; refine (within_any _ _ _ _).mono ?_; rintro e w' ⟨rfl, h⟩; subst h)
  refine bodyPost_ret (v := .tuple #[ruleV 6, .nilIface]) (by simp [results, Tryz.results67, go_sem, ruleV, Wv.rKind, Wv.rLeast, Wv.rGreat, Wv.rRef, Wv.rLeastD, Wv.rMostD]) rfl ⟨rfl, ?_⟩
  exact ((Below.refl _ _).alloc (Nat.le_refl _) _)

theorem ruleof_yes (op : Int) (w : World) (eb ef : Addr) (g : Gl w eb ef) (h : 1 ≤ op ∧ op ≤ 6) :
    Calls Tryz.prog 67 #[I op] w fun e w' => e = .returned (.tuple #[ruleV op, .nilIface]) ∧ Below w.heap.size w w' := by
  obtain rfl | rfl | rfl | rfl | rfl | rfl : op = 1 ∨ op = 2 ∨ op = 3 ∨ op = 4 ∨ op = 5 ∨ op = 6 := by omega
  · exact ruleof_1 w eb ef g
  · exact ruleof_2 w eb ef g
  · exact ruleof_3 w eb ef g
  · exact ruleof_4 w eb ef g
  · exact ruleof_5 w eb ef g
  · exact ruleof_6 w eb ef g

end Go.Proofs.YtfmcngncaffloaaGreatDoor
