import Derived.Test.YtfmcngncaffloaaGreatDoorG04PoA
import Derived.Deep.QuietTactic
import Derived.BigQuiet
import Derived.Deep.RegionHeld3
namespace Go.Proofs.YtfmcngncaffloaaGreatDoor
open Go.RowKit
set_option maxRecDepth 100000

theorem new_at (w : World) (cs : Array Value) (t : TypeId) (n j : Nat) (hn : n = w.heap.size) : (w.alloc (.cells cs t)).drew.cell? ⟨n, j, none⟩ = cs[j]? := Joins.cell_alloc_mark_at w cs t (0, 0) n j hn
def cmpI (a b : Int) : Int := if a < b then -1 else if b < a then 1 else 0
def orI (a b c : Int) : Int := if a = 0 then (if b = 0 then c else b) else a
theorem or_less (a b : Wv.Dt) : (decide (orI (cmpI a.o b.o) (cmpI a.s b.s) (cmpI a.i b.i) < 0)) = Wv.lessD a b := by
  unfold orI cmpI Wv.lessD
  rw [Bool.eq_iff_iff]
  repeat' split
  all_goals (simp; try omega)

set_option maxHeartbeats 400000 in
theorem compare_any (a b : Int) (w : World) :
    Calls Tryz.prog 113 #[I a, I b] w fun e w' => e = .returned (I (cmpI a b)) ∧ w' = w := by
  go_enter Tryz.func113, Tryz.ntmps113
  go_wp2
  all_goals go_ret
  all_goals refine ⟨ret_int ?_, rfl⟩
  all_goals unfold cmpI
  all_goals (simp_all; try omega)

set_option maxHeartbeats 800000 in
theorem or_any (a b c : Int) (g : Nat) (w : World) (h0 : w.cell? ⟨g, 0, none⟩ = some (I a)) (h1 : w.cell? ⟨g, 1, none⟩ = some (I b)) (h2 : w.cell? ⟨g, 2, none⟩ = some (I c)) :
    Calls Tryz.prog 112 #[.slice (some ⟨g, 0, none⟩) 3 3] w fun e w' => e = .returned (I (orI a b c)) ∧ w' = w := by
  go_enter Tryz.func112, Tryz.ntmps112
  go_wp2
  go_rounds 4
  all_goals go_ret
  all_goals refine ⟨ret_int ?_, rfl⟩
  all_goals unfold orI
  all_goals (simp_all; try omega)

set_option maxHeartbeats 3200000 in
theorem compareDots_any (a b : Wv.Dt) (w : World) :
    Calls Tryz.prog 214 #[dotV a, dotV b] w fun e w' => (∃ r : Int, e = .returned (I r) ∧ (decide (r < 0)) = Wv.lessD a b) ∧ Below w.heap.size w w' := by
  have k0 : Hid (((((w.alloc (.cells #[I a.o, I a.s, I a.i] 146)).alloc (.cells #[I b.o, I b.s, I b.i] 146)).alloc (.cells #[I (cmpI a.o b.o), I (cmpI a.s b.s), I (cmpI a.i b.i)] 3)).drew).cell? ⟨w.heap.size + 1 + 1, 0, none⟩ = some (I (cmpI a.o b.o))) := new_at _ _ _ _ _ (by simp)
  have k1 : Hid (((((w.alloc (.cells #[I a.o, I a.s, I a.i] 146)).alloc (.cells #[I b.o, I b.s, I b.i] 146)).alloc (.cells #[I (cmpI a.o b.o), I (cmpI a.s b.s), I (cmpI a.i b.i)] 3)).drew).cell? ⟨w.heap.size + 1 + 1, 1, none⟩ = some (I (cmpI a.s b.s))) := new_at _ _ _ _ _ (by simp)
  have k2 : Hid (((((w.alloc (.cells #[I a.o, I a.s, I a.i] 146)).alloc (.cells #[I b.o, I b.s, I b.i] 146)).alloc (.cells #[I (cmpI a.o b.o), I (cmpI a.s b.s), I (cmpI a.i b.i)] 3)).drew).cell? ⟨w.heap.size + 1 + 1, 2, none⟩ = some (I (cmpI a.i b.i))) := new_at _ _ _ _ _ (by simp)
  go_enter Tryz.func214, Tryz.ntmps214
  go_wp2_with fail
  go_region_held3 (fun w' => w'.cell? ⟨w.heap.size, 0, none⟩ = some (I a.o) ∧ w'.cell? ⟨w.heap.size, 1, none⟩ = some (I a.s) ∧ w'.cell? ⟨w.heap.size, 2, none⟩ = some (I a.i) ∧ w'.cell? ⟨w.heap.size + 1, 0, none⟩ = some (I b.o) ∧ w'.cell? ⟨w.heap.size + 1, 1, none⟩ = some (I b.s) ∧ w'.cell? ⟨w.heap.size + 1, 2, none⟩ = some (I b.i)) (go_keep)
    (first | (go_at_call 113; refine (compare_any _ _ _).mono ?_; rintro e w' ⟨rfl, h⟩; subst h) | (go_at_call 112; refine (or_any (cmpI a.o b.o) (cmpI a.s b.s) (cmpI a.i b.i) _ _ ?_ ?_ ?_).mono ?_; exact k0.out; exact k1.out; exact k2.out; rintro e w' ⟨rfl, h⟩; subst h))
  go_wp2
  go_ret
  exact ⟨⟨_, rfl, or_less a b⟩, (((((Below.refl _ _).alloc (Nat.le_refl _) _).alloc (by simp) _)).alloc (by simp; omega) _).drew⟩

end Go.Proofs.YtfmcngncaffloaaGreatDoor
