import Derived.Test.YtfmcngncaffloaaDoorMem
import Derived.Deep.QuietTactic
import Derived.BigQuiet
namespace Go.Proofs.YtfmcngncaffloaaDoor
open Go.RowKit
set_option maxRecDepth 100000

set_option maxHeartbeats 1600000 in
theorem covers_out (o s t : Int) (ca : Option Addr) (n c : Nat) (ev : Value) (d : Wv.Dt) (i : Int) (w : World) (hn : n ≤ 9223372036854775807) (h : ¬ (0 ≤ d.o ∧ d.o < n ∧ 0 ≤ d.i ∧ d.i < 5)) :
    Calls Tryd.prog 69 #[.agg #[I o, I s, I t, .slice ca n c, ev], I i, dotV d] w fun e w' => e = .returned (.bool false) ∧ Below w.heap.size w w' := by
  by_cases h' : 0 ≤ d.o ∧ d.o ≤ (n : Int) - 1
  · have h1 : (decide (0 ≤ d.i) && decide (d.i ≤ 4)) = false := by simp; omega
    clear h
    go_enter Tryd.func69, Tryd.ntmps69
    go_wp2_with (go_at_call 61; refine (within_any _ _ _ _).mono ?_; rintro e w' ⟨rfl, h⟩; subst h)
    all_goals (go_ret; exact ⟨rfl, ((Below.refl _ _).alloc (Nat.le_refl _) _).alloc (by simp) _⟩)
  · have h1 : (decide (0 ≤ d.o) && decide (d.o ≤ (n : Int) - 1)) = false := by simp; omega
    clear h h'
    go_enter Tryd.func69, Tryd.ntmps69
    go_wp2_with (go_at_call 61; refine (within_any _ _ _ _).mono ?_; rintro e w' ⟨rfl, h⟩; subst h)
    all_goals (go_ret; exact ⟨rfl, ((Below.refl _ _).alloc (Nat.le_refl _) _).alloc (by simp) _⟩)

set_option maxHeartbeats 1600000 in
theorem covers_own (o s t : Int) (ca : Option Addr) (n c : Nat) (ev : Value) (di : Int) (i : Int) (w : World) (hn : n ≤ 9223372036854775807) (h0 : 0 ≤ o) (h1 : o ≤ (n : Int) - 1) (h3 : 0 ≤ di) (h4 : di ≤ 4) :
    Calls Tryd.prog 69 #[.agg #[I o, I s, I t, .slice ca n c, ev], I i, .agg #[I o, I s, I di]] w fun e w' => e = .returned (.bool (decide (di < i))) ∧ Below w.heap.size w w' := by
  go_enter Tryd.func69, Tryd.ntmps69
  go_wp2_with (go_at_call 61; refine (within_any _ _ _ _).mono ?_; rintro e w' ⟨rfl, h⟩; subst h)
  all_goals (go_ret; exact ⟨rfl, ((Below.refl _ _).alloc (Nat.le_refl _) _).alloc (by simp) _⟩)

set_option maxHeartbeats 1600000 in
theorem covers_in (o s t : Int) (b p n c k : Nat) (z : Int) (ev : Value) (ds di : Int) (i : Int) (w : World) (hn : n ≤ 9223372036854775807) (hk : k < n) (hc : w.cell? ⟨b, p + k, none⟩ = some (I z)) (hb : b < w.heap.size) (h3 : 0 ≤ di) (h4 : di ≤ 4)
    (hx : ((k : Int) == o) = false ∨ (ds == s) = false) :
    Calls Tryd.prog 69 #[.agg #[I o, I s, I t, .slice (some ⟨b, p, none⟩) n c, ev], I i, .agg #[I (k : Int), I ds, I di]] w fun e w' => e = .returned (.bool (decide (1 ≤ ds) && decide (ds ≤ z))) ∧ Below w.heap.size w w' := by
  have h1 : (k : Int) ≤ (n : Int) - 1 := by omega
  cases h2 : ((k : Int) == o)
  · clear hx
    go_enter Tryd.func69, Tryd.ntmps69
    go_wp2_with (go_at_call 61; refine (within_any _ _ _ _).mono ?_; rintro e w' ⟨rfl, h⟩; subst h)
    go_quiet ((go_at_call 61; exact Calls.quiet_of_same (within_any _ _ _ _)))
    go_wp2
    all_goals (go_ret; exact ⟨rfl, belowN (((Below.refl _ _).alloc (Nat.le_refl _) _).alloc (by simp) _) _⟩)
  · have h3' : (ds == s) = false := by simpa [h2] using hx
    clear hx
    go_enter Tryd.func69, Tryd.ntmps69
    go_wp2_with (go_at_call 61; refine (within_any _ _ _ _).mono ?_; rintro e w' ⟨rfl, h⟩; subst h)
    go_quiet ((go_at_call 61; exact Calls.quiet_of_same (within_any _ _ _ _)))
    go_wp2
    all_goals (go_ret; exact ⟨rfl, belowN (((Below.refl _ _).alloc (Nat.le_refl _) _).alloc (by simp) _) _⟩)

end Go.Proofs.YtfmcngncaffloaaDoor
