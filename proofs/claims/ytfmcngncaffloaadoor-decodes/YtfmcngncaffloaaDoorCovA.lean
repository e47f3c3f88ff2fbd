import Derived.Test.YtfmcngncaffloaaDoorMem
import Derived.Deep.QuietTactic
import Derived.BigQuiet
namespace Go.Proofs.YtfmcngncaffloaaDoor
open Go.RowKit
set_option maxRecDepth 100000

set_option maxHeartbeats 1600000 in
theorem refcovers_core (o s t : Int) (b p n c k : Nat) (z : Int) (ev : Value) (ds di : Int) (i : Int) (w : World) (hk : k < n) (hc : w.cell? ⟨b, p + k, none⟩ = some (I z)) (hb : b < w.heap.size) (h1 : 1 ≤ ds) (h2 : 0 ≤ di) (h3 : di < 5) :
    Calls Tryd.prog 55 #[.agg #[I o, I s, I t, .slice (some ⟨b, p, none⟩) n c, ev], .agg #[I (k : Int), I ds, I di], I i] w fun e w' => e = .returned (.bool (decide (ds ≤ z) || (((k : Int) == o) && (ds == s) && decide (di < i)))) ∧ Below w.heap.size w w' := by
  go_enter Tryd.func55, Tryd.ntmps55
  go_wp2_with fail
  refine wp_region_quiet_lit (by kernel_rfl) (by kernel_rfl) ?_
  repeat (any_goals (first | go_big_quiet_step (fail) | quiet_step (fail) | (refine wpQuiet_step (fun K hK => ?_); go_simp; split <;> (refine hK _ ?_; clear hK K))))
  all_goals (refine wpQuiet_nil ?_; intro _ hw'; obtain ⟨nq, hw''⟩ := hw'; subst hw'')
  all_goals go_wp2
  all_goals go_ret
  all_goals refine ⟨ret_bool ?_, belowN (((Below.refl _ _).alloc (Nat.le_refl _) _).alloc (by simp) _) _⟩
  all_goals (simp_all; try omega)

set_option maxHeartbeats 800000 in
theorem refcovers_out (o s t : Int) (ca : Option Addr) (n c : Nat) (ev : Value) (d : Wv.Dt) (i : Int) (w : World) (h : ¬ (0 ≤ d.o ∧ d.o < n ∧ 1 ≤ d.s ∧ 0 ≤ d.i ∧ d.i < 5)) :
    Calls Tryd.prog 55 #[.agg #[I o, I s, I t, .slice ca n c, ev], dotV d, I i] w fun e w' => e = .returned (.bool false) ∧ Below w.heap.size w w' := by
  have H : Hid (¬ (0 ≤ d.o ∧ d.o < n ∧ 1 ≤ d.s ∧ 0 ≤ d.i ∧ d.i < 5)) := h
  clear h
  go_enter Tryd.func55, Tryd.ntmps55
  go_wp2_with fail
  all_goals first | (go_ret; exact ⟨rfl, ((Below.refl _ _).alloc (Nat.le_refl _) _).alloc (by simp) _⟩) | (exfalso; exact H.out (by omega))

theorem refcovers_any (b : Wv.Bt) (ca : Option Addr) (cc : Nat) (ev : Value) (d : Wv.Dt) (i : Int) (w : World) (h : At w ca (b.clock.map I)) :
    Calls Tryd.prog 55 #[batV b ca cc ev, dotV d, I i] w fun e w' => e = .returned (.bool (Wv.cov b d i)) ∧ Below w.heap.size w w' := by
  by_cases hin : 0 ≤ d.o ∧ d.o < b.clock.length ∧ 1 ≤ d.s ∧ 0 ≤ d.i ∧ d.i < 5
  · obtain ⟨h0, h1, h2, h3, h4⟩ := hin
    obtain ⟨k, hk⟩ := Int.eq_ofNat_of_zero_le h0
    have hk' : k < b.clock.length := by omega
    obtain ⟨p, q, rfl, hp, hc⟩ := clock_at h hk'
    have := refcovers_core b.o b.s b.t p q b.clock.length cc k _ ev d.s d.i i w hk' hc hp h2 h3 h4
    have e : Wv.cov b d i = (decide (d.s ≤ b.clock.getD k 0) || ((d.o == b.o) && (d.s == b.s) && decide (d.i < i))) := by
      simp [Wv.cov, Wv.inD, h2, h3, h4, hk, hk']
    rw [e]
    rw [← hk] at this
    exact this
  · have e : Wv.cov b d i = false := by
      simp only [Wv.cov, Wv.inD]
      rw [Bool.and_eq_false_iff]
      left
      simp only [Bool.and_eq_false_iff, decide_eq_false_iff_not]
      omega
    rw [e]
    exact refcovers_out b.o b.s b.t ca _ cc ev d i w hin

set_option maxHeartbeats 400000 in
theorem less_any (a b : Wv.Dt) (w : World) :
    Calls Tryd.prog 56 #[dotV a, dotV b] w fun e w' => e = .returned (.bool (Wv.lessD a b)) ∧ Below w.heap.size w w' := by
  go_enter Tryd.func56, Tryd.ntmps56
  go_wp2_with fail
  all_goals go_ret
  all_goals refine ⟨ret_bool ?_, ((Below.refl _ _).alloc (Nat.le_refl _) _).alloc (by simp) _⟩
  all_goals unfold Wv.lessD
  all_goals (simp_all; try omega)

end Go.Proofs.YtfmcngncaffloaaDoor
