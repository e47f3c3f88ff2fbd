import Derived.Test.YtfmcngncaffloaaDoorMem2
import Derived.Test.YtfmcngncaffloaaDoorEqD
import Derived.Deep.QuietTactic
import Derived.BigQuiet
import Derived.Deep.RegionHeld3
namespace Go.Proofs.YtfmcngncaffloaaDoor
open Go.RowKit
set_option maxRecDepth 100000
attribute [local go_sem ↓] run_eql_dot run_neq_dot

theorem eq3_self (a b c : Int) : eq3 a b c a b c = true := by simp [eq3]

set_option maxHeartbeats 400000 in
theorem sameI_none (a1 a2 : Option Addr) (n1 n2 : Nat) (w : World) :
    Calls Tryd.prog 30 #[.slice a1 0 n1, .slice a2 0 n2] w fun e w' => e = .returned (.bool true) ∧ Below w.heap.size w w' := by
  go_enter Tryd.func30, Tryd.ntmps30
  go_wp2_with fail
  go_rounds 1
  go_ret
  exact ⟨rfl, Below.refl _ _⟩
set_option maxHeartbeats 400000 in
theorem sameD_none (a1 a2 : Option Addr) (n1 n2 : Nat) (w : World) :
    Calls Tryd.prog 43 #[.slice a1 0 n1, .slice a2 0 n2] w fun e w' => e = .returned (.bool true) ∧ Below w.heap.size w w' := by
  go_enter Tryd.func43, Tryd.ntmps43
  go_wp2_with fail
  go_rounds 1
  go_ret
  exact ⟨rfl, Below.refl _ _⟩

set_option maxHeartbeats 800000 in
theorem sameI_some (zs : List Int) (p1 q1 p2 q2 : Nat) (n1 n2 : Nat) (w : World) (h1 : Hid (∀ j u, (zs.map I)[j]? = some u → w.cell? ⟨p1, q1 + j, none⟩ = some u)) (h2 : Hid (∀ j u, (zs.map I)[j]? = some u → w.cell? ⟨p2, q2 + j, none⟩ = some u)) (hl : zs.length ≤ 4611686018427387904) :
    Calls Tryd.prog 30 #[.slice (some ⟨p1, q1, none⟩) zs.length n1, .slice (some ⟨p2, q2, none⟩) zs.length n2] w fun e w' => e = .returned (.bool true) ∧ Below w.heap.size w w' := by
  go_enter Tryd.func30, Tryd.ntmps30
  go_wp2_with fail
  go_loopw [5] (fun x wr => ∃ k : Nat, k ≤ zs.length ∧ x = I k ∧ Hid (Below w.heap.size w wr)) (fun x _ => zs.length - (intOf x).toNat)
  case atStart => exact ⟨0, Nat.zero_le _, rfl, Below.refl _ _⟩
  case round =>
    obtain ⟨k, hk, rfl, hb⟩ := hrel
    by_cases hlt : k < zs.length
    · have c1 : wr.cell? ⟨p1, q1 + k, none⟩ = some (I zs[k]) := cell_kept hb.out (h1.out k _ (by simp [hlt]))
      have c2 : wr.cell? ⟨p2, q2 + k, none⟩ = some (I zs[k]) := cell_kept hb.out (h2.out k _ (by simp [hlt]))
      generalize zs[k] = z at c1 c2
      have hki : (k : Int) < (zs.length : Int) := by omega
      have hzz : (z != z) = false := by simp
      go_wp2_with fail
      go_quiet (fail)
      go_wp2
      exact ⟨⟨k + 1, by omega, by go_num, belowN hb.out _⟩, by simp [intOf]; omega⟩
    · obtain rfl : k = zs.length := by omega
      go_wp2
      go_ret
      exact ⟨rfl, hb.out⟩

set_option maxHeartbeats 1600000 in
theorem sameD_some (ds : List Wv.Dt) (p1 q1 p2 q2 : Nat) (n1 n2 : Nat) (w : World) (h1 : Hid (∀ k (hk : k < ds.length), w.cell? ⟨p1, q1 + k * 3, none⟩ = some (I ds[k].o) ∧ w.cell? ⟨p1, q1 + k * 3 + 1, none⟩ = some (I ds[k].s) ∧ w.cell? ⟨p1, q1 + k * 3 + 2, none⟩ = some (I ds[k].i)))
    (h2 : Hid (∀ k (hk : k < ds.length), w.cell? ⟨p2, q2 + k * 3, none⟩ = some (I ds[k].o) ∧ w.cell? ⟨p2, q2 + k * 3 + 1, none⟩ = some (I ds[k].s) ∧ w.cell? ⟨p2, q2 + k * 3 + 2, none⟩ = some (I ds[k].i))) (hl : ds.length ≤ 4611686018427387904) :
    Calls Tryd.prog 43 #[.slice (some ⟨p1, q1, none⟩) ds.length n1, .slice (some ⟨p2, q2, none⟩) ds.length n2] w fun e w' => e = .returned (.bool true) ∧ Below w.heap.size w w' := by
  go_enter Tryd.func43, Tryd.ntmps43
  go_wp2_with fail
  go_loopw [5] (fun x wr => ∃ k : Nat, k ≤ ds.length ∧ x = I k ∧ Hid (Below w.heap.size w wr)) (fun x _ => ds.length - (intOf x).toNat)
  case atStart => exact ⟨0, Nat.zero_le _, rfl, Below.refl _ _⟩
  case round =>
    obtain ⟨k, hk, rfl, hb⟩ := hrel
    by_cases hlt : k < ds.length
    · obtain ⟨c0, c1, c2⟩ := h1.out k hlt
      obtain ⟨e0, e1, e2⟩ := h2.out k hlt
      replace c0 := cell_kept hb.out c0
      replace c1 := cell_kept hb.out c1
      replace c2 := cell_kept hb.out c2
      replace e0 := cell_kept hb.out e0
      replace e1 := cell_kept hb.out e1
      replace e2 := cell_kept hb.out e2
      generalize ds[k] = d at c0 c1 c2 e0 e1 e2
      have hki : (k : Int) < (ds.length : Int) := by omega
      have hdd := eq3_self d.o d.s d.i
      go_wp2_with fail
      go_quiet (fail)
      go_wp2
      exact ⟨⟨k + 1, by omega, by go_num, belowN hb.out _⟩, by simp [intOf]; omega⟩
    · obtain rfl : k = ds.length := by omega
      go_wp2
      go_ret
      exact ⟨rfl, hb.out⟩

theorem sameI_any (zs : List Int) (a1 a2 : Option Addr) (n1 n2 : Nat) (w : World) (h1 : At w a1 (zs.map I)) (h2 : At w a2 (zs.map I)) (hl : zs.length ≤ 4611686018427387904) :
    Calls Tryd.prog 30 #[.slice a1 zs.length n1, .slice a2 zs.length n2] w fun e w' => e = .returned (.bool true) ∧ Below w.heap.size w w' := by
  rcases Nat.eq_zero_or_pos zs.length with hz | hz
  · obtain rfl := List.eq_nil_of_length_eq_zero hz
    exact sameI_none a1 a2 n1 n2 w
  · obtain ⟨p1, q1, rfl, _, c1⟩ := h1.first (by simpa using hz)
    obtain ⟨p2, q2, rfl, _, c2⟩ := h2.first (by simpa using hz)
    exact sameI_some zs p1 q1 p2 q2 n1 n2 w c1 c2 hl
theorem sameD_any (ds : List Wv.Dt) (a1 a2 : Option Addr) (n1 n2 : Nat) (w : World) (h1 : At w a1 (flat dotCells ds)) (h2 : At w a2 (flat dotCells ds)) (hl : ds.length ≤ 4611686018427387904) :
    Calls Tryd.prog 43 #[.slice a1 ds.length n1, .slice a2 ds.length n2] w fun e w' => e = .returned (.bool true) ∧ Below w.heap.size w w' := by
  rcases Nat.eq_zero_or_pos ds.length with hz | hz
  · obtain rfl := List.eq_nil_of_length_eq_zero hz
    exact sameD_none a1 a2 n1 n2 w
  · obtain ⟨p1, q1, rfl, _, c1⟩ := dots_at h1 hz
    obtain ⟨p2, q2, rfl, _, c2⟩ := dots_at h2 hz
    exact sameD_some ds p1 q1 p2 q2 n1 n2 w c1 c2 hl

end Go.Proofs.YtfmcngncaffloaaDoor
