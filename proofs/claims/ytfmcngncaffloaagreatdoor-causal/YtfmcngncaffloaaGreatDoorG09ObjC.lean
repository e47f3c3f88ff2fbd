import Derived.Test.YtfmcngncaffloaaGreatDoorCmpA
import Derived.Test.YtfmcngncaffloaaGreatDoorEqD
import Derived.Test.YtfmcngncaffloaaGreatDoorG04Mem2
import Derived.Test.YtfmcngncaffloaaGreatDoorG05Tch
namespace Go.Proofs.YtfmcngncaffloaaGreatDoor
open Go.RowKit
set_option maxRecDepth 100000

/-- What an effect has of its batch. -/
structure Stp where
  d : Wv.Dt
  t : Int
abbrev stV (s : Stp) : Value := .agg #[I s.d.o, I s.d.s, I s.d.i, I s.t]
/-- Which of two is later: by the Time, then the Origin, then the Index. -/
def laterS (a b : Stp) : Bool := decide (0 < orI (cmpI a.t b.t) (cmpI a.d.o b.d.o) (cmpI a.d.i b.d.i))

set_option maxHeartbeats 3200000 in
theorem later_any (a b : Stp) (w : World) :
    Calls Tryz.prog 319 #[stV a, stV b] w fun e w' => e = .returned (.bool (laterS a b)) ∧ Below w.heap.size w w' := by
  have k0 : Hid (((((w.alloc (.cells #[I a.d.o, I a.d.s, I a.d.i, I a.t] 198)).alloc (.cells #[I b.d.o, I b.d.s, I b.d.i, I b.t] 198)).alloc (.cells #[I (cmpI a.t b.t), I (cmpI a.d.o b.d.o), I (cmpI a.d.i b.d.i)] 3)).drew).cell? ⟨w.heap.size + 1 + 1, 0, none⟩ = some (I (cmpI a.t b.t))) := new_at _ _ _ _ _ (by simp)
  have k1 : Hid (((((w.alloc (.cells #[I a.d.o, I a.d.s, I a.d.i, I a.t] 198)).alloc (.cells #[I b.d.o, I b.d.s, I b.d.i, I b.t] 198)).alloc (.cells #[I (cmpI a.t b.t), I (cmpI a.d.o b.d.o), I (cmpI a.d.i b.d.i)] 3)).drew).cell? ⟨w.heap.size + 1 + 1, 1, none⟩ = some (I (cmpI a.d.o b.d.o))) := new_at _ _ _ _ _ (by simp)
  have k2 : Hid (((((w.alloc (.cells #[I a.d.o, I a.d.s, I a.d.i, I a.t] 198)).alloc (.cells #[I b.d.o, I b.d.s, I b.d.i, I b.t] 198)).alloc (.cells #[I (cmpI a.t b.t), I (cmpI a.d.o b.d.o), I (cmpI a.d.i b.d.i)] 3)).drew).cell? ⟨w.heap.size + 1 + 1, 2, none⟩ = some (I (cmpI a.d.i b.d.i))) := new_at _ _ _ _ _ (by simp)
  go_enter Tryz.func319, Tryz.ntmps319
  go_wp2_with fail
  go_region_held3 (fun w' => w'.cell? ⟨w.heap.size, 0, none⟩ = some (I a.d.o) ∧ w'.cell? ⟨w.heap.size, 1, none⟩ = some (I a.d.s) ∧ w'.cell? ⟨w.heap.size, 2, none⟩ = some (I a.d.i) ∧ w'.cell? ⟨w.heap.size, 3, none⟩ = some (I a.t) ∧ w'.cell? ⟨w.heap.size + 1, 0, none⟩ = some (I b.d.o) ∧ w'.cell? ⟨w.heap.size + 1, 1, none⟩ = some (I b.d.s) ∧ w'.cell? ⟨w.heap.size + 1, 2, none⟩ = some (I b.d.i) ∧ w'.cell? ⟨w.heap.size + 1, 3, none⟩ = some (I b.t)) (go_keep)
    (first | (go_at_call 113; refine (compare_any _ _ _).mono ?_; rintro e w' ⟨rfl, h⟩; subst h) | (go_at_call 112; refine (or_any (cmpI a.t b.t) (cmpI a.d.o b.d.o) (cmpI a.d.i b.d.i) _ _ ?_ ?_ ?_).mono ?_; exact k0.out; exact k1.out; exact k2.out; rintro e w' ⟨rfl, h⟩; subst h))
  go_wp2
  go_ret
  exact ⟨rfl, (((((Below.refl _ _).alloc (Nat.le_refl _) _).alloc (by simp) _)).alloc (by simp; omega) _).drew⟩

end Go.Proofs.YtfmcngncaffloaaGreatDoor

namespace Go.Proofs.YtfmcngncaffloaaGreatDoor
open Go.RowKit
set_option maxRecDepth 100000

/-- An element of a list. -/
structure El where
  s : Stp
  v : Int
  x : Bool
def El.cells (e : El) : List Value := [I e.s.d.o, I e.s.d.s, I e.s.d.i, I e.s.t, I e.v, .bool e.x]
abbrev elV (e : El) : Value := .agg #[I e.s.d.o, I e.s.d.s, I e.s.d.i, I e.s.t, I e.v, .bool e.x]
theorem elCells_len (e : El) : e.cells.length = 6 := rfl

/-- The elements, one by one. -/
def ElsAt (w : World) (p q : Nat) (ls : List El) : Prop := ∀ k (hk : k < ls.length), w.cell? ⟨p, q + k * 6, none⟩ = some (I ls[k].s.d.o) ∧ w.cell? ⟨p, q + k * 6 + 1, none⟩ = some (I ls[k].s.d.s) ∧ w.cell? ⟨p, q + k * 6 + 2, none⟩ = some (I ls[k].s.d.i) ∧
      w.cell? ⟨p, q + k * 6 + 3, none⟩ = some (I ls[k].s.t) ∧ w.cell? ⟨p, q + k * 6 + 4, none⟩ = some (I ls[k].v) ∧ w.cell? ⟨p, q + k * 6 + 5, none⟩ = some (.bool ls[k].x)
theorem els_at {w : World} {ea : Option Addr} {ls : List El} (h : At w ea (flat El.cells ls)) (hn : 0 < ls.length) : ∃ p q, ea = some ⟨p, q, none⟩ ∧ p < w.heap.size ∧ ElsAt w p q ls := by
  obtain ⟨p, q, e, hp, hc⟩ := h.first (by rw [flat_len _ 6 elCells_len]; omega)
  refine ⟨p, q, e, hp, fun k hk => ⟨?_, ?_, ?_, ?_, ?_, ?_⟩⟩
  · have := hc (k * 6 + 0) _ ((flat_get El.cells 6 elCells_len ls k hk 0 (by omega)).trans rfl); simpa using this
  · have := hc (k * 6 + 1) _ ((flat_get El.cells 6 elCells_len ls k hk 1 (by omega)).trans rfl); simpa [Nat.add_assoc] using this
  · have := hc (k * 6 + 2) _ ((flat_get El.cells 6 elCells_len ls k hk 2 (by omega)).trans rfl); simpa [Nat.add_assoc] using this
  · have := hc (k * 6 + 3) _ ((flat_get El.cells 6 elCells_len ls k hk 3 (by omega)).trans rfl); simpa [Nat.add_assoc] using this
  · have := hc (k * 6 + 4) _ ((flat_get El.cells 6 elCells_len ls k hk 4 (by omega)).trans rfl); simpa [Nat.add_assoc] using this
  · have := hc (k * 6 + 5) _ ((flat_get El.cells 6 elCells_len ls k hk 5 (by omega)).trans rfl); simpa [Nat.add_assoc] using this
theorem ElsAt.kept {w w' : World} {p q : Nat} {ls : List El} (h : ElsAt w p q ls) (hb : Below w.heap.size w w') : ElsAt w' p q ls := fun k hk => by
  obtain ⟨h0, h1, h2, h3, h4, h5⟩ := h k hk
  exact ⟨cell_kept hb h0, cell_kept hb h1, cell_kept hb h2, cell_kept hb h3, cell_kept hb h4, cell_kept hb h5⟩
def dotIs (d : Wv.Dt) (e : El) : Bool := eq3 e.s.d.o e.s.d.s e.s.d.i d.o d.s d.i
/-- Where the first element that fits stands; -1: there is none. -/
def firstI (f : El → Bool) (ls : List El) : Int := match ls.findIdx? f with | some k => (k : Int) | none => -1

theorem firstI_at (f : El → Bool) (ls : List El) (k : Nat) (hk : k < ls.length) (h : f ls[k] = true) (hn : ∀ j (hj : j < ls.length), j < k → f ls[j] = false) : firstI f ls = k := by
  unfold firstI
  rw [List.findIdx?_eq_some_iff_getElem.2 ⟨hk, h, fun j hj => by rw [hn j (by omega) hj]; simp⟩]
theorem firstI_none (f : El → Bool) (ls : List El) (hn : ∀ j (hj : j < ls.length), f ls[j] = false) : firstI f ls = -1 := by
  unfold firstI
  rw [List.findIdx?_eq_none_iff.2 (fun x hx => by obtain ⟨j, hj, rfl⟩ := List.mem_iff_getElem.1 hx; exact hn j hj)]

attribute [local go_sem ↓] run_eql_dot run_neq_dot
set_option maxHeartbeats 400000 in
theorem behind1_any (e : El) (g : Nat) (d : Wv.Dt) (w : World) (h0 : w.cell? ⟨g, 0, none⟩ = some (I d.o)) (h1 : w.cell? ⟨g, 1, none⟩ = some (I d.s)) (h2 : w.cell? ⟨g, 2, none⟩ = some (I d.i)) :
    Calls Tryz.prog 324 #[elV e, .pointer (some ⟨g, 0, none⟩)] w fun r w' => r = .returned (.bool (dotIs d e)) ∧ Below w.heap.size w w' := by
  have hg := lt_of_cell h0
  have k0 := cell_kept ((Below.refl w.heap.size w).alloc (Nat.le_refl _) (.cells #[I e.s.d.o, I e.s.d.s, I e.s.d.i, I e.s.t, I e.v, .bool e.x] 373)) h0
  have k1 := cell_kept ((Below.refl w.heap.size w).alloc (Nat.le_refl _) (.cells #[I e.s.d.o, I e.s.d.s, I e.s.d.i, I e.s.t, I e.v, .bool e.x] 373)) h1
  have k2 := cell_kept ((Below.refl w.heap.size w).alloc (Nat.le_refl _) (.cells #[I e.s.d.o, I e.s.d.s, I e.s.d.i, I e.s.t, I e.v, .bool e.x] 373)) h2
  go_enter Tryz.func324, Tryz.ntmps324
  go_wp2
  go_ret
  exact ⟨rfl, (Below.refl _ _).alloc (Nat.le_refl _) _⟩
set_option maxHeartbeats 400000 in
theorem standing1_any (e : El) (w : World) :
    Calls Tryz.prog 322 #[elV e] w fun r w' => r = .returned (.bool e.x) ∧ Below w.heap.size w w' := by
  go_enter Tryz.func322, Tryz.ntmps322
  go_wp2
  go_ret
  exact ⟨rfl, (Below.refl _ _).alloc (Nat.le_refl _) _⟩

set_option maxHeartbeats 1600000 in
theorem index_dot (p q c : Nat) (ls : List El) (g : Nat) (d : Wv.Dt) (w : World) (hat : ElsAt w p q ls) (h0 : w.cell? ⟨g, 0, none⟩ = some (I d.o)) (h1 : w.cell? ⟨g, 1, none⟩ = some (I d.s)) (h2 : w.cell? ⟨g, 2, none⟩ = some (I d.i)) (hl : ls.length ≤ 1048576) :
    Calls Tryz.prog 323 #[.slice (some ⟨p, q, none⟩) ls.length c, .func (.func 324) #[] #[.pointer (some ⟨g, 0, none⟩)]] w fun e w' => e = .returned (I (firstI (dotIs d) ls)) ∧ Below w.heap.size w w' := by
  have HAT : Hid (ElsAt w p q ls) := hat
  clear hat
  go_enter Tryz.func323, Tryz.ntmps323
  go_wp2_with fail
  go_loopw [8] (fun x wr => ∃ k : Nat, k ≤ ls.length ∧ x = I k ∧ Hid (∀ j (hj : j < ls.length), j < k → (dotIs d) ls[j] = false) ∧ Hid (Below w.heap.size w wr)) (fun x _ => ls.length - (intOf x).toNat)
  case atStart => exact ⟨0, Nat.zero_le _, rfl, fun j hj h => absurd h (by omega), Below.refl _ _⟩
  case round =>
    obtain ⟨k, hk, rfl, HN, HB⟩ := hrel
    by_cases hlt : k < ls.length
    · obtain ⟨e0, e1, e2, e3, e4, e5⟩ := (HAT.out.kept HB.out) k hlt
      have hki : (k : Int) < ls.length := by omega
      go_wp2_with fail
      refine (behind1_any ls[k] g d wr (cell_kept HB.out h0) (cell_kept HB.out h1) (cell_kept HB.out h2)).mono ?_
      rintro e w1 ⟨rfl, hb1⟩
      have HB1 : Hid (Below w.heap.size w w1) := HB.out.trans (hb1.mono HB.out.size)
      clear hb1
      generalize hfk : (dotIs d) ls[k] = b at *
      cases b
      · go_wp2_with fail
        go_roundw
        case rel =>
          refine ⟨k + 1, hlt, by go_num, fun j hj h => ?_, HB1⟩
          by_cases hjk : j = k
          · subst hjk; exact hfk
          · exact HN.out j hj (by omega)
        case measure => simp [intOf]; omega
      · have HI : Hid (firstI (dotIs d) ls = k) := firstI_at (dotIs d) ls k hlt hfk HN.out
        go_wp2
        go_ret
        exact ⟨ret_int HI.out.symm, HB1.out⟩
    · obtain rfl : k = ls.length := by omega
      have HI : Hid (firstI (dotIs d) ls = -1) := firstI_none (dotIs d) ls (fun j hj => HN.out j hj hj)
      go_wp2
      go_ret
      exact ⟨ret_int HI.out.symm, HB.out⟩

set_option maxHeartbeats 1600000 in
theorem index_erased (p q c : Nat) (ls : List El) (w : World) (hat : ElsAt w p q ls) (hl : ls.length ≤ 1048576) :
    Calls Tryz.prog 323 #[.slice (some ⟨p, q, none⟩) ls.length c, .func (.func 322) #[] #[]] w fun e w' => e = .returned (I (firstI (El.x) ls)) ∧ Below w.heap.size w w' := by
  have HAT : Hid (ElsAt w p q ls) := hat
  clear hat
  go_enter Tryz.func323, Tryz.ntmps323
  go_wp2_with fail
  go_loopw [8] (fun x wr => ∃ k : Nat, k ≤ ls.length ∧ x = I k ∧ Hid (∀ j (hj : j < ls.length), j < k → (El.x) ls[j] = false) ∧ Hid (Below w.heap.size w wr)) (fun x _ => ls.length - (intOf x).toNat)
  case atStart => exact ⟨0, Nat.zero_le _, rfl, fun j hj h => absurd h (by omega), Below.refl _ _⟩
  case round =>
    obtain ⟨k, hk, rfl, HN, HB⟩ := hrel
    by_cases hlt : k < ls.length
    · obtain ⟨e0, e1, e2, e3, e4, e5⟩ := (HAT.out.kept HB.out) k hlt
      have hki : (k : Int) < ls.length := by omega
      go_wp2_with fail
      refine (standing1_any ls[k] wr).mono ?_
      rintro e w1 ⟨rfl, hb1⟩
      have HB1 : Hid (Below w.heap.size w w1) := HB.out.trans (hb1.mono HB.out.size)
      clear hb1
      generalize hfk : (El.x) ls[k] = b at *
      cases b
      · go_wp2_with fail
        go_roundw
        case rel =>
          refine ⟨k + 1, hlt, by go_num, fun j hj h => ?_, HB1⟩
          by_cases hjk : j = k
          · subst hjk; exact hfk
          · exact HN.out j hj (by omega)
        case measure => simp [intOf]; omega
      · have HI : Hid (firstI (El.x) ls = k) := firstI_at (El.x) ls k hlt hfk HN.out
        go_wp2
        go_ret
        exact ⟨ret_int HI.out.symm, HB1.out⟩
    · obtain rfl : k = ls.length := by omega
      have HI : Hid (firstI (El.x) ls = -1) := firstI_none (El.x) ls (fun j hj => HN.out j hj hj)
      go_wp2
      go_ret
      exact ⟨ret_int HI.out.symm, HB.out⟩

end Go.Proofs.YtfmcngncaffloaaGreatDoor

namespace Go.Proofs.YtfmcngncaffloaaGreatDoor
open Go.RowKit
set_option maxRecDepth 100000

set_option maxHeartbeats 400000 in
theorem index_dot_nil (a : Option Addr) (c g : Nat) (w : World) :
    Calls Tryz.prog 323 #[.slice a 0 c, .func (.func 324) #[] #[.pointer (some ⟨g, 0, none⟩)]] w fun e w' => e = .returned (I (-1)) ∧ Below w.heap.size w w' := by
  go_enter Tryz.func323, Tryz.ntmps323
  go_wp2
  go_rounds 1
  go_ret
  exact ⟨rfl, Below.refl _ _⟩
set_option maxHeartbeats 400000 in
theorem index_erased_nil (a : Option Addr) (c : Nat) (w : World) :
    Calls Tryz.prog 323 #[.slice a 0 c, .func (.func 322) #[] #[]] w fun e w' => e = .returned (I (-1)) ∧ Below w.heap.size w w' := by
  go_enter Tryz.func323, Tryz.ntmps323
  go_wp2
  go_rounds 1
  go_ret
  exact ⟨rfl, Below.refl _ _⟩

theorem firstI_range (f : El → Bool) (ls : List El) (hl : ls.length ≤ 1048576) : -1 ≤ firstI f ls ∧ firstI f ls ≤ 1048576 := by
  unfold firstI
  split
  · rename_i k h
    obtain ⟨hk, _⟩ := List.findIdx?_eq_some_iff_getElem.1 h
    omega
  · omega

set_option maxHeartbeats 800000 in
theorem behind_any (p : Nat) (d : Wv.Dt) (a : Option Addr) (c : Nat) (ls : List El) (w : World) (h : w.cell? ⟨p, 0, none⟩ = some (.slice a ls.length c)) (hat : At w a (flat El.cells ls)) (hl : ls.length ≤ 1048576) :
    Calls Tryz.prog 318 #[.pointer (some ⟨p, 0, none⟩), dotV d] w fun e w' => e = .returned (I (1 + firstI (dotIs d) ls)) ∧ Below w.heap.size w w' := by
  have HB : Hid (Below w.heap.size w (w.alloc (.cells #[I d.o, I d.s, I d.i] 146))) := (Below.refl _ _).alloc (Nat.le_refl _) _
  have h2 : (w.alloc (.cells #[I d.o, I d.s, I d.i] 146)).cell? ⟨p, 0, none⟩ = some (.slice a ls.length c) := cell_kept HB.out h
  have HA : Hid (At (w.alloc (.cells #[I d.o, I d.s, I d.i] 146)) a (flat El.cells ls)) := hat.kept HB.out
  have HK : Hid (Blk (w.alloc (.cells #[I d.o, I d.s, I d.i] 146)) w.heap.size #[I d.o, I d.s, I d.i] 146) := heap_alloc_new w _
  clear hat h
  go_enter Tryz.func318, Tryz.ntmps318
  go_wp2_with fail
  generalize w.alloc (.cells #[I d.o, I d.s, I d.i] 146) = wA at *
  by_cases hn : 0 < ls.length
  · obtain ⟨p1, q1, rfl, _, hE⟩ := els_at HA.out hn
    refine (index_dot p1 q1 c ls w.heap.size d wA hE (HK.out.cell 0) (HK.out.cell 1) (HK.out.cell 2) hl).mono ?_
    rintro e w1 ⟨rfl, hb⟩
    have HB1 : Hid (Below w.heap.size w w1) := HB.out.trans (hb.mono HB.out.size)
    have hr : -1 ≤ firstI (dotIs d) ls ∧ firstI (dotIs d) ls ≤ 1048576 := firstI_range _ _ hl
    clear hb
    generalize hfi : firstI (dotIs d) ls = r at *
    go_wp2
    go_ret
    exact ⟨ret_int (by rw [hfi]), HB1.out⟩
  · obtain rfl : ls = [] := List.eq_nil_of_length_eq_zero (by omega)
    refine (index_dot_nil a c w.heap.size wA).mono ?_
    rintro e w1 ⟨rfl, hb⟩
    have HB1 : Hid (Below w.heap.size w w1) := HB.out.trans (hb.mono HB.out.size)
    clear hb
    go_wp2
    go_ret
    exact ⟨ret_int (by simp [firstI]), HB1.out⟩

end Go.Proofs.YtfmcngncaffloaaGreatDoor
