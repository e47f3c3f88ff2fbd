import Derived.Test.YtfmcngncaffloaaDoorMem2
import Derived.Test.YtfmcngncaffloaaDoorEqD
import Derived.Deep.QuietTactic
import Derived.BigQuiet
import Derived.Deep.RegionHeld3
namespace Go.Proofs.YtfmcngncaffloaaDoor
open Go.RowKit
set_option maxRecDepth 100000
attribute [local go_sem ↓] run_eql_dot run_neq_dot

theorem eq3_self (a b c : Int) : eq3 a b c a b c = true := by simp [eq3]

set_option maxHeartbeats 400000 in
theorem sameI_none (a1 a2 : Option Addr) (n1 n2 : Nat) (w : World) :
    Calls Tryd.prog 30 #[.slice a1 0 n1, .slice a2 0 n2] w fun e w' => e = .returned (.bool true) ∧ Below w.heap.size w w' := by
  go_enter Tryd.func30, Tryd.ntmps30
  go_wp2_with fail
  go_rounds 1
  go_ret
  exact ⟨rfl, Below.refl _ _⟩
set_option maxHeartbeats 400000 in
theorem sameD_none (a1 a2 : Option Addr) (n1 n2 : Nat) (w : World) :
    Calls Tryd.prog 43 #[.slice a1 0 n1, .slice a2 0 n2] w fun e w' => e = .returned (.bool true) ∧ Below w.heap.size w w' := by
  go_enter Tryd.func43, Tryd.ntmps43
  go_wp2_with fail
  go_rounds 1
  go_ret
  exact ⟨rfl, Below.refl _ _⟩

set_option maxHeartbeats 800000 in
theorem sameI_some (zs : List Int) (p1 q1 p2 q2 : Nat) (n1 n2 : Nat) (w : World) (h1 : Hid (∀ j u, (zs.map I)[j]? = some u → w.cell? ⟨p1, q1 + j, none⟩ = some u)) (h2 : Hid (∀ j u, (zs.map I)[j]? = some u → w.cell? ⟨p2, q2 + j, none⟩ = some u)) (hl : zs.length ≤ 4611686018427387904) :
    Calls Tryd.prog 30 #[.slice (some ⟨p1, q1, none⟩) zs.length n1, .slice (some ⟨p2, q2, none⟩) zs.length n2] w fun e w' => e = .returned (.bool true) ∧ Below w.heap.size w w' := by
  go_enter Tryd.func30, Tryd.ntmps30
  go_wp2_with fail
  go_loopw [5] (fun x wr => ∃ k : Nat, k ≤ zs.length ∧ x = I k ∧ Hid (Below w.heap.size w wr)) (fun x _ => zs.length - (intOf x).toNat)
  case atStart => exact ⟨0, Nat.zero_le _, rfl, Below.refl _ _⟩
  case round =>
    obtain ⟨k, hk, rfl, hb⟩ := hrel
    by_cases hlt : k < zs.length
    · have c1 : wr.cell? ⟨p1, q1 + k, none⟩ = some (I zs[k]) := cell_kept hb.out (h1.out k _ (by simp [hlt]))
      have c2 : wr.cell? ⟨p2, q2 + k, none⟩ = some (I zs[k]) := cell_kept hb.out (h2.out k _ (by simp [hlt]))
      generalize zs[k] = z at c1 c2
      have hki : (k : Int) < (zs.length : Int) := by omega
      have hzz : (z != z) = false := by simp
      go_wp2_with fail
      go_quiet (fail)
      go_wp2
      exact ⟨⟨k + 1, by omega, by go_num, belowN hb.out _⟩, by simp [intOf]; omega⟩
    · obtain rfl : k = zs.length := by omega
      go_wp2
      go_ret
      exact ⟨rfl, hb.out⟩

set_option maxHeartbeats 1600000 in
theorem sameD_some (ds : List Wv.Dt) (p1 q1 p2 q2 : Nat) (n1 n2 : Nat) (w : World) (h1 : Hid (∀ k (hk : k < ds.length), w.cell? ⟨p1, q1 + k * 3, none⟩ = some (I ds[k].o) ∧ w.cell? ⟨p1, q1 + k * 3 + 1, none⟩ = some (I ds[k].s) ∧ w.cell? ⟨p1, q1 + k * 3 + 2, none⟩ = some (I ds[k].i)))
    (h2 : Hid (∀ k (hk : k < ds.length), w.cell? ⟨p2, q2 + k * 3, none⟩ = some (I ds[k].o) ∧ w.cell? ⟨p2, q2 + k * 3 + 1, none⟩ = some (I ds[k].s) ∧ w.cell? ⟨p2, q2 + k * 3 + 2, none⟩ = some (I ds[k].i))) (hl : ds.length ≤ 4611686018427387904) :
    Calls Tryd.prog 43 #[.slice (some ⟨p1, q1, none⟩) ds.length n1, .slice (some ⟨p2, q2, none⟩) ds.length n2] w fun e w' => e = .returned (.bool true) ∧ Below w.heap.size w w' := by
  go_enter Tryd.func43, Tryd.ntmps43
  go_wp2_with fail
  go_loopw [5] (fun x wr => ∃ k : Nat, k ≤ ds.length ∧ x = I k ∧ Hid (Below w.heap.size w wr)) (fun x _ => ds.length - (intOf x).toNat)
  case atStart => exact ⟨0, Nat.zero_le _, rfl, Below.refl _ _⟩
  case round =>
    obtain ⟨k, hk, rfl, hb⟩ := hrel
    by_cases hlt : k < ds.length
    · obtain ⟨c0, c1, c2⟩ := h1.out k hlt
      obtain ⟨e0, e1, e2⟩ := h2.out k hlt
      replace c0 := cell_kept hb.out c0
      replace c1 := cell_kept hb.out c1
      replace c2 := cell_kept hb.out c2
      replace e0 := cell_kept hb.out e0
      replace e1 := cell_kept hb.out e1
      replace e2 := cell_kept hb.out e2
      generalize ds[k] = d at c0 c1 c2 e0 e1 e2
      have hki : (k : Int) < (ds.length : Int) := by omega
      have hdd := eq3_self d.o d.s d.i
      go_wp2_with fail
      go_quiet (fail)
      go_wp2
      exact ⟨⟨k + 1, by omega, by go_num, belowN hb.out _⟩, by simp [intOf]; omega⟩
    · obtain rfl : k = ds.length := by omega
      go_wp2
      go_ret
      exact ⟨rfl, hb.out⟩

theorem sameI_any (zs : List Int) (a1 a2 : Option Addr) (n1 n2 : Nat) (w : World) (h1 : At w a1 (zs.map I)) (h2 : At w a2 (zs.map I)) (hl : zs.length ≤ 4611686018427387904) :
    Calls Tryd.prog 30 #[.slice a1 zs.length n1, .slice a2 zs.length n2] w fun e w' => e = .returned (.bool true) ∧ Below w.heap.size w w' := by
  rcases Nat.eq_zero_or_pos zs.length with hz | hz
  · obtain rfl := List.eq_nil_of_length_eq_zero hz
    exact sameI_none a1 a2 n1 n2 w
  · obtain ⟨p1, q1, rfl, _, c1⟩ := h1.first (by simpa using hz)
    obtain ⟨p2, q2, rfl, _, c2⟩ := h2.first (by simpa using hz)
    exact sameI_some zs p1 q1 p2 q2 n1 n2 w c1 c2 hl
theorem sameD_any (ds : List Wv.Dt) (a1 a2 : Option Addr) (n1 n2 : Nat) (w : World) (h1 : At w a1 (flat dotCells ds)) (h2 : At w a2 (flat dotCells ds)) (hl : ds.length ≤ 4611686018427387904) :
    Calls Tryd.prog 43 #[.slice a1 ds.length n1, .slice a2 ds.length n2] w fun e w' => e = .returned (.bool true) ∧ Below w.heap.size w w' := by
  rcases Nat.eq_zero_or_pos ds.length with hz | hz
  · obtain rfl := List.eq_nil_of_length_eq_zero hz
    exact sameD_none a1 a2 n1 n2 w
  · obtain ⟨p1, q1, rfl, _, c1⟩ := dots_at h1 hz
    obtain ⟨p2, q2, rfl, _, c2⟩ := dots_at h2 hz
    exact sameD_some ds p1 q1 p2 q2 n1 n2 w c1 c2 hl

end Go.Proofs.YtfmcngncaffloaaDoor

namespace Go.Proofs.YtfmcngncaffloaaDoor
open Go.RowKit
set_option maxRecDepth 100000
attribute [local go_sem ↓] run_eql_dot run_neq_dot

/-- The seven cells of the effect number k. -/
def CellsAt (w : World) (p q : Nat) (ms : List Em) : Prop := ∀ k (hk : k < ms.length), w.cell? ⟨p, q + k * 7, none⟩ = some (I ms[k].e.op) ∧ w.cell? ⟨p, q + k * 7 + 1, none⟩ = some (I ms[k].e.ob) ∧ w.cell? ⟨p, q + k * 7 + 2, none⟩ = some (I ms[k].e.va) ∧
      w.cell? ⟨p, q + k * 7 + 3, none⟩ = some (I ms[k].e.ref.o) ∧ w.cell? ⟨p, q + k * 7 + 4, none⟩ = some (I ms[k].e.ref.s) ∧ w.cell? ⟨p, q + k * 7 + 5, none⟩ = some (I ms[k].e.ref.i) ∧
      w.cell? ⟨p, q + k * 7 + 6, none⟩ = some (.slice ms[k].da ms[k].e.dots.length ms[k].dc)

set_option maxHeartbeats 400000 in
theorem sameX_none (a1 a2 : Option Addr) (n1 n2 : Nat) (w : World) :
    Calls Tryd.prog 31 #[.slice a1 0 n1, .slice a2 0 n2] w fun e w' => e = .returned (.bool true) ∧ Below w.heap.size w w' := by
  go_enter Tryd.func31, Tryd.ntmps31
  go_wp2_with fail
  go_rounds 1
  go_ret
  exact ⟨rfl, Below.refl _ _⟩

set_option maxHeartbeats 3200000 in
theorem sameX_some (ms1 ms2 : List Em) (hE : ∀ k (h1 : k < ms1.length) (h2 : k < ms2.length), ms1[k].e = ms2[k].e) (hln : ms2.length = ms1.length) (p1 q1 p2 q2 : Nat) (n1 n2 : Nat) (w : World) (h1 : CellsAt w p1 q1 ms1) (h2 : CellsAt w p2 q2 ms2)
    (d1 : ∀ m ∈ ms1, At w m.da (flat dotCells m.e.dots)) (d2 : ∀ m ∈ ms2, At w m.da (flat dotCells m.e.dots)) (hl : ms1.length ≤ 4611686018427387904) (hd : ∀ m ∈ ms1, m.e.dots.length ≤ 4611686018427387904) :
    Calls Tryd.prog 31 #[.slice (some ⟨p1, q1, none⟩) ms1.length n1, .slice (some ⟨p2, q2, none⟩) ms1.length n2] w fun e w' => e = .returned (.bool true) ∧ Below w.heap.size w w' := by
  have h1' : Hid (CellsAt w p1 q1 ms1) := h1
  have h2' : Hid (CellsAt w p2 q2 ms2) := h2
  have hE' : Hid (∀ k (h1 : k < ms1.length) (h2 : k < ms2.length), ms1[k].e = ms2[k].e) := hE
  have d1' : Hid (∀ m ∈ ms1, At w m.da (flat dotCells m.e.dots)) := d1
  have d2' : Hid (∀ m ∈ ms2, At w m.da (flat dotCells m.e.dots)) := d2
  have hd' : Hid (∀ m ∈ ms1, m.e.dots.length ≤ 4611686018427387904) := hd
  have HLN : Hid (ms2.length = ms1.length) := hln
  clear h1 h2 hE d1 d2 hd hln
  go_enter Tryd.func31, Tryd.ntmps31
  go_wp2_with fail
  go_loopw [5] (fun x wr => ∃ k : Nat, k ≤ ms1.length ∧ x = I k ∧ Hid (Below w.heap.size w wr)) (fun x _ => ms1.length - (intOf x).toNat)
  case atStart => exact ⟨0, Nat.zero_le _, rfl, Below.refl _ _⟩
  case round =>
    obtain ⟨k, hk, rfl, hb⟩ := hrel
    by_cases hlt : k < ms1.length
    · have hlt2 : k < ms2.length := by rw [HLN.out]; exact hlt
      obtain ⟨c0, c1, c2, c3, c4, c5, c6⟩ := h1'.out k hlt
      obtain ⟨e0, e1, e2, e3, e4, e5, e6⟩ := h2'.out k hlt2
      have hee := hE'.out k hlt hlt2
      have HM1 : Hid (ms1[k] ∈ ms1) := List.getElem_mem _
      have HM2 : Hid (ms2[k] ∈ ms2) := List.getElem_mem _
      generalize ms1[k] = m at c0 c1 c2 c3 c4 c5 c6 HM1 hee
      generalize ms2[k] = m2 at e0 e1 e2 e3 e4 e5 e6 HM2 hee
      rw [← hee] at e0 e1 e2 e3 e4 e5 e6
      have HEE : Hid (m.e = m2.e) := hee
      clear hee hlt2
      replace c0 := cell_kept hb.out c0
      replace c1 := cell_kept hb.out c1
      replace c2 := cell_kept hb.out c2
      replace c3 := cell_kept hb.out c3
      replace c4 := cell_kept hb.out c4
      replace c5 := cell_kept hb.out c5
      replace c6 := cell_kept hb.out c6
      replace e0 := cell_kept hb.out e0
      replace e1 := cell_kept hb.out e1
      replace e2 := cell_kept hb.out e2
      replace e3 := cell_kept hb.out e3
      replace e4 := cell_kept hb.out e4
      replace e5 := cell_kept hb.out e5
      replace e6 := cell_kept hb.out e6
      have hki : (k : Int) < (ms1.length : Int) := by omega
      have t0 : (m.e.op != m.e.op) = false := by simp
      have t1 : (m.e.ob != m.e.ob) = false := by simp
      have t2 : (m.e.va != m.e.va) = false := by simp
      have t3 := eq3_self m.e.ref.o m.e.ref.s m.e.ref.i
      go_wp2_with fail
      go_region_held3 (fun w' => w'.cell? ⟨p1, q1 + k * 7 + 6, none⟩ = some (.slice m.da m.e.dots.length m.dc) ∧ w'.cell? ⟨p2, q2 + k * 7 + 6, none⟩ = some (.slice m2.da m.e.dots.length m2.dc)) (first | go_keep | (refine ⟨cell_kept hb2 ?_, cell_kept hb2 ?_⟩ <;> go_keep))
        (first | (go_at_call 43; refine (sameD_any m.e.dots m.da m2.da m.dc m2.dc _ ?_ ?_ (hd'.out m HM1.out)).mono ?_; exact (d1'.out m HM1.out).kept (Below.drew hb.out); exact (by have := (d2'.out m2 HM2.out).kept (Below.drew hb.out); rw [← HEE.out] at this; exact this); rintro e w2 ⟨rfl, hb2⟩))
      have HB2 : Hid (Below wr.heap.size wr w2) := (Below.refl _ _).drew.trans hb2
      replace c0 := cell_kept HB2.out c0
      replace c1 := cell_kept HB2.out c1
      replace c2 := cell_kept HB2.out c2
      replace c3 := cell_kept HB2.out c3
      replace c4 := cell_kept HB2.out c4
      replace c5 := cell_kept HB2.out c5
      replace e0 := cell_kept HB2.out e0
      replace e1 := cell_kept HB2.out e1
      replace e2 := cell_kept HB2.out e2
      replace e3 := cell_kept HB2.out e3
      replace e4 := cell_kept HB2.out e4
      replace e5 := cell_kept HB2.out e5
      clear hb2
      go_wp2_with fail
      go_quiet (fail)
      go_wp2
      exact ⟨⟨k + 1, by omega, by go_num, belowN (hb.out.trans (HB2.out.mono (by have := hb.out.size; omega))) _⟩, by simp [intOf]; omega⟩
    · obtain rfl : k = ms1.length := by omega
      go_wp2
      go_ret
      exact ⟨rfl, hb.out⟩

theorem cell_second2 (w : World) (cs : Array Value) (t : TypeId) (o : Obj) (j : Nat) : ((w.alloc (.cells cs t)).alloc o).cell? ⟨w.heap.size, j, none⟩ = cs[j]? := by
  rw [((Below.refl (w.heap.size + 1) (w.alloc (.cells cs t))).alloc (by simp) o).cell (p := ⟨w.heap.size, j, none⟩) (by simp)]
  exact World.cell?_alloc_mark w cs t (0, 0) j
theorem sameX_any (ms1 ms2 : List Em) (hE : ms1.map (·.e) = ms2.map (·.e)) (a1 a2 : Option Addr) (n1 n2 : Nat) (w : World) (h1 : At w a1 (flat Em.cells ms1)) (h2 : At w a2 (flat Em.cells ms2))
    (d1 : ∀ m ∈ ms1, At w m.da (flat dotCells m.e.dots)) (d2 : ∀ m ∈ ms2, At w m.da (flat dotCells m.e.dots)) (hl : ms1.length ≤ 4611686018427387904) (hd : ∀ m ∈ ms1, m.e.dots.length ≤ 4611686018427387904) :
    Calls Tryd.prog 31 #[.slice a1 ms1.length n1, .slice a2 ms1.length n2] w fun e w' => e = .returned (.bool true) ∧ Below w.heap.size w w' := by
  have hln : ms2.length = ms1.length := by have := congrArg List.length hE; simpa using this.symm
  rcases Nat.eq_zero_or_pos ms1.length with hz | hz
  · rw [hz]
    exact sameX_none a1 a2 n1 n2 w
  · obtain ⟨p1, q1, rfl, _, c1⟩ := effs_at h1 hz
    obtain ⟨p2, q2, rfl, _, c2⟩ := effs_at h2 (by omega)
    refine sameX_some ms1 ms2 (fun k k1 k2 => ?_) hln p1 q1 p2 q2 n1 n2 w c1 c2 d1 d2 hl hd
    have h : (ms1.map (·.e))[k]? = (ms2.map (·.e))[k]? := by rw [hE]
    simpa [k1, k2] using h

end Go.Proofs.YtfmcngncaffloaaDoor

namespace Go.Proofs.YtfmcngncaffloaaDoor
open Go.RowKit
set_option maxRecDepth 100000
attribute [local go_sem ↓] run_eql_dot run_neq_dot

set_option maxHeartbeats 1600000 in
theorem sameB_any (b : Wv.Bt) (ca ea ca2 ea2 : Option Addr) (cc ec cc2 ec2 : Nat) (ms1 ms2 : List Em) (w : World) (h1 : BatAt w b ca ea ms1) (h2 : BatAt w b ca2 ea2 ms2) (hcl : b.clock.length ≤ 4611686018427387904) (hl : b.effs.length ≤ 4611686018427387904) (hd : ∀ m ∈ ms1, m.e.dots.length ≤ 4611686018427387904) :
    Calls Tryd.prog 12 #[bV b ca ea cc ec, bV b ca2 ea2 cc2 ec2] w fun e w' => e = .returned (.bool true) ∧ Below w.heap.size w w' := by
  have h1' : Hid (BatAt w b ca ea ms1) := h1
  have h2' : Hid (BatAt w b ca2 ea2 ms2) := h2
  have hd' : Hid (∀ m ∈ ms1, m.e.dots.length ≤ 4611686018427387904) := hd
  clear h1 h2 hd
  go_enter Tryd.func12, Tryd.ntmps12
  have HW : Hid (Below w.heap.size w ((w.alloc (.cells #[I b.o, I b.s, I b.t, .slice ca b.clock.length cc, .slice ea b.effs.length ec] 25)).alloc (.cells #[I b.o, I b.s, I b.t, .slice ca2 b.clock.length cc2, .slice ea2 b.effs.length ec2] 25))) := ((Below.refl _ _).alloc (Nat.le_refl _) _).alloc (by simp) _
  go_wp2_with fail
  refine (sameI_any b.clock ca ca2 cc cc2 _ (h1'.out.kept HW.out).clock (h2'.out.kept HW.out).clock hcl).mono ?_
  rintro e w1 ⟨rfl, hb1⟩
  have HB1 : Hid (Below w.heap.size w w1) := HW.out.trans (hb1.mono (by simp; omega))
  have hsz1 : w.heap.size + 1 < w1.heap.size := by have := hb1.size; simp at this; omega
  have y0 : w1.cell? ⟨w.heap.size, 0, none⟩ = some (I b.o) := (hb1.cell (p := ⟨w.heap.size, 0, none⟩) (by simp; omega)).trans (cell_second2 w _ _ _ 0)
  have x0 : w1.cell? ⟨w.heap.size + 1, 0, none⟩ = some (I b.o) := (hb1.cell (p := ⟨w.heap.size + 1, 0, none⟩) (by simp)).trans (Joins.cell_alloc_mark_at _ _ _ _ _ _ (by simp))
  have y1 : w1.cell? ⟨w.heap.size, 1, none⟩ = some (I b.s) := (hb1.cell (p := ⟨w.heap.size, 1, none⟩) (by simp; omega)).trans (cell_second2 w _ _ _ 1)
  have x1 : w1.cell? ⟨w.heap.size + 1, 1, none⟩ = some (I b.s) := (hb1.cell (p := ⟨w.heap.size + 1, 1, none⟩) (by simp)).trans (Joins.cell_alloc_mark_at _ _ _ _ _ _ (by simp))
  have y2 : w1.cell? ⟨w.heap.size, 2, none⟩ = some (I b.t) := (hb1.cell (p := ⟨w.heap.size, 2, none⟩) (by simp; omega)).trans (cell_second2 w _ _ _ 2)
  have x2 : w1.cell? ⟨w.heap.size + 1, 2, none⟩ = some (I b.t) := (hb1.cell (p := ⟨w.heap.size + 1, 2, none⟩) (by simp)).trans (Joins.cell_alloc_mark_at _ _ _ _ _ _ (by simp))
  have y3 : w1.cell? ⟨w.heap.size, 3, none⟩ = some (.slice ca b.clock.length cc) := (hb1.cell (p := ⟨w.heap.size, 3, none⟩) (by simp; omega)).trans (cell_second2 w _ _ _ 3)
  have x3 : w1.cell? ⟨w.heap.size + 1, 3, none⟩ = some (.slice ca2 b.clock.length cc2) := (hb1.cell (p := ⟨w.heap.size + 1, 3, none⟩) (by simp)).trans (Joins.cell_alloc_mark_at _ _ _ _ _ _ (by simp))
  have y4 : w1.cell? ⟨w.heap.size, 4, none⟩ = some (.slice ea b.effs.length ec) := (hb1.cell (p := ⟨w.heap.size, 4, none⟩) (by simp; omega)).trans (cell_second2 w _ _ _ 4)
  have x4 : w1.cell? ⟨w.heap.size + 1, 4, none⟩ = some (.slice ea2 b.effs.length ec2) := (hb1.cell (p := ⟨w.heap.size + 1, 4, none⟩) (by simp)).trans (Joins.cell_alloc_mark_at _ _ _ _ _ _ (by simp))
  clear hb1
  have HM : Hid (ms1.map (·.e) = ms2.map (·.e)) := by show ms1.map (·.e) = ms2.map (·.e); rw [← h1'.out.effs, ← h2'.out.effs]
  have HL : Hid (b.effs.length = ms1.length) := by show b.effs.length = ms1.length; rw [h1'.out.effs]; simp
  go_wp2_with fail
  rw [HL.out]
  refine (sameX_any ms1 ms2 HM.out ea ea2 ec ec2 _ (h1'.out.kept HB1.out).cells (h2'.out.kept HB1.out).cells (h1'.out.kept HB1.out).dots (h2'.out.kept HB1.out).dots (by rw [← HL.out]; exact hl) hd'.out).mono ?_
  rintro e w2 ⟨rfl, hb2⟩
  have HB2 : Hid (Below w.heap.size w w2) := HB1.out.trans (hb2.mono (by omega))
  replace x0 := cell_kept hb2 x0
  replace x1 := cell_kept hb2 x1
  replace x2 := cell_kept hb2 x2
  replace x3 := cell_kept hb2 x3
  replace x4 := cell_kept hb2 x4
  replace y0 := cell_kept hb2 y0
  replace y1 := cell_kept hb2 y1
  replace y2 := cell_kept hb2 y2
  replace y3 := cell_kept hb2 y3
  replace y4 := cell_kept hb2 y4
  clear hb2
  have t0 : (b.o == b.o) = true := by simp
  have t1 : (b.s == b.s) = true := by simp
  have t2 : (b.t == b.t) = true := by simp
  go_wp2_with fail

  go_ret
  exact ⟨rfl, HB2.out⟩

end Go.Proofs.YtfmcngncaffloaaDoor
