import Derived.Test.YtfmcngncaffloaaDoorChkC
import Derived.Deep.QuietTactic
import Derived.BigQuiet
namespace Go.Proofs.YtfmcngncaffloaaDoor
open Go.RowKit
set_option maxRecDepth 100000

theorem cell_second (w : World) (cs : Array Value) (t : TypeId) (o : Obj) (j : Nat) : ((w.alloc (.cells cs t)).alloc o).cell? ⟨w.heap.size, j, none⟩ = cs[j]? := by
  rw [((Below.refl (w.heap.size + 1) (w.alloc (.cells cs t))).alloc (by simp) o).cell (p := ⟨w.heap.size, j, none⟩) (by simp)]
  exact World.cell?_alloc_mark w cs t (0, 0) j

set_option maxHeartbeats 400000 in
theorem kindOf_any (n : Int) (h1 : 0 ≤ n) (h2 : n ≤ 7) (w : World) :
    Calls Tryd.prog 63 #[I n] w fun e w' => e = .returned (I (n % 4)) ∧ w' = w := by
  go_enter Tryd.func63, Tryd.ntmps63
  go_wp2
  go_ret
  exact ⟨rfl, rfl⟩

set_option maxHeartbeats 1600000 in
theorem checkEffect_op (b : Wv.Bt) (ca : Option Addr) (cc : Nat) (ev : Value) (i : Int) (m : Em) (w : World) (eb ef : Addr) (g : Gl w eb ef) (ho : ¬ (1 ≤ m.e.op ∧ m.e.op ≤ 6)) :
    Calls Tryd.prog 45 #[batV b ca cc ev, I i, effV m] w fun e w' => ErrEnd (Wv.effOk b i m.e) eb e ∧ Below w.heap.size w w' := by
  have HF : Hid (Wv.effOk b i m.e = false) := by
    have : Wv.isOp m.e.op = false := by simp [Wv.isOp]; omega
    show Wv.effOk b i m.e = false
    simp [Wv.effOk, this]
  have HO : Hid (¬ (1 ≤ m.e.op ∧ m.e.op ≤ 6)) := ho
  have g' : Hid (Gl w eb ef) := g
  have HB : Hid (Below w.heap.size w ((w.alloc (.cells #[I b.o, I b.s, I b.t, .slice ca b.clock.length cc, ev] 25)).alloc (.cells #[I m.e.op, I m.e.ob, I m.e.va, I m.e.ref.o, I m.e.ref.s, I m.e.ref.i, .slice m.da m.e.dots.length m.dc] 43))) := ((Below.refl _ _).alloc (Nat.le_refl _) _).alloc (by simp) _
  clear g ho
  go_enter Tryd.func45, Tryd.ntmps45
  go_wp2_with (first | (go_at_call 47; refine (ruleof_no m.e.op _ eb ef (g'.out.kept HB.out) HO.out).mono ?_; rintro e w1 ⟨⟨st, rfl⟩, hb1⟩))
  go_ret
  exact ⟨errEnd_no HF.out, HB.out.trans (Below.alloc (hb1.mono (by simp; omega)) (by have := hb1.size; simp at this; omega) _)⟩

set_option maxHeartbeats 3200000 in
theorem checkEffect_yes (b : Wv.Bt) (ca : Option Addr) (cc : Nat) (ev : Value) (i : Int) (m : Em) (w : World) (eb ef : Addr) (hI : ItoaSaid) (g : Gl w eb ef) (hp : Pw w) (hr : Right b) (h : At w ca (b.clock.map I)) (hd : At w m.da (flat dotCells m.e.dots)) (ho : 1 ≤ m.e.op ∧ m.e.op ≤ 6) (hn : m.e.dots.length ≤ 9223372036854775807) :
    Calls Tryd.prog 45 #[batV b ca cc ev, I i, effV m] w fun e w' => ErrEnd (Wv.effOk b i m.e) eb e ∧ Below w.heap.size w w' := by
  have HE : Hid (Wv.effOk b i m.e = ((decide (0 ≤ m.e.ob) && decide (m.e.ob ≤ 7) && (m.e.ob % 4 == Wv.rKind m.e.op)) && (decide (Wv.rLeast m.e.op ≤ m.e.va) && decide (m.e.va ≤ Wv.rGreat m.e.op)) &&
    Wv.refOk b i m.e.ref (Wv.rRef m.e.op) && (decide (Wv.rLeastD m.e.op ≤ m.e.dots.length) && decide ((m.e.dots.length : Int) ≤ Wv.rMostD m.e.op)) && Wv.dotsOk b i m.e.dots)) := by
    have : Wv.isOp m.e.op = true := by simp [Wv.isOp, ho]
    show Wv.effOk b i m.e = _
    simp only [Wv.effOk, this, Bool.true_and]
  have HO : Hid (1 ≤ m.e.op ∧ m.e.op ≤ 6) := ho
  have hpw' : Hid (Pw w) := hp
  have g' : Hid (Gl w eb ef) := g
  have hr' : Hid (Right b) := hr
  have h' : Hid (At w ca (b.clock.map I)) := h
  have hd' : Hid (At w m.da (flat dotCells m.e.dots)) := hd
  have hE := g.errBatch
  have HB : Hid (Below w.heap.size w ((w.alloc (.cells #[I b.o, I b.s, I b.t, .slice ca b.clock.length cc, ev] 25)).alloc (.cells #[I m.e.op, I m.e.ob, I m.e.va, I m.e.ref.o, I m.e.ref.s, I m.e.ref.i, .slice m.da m.e.dots.length m.dc] 43))) := ((Below.refl _ _).alloc (Nat.le_refl _) _).alloc (by simp) _
  clear g ho hp hr h hd
  go_enter Tryd.func45, Tryd.ntmps45
  go_wp2_with fail
  refine (ruleof_yes m.e.op _ eb ef (g'.out.kept HB.out) HO.out).mono ?_
  rintro e w1 ⟨rfl, hb0⟩
  have hb1 : Hid (Below ((w.alloc (.cells #[I b.o, I b.s, I b.t, .slice ca b.clock.length cc, ev] 25)).alloc (.cells #[I m.e.op, I m.e.ob, I m.e.va, I m.e.ref.o, I m.e.ref.s, I m.e.ref.i, .slice m.da m.e.dots.length m.dc] 43)).heap.size ((w.alloc (.cells #[I b.o, I b.s, I b.t, .slice ca b.clock.length cc, ev] 25)).alloc (.cells #[I m.e.op, I m.e.ob, I m.e.va, I m.e.ref.o, I m.e.ref.s, I m.e.ref.i, .slice m.da m.e.dots.length m.dc] 43)) w1) := hb0
  have hsz : w.heap.size + 1 < w1.heap.size := by have := hb0.size; simp at this; omega
  have hsz0 : w.heap.size < w1.heap.size := by omega
  have HB1 : Hid (Below w.heap.size w w1) := HB.out.trans (hb0.mono (by simp; omega))
  clear hb0
  have y0 : w1.cell? ⟨w.heap.size, 0, none⟩ = some (I b.o) := (hb1.out.cell (p := ⟨w.heap.size, 0, none⟩) (by simp; omega)).trans (cell_second w _ _ _ _)
  have y1 : w1.cell? ⟨w.heap.size, 1, none⟩ = some (I b.s) := (hb1.out.cell (p := ⟨w.heap.size, 1, none⟩) (by simp; omega)).trans (cell_second w _ _ _ _)
  have y2 : w1.cell? ⟨w.heap.size, 2, none⟩ = some (I b.t) := (hb1.out.cell (p := ⟨w.heap.size, 2, none⟩) (by simp; omega)).trans (cell_second w _ _ _ _)
  have y3 : w1.cell? ⟨w.heap.size, 3, none⟩ = some (.slice ca b.clock.length cc) := (hb1.out.cell (p := ⟨w.heap.size, 3, none⟩) (by simp; omega)).trans (cell_second w _ _ _ _)
  have y4 : w1.cell? ⟨w.heap.size, 4, none⟩ = some (ev) := (hb1.out.cell (p := ⟨w.heap.size, 4, none⟩) (by simp; omega)).trans (cell_second w _ _ _ _)
  have x0 : w1.cell? ⟨w.heap.size + 1, 0, none⟩ = some (I m.e.op) := (hb1.out.cell (p := ⟨w.heap.size + 1, 0, none⟩) (by simp)).trans (Joins.cell_alloc_mark_at _ _ _ _ _ _ (by simp))
  have x1 : w1.cell? ⟨w.heap.size + 1, 1, none⟩ = some (I m.e.ob) := (hb1.out.cell (p := ⟨w.heap.size + 1, 1, none⟩) (by simp)).trans (Joins.cell_alloc_mark_at _ _ _ _ _ _ (by simp))
  have x2 : w1.cell? ⟨w.heap.size + 1, 2, none⟩ = some (I m.e.va) := (hb1.out.cell (p := ⟨w.heap.size + 1, 2, none⟩) (by simp)).trans (Joins.cell_alloc_mark_at _ _ _ _ _ _ (by simp))
  have x3 : w1.cell? ⟨w.heap.size + 1, 3, none⟩ = some (I m.e.ref.o) := (hb1.out.cell (p := ⟨w.heap.size + 1, 3, none⟩) (by simp)).trans (Joins.cell_alloc_mark_at _ _ _ _ _ _ (by simp))
  have x4 : w1.cell? ⟨w.heap.size + 1, 4, none⟩ = some (I m.e.ref.s) := (hb1.out.cell (p := ⟨w.heap.size + 1, 4, none⟩) (by simp)).trans (Joins.cell_alloc_mark_at _ _ _ _ _ _ (by simp))
  have x5 : w1.cell? ⟨w.heap.size + 1, 5, none⟩ = some (I m.e.ref.i) := (hb1.out.cell (p := ⟨w.heap.size + 1, 5, none⟩) (by simp)).trans (Joins.cell_alloc_mark_at _ _ _ _ _ _ (by simp))
  have x6 : w1.cell? ⟨w.heap.size + 1, 6, none⟩ = some (.slice m.da m.e.dots.length m.dc) := (hb1.out.cell (p := ⟨w.heap.size + 1, 6, none⟩) (by simp)).trans (Joins.cell_alloc_mark_at _ _ _ _ _ _ (by simp))
  replace hE := cell_kept HB1.out hE
  have hz := lt_of_cell hE
  unfold ruleV
  have HB2 : Hid (Below w.heap.size w (w1.alloc (.cells #[I (Wv.rKind m.e.op), I (Wv.rLeast m.e.op), I (Wv.rGreat m.e.op), I (Wv.rRef m.e.op), I (Wv.rLeastD m.e.op), I (Wv.rMostD m.e.op)] 95))) := HB1.out.alloc (by omega) _
  cases hA : (decide (0 ≤ m.e.ob) && decide (m.e.ob ≤ 7))
  · have HF : Hid (Wv.effOk b i m.e = false) := by show Wv.effOk b i m.e = false; rw [HE.out, hA]; rfl
    go_wp2_with fail
    go_quiet ((go_at_call 61; exact Calls.quiet_of_same (within_any _ _ _ _)))
    go_wp2
    go_ret
    exact ⟨errEnd_no HF.out, belowN HB2.out _⟩
  · have hA' : 0 ≤ m.e.ob ∧ m.e.ob ≤ 7 := by simpa using hA
    obtain ⟨hA1, hA2⟩ := hA'
    cases hB : (m.e.ob % 4 == Wv.rKind m.e.op)
    · have HF : Hid (Wv.effOk b i m.e = false) := by show Wv.effOk b i m.e = false; rw [HE.out, hA, hB]; rfl
      have hB' : (m.e.ob % 4 != Wv.rKind m.e.op) = true := by simpa using hB
      go_wp2_with fail
      go_quiet (first | (go_at_call 61; exact Calls.quiet_of_same (within_any _ _ _ _)) | (go_at_call 63; exact Calls.quiet_of_same (kindOf_any _ hA1 hA2 _)))
      go_wp2
      go_ret
      exact ⟨errEnd_no HF.out, belowN HB2.out _⟩
    · have hB' : (m.e.ob % 4 != Wv.rKind m.e.op) = false := by simpa using hB
      go_wp2_with fail
      go_quiet (first | (go_at_call 61; exact Calls.quiet_of_same (within_any _ _ _ _)) | (go_at_call 63; exact Calls.quiet_of_same (kindOf_any _ hA1 hA2 _)))
      have HN : Hid (Below w.heap.size w ((w1.alloc (.cells #[I (Wv.rKind m.e.op), I (Wv.rLeast m.e.op), I (Wv.rGreat m.e.op), I (Wv.rRef m.e.op), I (Wv.rLeastD m.e.op), I (Wv.rMostD m.e.op)] 95)).drewN nq)) := belowN HB2.out nq
      have HW1 : Hid (Below w1.heap.size w1 ((w1.alloc (.cells #[I (Wv.rKind m.e.op), I (Wv.rLeast m.e.op), I (Wv.rGreat m.e.op), I (Wv.rRef m.e.op), I (Wv.rLeastD m.e.op), I (Wv.rMostD m.e.op)] 95)).drewN nq)) := belowN ((Below.refl _ _).alloc (Nat.le_refl _) _) nq
      have r0 : ((w1.alloc (.cells #[I (Wv.rKind m.e.op), I (Wv.rLeast m.e.op), I (Wv.rGreat m.e.op), I (Wv.rRef m.e.op), I (Wv.rLeastD m.e.op), I (Wv.rMostD m.e.op)] 95)).drewN nq).cell? ⟨w1.heap.size, 0, none⟩ = some (I (Wv.rKind m.e.op)) := World.cell?_alloc_mark w1 _ _ _ 0
      have r1 : ((w1.alloc (.cells #[I (Wv.rKind m.e.op), I (Wv.rLeast m.e.op), I (Wv.rGreat m.e.op), I (Wv.rRef m.e.op), I (Wv.rLeastD m.e.op), I (Wv.rMostD m.e.op)] 95)).drewN nq).cell? ⟨w1.heap.size, 1, none⟩ = some (I (Wv.rLeast m.e.op)) := World.cell?_alloc_mark w1 _ _ _ 1
      have r2 : ((w1.alloc (.cells #[I (Wv.rKind m.e.op), I (Wv.rLeast m.e.op), I (Wv.rGreat m.e.op), I (Wv.rRef m.e.op), I (Wv.rLeastD m.e.op), I (Wv.rMostD m.e.op)] 95)).drewN nq).cell? ⟨w1.heap.size, 2, none⟩ = some (I (Wv.rGreat m.e.op)) := World.cell?_alloc_mark w1 _ _ _ 2
      have r3 : ((w1.alloc (.cells #[I (Wv.rKind m.e.op), I (Wv.rLeast m.e.op), I (Wv.rGreat m.e.op), I (Wv.rRef m.e.op), I (Wv.rLeastD m.e.op), I (Wv.rMostD m.e.op)] 95)).drewN nq).cell? ⟨w1.heap.size, 3, none⟩ = some (I (Wv.rRef m.e.op)) := World.cell?_alloc_mark w1 _ _ _ 3
      have r4 : ((w1.alloc (.cells #[I (Wv.rKind m.e.op), I (Wv.rLeast m.e.op), I (Wv.rGreat m.e.op), I (Wv.rRef m.e.op), I (Wv.rLeastD m.e.op), I (Wv.rMostD m.e.op)] 95)).drewN nq).cell? ⟨w1.heap.size, 4, none⟩ = some (I (Wv.rLeastD m.e.op)) := World.cell?_alloc_mark w1 _ _ _ 4
      have r5 : ((w1.alloc (.cells #[I (Wv.rKind m.e.op), I (Wv.rLeast m.e.op), I (Wv.rGreat m.e.op), I (Wv.rRef m.e.op), I (Wv.rLeastD m.e.op), I (Wv.rMostD m.e.op)] 95)).drewN nq).cell? ⟨w1.heap.size, 5, none⟩ = some (I (Wv.rMostD m.e.op)) := World.cell?_alloc_mark w1 _ _ _ 5
      replace x0 := cell_kept HW1.out x0
      replace x1 := cell_kept HW1.out x1
      replace x2 := cell_kept HW1.out x2
      replace x3 := cell_kept HW1.out x3
      replace x4 := cell_kept HW1.out x4
      replace x5 := cell_kept HW1.out x5
      replace x6 := cell_kept HW1.out x6
      replace y0 := cell_kept HW1.out y0
      replace y1 := cell_kept HW1.out y1
      replace y2 := cell_kept HW1.out y2
      replace y3 := cell_kept HW1.out y3
      replace y4 := cell_kept HW1.out y4
      replace hE := cell_kept HW1.out hE
      have hs1 : w1.heap.size < ((w1.alloc (.cells #[I (Wv.rKind m.e.op), I (Wv.rLeast m.e.op), I (Wv.rGreat m.e.op), I (Wv.rRef m.e.op), I (Wv.rLeastD m.e.op), I (Wv.rMostD m.e.op)] 95)).drewN nq).heap.size := by simp
      clear HB2 HW1
      generalize (w1.alloc (.cells #[I (Wv.rKind m.e.op), I (Wv.rLeast m.e.op), I (Wv.rGreat m.e.op), I (Wv.rRef m.e.op), I (Wv.rLeastD m.e.op), I (Wv.rMostD m.e.op)] 95)).drewN nq = w2 at *
      replace hz := lt_of_cell hE
      cases hC : (decide (Wv.rLeast m.e.op ≤ m.e.va) && decide (m.e.va ≤ Wv.rGreat m.e.op))
      · have HF : Hid (Wv.effOk b i m.e = false) := by show Wv.effOk b i m.e = false; rw [HE.out, hA, hB, hC]; rfl
        go_wp2_with (first | (go_at_call 61; refine (within_any _ _ _ _).mono ?_; rintro e w' ⟨rfl, h⟩; subst h))
        go_ret
        exact ⟨errEnd_no HF.out, HN.out⟩
      · cases hD : Wv.refOk b i m.e.ref (Wv.rRef m.e.op)
        · have HF : Hid (Wv.effOk b i m.e = false) := by show Wv.effOk b i m.e = false; rw [HE.out, hA, hB, hC, hD]; rfl
          go_wp2_with (first | (go_at_call 61; refine (within_any _ _ _ _).mono ?_; rintro e w' ⟨rfl, h⟩; subst h))
          refine (refFits_any b ca cc ev m.e.ref i (Wv.rRef m.e.op) _ hr'.out (h'.out.kept HN.out)).mono ?_
          rw [hD]
          rintro e w3 ⟨rfl, hb2⟩
          have HB3 : Hid (Below w.heap.size w w3) := HN.out.trans (hb2.mono (by omega))
          replace r4 := cell_kept hb2 r4
          replace r5 := cell_kept hb2 r5
          replace x6 := cell_kept hb2 x6
          replace y0 := cell_kept hb2 y0
          replace y1 := cell_kept hb2 y1
          replace y2 := cell_kept hb2 y2
          replace y3 := cell_kept hb2 y3
          replace y4 := cell_kept hb2 y4
          replace hE := cell_kept hb2 hE
          replace hz := lt_of_cell hE
          have hs3 := hb2.size
          clear hb2 x0 x1 x2 x3 x4 x5 r0 r1 r2 r3
          go_wp2_with (first | (go_at_call 61; refine (within_any _ _ _ _).mono ?_; rintro e w' ⟨rfl, h⟩; subst h))
          go_ret
          exact ⟨errEnd_no HF.out, HB3.out⟩
        · cases hL : (decide (Wv.rLeastD m.e.op ≤ m.e.dots.length) && decide ((m.e.dots.length : Int) ≤ Wv.rMostD m.e.op))
          · have HF : Hid (Wv.effOk b i m.e = false) := by show Wv.effOk b i m.e = false; rw [HE.out, hA, hB, hC, hD, hL]; rfl
            go_wp2_with (first | (go_at_call 61; refine (within_any _ _ _ _).mono ?_; rintro e w' ⟨rfl, h⟩; subst h))
            refine (refFits_any b ca cc ev m.e.ref i (Wv.rRef m.e.op) _ hr'.out (h'.out.kept HN.out)).mono ?_
            rw [hD]
            rintro e w3 ⟨rfl, hb2⟩
            have HB3 : Hid (Below w.heap.size w w3) := HN.out.trans (hb2.mono (by omega))
            replace r4 := cell_kept hb2 r4
            replace r5 := cell_kept hb2 r5
            replace x6 := cell_kept hb2 x6
            replace y0 := cell_kept hb2 y0
            replace y1 := cell_kept hb2 y1
            replace y2 := cell_kept hb2 y2
            replace y3 := cell_kept hb2 y3
            replace y4 := cell_kept hb2 y4
            replace hE := cell_kept hb2 hE
            replace hz := lt_of_cell hE
            have hs3 := hb2.size
            clear hb2 x0 x1 x2 x3 x4 x5 r0 r1 r2 r3
            go_wp2_with (first | (go_at_call 61; refine (within_any _ _ _ _).mono ?_; rintro e w' ⟨rfl, h⟩; subst h))
            go_ret
            exact ⟨errEnd_no HF.out, HB3.out⟩
          · have HT : Hid (Wv.effOk b i m.e = Wv.dotsOk b i m.e.dots) := by show Wv.effOk b i m.e = _; rw [HE.out, hA, hB, hC, hD, hL]; rfl
            have hlen : m.e.dots.length ≤ 150 := by
              simp only [Bool.and_eq_true, decide_eq_true_eq] at hL
              have : Wv.rMostD m.e.op ≤ 150 := by unfold Wv.rMostD; repeat' split <;> omega
              omega
            go_wp2_with (first | (go_at_call 61; refine (within_any _ _ _ _).mono ?_; rintro e w' ⟨rfl, h⟩; subst h))
            refine (refFits_any b ca cc ev m.e.ref i (Wv.rRef m.e.op) _ hr'.out (h'.out.kept HN.out)).mono ?_
            rw [hD]
            rintro e w3 ⟨rfl, hb2⟩
            have HB3 : Hid (Below w.heap.size w w3) := HN.out.trans (hb2.mono (by omega))
            replace r4 := cell_kept hb2 r4
            replace r5 := cell_kept hb2 r5
            replace x6 := cell_kept hb2 x6
            replace y0 := cell_kept hb2 y0
            replace y1 := cell_kept hb2 y1
            replace y2 := cell_kept hb2 y2
            replace y3 := cell_kept hb2 y3
            replace y4 := cell_kept hb2 y4
            replace hE := cell_kept hb2 hE
            replace hz := lt_of_cell hE
            have hs3 := hb2.size
            clear hb2 x0 x1 x2 x3 x4 x5 r0 r1 r2 r3
            go_wp2_with (first | (go_at_call 61; refine (within_any _ _ _ _).mono ?_; rintro e w' ⟨rfl, h⟩; subst h))
            refine (checkDots_any b ca cc ev i m.e.dots m.da m.dc _ eb ef hI (g'.out.kept HB3.out) (hpw'.out.kept HB3.out) hr'.out (h'.out.kept HB3.out) (hd'.out.kept HB3.out) hlen).mono ?_
            rintro e w4 ⟨he, hb3⟩
            have HB4 : Hid (Below w.heap.size w w4) := HB3.out.trans (hb3.mono (by omega))
            unfold ErrEnd at he
            cases hc : Wv.dotsOk b i m.e.dots
            · rw [hc] at he
              obtain ⟨v, rfl, hv⟩ := he
              have HV : Hid (IsFault eb v) := hv
              clear hv
              go_wp2
              go_ret
              exact ⟨errEnd_fault (HT.out.trans hc) HV.out, HB4.out⟩
            · rw [hc] at he
              obtain rfl := he
              go_wp2
              go_ret
              exact ⟨errEnd_yes (HT.out.trans hc), HB4.out⟩

end Go.Proofs.YtfmcngncaffloaaDoor
