import Derived.Test.YtnbfaifbpeocjaaDoorChkC
namespace Go.Proofs.YtnbfaifbpeocjaaDoor
open Go.RowKit
set_option maxRecDepth 100000

theorem cell_second (w : World) (cs : Array Value) (t : TypeId) (o : Obj) (j : Nat) : ((w.alloc (.cells cs t)).alloc o).cell? ⟨w.heap.size, j, none⟩ = cs[j]? := by
  rw [((Below.refl (w.heap.size + 1) (w.alloc (.cells cs t))).alloc (by simp) o).cell (p := ⟨w.heap.size, j, none⟩) (by simp)]
  exact World.cell?_alloc_mark w cs t (0, 0) j

set_option maxHeartbeats 1600000 in
theorem checkEffect_op (b : Wv.Bt) (ca : Option Addr) (cc : Nat) (ev : Value) (i : Int) (m : Em) (w : World) (eb ef : Addr) (g : Gl w eb ef) (ho : ¬ (1 ≤ m.e.op ∧ m.e.op ≤ 6)) :
    Calls Tryd.prog 45 #[batV b ca cc ev, I i, effV m] w fun e w' => ErrEnd (Wv.effOk b i m.e) eb e ∧ Below w.heap.size w w' := by
  have HF : Hid (Wv.effOk b i m.e = false) := by
    have : Wv.isOp m.e.op = false := by simp [Wv.isOp]; omega
    show Wv.effOk b i m.e = false
    simp [Wv.effOk, this]
  have HO : Hid (¬ (1 ≤ m.e.op ∧ m.e.op ≤ 6)) := ho
  have g' : Hid (Gl w eb ef) := g
  have HB : Hid (Below w.heap.size w ((w.alloc (.cells #[I b.o, I b.s, I b.t, .slice ca b.clock.length cc, ev] 25)).alloc (.cells #[I m.e.op, I m.e.ob, I m.e.va, I m.e.ref.o, I m.e.ref.s, I m.e.ref.i, .slice m.da m.e.dots.length m.dc] 43))) := ((Below.refl _ _).alloc (Nat.le_refl _) _).alloc (by simp) _
  clear g ho
  go_enter Tryd.func45, Tryd.ntmps45
  go_wp2_with (first | (go_at_call 47; refine (ruleof_no m.e.op _ eb ef (g'.out.kept HB.out) HO.out).mono ?_; rintro e w1 ⟨⟨st, rfl⟩, hb1⟩))
  go_ret
  exact ⟨errEnd_no HF.out, HB.out.trans (Below.alloc (hb1.mono (by simp; omega)) (by have := hb1.size; simp at this; omega) _)⟩

set_option maxHeartbeats 3200000 in
theorem checkEffect_yes (b : Wv.Bt) (ca : Option Addr) (cc : Nat) (ev : Value) (i : Int) (m : Em) (w : World) (eb ef : Addr) (hI : ItoaSaid) (g : Gl w eb ef) (hp : Pw w) (hr : Right b) (h : At w ca (b.clock.map I)) (hd : At w m.da (flat dotCells m.e.dots)) (ho : 1 ≤ m.e.op ∧ m.e.op ≤ 6) (hn : m.e.dots.length ≤ 9223372036854775807) :
    Calls Tryd.prog 45 #[batV b ca cc ev, I i, effV m] w fun e w' => ErrEnd (Wv.effOk b i m.e) eb e ∧ Below w.heap.size w w' := by
  have HE : Hid (Wv.effOk b i m.e = ((decide (0 ≤ m.e.ob) && decide (m.e.ob ≤ 7) && (m.e.ob % 4 == Wv.rKind m.e.op)) && (decide (Wv.rLeast m.e.op ≤ m.e.va) && decide (m.e.va ≤ Wv.rGreat m.e.op)) &&
    Wv.refOk b i m.e.ref (Wv.rRef m.e.op) && (decide (Wv.rLeastD m.e.op ≤ m.e.dots.length) && decide ((m.e.dots.length : Int) ≤ Wv.rMostD m.e.op)) && Wv.dotsOk b i m.e.dots)) := by
    have : Wv.isOp m.e.op = true := by simp [Wv.isOp, ho]
    show Wv.effOk b i m.e = _
    simp only [Wv.effOk, this, Bool.true_and]
  have HO : Hid (1 ≤ m.e.op ∧ m.e.op ≤ 6) := ho
  have hpw' : Hid (Pw w) := hp
  have g' : Hid (Gl w eb ef) := g
  have hr' : Hid (Right b) := hr
  have h' : Hid (At w ca (b.clock.map I)) := h
  have hd' : Hid (At w m.da (flat dotCells m.e.dots)) := hd
  have hE := g.errBatch
  have HB : Hid (Below w.heap.size w ((w.alloc (.cells #[I b.o, I b.s, I b.t, .slice ca b.clock.length cc, ev] 25)).alloc (.cells #[I m.e.op, I m.e.ob, I m.e.va, I m.e.ref.o, I m.e.ref.s, I m.e.ref.i, .slice m.da m.e.dots.length m.dc] 43))) := ((Below.refl _ _).alloc (Nat.le_refl _) _).alloc (by simp) _
  clear g ho hp hr h hd
  go_enter Tryd.func45, Tryd.ntmps45
  go_wp2_with fail
  refine (ruleof_yes m.e.op _ eb ef (g'.out.kept HB.out) HO.out).mono ?_
  rintro e w1 ⟨rfl, hb0⟩
  have hb1 : Hid (Below ((w.alloc (.cells #[I b.o, I b.s, I b.t, .slice ca b.clock.length cc, ev] 25)).alloc (.cells #[I m.e.op, I m.e.ob, I m.e.va, I m.e.ref.o, I m.e.ref.s, I m.e.ref.i, .slice m.da m.e.dots.length m.dc] 43)).heap.size ((w.alloc (.cells #[I b.o, I b.s, I b.t, .slice ca b.clock.length cc, ev] 25)).alloc (.cells #[I m.e.op, I m.e.ob, I m.e.va, I m.e.ref.o, I m.e.ref.s, I m.e.ref.i, .slice m.da m.e.dots.length m.dc] 43)) w1) := hb0
  have hsz : w.heap.size + 1 < w1.heap.size := by have := hb0.size; simp at this; omega
  have hsz0 : w.heap.size < w1.heap.size := by omega
  have HB1 : Hid (Below w.heap.size w w1) := HB.out.trans (hb0.mono (by simp; omega))
  clear hb0
  have y0 : w1.cell? ⟨w.heap.size, 0, none⟩ = some (I b.o) := (hb1.out.cell (p := ⟨w.heap.size, 0, none⟩) (by simp; omega)).trans (cell_second w _ _ _ _)
  have y1 : w1.cell? ⟨w.heap.size, 1, none⟩ = some (I b.s) := (hb1.out.cell (p := ⟨w.heap.size, 1, none⟩) (by simp; omega)).trans (cell_second w _ _ _ _)
  have y2 : w1.cell? ⟨w.heap.size, 2, none⟩ = some (I b.t) := (hb1.out.cell (p := ⟨w.heap.size, 2, none⟩) (by simp; omega)).trans (cell_second w _ _ _ _)
  have y3 : w1.cell? ⟨w.heap.size, 3, none⟩ = some (.slice ca b.clock.length cc) := (hb1.out.cell (p := ⟨w.heap.size, 3, none⟩) (by simp; omega)).trans (cell_second w _ _ _ _)
  have y4 : w1.cell? ⟨w.heap.size, 4, none⟩ = some (ev) := (hb1.out.cell (p := ⟨w.heap.size, 4, none⟩) (by simp; omega)).trans (cell_second w _ _ _ _)
  have x0 : w1.cell? ⟨w.heap.size + 1, 0, none⟩ = some (I m.e.op) := (hb1.out.cell (p := ⟨w.heap.size + 1, 0, none⟩) (by simp)).trans (Joins.cell_alloc_mark_at _ _ _ _ _ _ (by simp))
  have x1 : w1.cell? ⟨w.heap.size + 1, 1, none⟩ = some (I m.e.ob) := (hb1.out.cell (p := ⟨w.heap.size + 1, 1, none⟩) (by simp)).trans (Joins.cell_alloc_mark_at _ _ _ _ _ _ (by simp))
  have x2 : w1.cell? ⟨w.heap.size + 1, 2, none⟩ = some (I m.e.va) := (hb1.out.cell (p := ⟨w.heap.size + 1, 2, none⟩) (by simp)).trans (Joins.cell_alloc_mark_at _ _ _ _ _ _ (by simp))
  have x3 : w1.cell? ⟨w.heap.size + 1, 3, none⟩ = some (I m.e.ref.o) := (hb1.out.cell (p := ⟨w.heap.size + 1, 3, none⟩) (by simp)).trans (Joins.cell_alloc_mark_at _ _ _ _ _ _ (by simp))
  have x4 : w1.cell? ⟨w.heap.size + 1, 4, none⟩ = some (I m.e.ref.s) := (hb1.out.cell (p := ⟨w.heap.size + 1, 4, none⟩) (by simp)).trans (Joins.cell_alloc_mark_at _ _ _ _ _ _ (by simp))
  have x5 : w1.cell? ⟨w.heap.size + 1, 5, none⟩ = some (I m.e.ref.i) := (hb1.out.cell (p := ⟨w.heap.size + 1, 5, none⟩) (by simp)).trans (Joins.cell_alloc_mark_at _ _ _ _ _ _ (by simp))
  have x6 : w1.cell? ⟨w.heap.size + 1, 6, none⟩ = some (.slice m.da m.e.dots.length m.dc) := (hb1.out.cell (p := ⟨w.heap.size + 1, 6, none⟩) (by simp)).trans (Joins.cell_alloc_mark_at _ _ _ _ _ _ (by simp))
  replace hE := cell_kept HB1.out hE
  have hz := lt_of_cell hE
  unfold ruleV
  have HB2 : Hid (Below w.heap.size w (w1.alloc (.cells #[I (Wv.rKind m.e.op), I (Wv.rLeast m.e.op), I (Wv.rGreat m.e.op), I (Wv.rRef m.e.op), I (Wv.rLeastD m.e.op), I (Wv.rMostD m.e.op)] 94))) := HB1.out.alloc (by omega) _
  cases hA : (decide (0 ≤ m.e.ob) && decide (m.e.ob ≤ 7))
  · have HF : Hid (Wv.effOk b i m.e = false) := by show Wv.effOk b i m.e = false; rw [HE.out, hA]; rfl
    go_wp2_with (first | (go_at_call 61; refine (within_any _ _ _ _).mono ?_; rintro e w' ⟨rfl, h⟩; subst h))
    go_ret
    exact ⟨errEnd_no HF.out, HB2.out⟩
  · have hA' : 0 ≤ m.e.ob ∧ m.e.ob ≤ 7 := by simpa using hA
    obtain ⟨hA1, hA2⟩ := hA'
    cases hB : (m.e.ob % 4 == Wv.rKind m.e.op)
    · have HF : Hid (Wv.effOk b i m.e = false) := by show Wv.effOk b i m.e = false; rw [HE.out, hA, hB]; rfl
      have hB' : (m.e.ob % 4 != Wv.rKind m.e.op) = true := by simpa using hB
      go_wp2_with (first | (go_at_call 61; refine (within_any _ _ _ _).mono ?_; rintro e w' ⟨rfl, h⟩; subst h))
      go_ret
      exact ⟨errEnd_no HF.out, HB2.out⟩
    · have hB' : (m.e.ob % 4 != Wv.rKind m.e.op) = false := by simpa using hB
      cases hC : (decide (Wv.rLeast m.e.op ≤ m.e.va) && decide (m.e.va ≤ Wv.rGreat m.e.op))
      · have HF : Hid (Wv.effOk b i m.e = false) := by show Wv.effOk b i m.e = false; rw [HE.out, hA, hB, hC]; rfl
        go_wp2_with (first | (go_at_call 61; refine (within_any _ _ _ _).mono ?_; rintro e w' ⟨rfl, h⟩; subst h))
        go_ret
        exact ⟨errEnd_no HF.out, HB2.out⟩
      · cases hD : Wv.refOk b i m.e.ref (Wv.rRef m.e.op)
        · have HF : Hid (Wv.effOk b i m.e = false) := by show Wv.effOk b i m.e = false; rw [HE.out, hA, hB, hC, hD]; rfl
          go_wp2_with (first | (go_at_call 61; refine (within_any _ _ _ _).mono ?_; rintro e w' ⟨rfl, h⟩; subst h))
          refine (refFits_any b ca cc ev m.e.ref i (Wv.rRef m.e.op) _ hr'.out (h'.out.kept HB2.out)).mono ?_
          rw [hD]
          rintro e w2 ⟨rfl, hb2⟩
          have HW : Hid (Below w1.heap.size w1 w2) := ((Below.refl _ _).alloc (Nat.le_refl _) _).trans (hb2.mono (by simp))
          have HB3 : Hid (Below w.heap.size w w2) := HB2.out.trans (hb2.mono (by simp; omega))
          have hsz2 : w1.heap.size < w2.heap.size := by have := hb2.size; simp at this; omega
          have r4 : w2.cell? ⟨w1.heap.size, 4, none⟩ = some (I (Wv.rLeastD m.e.op)) := (hb2.cell (p := ⟨w1.heap.size, 4, none⟩) (by simp)).trans (World.cell?_alloc_mark w1 _ _ _ 4)
          have r5 : w2.cell? ⟨w1.heap.size, 5, none⟩ = some (I (Wv.rMostD m.e.op)) := (hb2.cell (p := ⟨w1.heap.size, 5, none⟩) (by simp)).trans (World.cell?_alloc_mark w1 _ _ _ 5)
          replace x6 := cell_kept HW.out x6
          replace y0 := cell_kept HW.out y0
          replace y1 := cell_kept HW.out y1
          replace y2 := cell_kept HW.out y2
          replace y3 := cell_kept HW.out y3
          replace y4 := cell_kept HW.out y4
          replace hE := cell_kept HW.out hE
          replace hz := lt_of_cell hE
          clear hb2 x0 x1 x2 x3 x4 x5
          go_wp2_with (first | (go_at_call 61; refine (within_any _ _ _ _).mono ?_; rintro e w' ⟨rfl, h⟩; subst h))
          go_ret
          exact ⟨errEnd_no HF.out, HB3.out⟩
        · cases hL : (decide (Wv.rLeastD m.e.op ≤ m.e.dots.length) && decide ((m.e.dots.length : Int) ≤ Wv.rMostD m.e.op))
          · have HF : Hid (Wv.effOk b i m.e = false) := by show Wv.effOk b i m.e = false; rw [HE.out, hA, hB, hC, hD, hL]; rfl
            go_wp2_with (first | (go_at_call 61; refine (within_any _ _ _ _).mono ?_; rintro e w' ⟨rfl, h⟩; subst h))
            refine (refFits_any b ca cc ev m.e.ref i (Wv.rRef m.e.op) _ hr'.out (h'.out.kept HB2.out)).mono ?_
            rw [hD]
            rintro e w2 ⟨rfl, hb2⟩
            have HW : Hid (Below w1.heap.size w1 w2) := ((Below.refl _ _).alloc (Nat.le_refl _) _).trans (hb2.mono (by simp))
            have HB3 : Hid (Below w.heap.size w w2) := HB2.out.trans (hb2.mono (by simp; omega))
            have hsz2 : w1.heap.size < w2.heap.size := by have := hb2.size; simp at this; omega
            have r4 : w2.cell? ⟨w1.heap.size, 4, none⟩ = some (I (Wv.rLeastD m.e.op)) := (hb2.cell (p := ⟨w1.heap.size, 4, none⟩) (by simp)).trans (World.cell?_alloc_mark w1 _ _ _ 4)
            have r5 : w2.cell? ⟨w1.heap.size, 5, none⟩ = some (I (Wv.rMostD m.e.op)) := (hb2.cell (p := ⟨w1.heap.size, 5, none⟩) (by simp)).trans (World.cell?_alloc_mark w1 _ _ _ 5)
            replace x6 := cell_kept HW.out x6
            replace y0 := cell_kept HW.out y0
            replace y1 := cell_kept HW.out y1
            replace y2 := cell_kept HW.out y2
            replace y3 := cell_kept HW.out y3
            replace y4 := cell_kept HW.out y4
            replace hE := cell_kept HW.out hE
            replace hz := lt_of_cell hE
            clear hb2 x0 x1 x2 x3 x4 x5
            go_wp2_with (first | (go_at_call 61; refine (within_any _ _ _ _).mono ?_; rintro e w' ⟨rfl, h⟩; subst h))
            go_ret
            exact ⟨errEnd_no HF.out, HB3.out⟩
          · have HT : Hid (Wv.effOk b i m.e = Wv.dotsOk b i m.e.dots) := by show Wv.effOk b i m.e = _; rw [HE.out, hA, hB, hC, hD, hL]; rfl
            have hlen : m.e.dots.length ≤ 150 := by
              simp only [Bool.and_eq_true, decide_eq_true_eq] at hL
              have : Wv.rMostD m.e.op ≤ 150 := by unfold Wv.rMostD; repeat' split <;> omega
              omega
            go_wp2_with (first | (go_at_call 61; refine (within_any _ _ _ _).mono ?_; rintro e w' ⟨rfl, h⟩; subst h))
            refine (refFits_any b ca cc ev m.e.ref i (Wv.rRef m.e.op) _ hr'.out (h'.out.kept HB2.out)).mono ?_
            rw [hD]
            rintro e w2 ⟨rfl, hb2⟩
            have HW : Hid (Below w1.heap.size w1 w2) := ((Below.refl _ _).alloc (Nat.le_refl _) _).trans (hb2.mono (by simp))
            have HB3 : Hid (Below w.heap.size w w2) := HB2.out.trans (hb2.mono (by simp; omega))
            have hsz2 : w1.heap.size < w2.heap.size := by have := hb2.size; simp at this; omega
            have r4 : w2.cell? ⟨w1.heap.size, 4, none⟩ = some (I (Wv.rLeastD m.e.op)) := (hb2.cell (p := ⟨w1.heap.size, 4, none⟩) (by simp)).trans (World.cell?_alloc_mark w1 _ _ _ 4)
            have r5 : w2.cell? ⟨w1.heap.size, 5, none⟩ = some (I (Wv.rMostD m.e.op)) := (hb2.cell (p := ⟨w1.heap.size, 5, none⟩) (by simp)).trans (World.cell?_alloc_mark w1 _ _ _ 5)
            replace x6 := cell_kept HW.out x6
            replace y0 := cell_kept HW.out y0
            replace y1 := cell_kept HW.out y1
            replace y2 := cell_kept HW.out y2
            replace y3 := cell_kept HW.out y3
            replace y4 := cell_kept HW.out y4
            replace hE := cell_kept HW.out hE
            replace hz := lt_of_cell hE
            clear hb2 x0 x1 x2 x3 x4 x5
            go_wp2_with (first | (go_at_call 61; refine (within_any _ _ _ _).mono ?_; rintro e w' ⟨rfl, h⟩; subst h))
            refine (checkDots_any b ca cc ev i m.e.dots m.da m.dc _ eb ef hI (g'.out.kept HB3.out) (hpw'.out.kept HB3.out) hr'.out (h'.out.kept HB3.out) (hd'.out.kept HB3.out) hlen).mono ?_
            rintro e w3 ⟨he, hb3⟩
            have HB4 : Hid (Below w.heap.size w w3) := HB3.out.trans (hb3.mono (by omega))
            unfold ErrEnd at he
            cases hc : Wv.dotsOk b i m.e.dots
            · rw [hc] at he
              obtain ⟨v, rfl, hv⟩ := he
              have HV : Hid (IsFault eb v) := hv
              clear hv
              go_wp2
              go_ret
              exact ⟨errEnd_fault (HT.out.trans hc) HV.out, HB4.out⟩
            · rw [hc] at he
              obtain rfl := he
              go_wp2
              go_ret
              exact ⟨errEnd_yes (HT.out.trans hc), HB4.out⟩

end Go.Proofs.YtnbfaifbpeocjaaDoor
