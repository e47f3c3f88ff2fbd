import Derived.Test.YtfmcngncaffloaaGreatDoorG19ChkA
import Derived.Test.YtfmcngncaffloaaGreatDoorG04PoA
import Derived.Test.YtfmcngncaffloaaGreatDoorG20Gr
import Derived.Deep.QuietTactic
import Derived.BigQuiet
namespace Go.Proofs.YtfmcngncaffloaaGreatDoor
open Go.RowKit
set_option maxRecDepth 100000

set_option maxHeartbeats 400000 in
theorem checkDots_none (h0 h1 h2 h3 h4 : Value) (i : Int) (da : Option Addr) (dc : Nat) (w : World) :
    Calls Tryz.prog 204 #[.agg #[h0, h1, h2, h3, h4], I i, .slice da 0 dc] w fun e w' => e = .returned .nilIface ∧ Below w.heap.size w w' := by
  go_enter Tryz.func204, Tryz.ntmps204
  go_wp2_with fail
  go_rounds 1
  go_ret
  exact ⟨rfl, (Below.refl _ _).alloc (Nat.le_refl _) _⟩

theorem checkDots_any (b : Wv.Bt) (ca : Option Addr) (cc : Nat) (ev : Value) (i : Int) (ds : List Wv.Dt) (da : Option Addr) (dc : Nat) (w : World) (eb ef : Addr) (hI : ItoaSaid) (g : Gl w eb ef) (hpw : Pw w) (hr : Right b) (h : At w ca (b.clock.map I))
    (hd : At w da (flat dotCells ds)) (hl : ds.length ≤ 150) :
    Calls Tryz.prog 204 #[batV b ca cc ev, I i, .slice da ds.length dc] w fun e w' => ErrEnd (Wv.dotsOk b i ds) eb e ∧ Below w.heap.size w w' := by
  rcases Nat.eq_zero_or_pos ds.length with hz | hz
  · obtain rfl := List.eq_nil_of_length_eq_zero hz
    refine (checkDots_none _ _ _ _ _ i da dc w).mono ?_
    rintro e w' ⟨rfl, hb⟩
    exact ⟨errEnd_yes rfl, hb⟩
  · obtain ⟨p, q, rfl, hp, hc⟩ := dots_at hd hz
    exact checkDots_some b ca cc ev i ds p q dc w eb ef hI g hpw hr h hc hp hl

theorem errEnd_fault {ok : Bool} {eb : Addr} {v : Value} (h : ok = false) (hv : IsFault eb v) : ErrEnd ok eb (.returned v) := by
  rw [h]; exact ⟨_, rfl, hv⟩
/-- The head's numbers. -/
def hNum (b : Wv.Bt) : Prop := (2 ≤ b.clock.length ∧ b.clock.length ≤ 4) ∧ (0 ≤ b.o ∧ b.o ≤ (b.clock.length : Int) - 1) ∧ (1 ≤ b.s ∧ b.s ≤ 30) ∧ (1 ≤ b.t ∧ b.t ≤ 200) ∧ (1 ≤ b.effs.length ∧ b.effs.length ≤ 5)
theorem headNo (b : Wv.Bt) (h : ¬ hNum b) : Wv.headOk b = false := by
  rw [← Bool.not_eq_true]
  intro hh
  simp only [Wv.headOk, Bool.and_eq_true, decide_eq_true_eq] at hh
  obtain ⟨⟨⟨⟨⟨h1, h2⟩, h3⟩, h4⟩, h5⟩, _⟩ := hh
  exact h ⟨h1, h2, h3, h4, h5⟩
theorem headYes (b : Wv.Bt) (h : hNum b) : Wv.headOk b = Wv.clkOk b := by
  obtain ⟨h1, h2, h3, h4, h5⟩ := h
  simp [Wv.headOk, h1, h2, h3, h4, h5]

set_option maxHeartbeats 800000 in
theorem checkHead_no (b : Wv.Bt) (ca ea : Option Addr) (cc ec : Nat) (w : World) (eb ef : Addr) (g : Gl w eb ef) (hn : b.clock.length ≤ 9223372036854775807) (hn' : b.effs.length ≤ 9223372036854775807) (hh : ¬ hNum b) :
    Calls Tryz.prog 180 #[bV b ca ea cc ec] w fun e w' => ErrEnd (Wv.headOk b) eb e ∧ Below w.heap.size w w' := by
  have hE := g.errBatch
  have hz := lt_of_cell hE
  have HN : Hid (¬ hNum b) := hh
  clear g hh
  go_enter Tryz.func180, Tryz.ntmps180
  go_wp2_with (first | (go_at_call 115; refine (within_any _ _ _ _).mono ?_; rintro e w' ⟨rfl, h⟩; subst h))
  all_goals first | (go_ret; exact ⟨errEnd_no (headNo b HN.out), (Below.refl _ _).alloc (Nat.le_refl _) _⟩) | (exfalso; apply HN.out; unfold hNum; simp_all; omega)

set_option maxHeartbeats 800000 in
theorem checkHead_yes (b : Wv.Bt) (ca ea : Option Addr) (cc ec : Nat) (w : World) (eb ef : Addr) (hI : ItoaSaid) (g : Gl w eb ef) (hp : Pw w) (h : At w ca (b.clock.map I)) (hh : hNum b) :
    Calls Tryz.prog 180 #[bV b ca ea cc ec] w fun e w' => ErrEnd (Wv.headOk b) eb e ∧ Below w.heap.size w w' := by
  rw [headYes b hh]
  obtain ⟨⟨a1, a2⟩, ⟨a3, a4⟩, ⟨a5, a6⟩, ⟨a7, a8⟩, ⟨a9, a10⟩⟩ := hh
  have k1 : (2 : Int) ≤ (b.clock.length : Int) := by omega
  have k2 : (b.clock.length : Int) ≤ 4 := by omega
  have k9 : (1 : Int) ≤ (b.effs.length : Int) := by omega
  have k10 : (b.effs.length : Int) ≤ 5 := by omega
  have hpw' : Hid (Pw w) := hp
  have g' : Hid (Gl w eb ef) := g
  have h' : Hid (At w ca (b.clock.map I)) := h
  have HB : Hid (Below w.heap.size w (w.alloc (.cells #[I b.o, I b.s, I b.t, .slice ca b.clock.length cc, .slice ea b.effs.length ec] 124))) := (Below.refl _ _).alloc (Nat.le_refl _) _
  clear g hp h
  go_enter Tryz.func180, Tryz.ntmps180
  go_wp2_with (first | (go_at_call 115; refine (within_any _ _ _ _).mono ?_; rintro e w' ⟨rfl, h⟩; subst h))
  refine (checkClock_any b ca cc (.slice ea b.effs.length ec) _ eb ef hI (g'.out.kept HB.out) (hpw'.out.kept HB.out) (h'.out.kept HB.out) a2 a1 a5 a6).mono ?_
  rintro e w2 ⟨he, hb⟩
  have hb2 : Hid (Below w.heap.size w w2) := HB.out.trans (hb.mono (by simp))
  unfold ErrEnd at he
  cases hc : Wv.clkOk b
  · rw [hc] at he
    obtain ⟨v, rfl, hv⟩ := he
    have HV : Hid (IsFault eb v) := hv
    go_wp2
    go_ret
    exact ⟨errEnd_fault hc HV.out, hb2.out⟩
  · rw [hc] at he
    obtain rfl := he
    go_wp2
    go_ret
    exact ⟨errEnd_yes hc, hb2.out⟩

theorem checkHead_any (b : Wv.Bt) (ca ea : Option Addr) (cc ec : Nat) (w : World) (eb ef : Addr) (hI : ItoaSaid) (g : Gl w eb ef) (hp : Pw w) (h : At w ca (b.clock.map I)) (hn : b.clock.length ≤ 9223372036854775807) (hn' : b.effs.length ≤ 9223372036854775807) :
    Calls Tryz.prog 180 #[bV b ca ea cc ec] w fun e w' => ErrEnd (Wv.headOk b) eb e ∧ Below w.heap.size w w' := by
  by_cases hh : hNum b
  · exact checkHead_yes b ca ea cc ec w eb ef hI g hp h hh
  · exact checkHead_no b ca ea cc ec w eb ef g hn hn' hh

end Go.Proofs.YtfmcngncaffloaaGreatDoor

namespace Go.Proofs.YtfmcngncaffloaaGreatDoor
open Go.RowKit
set_option maxRecDepth 100000

theorem cell_second (w : World) (cs : Array Value) (t : TypeId) (o : Obj) (j : Nat) : ((w.alloc (.cells cs t)).alloc o).cell? ⟨w.heap.size, j, none⟩ = cs[j]? := by
  rw [((Below.refl (w.heap.size + 1) (w.alloc (.cells cs t))).alloc (by simp) o).cell (p := ⟨w.heap.size, j, none⟩) (by simp)]
  exact World.cell?_alloc_mark w cs t (0, 0) j

set_option maxHeartbeats 400000 in
theorem kindOf_any (n : Int) (h1 : 0 ≤ n) (h2 : n ≤ 7) (w : World) :
    Calls Tryz.prog 64 #[I n] w fun e w' => e = .returned (I (n % 4)) ∧ w' = w := by
  go_enter Tryz.func64, Tryz.ntmps64
  go_wp2
  go_ret
  exact ⟨rfl, rfl⟩

set_option maxHeartbeats 1600000 in
theorem checkEffect_op (b : Wv.Bt) (ca : Option Addr) (cc : Nat) (ev : Value) (i : Int) (m : Em) (w : World) (eb ef : Addr) (g : Gl w eb ef) (ho : ¬ (1 ≤ m.e.op ∧ m.e.op ≤ 6)) :
    Calls Tryz.prog 181 #[batV b ca cc ev, I i, effV m] w fun e w' => ErrEnd (Wv.effOk b i m.e) eb e ∧ Below w.heap.size w w' := by
  have HF : Hid (Wv.effOk b i m.e = false) := by
    have : Wv.isOp m.e.op = false := by simp [Wv.isOp]; omega
    show Wv.effOk b i m.e = false
    simp [Wv.effOk, this]
  have HO : Hid (¬ (1 ≤ m.e.op ∧ m.e.op ≤ 6)) := ho
  have g' : Hid (Gl w eb ef) := g
  have HB : Hid (Below w.heap.size w ((w.alloc (.cells #[I b.o, I b.s, I b.t, .slice ca b.clock.length cc, ev] 124)).alloc (.cells #[I m.e.op, I m.e.ob, I m.e.va, I m.e.ref.o, I m.e.ref.s, I m.e.ref.i, .slice m.da m.e.dots.length m.dc] 149))) := ((Below.refl _ _).alloc (Nat.le_refl _) _).alloc (by simp) _
  clear g ho
  go_enter Tryz.func181, Tryz.ntmps181
  go_wp2_with (first | (go_at_call 67; refine (ruleof_no m.e.op _ eb ef (g'.out.kept HB.out) HO.out).mono ?_; rintro e w1 ⟨⟨st, rfl⟩, hb1⟩))
  go_ret
  exact ⟨errEnd_no HF.out, HB.out.trans (Below.alloc (hb1.mono (by simp; omega)) (by have := hb1.size; simp at this; omega) _)⟩

set_option maxHeartbeats 3200000 in
theorem checkEffect_yes (b : Wv.Bt) (ca : Option Addr) (cc : Nat) (ev : Value) (i : Int) (m : Em) (w : World) (eb ef : Addr) (hI : ItoaSaid) (g : Gl w eb ef) (hp : Pw w) (hr : Right b) (h : At w ca (b.clock.map I)) (hd : At w m.da (flat dotCells m.e.dots)) (ho : 1 ≤ m.e.op ∧ m.e.op ≤ 6) (hn : m.e.dots.length ≤ 9223372036854775807) :
    Calls Tryz.prog 181 #[batV b ca cc ev, I i, effV m] w fun e w' => ErrEnd (Wv.effOk b i m.e) eb e ∧ Below w.heap.size w w' := by
  have HE : Hid (Wv.effOk b i m.e = ((decide (0 ≤ m.e.ob) && decide (m.e.ob ≤ 7) && (m.e.ob % 4 == Wv.rKind m.e.op)) && (decide (Wv.rLeast m.e.op ≤ m.e.va) && decide (m.e.va ≤ Wv.rGreat m.e.op)) &&
    Wv.refOk b i m.e.ref (Wv.rRef m.e.op) && (decide (Wv.rLeastD m.e.op ≤ m.e.dots.length) && decide ((m.e.dots.length : Int) ≤ Wv.rMostD m.e.op)) && Wv.dotsOk b i m.e.dots)) := by
    have : Wv.isOp m.e.op = true := by simp [Wv.isOp, ho]
    show Wv.effOk b i m.e = _
    simp only [Wv.effOk, this, Bool.true_and]
  have HO : Hid (1 ≤ m.e.op ∧ m.e.op ≤ 6) := ho
  have hpw' : Hid (Pw w) := hp
  have g' : Hid (Gl w eb ef) := g
  have hr' : Hid (Right b) := hr
  have h' : Hid (At w ca (b.clock.map I)) := h
  have hd' : Hid (At w m.da (flat dotCells m.e.dots)) := hd
  have hE := g.errBatch
  have HB : Hid (Below w.heap.size w ((w.alloc (.cells #[I b.o, I b.s, I b.t, .slice ca b.clock.length cc, ev] 124)).alloc (.cells #[I m.e.op, I m.e.ob, I m.e.va, I m.e.ref.o, I m.e.ref.s, I m.e.ref.i, .slice m.da m.e.dots.length m.dc] 149))) := ((Below.refl _ _).alloc (Nat.le_refl _) _).alloc (by simp) _
  clear g ho hp hr h hd
  go_enter Tryz.func181, Tryz.ntmps181
  go_wp2_with fail
  refine (ruleof_yes m.e.op _ eb ef (g'.out.kept HB.out) HO.out).mono ?_
  rintro e w1 ⟨rfl, hb0⟩
  have hb1 : Hid (Below ((w.alloc (.cells #[I b.o, I b.s, I b.t, .slice ca b.clock.length cc, ev] 124)).alloc (.cells #[I m.e.op, I m.e.ob, I m.e.va, I m.e.ref.o, I m.e.ref.s, I m.e.ref.i, .slice m.da m.e.dots.length m.dc] 149)).heap.size ((w.alloc (.cells #[I b.o, I b.s, I b.t, .slice ca b.clock.length cc, ev] 124)).alloc (.cells #[I m.e.op, I m.e.ob, I m.e.va, I m.e.ref.o, I m.e.ref.s, I m.e.ref.i, .slice m.da m.e.dots.length m.dc] 149)) w1) := hb0
  have hsz : w.heap.size + 1 < w1.heap.size := by have := hb0.size; simp at this; omega
  have hsz0 : w.heap.size < w1.heap.size := by omega
  have HB1 : Hid (Below w.heap.size w w1) := HB.out.trans (hb0.mono (by simp; omega))
  clear hb0
  have y0 : w1.cell? ⟨w.heap.size, 0, none⟩ = some (I b.o) := (hb1.out.cell (p := ⟨w.heap.size, 0, none⟩) (by simp; omega)).trans (cell_second w _ _ _ _)
  have y1 : w1.cell? ⟨w.heap.size, 1, none⟩ = some (I b.s) := (hb1.out.cell (p := ⟨w.heap.size, 1, none⟩) (by simp; omega)).trans (cell_second w _ _ _ _)
  have y2 : w1.cell? ⟨w.heap.size, 2, none⟩ = some (I b.t) := (hb1.out.cell (p := ⟨w.heap.size, 2, none⟩) (by simp; omega)).trans (cell_second w _ _ _ _)
  have y3 : w1.cell? ⟨w.heap.size, 3, none⟩ = some (.slice ca b.clock.length cc) := (hb1.out.cell (p := ⟨w.heap.size, 3, none⟩) (by simp; omega)).trans (cell_second w _ _ _ _)
  have y4 : w1.cell? ⟨w.heap.size, 4, none⟩ = some (ev) := (hb1.out.cell (p := ⟨w.heap.size, 4, none⟩) (by simp; omega)).trans (cell_second w _ _ _ _)
  have x0 : w1.cell? ⟨w.heap.size + 1, 0, none⟩ = some (I m.e.op) := (hb1.out.cell (p := ⟨w.heap.size + 1, 0, none⟩) (by simp)).trans (Joins.cell_alloc_mark_at _ _ _ _ _ _ (by simp))
  have x1 : w1.cell? ⟨w.heap.size + 1, 1, none⟩ = some (I m.e.ob) := (hb1.out.cell (p := ⟨w.heap.size + 1, 1, none⟩) (by simp)).trans (Joins.cell_alloc_mark_at _ _ _ _ _ _ (by simp))
  have x2 : w1.cell? ⟨w.heap.size + 1, 2, none⟩ = some (I m.e.va) := (hb1.out.cell (p := ⟨w.heap.size + 1, 2, none⟩) (by simp)).trans (Joins.cell_alloc_mark_at _ _ _ _ _ _ (by simp))
  have x3 : w1.cell? ⟨w.heap.size + 1, 3, none⟩ = some (I m.e.ref.o) := (hb1.out.cell (p := ⟨w.heap.size + 1, 3, none⟩) (by simp)).trans (Joins.cell_alloc_mark_at _ _ _ _ _ _ (by simp))
  have x4 : w1.cell? ⟨w.heap.size + 1, 4, none⟩ = some (I m.e.ref.s) := (hb1.out.cell (p := ⟨w.heap.size + 1, 4, none⟩) (by simp)).trans (Joins.cell_alloc_mark_at _ _ _ _ _ _ (by simp))
  have x5 : w1.cell? ⟨w.heap.size + 1, 5, none⟩ = some (I m.e.ref.i) := (hb1.out.cell (p := ⟨w.heap.size + 1, 5, none⟩) (by simp)).trans (Joins.cell_alloc_mark_at _ _ _ _ _ _ (by simp))
  have x6 : w1.cell? ⟨w.heap.size + 1, 6, none⟩ = some (.slice m.da m.e.dots.length m.dc) := (hb1.out.cell (p := ⟨w.heap.size + 1, 6, none⟩) (by simp)).trans (Joins.cell_alloc_mark_at _ _ _ _ _ _ (by simp))
  replace hE := cell_kept HB1.out hE
  have hz := lt_of_cell hE
  unfold ruleV
  have HB2 : Hid (Below w.heap.size w (w1.alloc (.cells #[I (Wv.rKind m.e.op), I (Wv.rLeast m.e.op), I (Wv.rGreat m.e.op), I (Wv.rRef m.e.op), I (Wv.rLeastD m.e.op), I (Wv.rMostD m.e.op)] 140))) := HB1.out.alloc (by omega) _
  cases hA : (decide (0 ≤ m.e.ob) && decide (m.e.ob ≤ 7))
  · have HF : Hid (Wv.effOk b i m.e = false) := by show Wv.effOk b i m.e = false; rw [HE.out, hA]; rfl
    go_wp2_with fail
    go_quiet ((go_at_call 115; exact Calls.quiet_of_same (within_any _ _ _ _)))
    go_wp2
    go_ret
    exact ⟨errEnd_no HF.out, belowN HB2.out _⟩
  · have hA' : 0 ≤ m.e.ob ∧ m.e.ob ≤ 7 := by simpa using hA
    obtain ⟨hA1, hA2⟩ := hA'
    cases hB : (m.e.ob % 4 == Wv.rKind m.e.op)
    · have HF : Hid (Wv.effOk b i m.e = false) := by show Wv.effOk b i m.e = false; rw [HE.out, hA, hB]; rfl
      have hB' : (m.e.ob % 4 != Wv.rKind m.e.op) = true := by simpa using hB
      go_wp2_with fail
      go_quiet (first | (go_at_call 115; exact Calls.quiet_of_same (within_any _ _ _ _)) | (go_at_call 64; exact Calls.quiet_of_same (kindOf_any _ hA1 hA2 _)))
      go_wp2
      go_ret
      exact ⟨errEnd_no HF.out, belowN HB2.out _⟩
    · have hB' : (m.e.ob % 4 != Wv.rKind m.e.op) = false := by simpa using hB
      go_wp2_with fail
      go_quiet (first | (go_at_call 115; exact Calls.quiet_of_same (within_any _ _ _ _)) | (go_at_call 64; exact Calls.quiet_of_same (kindOf_any _ hA1 hA2 _)))
      have HN : Hid (Below w.heap.size w ((w1.alloc (.cells #[I (Wv.rKind m.e.op), I (Wv.rLeast m.e.op), I (Wv.rGreat m.e.op), I (Wv.rRef m.e.op), I (Wv.rLeastD m.e.op), I (Wv.rMostD m.e.op)] 140)).drewN nq)) := belowN HB2.out nq
      have HW1 : Hid (Below w1.heap.size w1 ((w1.alloc (.cells #[I (Wv.rKind m.e.op), I (Wv.rLeast m.e.op), I (Wv.rGreat m.e.op), I (Wv.rRef m.e.op), I (Wv.rLeastD m.e.op), I (Wv.rMostD m.e.op)] 140)).drewN nq)) := belowN ((Below.refl _ _).alloc (Nat.le_refl _) _) nq
      have r0 : ((w1.alloc (.cells #[I (Wv.rKind m.e.op), I (Wv.rLeast m.e.op), I (Wv.rGreat m.e.op), I (Wv.rRef m.e.op), I (Wv.rLeastD m.e.op), I (Wv.rMostD m.e.op)] 140)).drewN nq).cell? ⟨w1.heap.size, 0, none⟩ = some (I (Wv.rKind m.e.op)) := World.cell?_alloc_mark w1 _ _ _ 0
      have r1 : ((w1.alloc (.cells #[I (Wv.rKind m.e.op), I (Wv.rLeast m.e.op), I (Wv.rGreat m.e.op), I (Wv.rRef m.e.op), I (Wv.rLeastD m.e.op), I (Wv.rMostD m.e.op)] 140)).drewN nq).cell? ⟨w1.heap.size, 1, none⟩ = some (I (Wv.rLeast m.e.op)) := World.cell?_alloc_mark w1 _ _ _ 1
      have r2 : ((w1.alloc (.cells #[I (Wv.rKind m.e.op), I (Wv.rLeast m.e.op), I (Wv.rGreat m.e.op), I (Wv.rRef m.e.op), I (Wv.rLeastD m.e.op), I (Wv.rMostD m.e.op)] 140)).drewN nq).cell? ⟨w1.heap.size, 2, none⟩ = some (I (Wv.rGreat m.e.op)) := World.cell?_alloc_mark w1 _ _ _ 2
      have r3 : ((w1.alloc (.cells #[I (Wv.rKind m.e.op), I (Wv.rLeast m.e.op), I (Wv.rGreat m.e.op), I (Wv.rRef m.e.op), I (Wv.rLeastD m.e.op), I (Wv.rMostD m.e.op)] 140)).drewN nq).cell? ⟨w1.heap.size, 3, none⟩ = some (I (Wv.rRef m.e.op)) := World.cell?_alloc_mark w1 _ _ _ 3
      have r4 : ((w1.alloc (.cells #[I (Wv.rKind m.e.op), I (Wv.rLeast m.e.op), I (Wv.rGreat m.e.op), I (Wv.rRef m.e.op), I (Wv.rLeastD m.e.op), I (Wv.rMostD m.e.op)] 140)).drewN nq).cell? ⟨w1.heap.size, 4, none⟩ = some (I (Wv.rLeastD m.e.op)) := World.cell?_alloc_mark w1 _ _ _ 4
      have r5 : ((w1.alloc (.cells #[I (Wv.rKind m.e.op), I (Wv.rLeast m.e.op), I (Wv.rGreat m.e.op), I (Wv.rRef m.e.op), I (Wv.rLeastD m.e.op), I (Wv.rMostD m.e.op)] 140)).drewN nq).cell? ⟨w1.heap.size, 5, none⟩ = some (I (Wv.rMostD m.e.op)) := World.cell?_alloc_mark w1 _ _ _ 5
      replace x0 := cell_kept HW1.out x0
      replace x1 := cell_kept HW1.out x1
      replace x2 := cell_kept HW1.out x2
      replace x3 := cell_kept HW1.out x3
      replace x4 := cell_kept HW1.out x4
      replace x5 := cell_kept HW1.out x5
      replace x6 := cell_kept HW1.out x6
      replace y0 := cell_kept HW1.out y0
      replace y1 := cell_kept HW1.out y1
      replace y2 := cell_kept HW1.out y2
      replace y3 := cell_kept HW1.out y3
      replace y4 := cell_kept HW1.out y4
      replace hE := cell_kept HW1.out hE
      have hs1 : w1.heap.size < ((w1.alloc (.cells #[I (Wv.rKind m.e.op), I (Wv.rLeast m.e.op), I (Wv.rGreat m.e.op), I (Wv.rRef m.e.op), I (Wv.rLeastD m.e.op), I (Wv.rMostD m.e.op)] 140)).drewN nq).heap.size := by simp
      clear HB2 HW1
      generalize (w1.alloc (.cells #[I (Wv.rKind m.e.op), I (Wv.rLeast m.e.op), I (Wv.rGreat m.e.op), I (Wv.rRef m.e.op), I (Wv.rLeastD m.e.op), I (Wv.rMostD m.e.op)] 140)).drewN nq = w2 at *
      replace hz := lt_of_cell hE
      cases hC : (decide (Wv.rLeast m.e.op ≤ m.e.va) && decide (m.e.va ≤ Wv.rGreat m.e.op))
      · have HF : Hid (Wv.effOk b i m.e = false) := by show Wv.effOk b i m.e = false; rw [HE.out, hA, hB, hC]; rfl
        go_wp2_with (first | (go_at_call 115; refine (within_any _ _ _ _).mono ?_; rintro e w' ⟨rfl, h⟩; subst h))
        go_ret
        exact ⟨errEnd_no HF.out, HN.out⟩
      · cases hD : Wv.refOk b i m.e.ref (Wv.rRef m.e.op)
        · have HF : Hid (Wv.effOk b i m.e = false) := by show Wv.effOk b i m.e = false; rw [HE.out, hA, hB, hC, hD]; rfl
          go_wp2_with (first | (go_at_call 115; refine (within_any _ _ _ _).mono ?_; rintro e w' ⟨rfl, h⟩; subst h))
          refine (refFits_any b ca cc ev m.e.ref i (Wv.rRef m.e.op) _ hr'.out (h'.out.kept HN.out)).mono ?_
          rw [hD]
          rintro e w3 ⟨rfl, hb2⟩
          have HB3 : Hid (Below w.heap.size w w3) := HN.out.trans (hb2.mono (by omega))
          replace r4 := cell_kept hb2 r4
          replace r5 := cell_kept hb2 r5
          replace x6 := cell_kept hb2 x6
          replace y0 := cell_kept hb2 y0
          replace y1 := cell_kept hb2 y1
          replace y2 := cell_kept hb2 y2
          replace y3 := cell_kept hb2 y3
          replace y4 := cell_kept hb2 y4
          replace hE := cell_kept hb2 hE
          replace hz := lt_of_cell hE
          have hs3 := hb2.size
          clear hb2 x0 x1 x2 x3 x4 x5 r0 r1 r2 r3
          go_wp2_with (first | (go_at_call 115; refine (within_any _ _ _ _).mono ?_; rintro e w' ⟨rfl, h⟩; subst h))
          go_ret
          exact ⟨errEnd_no HF.out, HB3.out⟩
        · cases hL : (decide (Wv.rLeastD m.e.op ≤ m.e.dots.length) && decide ((m.e.dots.length : Int) ≤ Wv.rMostD m.e.op))
          · have HF : Hid (Wv.effOk b i m.e = false) := by show Wv.effOk b i m.e = false; rw [HE.out, hA, hB, hC, hD, hL]; rfl
            go_wp2_with (first | (go_at_call 115; refine (within_any _ _ _ _).mono ?_; rintro e w' ⟨rfl, h⟩; subst h))
            refine (refFits_any b ca cc ev m.e.ref i (Wv.rRef m.e.op) _ hr'.out (h'.out.kept HN.out)).mono ?_
            rw [hD]
            rintro e w3 ⟨rfl, hb2⟩
            have HB3 : Hid (Below w.heap.size w w3) := HN.out.trans (hb2.mono (by omega))
            replace r4 := cell_kept hb2 r4
            replace r5 := cell_kept hb2 r5
            replace x6 := cell_kept hb2 x6
            replace y0 := cell_kept hb2 y0
            replace y1 := cell_kept hb2 y1
            replace y2 := cell_kept hb2 y2
            replace y3 := cell_kept hb2 y3
            replace y4 := cell_kept hb2 y4
            replace hE := cell_kept hb2 hE
            replace hz := lt_of_cell hE
            have hs3 := hb2.size
            clear hb2 x0 x1 x2 x3 x4 x5 r0 r1 r2 r3
            go_wp2_with (first | (go_at_call 115; refine (within_any _ _ _ _).mono ?_; rintro e w' ⟨rfl, h⟩; subst h))
            go_ret
            exact ⟨errEnd_no HF.out, HB3.out⟩
          · have HT : Hid (Wv.effOk b i m.e = Wv.dotsOk b i m.e.dots) := by show Wv.effOk b i m.e = _; rw [HE.out, hA, hB, hC, hD, hL]; rfl
            have hlen : m.e.dots.length ≤ 150 := by
              simp only [Bool.and_eq_true, decide_eq_true_eq] at hL
              have : Wv.rMostD m.e.op ≤ 150 := by unfold Wv.rMostD; repeat' split <;> omega
              omega
            go_wp2_with (first | (go_at_call 115; refine (within_any _ _ _ _).mono ?_; rintro e w' ⟨rfl, h⟩; subst h))
            refine (refFits_any b ca cc ev m.e.ref i (Wv.rRef m.e.op) _ hr'.out (h'.out.kept HN.out)).mono ?_
            rw [hD]
            rintro e w3 ⟨rfl, hb2⟩
            have HB3 : Hid (Below w.heap.size w w3) := HN.out.trans (hb2.mono (by omega))
            replace r4 := cell_kept hb2 r4
            replace r5 := cell_kept hb2 r5
            replace x6 := cell_kept hb2 x6
            replace y0 := cell_kept hb2 y0
            replace y1 := cell_kept hb2 y1
            replace y2 := cell_kept hb2 y2
            replace y3 := cell_kept hb2 y3
            replace y4 := cell_kept hb2 y4
            replace hE := cell_kept hb2 hE
            replace hz := lt_of_cell hE
            have hs3 := hb2.size
            clear hb2 x0 x1 x2 x3 x4 x5 r0 r1 r2 r3
            go_wp2_with (first | (go_at_call 115; refine (within_any _ _ _ _).mono ?_; rintro e w' ⟨rfl, h⟩; subst h))
            refine (checkDots_any b ca cc ev i m.e.dots m.da m.dc _ eb ef hI (g'.out.kept HB3.out) (hpw'.out.kept HB3.out) hr'.out (h'.out.kept HB3.out) (hd'.out.kept HB3.out) hlen).mono ?_
            rintro e w4 ⟨he, hb3⟩
            have HB4 : Hid (Below w.heap.size w w4) := HB3.out.trans (hb3.mono (by omega))
            unfold ErrEnd at he
            cases hc : Wv.dotsOk b i m.e.dots
            · rw [hc] at he
              obtain ⟨v, rfl, hv⟩ := he
              have HV : Hid (IsFault eb v) := hv
              clear hv
              go_wp2
              go_ret
              exact ⟨errEnd_fault (HT.out.trans hc) HV.out, HB4.out⟩
            · rw [hc] at he
              obtain rfl := he
              go_wp2
              go_ret
              exact ⟨errEnd_yes (HT.out.trans hc), HB4.out⟩

end Go.Proofs.YtfmcngncaffloaaGreatDoor

namespace Go.Proofs.YtfmcngncaffloaaGreatDoor
open Go.RowKit
set_option maxRecDepth 100000

theorem checkEffect_any (b : Wv.Bt) (ca : Option Addr) (cc : Nat) (ev : Value) (i : Int) (m : Em) (w : World) (eb ef : Addr) (hI : ItoaSaid) (g : Gl w eb ef) (hp : Pw w) (hr : Right b) (h : At w ca (b.clock.map I)) (hd : At w m.da (flat dotCells m.e.dots)) (hn : m.e.dots.length ≤ 9223372036854775807) :
    Calls Tryz.prog 181 #[batV b ca cc ev, I i, effV m] w fun e w' => ErrEnd (Wv.effOk b i m.e) eb e ∧ Below w.heap.size w w' := by
  by_cases ho : 1 ≤ m.e.op ∧ m.e.op ≤ 6
  · exact checkEffect_yes b ca cc ev i m w eb ef hI g hp hr h hd ho hn
  · exact checkEffect_op b ca cc ev i m w eb ef g ho

theorem errEnd2_no {ok : Bool} {eb : Addr} {v : Value} (h : ok = false) (hv : IsFault eb v) : ErrEnd2 ok eb (.returned v) := by
  rw [h]; exact ⟨_, rfl, Or.inl hv⟩
theorem errEnd2_two {ok : Bool} {eb : Addr} {s : ByteArray} {v : Value} (h : ok = false) (hv : IsFault eb v) : ErrEnd2 ok eb (.returned (Flt s v)) := by
  obtain ⟨t, rfl⟩ := hv
  rw [h]; exact ⟨_, rfl, Or.inr ⟨_, _, rfl⟩⟩
theorem errEnd2_yes {ok : Bool} {eb : Addr} (h : ok = true) : ErrEnd2 ok eb (.returned .nilIface) := by
  rw [h]; rfl
theorem right_of_head (b : Wv.Bt) (h : Wv.headOk b = true) : Right b := by
  obtain ⟨h1, h2, h3, h4, h5⟩ := Wv.head_clock b h
  exact ⟨h1, h2, h3, h4, h5⟩

set_option maxHeartbeats 3200000 in
theorem check_any (b : Wv.Bt) (ca ea : Option Addr) (cc ec : Nat) (ms : List Em) (w : World) (eb ef : Addr) (hI : ItoaSaid) (g : Gl w eb ef) (hp : Pw w) (h : BatAt w b ca ea ms) (hn : b.clock.length ≤ 9223372036854775807) (hn' : b.effs.length ≤ 9223372036854775807) (hd : ∀ m ∈ ms, m.e.dots.length ≤ 9223372036854775807) :
    Calls Tryz.prog 156 #[bV b ca ea cc ec] w fun e w' => ErrEnd2 (Wv.isB b) eb e ∧ Below w.heap.size w w' := by
  have hpw' : Hid (Pw w) := hp
  have g' : Hid (Gl w eb ef) := g
  have h' : Hid (BatAt w b ca ea ms) := h
  have HB : Hid (Below w.heap.size w (w.alloc (.cells #[I b.o, I b.s, I b.t, .slice ca b.clock.length cc, .slice ea b.effs.length ec] 124))) := (Below.refl _ _).alloc (Nat.le_refl _) _
  clear g hp h
  go_enter Tryz.func156, Tryz.ntmps156
  go_wp2_with fail
  refine (checkHead_any b ca ea cc ec _ eb ef hI (g'.out.kept HB.out) (hpw'.out.kept HB.out) (h'.out.kept HB.out).clock hn hn').mono ?_
  rintro e w1 ⟨he, hb1⟩
  have HB1 : Hid (Below w.heap.size w w1) := HB.out.trans (hb1.mono (by simp))
  unfold ErrEnd at he
  cases hh : Wv.headOk b
  · rw [hh] at he
    obtain ⟨v, rfl, ⟨st, rfl⟩⟩ := he
    have HF : Hid (Wv.isB b = false) := by show Wv.isB b = false; rw [Wv.isB, hh]; rfl
    go_wp2
    go_ret
    exact ⟨errEnd2_no HF.out ⟨_, rfl⟩, HB1.out⟩
  · rw [hh] at he
    obtain rfl := he
    have HW1 : Hid (Below (w.heap.size + 1) (w.alloc (.cells #[I b.o, I b.s, I b.t, .slice ca b.clock.length cc, .slice ea b.effs.length ec] 124)) w1) := hb1.mono (by simp)
    have hr' : Hid (Right b) := right_of_head b hh
    have hle : 1 ≤ b.effs.length ∧ b.effs.length ≤ 5 := by
      simp only [Wv.headOk, Bool.and_eq_true, decide_eq_true_eq] at hh
      exact hh.1.2
    have hml : ms.length = b.effs.length := by rw [h'.out.effs]; simp
    obtain ⟨p, q, hea, hp, hc0⟩ := effs_at h'.out.cells (by omega)
    have hc : Hid _ := hc0
    subst hea
    have HH : Hid (Wv.headOk b = true) := hh
    have hd' : Hid (∀ m ∈ ms, m.e.dots.length ≤ 9223372036854775807) := hd
    have HL : Hid (ms.length = b.effs.length) := hml
    clear hb1 hc0 hh hd hml
    have y0 : w1.cell? ⟨w.heap.size, 0, none⟩ = some (I b.o) := (HW1.out.cell (p := ⟨w.heap.size, 0, none⟩) (by simp)).trans (World.cell?_alloc_mark w _ _ _ 0)
    have y1 : w1.cell? ⟨w.heap.size, 1, none⟩ = some (I b.s) := (HW1.out.cell (p := ⟨w.heap.size, 1, none⟩) (by simp)).trans (World.cell?_alloc_mark w _ _ _ 1)
    have y2 : w1.cell? ⟨w.heap.size, 2, none⟩ = some (I b.t) := (HW1.out.cell (p := ⟨w.heap.size, 2, none⟩) (by simp)).trans (World.cell?_alloc_mark w _ _ _ 2)
    have y3 : w1.cell? ⟨w.heap.size, 3, none⟩ = some (.slice ca b.clock.length cc) := (HW1.out.cell (p := ⟨w.heap.size, 3, none⟩) (by simp)).trans (World.cell?_alloc_mark w _ _ _ 3)
    have y4 : w1.cell? ⟨w.heap.size, 4, none⟩ = some (.slice (some ⟨p, q, none⟩) b.effs.length ec) := (HW1.out.cell (p := ⟨w.heap.size, 4, none⟩) (by simp)).trans (World.cell?_alloc_mark w _ _ _ 4)
    go_wp2_with fail
    clear y0 y1 y2 y3 y4
    go_loopw [15] (fun x wr => ∃ k : Nat, k ≤ b.effs.length ∧ x = I k ∧ Hid (Wv.effsTo b k = true) ∧ Hid (Below (w.heap.size + 1) (w.alloc (.cells #[I b.o, I b.s, I b.t, .slice ca b.clock.length cc, .slice (some ⟨p, q, none⟩) b.effs.length ec] 124)) wr)) (fun x _ => b.effs.length - (intOf x).toNat)
    case atStart => exact ⟨0, Nat.zero_le _, rfl, rfl, HW1⟩
    case round =>
      obtain ⟨k, hk, rfl, hto, hb⟩ := hrel
      have hsz : w.heap.size < wr.heap.size := by have := hb.out.size; simp at this; omega
      have hbw : Hid (Below w.heap.size w wr) := ((Below.refl _ _).alloc (Nat.le_refl _) _).trans (hb.out.mono (by omega))
      by_cases hlt : k < b.effs.length
      · have hlt' : k < ms.length := by rw [HL.out]; exact hlt
        obtain ⟨c0, c1, c2, c3, c4, c5, c6⟩ := hc.out k hlt'
        replace c0 := cell_kept hbw.out c0
        replace c1 := cell_kept hbw.out c1
        replace c2 := cell_kept hbw.out c2
        replace c3 := cell_kept hbw.out c3
        replace c4 := cell_kept hbw.out c4
        replace c5 := cell_kept hbw.out c5
        replace c6 := cell_kept hbw.out c6
        have hpr : p < wr.heap.size := by omega
        have HM : Hid (ms[k] ∈ ms ∧ b.effs.getD k ⟨0, 0, 0, ⟨0, 0, 0⟩, []⟩ = ms[k].e) := ⟨List.getElem_mem _, by rw [h'.out.effs]; simp [hlt']⟩
        generalize ms[k] = m at c0 c1 c2 c3 c4 c5 c6 HM
        have y0 : wr.cell? ⟨w.heap.size, 0, none⟩ = some (I b.o) := (hb.out.cell (p := ⟨w.heap.size, 0, none⟩) (by simp)).trans (World.cell?_alloc_mark w _ _ _ 0)
        have y1 : wr.cell? ⟨w.heap.size, 1, none⟩ = some (I b.s) := (hb.out.cell (p := ⟨w.heap.size, 1, none⟩) (by simp)).trans (World.cell?_alloc_mark w _ _ _ 1)
        have y2 : wr.cell? ⟨w.heap.size, 2, none⟩ = some (I b.t) := (hb.out.cell (p := ⟨w.heap.size, 2, none⟩) (by simp)).trans (World.cell?_alloc_mark w _ _ _ 2)
        have y3 : wr.cell? ⟨w.heap.size, 3, none⟩ = some (.slice ca b.clock.length cc) := (hb.out.cell (p := ⟨w.heap.size, 3, none⟩) (by simp)).trans (World.cell?_alloc_mark w _ _ _ 3)
        have y4 : wr.cell? ⟨w.heap.size, 4, none⟩ = some (.slice (some ⟨p, q, none⟩) b.effs.length ec) := (hb.out.cell (p := ⟨w.heap.size, 4, none⟩) (by simp)).trans (World.cell?_alloc_mark w _ _ _ 4)
        have HB2 : Hid (Below w.heap.size w (wr.alloc (.cells #[I m.e.op, I m.e.ob, I m.e.va, I m.e.ref.o, I m.e.ref.s, I m.e.ref.i, .slice m.da m.e.dots.length m.dc] 149))) := hbw.out.alloc (by omega) _
        go_wp2_with fail
        refine (checkEffect_any b ca cc (.slice (some ⟨p, q, none⟩) b.effs.length ec) k m _ eb ef hI (g'.out.kept HB2.out) (hpw'.out.kept HB2.out) hr'.out (h'.out.clock.kept HB2.out) ((h'.out.dots m HM.out.1).kept HB2.out) (hd' m HM.out.1)).mono ?_
        rintro e w2 ⟨he, hb2⟩
        have HB3 : Hid (Below w.heap.size w w2) := HB2.out.trans (hb2.mono (by simp; omega))
        have HK : Hid (Below (w.heap.size + 1) wr w2) := ((Below.refl _ _).alloc (by omega) _).trans (hb2.mono (by simp; omega))
        have hsz2 : wr.heap.size < w2.heap.size := by have := hb2.size; simp at this; omega
        unfold ErrEnd at he
        clear hb2 c0 c1 c2 c3 c4 c5 c6 y0 y1 y2 y3 y4
        cases hc : Wv.effOk b k m.e
        · rw [hc] at he
          obtain ⟨v, rfl, ⟨st, rfl⟩⟩ := he
          have HF : Hid (Wv.isB b = false) := by
            show Wv.isB b = false
            rw [Wv.isB, Wv.effsTo_no b _ k hlt (by rw [HM.out.2, hc]), Bool.and_false]
          go_wp2_with (first | (go_at_call 182; refine (hI k _ (by omega) ?_).mono ?_; exact hpw'.out.kept HB3.out; rintro e w' ⟨⟨sn, hst, rfl⟩, hb9⟩; have hcat : ¬ 9223372036854775807 < 7 + sn.size := by omega))
          go_ret
          exact ⟨errEnd2_two HF.out ⟨_, rfl⟩, HB3.out.trans (hb9.mono (by omega))⟩
        · rw [hc] at he
          obtain rfl := he
          have HT : Hid (Wv.effsTo b (k + 1) = true) := by
            show (Wv.effsTo b k && Wv.effOk b k _) = true
            rw [hto.out, HM.out.2, hc]; rfl
          go_wp2_with fail
          exact ⟨⟨k + 1, by omega, by go_num, HT, hb.out.trans HK.out⟩, by simp [intOf]; omega⟩
      · obtain rfl : k = b.effs.length := by omega
        have HT : Hid (Wv.isB b = true) := by show Wv.isB b = true; rw [Wv.isB, HH.out, hto.out]; rfl
        go_wp2
        go_ret
        exact ⟨errEnd2_yes HT.out, hbw.out⟩

end Go.Proofs.YtfmcngncaffloaaGreatDoor
