import Derived.Test.YtfmcngncaffloaaDoorChkB
import Derived.Test.YtfmcngncaffloaaDoorChkA
import Derived.Test.YtfmcngncaffloaaDoorMem2
import Derived.Test.YtfmcngncaffloaaDoorGr
namespace Go.Proofs.YtfmcngncaffloaaDoor
open Go.RowKit
set_option maxRecDepth 100000

set_option maxHeartbeats 400000 in
theorem checkDots_none (h0 h1 h2 h3 h4 : Value) (i : Int) (da : Option Addr) (dc : Nat) (w : World) :
    Calls Tryd.prog 65 #[.agg #[h0, h1, h2, h3, h4], I i, .slice da 0 dc] w fun e w' => e = .returned .nilIface ∧ Below w.heap.size w w' := by
  go_enter Tryd.func65, Tryd.ntmps65
  go_wp2_with fail
  go_rounds 1
  go_ret
  exact ⟨rfl, (Below.refl _ _).alloc (Nat.le_refl _) _⟩

theorem checkDots_any (b : Wv.Bt) (ca : Option Addr) (cc : Nat) (ev : Value) (i : Int) (ds : List Wv.Dt) (da : Option Addr) (dc : Nat) (w : World) (eb ef : Addr) (hI : ItoaSaid) (g : Gl w eb ef) (hpw : Pw w) (hr : Right b) (h : At w ca (b.clock.map I))
    (hd : At w da (flat dotCells ds)) (hl : ds.length ≤ 150) :
    Calls Tryd.prog 65 #[batV b ca cc ev, I i, .slice da ds.length dc] w fun e w' => ErrEnd (Wv.dotsOk b i ds) eb e ∧ Below w.heap.size w w' := by
  rcases Nat.eq_zero_or_pos ds.length with hz | hz
  · obtain rfl := List.eq_nil_of_length_eq_zero hz
    refine (checkDots_none _ _ _ _ _ i da dc w).mono ?_
    rintro e w' ⟨rfl, hb⟩
    exact ⟨errEnd_yes rfl, hb⟩
  · obtain ⟨p, q, rfl, hp, hc⟩ := dots_at hd hz
    exact checkDots_some b ca cc ev i ds p q dc w eb ef hI g hpw hr h hc hp hl

theorem errEnd_fault {ok : Bool} {eb : Addr} {v : Value} (h : ok = false) (hv : IsFault eb v) : ErrEnd ok eb (.returned v) := by
  rw [h]; exact ⟨_, rfl, hv⟩
/-- The head's numbers. -/
def hNum (b : Wv.Bt) : Prop := (2 ≤ b.clock.length ∧ b.clock.length ≤ 4) ∧ (0 ≤ b.o ∧ b.o ≤ (b.clock.length : Int) - 1) ∧ (1 ≤ b.s ∧ b.s ≤ 30) ∧ (1 ≤ b.t ∧ b.t ≤ 200) ∧ (1 ≤ b.effs.length ∧ b.effs.length ≤ 5)
theorem headNo (b : Wv.Bt) (h : ¬ hNum b) : Wv.headOk b = false := by
  rw [← Bool.not_eq_true]
  intro hh
  simp only [Wv.headOk, Bool.and_eq_true, decide_eq_true_eq] at hh
  obtain ⟨⟨⟨⟨⟨h1, h2⟩, h3⟩, h4⟩, h5⟩, _⟩ := hh
  exact h ⟨h1, h2, h3, h4, h5⟩
theorem headYes (b : Wv.Bt) (h : hNum b) : Wv.headOk b = Wv.clkOk b := by
  obtain ⟨h1, h2, h3, h4, h5⟩ := h
  simp [Wv.headOk, h1, h2, h3, h4, h5]

set_option maxHeartbeats 800000 in
theorem checkHead_no (b : Wv.Bt) (ca ea : Option Addr) (cc ec : Nat) (w : World) (eb ef : Addr) (g : Gl w eb ef) (hn : b.clock.length ≤ 9223372036854775807) (hn' : b.effs.length ≤ 9223372036854775807) (hh : ¬ hNum b) :
    Calls Tryd.prog 44 #[bV b ca ea cc ec] w fun e w' => ErrEnd (Wv.headOk b) eb e ∧ Below w.heap.size w w' := by
  have hE := g.errBatch
  have hz := lt_of_cell hE
  have HN : Hid (¬ hNum b) := hh
  clear g hh
  go_enter Tryd.func44, Tryd.ntmps44
  go_wp2_with (first | (go_at_call 61; refine (within_any _ _ _ _).mono ?_; rintro e w' ⟨rfl, h⟩; subst h))
  all_goals first | (go_ret; exact ⟨errEnd_no (headNo b HN.out), (Below.refl _ _).alloc (Nat.le_refl _) _⟩) | (exfalso; apply HN.out; unfold hNum; simp_all; omega)

set_option maxHeartbeats 800000 in
theorem checkHead_yes (b : Wv.Bt) (ca ea : Option Addr) (cc ec : Nat) (w : World) (eb ef : Addr) (hI : ItoaSaid) (g : Gl w eb ef) (hp : Pw w) (h : At w ca (b.clock.map I)) (hh : hNum b) :
    Calls Tryd.prog 44 #[bV b ca ea cc ec] w fun e w' => ErrEnd (Wv.headOk b) eb e ∧ Below w.heap.size w w' := by
  rw [headYes b hh]
  obtain ⟨⟨a1, a2⟩, ⟨a3, a4⟩, ⟨a5, a6⟩, ⟨a7, a8⟩, ⟨a9, a10⟩⟩ := hh
  have k1 : (2 : Int) ≤ (b.clock.length : Int) := by omega
  have k2 : (b.clock.length : Int) ≤ 4 := by omega
  have k9 : (1 : Int) ≤ (b.effs.length : Int) := by omega
  have k10 : (b.effs.length : Int) ≤ 5 := by omega
  have hpw' : Hid (Pw w) := hp
  have g' : Hid (Gl w eb ef) := g
  have h' : Hid (At w ca (b.clock.map I)) := h
  have HB : Hid (Below w.heap.size w (w.alloc (.cells #[I b.o, I b.s, I b.t, .slice ca b.clock.length cc, .slice ea b.effs.length ec] 25))) := (Below.refl _ _).alloc (Nat.le_refl _) _
  clear g hp h
  go_enter Tryd.func44, Tryd.ntmps44
  go_wp2_with (first | (go_at_call 61; refine (within_any _ _ _ _).mono ?_; rintro e w' ⟨rfl, h⟩; subst h))
  refine (checkClock_any b ca cc (.slice ea b.effs.length ec) _ eb ef hI (g'.out.kept HB.out) (hpw'.out.kept HB.out) (h'.out.kept HB.out) a2 a1 a5 a6).mono ?_
  rintro e w2 ⟨he, hb⟩
  have hb2 : Hid (Below w.heap.size w w2) := HB.out.trans (hb.mono (by simp))
  unfold ErrEnd at he
  cases hc : Wv.clkOk b
  · rw [hc] at he
    obtain ⟨v, rfl, hv⟩ := he
    have HV : Hid (IsFault eb v) := hv
    go_wp2
    go_ret
    exact ⟨errEnd_fault hc HV.out, hb2.out⟩
  · rw [hc] at he
    obtain rfl := he
    go_wp2
    go_ret
    exact ⟨errEnd_yes hc, hb2.out⟩

theorem checkHead_any (b : Wv.Bt) (ca ea : Option Addr) (cc ec : Nat) (w : World) (eb ef : Addr) (hI : ItoaSaid) (g : Gl w eb ef) (hp : Pw w) (h : At w ca (b.clock.map I)) (hn : b.clock.length ≤ 9223372036854775807) (hn' : b.effs.length ≤ 9223372036854775807) :
    Calls Tryd.prog 44 #[bV b ca ea cc ec] w fun e w' => ErrEnd (Wv.headOk b) eb e ∧ Below w.heap.size w w' := by
  by_cases hh : hNum b
  · exact checkHead_yes b ca ea cc ec w eb ef hI g hp h hh
  · exact checkHead_no b ca ea cc ec w eb ef g hn hn' hh

end Go.Proofs.YtfmcngncaffloaaDoor
