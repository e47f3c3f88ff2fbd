import Derived.Test.YtfmcngncaffloaaDoorChkD
namespace Go.Proofs.YtfmcngncaffloaaDoor
open Go.RowKit
set_option maxRecDepth 100000

theorem checkEffect_any (b : Wv.Bt) (ca : Option Addr) (cc : Nat) (ev : Value) (i : Int) (m : Em) (w : World) (eb ef : Addr) (hI : ItoaSaid) (g : Gl w eb ef) (hp : Pw w) (hr : Right b) (h : At w ca (b.clock.map I)) (hd : At w m.da (flat dotCells m.e.dots)) (hn : m.e.dots.length ≤ 9223372036854775807) :
    Calls Tryd.prog 45 #[batV b ca cc ev, I i, effV m] w fun e w' => ErrEnd (Wv.effOk b i m.e) eb e ∧ Below w.heap.size w w' := by
  by_cases ho : 1 ≤ m.e.op ∧ m.e.op ≤ 6
  · exact checkEffect_yes b ca cc ev i m w eb ef hI g hp hr h hd ho hn
  · exact checkEffect_op b ca cc ev i m w eb ef g ho

theorem errEnd2_no {ok : Bool} {eb : Addr} {v : Value} (h : ok = false) (hv : IsFault eb v) : ErrEnd2 ok eb (.returned v) := by
  rw [h]; exact ⟨_, rfl, Or.inl hv⟩
theorem errEnd2_two {ok : Bool} {eb : Addr} {s : ByteArray} {v : Value} (h : ok = false) (hv : IsFault eb v) : ErrEnd2 ok eb (.returned (Flt s v)) := by
  obtain ⟨t, rfl⟩ := hv
  rw [h]; exact ⟨_, rfl, Or.inr ⟨_, _, rfl⟩⟩
theorem errEnd2_yes {ok : Bool} {eb : Addr} (h : ok = true) : ErrEnd2 ok eb (.returned .nilIface) := by
  rw [h]; rfl
theorem right_of_head (b : Wv.Bt) (h : Wv.headOk b = true) : Right b := by
  obtain ⟨h1, h2, h3, h4, h5⟩ := Wv.head_clock b h
  exact ⟨h1, h2, h3, h4, h5⟩

set_option maxHeartbeats 3200000 in
theorem check_any (b : Wv.Bt) (ca ea : Option Addr) (cc ec : Nat) (ms : List Em) (w : World) (eb ef : Addr) (hI : ItoaSaid) (g : Gl w eb ef) (hp : Pw w) (h : BatAt w b ca ea ms) (hn : b.clock.length ≤ 9223372036854775807) (hn' : b.effs.length ≤ 9223372036854775807) (hd : ∀ m ∈ ms, m.e.dots.length ≤ 9223372036854775807) :
    Calls Tryd.prog 32 #[bV b ca ea cc ec] w fun e w' => ErrEnd2 (Wv.isB b) eb e ∧ Below w.heap.size w w' := by
  have hpw' : Hid (Pw w) := hp
  have g' : Hid (Gl w eb ef) := g
  have h' : Hid (BatAt w b ca ea ms) := h
  have HB : Hid (Below w.heap.size w (w.alloc (.cells #[I b.o, I b.s, I b.t, .slice ca b.clock.length cc, .slice ea b.effs.length ec] 25))) := (Below.refl _ _).alloc (Nat.le_refl _) _
  clear g hp h
  go_enter Tryd.func32, Tryd.ntmps32
  go_wp2_with fail
  refine (checkHead_any b ca ea cc ec _ eb ef hI (g'.out.kept HB.out) (hpw'.out.kept HB.out) (h'.out.kept HB.out).clock hn hn').mono ?_
  rintro e w1 ⟨he, hb1⟩
  have HB1 : Hid (Below w.heap.size w w1) := HB.out.trans (hb1.mono (by simp))
  unfold ErrEnd at he
  cases hh : Wv.headOk b
  · rw [hh] at he
    obtain ⟨v, rfl, ⟨st, rfl⟩⟩ := he
    have HF : Hid (Wv.isB b = false) := by show Wv.isB b = false; rw [Wv.isB, hh]; rfl
    go_wp2
    go_ret
    exact ⟨errEnd2_no HF.out ⟨_, rfl⟩, HB1.out⟩
  · rw [hh] at he
    obtain rfl := he
    have HW1 : Hid (Below (w.heap.size + 1) (w.alloc (.cells #[I b.o, I b.s, I b.t, .slice ca b.clock.length cc, .slice ea b.effs.length ec] 25)) w1) := hb1.mono (by simp)
    have hr' : Hid (Right b) := right_of_head b hh
    have hle : 1 ≤ b.effs.length ∧ b.effs.length ≤ 5 := by
      simp only [Wv.headOk, Bool.and_eq_true, decide_eq_true_eq] at hh
      exact hh.1.2
    have hml : ms.length = b.effs.length := by rw [h'.out.effs]; simp
    obtain ⟨p, q, hea, hp, hc0⟩ := effs_at h'.out.cells (by omega)
    have hc : Hid _ := hc0
    subst hea
    have HH : Hid (Wv.headOk b = true) := hh
    have hd' : Hid (∀ m ∈ ms, m.e.dots.length ≤ 9223372036854775807) := hd
    have HL : Hid (ms.length = b.effs.length) := hml
    clear hb1 hc0 hh hd hml
    have y0 : w1.cell? ⟨w.heap.size, 0, none⟩ = some (I b.o) := (HW1.out.cell (p := ⟨w.heap.size, 0, none⟩) (by simp)).trans (World.cell?_alloc_mark w _ _ _ 0)
    have y1 : w1.cell? ⟨w.heap.size, 1, none⟩ = some (I b.s) := (HW1.out.cell (p := ⟨w.heap.size, 1, none⟩) (by simp)).trans (World.cell?_alloc_mark w _ _ _ 1)
    have y2 : w1.cell? ⟨w.heap.size, 2, none⟩ = some (I b.t) := (HW1.out.cell (p := ⟨w.heap.size, 2, none⟩) (by simp)).trans (World.cell?_alloc_mark w _ _ _ 2)
    have y3 : w1.cell? ⟨w.heap.size, 3, none⟩ = some (.slice ca b.clock.length cc) := (HW1.out.cell (p := ⟨w.heap.size, 3, none⟩) (by simp)).trans (World.cell?_alloc_mark w _ _ _ 3)
    have y4 : w1.cell? ⟨w.heap.size, 4, none⟩ = some (.slice (some ⟨p, q, none⟩) b.effs.length ec) := (HW1.out.cell (p := ⟨w.heap.size, 4, none⟩) (by simp)).trans (World.cell?_alloc_mark w _ _ _ 4)
    go_wp2_with fail
    clear y0 y1 y2 y3 y4
    go_loopw [15] (fun x wr => ∃ k : Nat, k ≤ b.effs.length ∧ x = I k ∧ Hid (Wv.effsTo b k = true) ∧ Hid (Below (w.heap.size + 1) (w.alloc (.cells #[I b.o, I b.s, I b.t, .slice ca b.clock.length cc, .slice (some ⟨p, q, none⟩) b.effs.length ec] 25)) wr)) (fun x _ => b.effs.length - (intOf x).toNat)
    case atStart => exact ⟨0, Nat.zero_le _, rfl, rfl, HW1⟩
    case round =>
      obtain ⟨k, hk, rfl, hto, hb⟩ := hrel
      have hsz : w.heap.size < wr.heap.size := by have := hb.out.size; simp at this; omega
      have hbw : Hid (Below w.heap.size w wr) := ((Below.refl _ _).alloc (Nat.le_refl _) _).trans (hb.out.mono (by omega))
      by_cases hlt : k < b.effs.length
      · have hlt' : k < ms.length := by rw [HL.out]; exact hlt
        obtain ⟨c0, c1, c2, c3, c4, c5, c6⟩ := hc.out k hlt'
        replace c0 := cell_kept hbw.out c0
        replace c1 := cell_kept hbw.out c1
        replace c2 := cell_kept hbw.out c2
        replace c3 := cell_kept hbw.out c3
        replace c4 := cell_kept hbw.out c4
        replace c5 := cell_kept hbw.out c5
        replace c6 := cell_kept hbw.out c6
        have hpr : p < wr.heap.size := by omega
        have HM : Hid (ms[k] ∈ ms ∧ b.effs.getD k ⟨0, 0, 0, ⟨0, 0, 0⟩, []⟩ = ms[k].e) := ⟨List.getElem_mem _, by rw [h'.out.effs]; simp [hlt']⟩
        generalize ms[k] = m at c0 c1 c2 c3 c4 c5 c6 HM
        have y0 : wr.cell? ⟨w.heap.size, 0, none⟩ = some (I b.o) := (hb.out.cell (p := ⟨w.heap.size, 0, none⟩) (by simp)).trans (World.cell?_alloc_mark w _ _ _ 0)
        have y1 : wr.cell? ⟨w.heap.size, 1, none⟩ = some (I b.s) := (hb.out.cell (p := ⟨w.heap.size, 1, none⟩) (by simp)).trans (World.cell?_alloc_mark w _ _ _ 1)
        have y2 : wr.cell? ⟨w.heap.size, 2, none⟩ = some (I b.t) := (hb.out.cell (p := ⟨w.heap.size, 2, none⟩) (by simp)).trans (World.cell?_alloc_mark w _ _ _ 2)
        have y3 : wr.cell? ⟨w.heap.size, 3, none⟩ = some (.slice ca b.clock.length cc) := (hb.out.cell (p := ⟨w.heap.size, 3, none⟩) (by simp)).trans (World.cell?_alloc_mark w _ _ _ 3)
        have y4 : wr.cell? ⟨w.heap.size, 4, none⟩ = some (.slice (some ⟨p, q, none⟩) b.effs.length ec) := (hb.out.cell (p := ⟨w.heap.size, 4, none⟩) (by simp)).trans (World.cell?_alloc_mark w _ _ _ 4)
        have HB2 : Hid (Below w.heap.size w (wr.alloc (.cells #[I m.e.op, I m.e.ob, I m.e.va, I m.e.ref.o, I m.e.ref.s, I m.e.ref.i, .slice m.da m.e.dots.length m.dc] 43))) := hbw.out.alloc (by omega) _
        go_wp2_with fail
        refine (checkEffect_any b ca cc (.slice (some ⟨p, q, none⟩) b.effs.length ec) k m _ eb ef hI (g'.out.kept HB2.out) (hpw'.out.kept HB2.out) hr'.out (h'.out.clock.kept HB2.out) ((h'.out.dots m HM.out.1).kept HB2.out) (hd' m HM.out.1)).mono ?_
        rintro e w2 ⟨he, hb2⟩
        have HB3 : Hid (Below w.heap.size w w2) := HB2.out.trans (hb2.mono (by simp; omega))
        have HK : Hid (Below (w.heap.size + 1) wr w2) := ((Below.refl _ _).alloc (by omega) _).trans (hb2.mono (by simp; omega))
        have hsz2 : wr.heap.size < w2.heap.size := by have := hb2.size; simp at this; omega
        unfold ErrEnd at he
        clear hb2 c0 c1 c2 c3 c4 c5 c6 y0 y1 y2 y3 y4
        cases hc : Wv.effOk b k m.e
        · rw [hc] at he
          obtain ⟨v, rfl, ⟨st, rfl⟩⟩ := he
          have HF : Hid (Wv.isB b = false) := by
            show Wv.isB b = false
            rw [Wv.isB, Wv.effsTo_no b _ k hlt (by rw [HM.out.2, hc]), Bool.and_false]
          go_wp2_with (first | (go_at_call 46; refine (hI k _ (by omega) ?_).mono ?_; exact hpw'.out.kept HB3.out; rintro e w' ⟨⟨sn, hst, rfl⟩, hb9⟩; have hcat : ¬ 9223372036854775807 < 7 + sn.size := by omega))
          go_ret
          exact ⟨errEnd2_two HF.out ⟨_, rfl⟩, HB3.out.trans (hb9.mono (by omega))⟩
        · rw [hc] at he
          obtain rfl := he
          have HT : Hid (Wv.effsTo b (k + 1) = true) := by
            show (Wv.effsTo b k && Wv.effOk b k _) = true
            rw [hto.out, HM.out.2, hc]; rfl
          go_wp2_with fail
          exact ⟨⟨k + 1, by omega, by go_num, HT, hb.out.trans HK.out⟩, by simp [intOf]; omega⟩
      · obtain rfl : k = b.effs.length := by omega
        have HT : Hid (Wv.isB b = true) := by show Wv.isB b = true; rw [Wv.isB, HH.out, hto.out]; rfl
        go_wp2
        go_ret
        exact ⟨errEnd2_yes HT.out, hbw.out⟩

end Go.Proofs.YtfmcngncaffloaaDoor
