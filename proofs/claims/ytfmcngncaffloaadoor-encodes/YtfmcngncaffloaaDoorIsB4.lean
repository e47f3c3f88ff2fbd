import Derived.Test.YtfmcngncaffloaaDoorIsB3
namespace Go.Proofs.YtfmcngncaffloaaDoor
open Go.RowKit
set_option maxRecDepth 100000

set_option maxHeartbeats 6400000 in
theorem isBatch_4 (b : Wv.Bt) (ea : Option Addr) (cc ec p q : Nat) (ms : List Em) (w : World) (a1 : 2 ≤ b.clock.length) (a2 : b.clock.length ≤ 4) (a3 : 0 ≤ b.o) (a4 : b.o < b.clock.length) (g1 : 1 ≤ b.s) (g2 : b.s ≤ 30) (g3 : 1 ≤ b.t) (g4 : b.t ≤ 200)
    (h : BatAt w b (some ⟨p, q, none⟩) ea ms) (hc : Hid (∀ j u, (b.clock.map I)[j]? = some u → w.cell? ⟨p, q + j, none⟩ = some u)) (hp : p < w.heap.size) (hz : b.clock.getD b.o.toNat 0 = b.s - 1) (hn' : b.effs.length ≤ 9223372036854775807) :
    Calls Tryd.prog 22 #[bV b (some ⟨p, q, none⟩) ea cc ec] w fun e w' => e = .returned (.bool (Wv.isB b)) ∧ Below w.heap.size w w' := by
  have h' : Hid (BatAt w b (some ⟨p, q, none⟩) ea ms) := h
  have k1 : (2 : Int) ≤ (b.clock.length : Int) := by omega
  have k2 : (b.clock.length : Int) ≤ 4 := by omega
  have c0 : w.cell? ⟨p, q + b.o.toNat, none⟩ = some (I (b.clock.getD b.o.toNat 0)) := hc.out _ _ (get_map b.clock _ (by omega))
  have hz' : (b.clock.getD b.o.toNat 0 != b.s - 1) = false := by rw [bne_eq_false_iff_eq]; exact hz
  have HZ : Hid (b.clock.getD b.o.toNat 0 = b.s - 1) := hz
  clear hz h
  generalize b.clock.getD b.o.toNat 0 = z at c0 hz'
  have d0 : decide (b.s < 1) = false := by simp; omega
  have d1 : decide (30 < b.s) = false := by simp; omega
  have d2 : decide (b.t < 1) = false := by simp; omega
  have d3 : decide (200 < b.t) = false := by simp; omega
  go_enter Tryd.func22, Tryd.ntmps22
  go_wp2_with fail
  go_quiet (fail)
  go_wp2_with fail
  clear c0 hz' d0 d1 d2 d3
  go_loop [4] (fun x => ∃ k : Nat, k ≤ b.clock.length ∧ x = I k ∧ Hid (Wv.clkTo b k = true)) (fun x => b.clock.length - (intOf x).toNat)
  case atStart => exact ⟨0, Nat.zero_le _, rfl, rfl⟩
  case round =>
    obtain ⟨k, hk, rfl, hto⟩ := hrel
    by_cases hlt : k < b.clock.length
    · have c1 : w.cell? ⟨p, q + k, none⟩ = some (I (b.clock.getD k 0)) := hc.out _ _ (get_map b.clock _ hlt)
      have hki : (k : Int) < (b.clock.length : Int) := by omega
      have HY : Hid (0 ≤ b.clock.getD k 0 ∧ b.clock.getD k 0 ≤ 30 → Wv.clkTo b (k + 1) = true) := fun hh => clkTo_of b a3 HZ.out k hh hto.out
      have HX : Hid (¬ (0 ≤ b.clock.getD k 0 ∧ b.clock.getD k 0 ≤ 30) → Wv.isB b = false) := fun hh => isB_clk b k hlt (by simp only [Wv.cOk, Bool.and_eq_false_iff, decide_eq_false_iff_not]; omega)
      generalize b.clock.getD k 0 = zk at c1 HY HX
      by_cases e0 : 0 ≤ zk
      · by_cases e1 : zk ≤ 30
        · have HT : Hid (Wv.clkTo b (k + 1) = true) := HY.out ⟨e0, e1⟩
          go_wp2_with fail
          exact ⟨⟨k + 1, by omega, by go_num, HT⟩, by simp [intOf]; omega⟩
        · have HF : Hid (Wv.isB b = false) := HX.out (by omega)
          have e2 : 30 < zk := by omega
          clear e1
          go_wp2_with fail
          go_ret
          exact ⟨ret_bool HF.out.symm, belowN ((Below.refl _ _).alloc (Nat.le_refl _) _) _⟩
      · have HF : Hid (Wv.isB b = false) := HX.out (by omega)
        have e2 : zk < 0 := by omega
        clear e0
        go_wp2_with fail
        go_ret
        exact ⟨ret_bool HF.out.symm, belowN ((Below.refl _ _).alloc (Nat.le_refl _) _) _⟩
    · obtain rfl : k = b.clock.length := by omega
      have HCLK : Hid (Wv.clkOk b = true) := hto
      by_cases hL0 : 1 ≤ b.effs.length
      · by_cases hL1 : b.effs.length ≤ 5
        · have HNUM : Hid (hNum b) := by show hNum b; unfold hNum; omega
          have k3 : (1 : Int) ≤ (b.effs.length : Int) := by omega
          have k4 : (b.effs.length : Int) ≤ 5 := by omega
          have hml : ms.length = b.effs.length := by rw [h'.out.effs]; simp
          obtain ⟨p2, q2, hea, hp2, hc2⟩ := effs_at h'.out.cells (by omega)
          have hce : Hid _ := hc2
          subst hea
          clear hc2
          go_wp2_with fail
          go_loopw [5] (fun x wr => ∃ k : Nat, k ≤ b.effs.length ∧ x = I k ∧ Hid (Wv.effsTo b k = true) ∧ Hid (Below (w.heap.size + 1) (w.alloc (.cells #[I b.o, I b.s, I b.t, .slice (some ⟨p, q, none⟩) b.clock.length cc, .slice (some ⟨p2, q2, none⟩) b.effs.length ec] 25)) wr)) (fun x _ => b.effs.length - (intOf x).toNat)
          case atStart => exact ⟨0, Nat.zero_le _, rfl, rfl, belowN (Below.refl _ _) _⟩
          case round =>
            obtain ⟨k, hk, rfl, hto, hbk⟩ := hrel
            have HBr : Hid (Below w.heap.size w wr) := ((Below.refl _ _).alloc (Nat.le_refl _) _).trans (hbk.out.mono (by omega))
            have hszr : w.heap.size < wr.heap.size := by have := hbk.out.size; simp at this; omega
            have y0 : wr.cell? ⟨w.heap.size, 0, none⟩ = some (I b.o) := (hbk.out.cell (p := ⟨w.heap.size, 0, none⟩) (by simp)).trans (World.cell?_alloc_mark w _ _ _ 0)
            have y1 : wr.cell? ⟨w.heap.size, 1, none⟩ = some (I b.s) := (hbk.out.cell (p := ⟨w.heap.size, 1, none⟩) (by simp)).trans (World.cell?_alloc_mark w _ _ _ 1)
            have y2 : wr.cell? ⟨w.heap.size, 2, none⟩ = some (I b.t) := (hbk.out.cell (p := ⟨w.heap.size, 2, none⟩) (by simp)).trans (World.cell?_alloc_mark w _ _ _ 2)
            have y3 : wr.cell? ⟨w.heap.size, 3, none⟩ = some (.slice (some ⟨p, q, none⟩) b.clock.length cc) := (hbk.out.cell (p := ⟨w.heap.size, 3, none⟩) (by simp)).trans (World.cell?_alloc_mark w _ _ _ 3)
            have y4 : wr.cell? ⟨w.heap.size, 4, none⟩ = some (.slice (some ⟨p2, q2, none⟩) b.effs.length ec) := (hbk.out.cell (p := ⟨w.heap.size, 4, none⟩) (by simp)).trans (World.cell?_alloc_mark w _ _ _ 4)
            by_cases hlt : k < b.effs.length
            · have hlt' : k < ms.length := by omega
              obtain ⟨c0, c1, c2, c3, c4, c5, c6⟩ := hce.out k hlt'
              have HM : Hid (ms[k] ∈ ms ∧ b.effs.getD k ⟨0, 0, 0, ⟨0, 0, 0⟩, []⟩ = ms[k].e) := ⟨List.getElem_mem _, by rw [h'.out.effs]; simp [hlt']⟩
              have hki : (k : Int) < (b.effs.length : Int) := by omega
              generalize ms[k] = m at c0 c1 c2 c3 c4 c5 c6 HM
              go_wp2_with fail
              refine (isEffect_any b (some ⟨p, q, none⟩) cc ec p2 q2 k m wr (h'.out.kept HBr.out).clock hlt (by omega) (cell_kept HBr.out c0) (cell_kept HBr.out c1) (cell_kept HBr.out c2) (cell_kept HBr.out c3) (cell_kept HBr.out c4) (cell_kept HBr.out c5) (cell_kept HBr.out c6) ((h'.out.dots m HM.out.1).kept HBr.out)).mono ?_
              rintro e w2 ⟨rfl, hb2⟩
              have HB2 : Hid (Below wr.heap.size wr w2) := hb2
              clear hb2 c0 c1 c2 c3 c4 c5 c6 y0 y1 y2 y3 y4
              generalize hok : Wv.effOk b k m.e = ok
              have HOK : Hid (Wv.effOk b k m.e = ok) := hok
              clear hok
              cases ok
              · have HF : Hid (Wv.isB b = false) := by
                  show Wv.isB b = false
                  rw [Wv.isB, Wv.effsTo_no b _ k hlt (by rw [HM.out.2, HOK.out]), Bool.and_false]
                go_wp2
                go_ret
                exact ⟨ret_bool HF.out.symm, HBr.out.trans (HB2.out.mono (by omega))⟩
              · have HT : Hid (Wv.effsTo b (k + 1) = true) := by
                  show (Wv.effsTo b k && Wv.effOk b k _) = true
                  rw [hto.out, HM.out.2, HOK.out]; rfl
                go_wp2
                exact ⟨⟨k + 1, by omega, by go_num, HT, hbk.out.trans (HB2.out.mono (by omega))⟩, by simp [intOf]; omega⟩
            · obtain rfl : k = b.effs.length := by omega
              have HT : Hid (Wv.isB b = true) := by show Wv.isB b = true; rw [Wv.isB, headYes b HNUM.out, HCLK.out, hto.out]; rfl
              go_wp2
              go_ret
              exact ⟨ret_bool HT.out.symm, HBr.out⟩
        · have HF : Hid (Wv.isB b = false) := isB_num b (by unfold hNum; omega)
          have k4 : (5 : Int) < (b.effs.length : Int) := by omega
          have k3 : (1 : Int) ≤ (b.effs.length : Int) := by omega
          clear hL1
          go_wp2_with fail
          go_ret
          exact ⟨ret_bool HF.out.symm, belowN ((Below.refl _ _).alloc (Nat.le_refl _) _) _⟩
      · have HF : Hid (Wv.isB b = false) := isB_num b (by unfold hNum; omega)
        have k3 : (b.effs.length : Int) < 1 := by omega
        clear hL0
        go_wp2_with fail
        go_ret
        exact ⟨ret_bool HF.out.symm, belowN ((Below.refl _ _).alloc (Nat.le_refl _) _) _⟩

end Go.Proofs.YtfmcngncaffloaaDoor
