import Derived.Test.YtfmcngncaffloaaDoorAppE
namespace Go.Proofs.YtfmcngncaffloaaDoor
open Go.RowKit
set_option maxRecDepth 100000

set_option maxHeartbeats 3200000 in
theorem eff_none (w0 w : World) (v : Value) (l : List UInt8) (m : Em) (eb ef : Addr) (g : Gl w0 eb ef) (hw : Below w0.heap.size w0 w) (ho : OwnB w w0.heap.size v l) (hl : l.length ≤ 1048000) (hop : 1 ≤ m.e.op ∧ m.e.op ≤ 6) (hR : Wv.rRef m.e.op = 0) (hM : 0 < Wv.rMostD m.e.op) (hdl : m.e.dots.length ≤ 0) :
    Calls Tryd.prog 34 #[v, effV m] w fun e w' => ∃ v', e = .returned v' ∧ OwnB w' w0.heap.size v' (l ++ Wv.effB m.e) ∧ Grew w w' v v' := by
  have HE : Hid (l ++ Wv.effB m.e = l ++ op2 m.e ++ Wv.be2 m.e.va ++ (Wv.be1 m.e.dots.length ++ m.e.dots.flatMap Wv.dotB)) := by show _ = _; simp [Wv.effB, hR, hM, op2]
  have hr : (Wv.rRef m.e.op != 0) = false := by rw [hR]; rfl
  have hm : decide (0 < Wv.rMostD m.e.op) = true := by simpa using hM
  clear hR hM
  obtain ⟨i, hi, hz0, hz1, hz2⟩ := info_parts infoU8
  have HO : Hid (OwnB w w0.heap.size v l) := ho
  have HW : Hid (Below w0.heap.size w0 w) := hw
  have hsz := hw.size
  have g' : Hid (Gl w0 eb ef) := g
  have HOP : Hid (1 ≤ m.e.op ∧ m.e.op ≤ 6) := hop
  have HN : Hid (some w.heap.size ≠ v.ownBlock) := HO.out.new_ne (Nat.le_refl _)
  clear ho hw hop g
  go_enter Tryd.func34, Tryd.ntmps34
  go_wp2_with (first | (at_builtin; go_must (refine wpList_append_own_at _ rfl _ _ _ rfl w0.heap.size 5 i (.int .u8 0) 1 1 Tryd.underlying50 hi hz0 hz1 hz2 rfl (by omega) v l.length (l.map B8) rfl ((HO.out.alloc _).alloc _) ⟨w.heap.size + 1, 0, none⟩ 2 2 ((op2 m.e).map B8) rfl rfl (lit_cells_at (w.alloc (.cells #[I m.e.op, I m.e.ob, I m.e.va, I m.e.ref.o, I m.e.ref.s, I m.e.ref.i, .slice m.da m.e.dots.length m.dc] 43)) _ _ _ (by simp) (op2_cells m.e)) (B8_one _) (by unfold maxLen; omega) (by omega) (by simp; omega) ?_; intro v1 w1 hown hgrow hnil hat; have HG : Hid (Grew (w.alloc (.cells #[I m.e.op, I m.e.ob, I m.e.va, I m.e.ref.o, I m.e.ref.s, I m.e.ref.i, .slice m.da m.e.dots.length m.dc] 43)) w1 v v1) := (Grew.new _ v).trans (Grew.app hgrow hat); have HO1 : Hid (OwnB w1 w0.heap.size v1 (l ++ op2 m.e)) := OwnB.append rfl hown; clear hown hgrow hnil hat; have x0 : w1.cell? ⟨w.heap.size, 0, none⟩ = some (I m.e.op) := HG.out.cell HN.out (World.cell?_alloc_mark w _ _ _ 0); have x1 : w1.cell? ⟨w.heap.size, 1, none⟩ = some (I m.e.ob) := HG.out.cell HN.out (World.cell?_alloc_mark w _ _ _ 1); have x2 : w1.cell? ⟨w.heap.size, 2, none⟩ = some (I m.e.va) := HG.out.cell HN.out (World.cell?_alloc_mark w _ _ _ 2); have x3 : w1.cell? ⟨w.heap.size, 3, none⟩ = some (I m.e.ref.o) := HG.out.cell HN.out (World.cell?_alloc_mark w _ _ _ 3); have x4 : w1.cell? ⟨w.heap.size, 4, none⟩ = some (I m.e.ref.s) := HG.out.cell HN.out (World.cell?_alloc_mark w _ _ _ 4); have x5 : w1.cell? ⟨w.heap.size, 5, none⟩ = some (I m.e.ref.i) := HG.out.cell HN.out (World.cell?_alloc_mark w _ _ _ 5); have x6 : w1.cell? ⟨w.heap.size, 6, none⟩ = some (.slice m.da m.e.dots.length m.dc) := HG.out.cell HN.out (World.cell?_alloc_mark w _ _ _ 6))))
  have hl1 : (l ++ op2 m.e).length ≤ 1048576 := by simp [op2, Wv.be1]; omega
  have hszG := HG.out.grown.size
  simp only [World.size_alloc] at hszG
  refine (two_any v1 _ m.e.va w0.heap.size w1 (by omega) HO1.out hl1).mono ?_
  rintro e w2 ⟨v2, rfl, hO2, hG2⟩
  have HG2 : Hid (Grew (w.alloc (.cells #[I m.e.op, I m.e.ob, I m.e.va, I m.e.ref.o, I m.e.ref.s, I m.e.ref.i, .slice m.da m.e.dots.length m.dc] 43)) w2 v v2) := HG.out.trans hG2
  have HO2 : Hid (OwnB w2 w0.heap.size v2 (l ++ op2 m.e ++ Wv.be2 m.e.va)) := hO2
  have HB2 : Hid (Below w0.heap.size w0 w2) := HW.out.trans (((Below.refl _ _).alloc hsz _).trans (HG2.out.below (l := l) (by simp; omega) (HO.out.alloc _)))
  have hsz2 : w.heap.size < w2.heap.size := by have := hG2.grown.size; omega
  clear x0 x1 x2 x3 x4 x5 x6 HO1 HG hG2 hO2 hl1 hszG
  have x0 : w2.cell? ⟨w.heap.size, 0, none⟩ = some (I m.e.op) := HG2.out.cell HN.out (World.cell?_alloc_mark w _ _ _ 0)
  have x1 : w2.cell? ⟨w.heap.size, 1, none⟩ = some (I m.e.ob) := HG2.out.cell HN.out (World.cell?_alloc_mark w _ _ _ 1)
  have x2 : w2.cell? ⟨w.heap.size, 2, none⟩ = some (I m.e.va) := HG2.out.cell HN.out (World.cell?_alloc_mark w _ _ _ 2)
  have x3 : w2.cell? ⟨w.heap.size, 3, none⟩ = some (I m.e.ref.o) := HG2.out.cell HN.out (World.cell?_alloc_mark w _ _ _ 3)
  have x4 : w2.cell? ⟨w.heap.size, 4, none⟩ = some (I m.e.ref.s) := HG2.out.cell HN.out (World.cell?_alloc_mark w _ _ _ 4)
  have x5 : w2.cell? ⟨w.heap.size, 5, none⟩ = some (I m.e.ref.i) := HG2.out.cell HN.out (World.cell?_alloc_mark w _ _ _ 5)
  have x6 : w2.cell? ⟨w.heap.size, 6, none⟩ = some (.slice m.da m.e.dots.length m.dc) := HG2.out.cell HN.out (World.cell?_alloc_mark w _ _ _ 6)
  go_wp2_with fail
  refine (ruleof_yes m.e.op _ eb ef (g'.out.kept HB2.out) HOP.out).mono ?_
  rintro e w3 ⟨rfl, hb3⟩
  have HG3 : Hid (Grew (w.alloc (.cells #[I m.e.op, I m.e.ob, I m.e.va, I m.e.ref.o, I m.e.ref.s, I m.e.ref.i, .slice m.da m.e.dots.length m.dc] 43)) w3 v v2) := HG2.out.trans (Grew.of_below hb3 v2)
  have HO3 : Hid (OwnB w3 w0.heap.size v2 (l ++ op2 m.e ++ Wv.be2 m.e.va)) := HO2.out.kept hb3
  have hsz3 : w.heap.size < w3.heap.size := by have := hb3.size; omega
  have HB3 : Hid (Below w0.heap.size w0 w3) := HB2.out.trans (hb3.mono (by have := HB2.out.size; omega))
  clear x0 x1 x2 x3 x4 x5 x6 HO2 HG2 hsz2 HB2 hb3
  have x0 : w3.cell? ⟨w.heap.size, 0, none⟩ = some (I m.e.op) := HG3.out.cell HN.out (World.cell?_alloc_mark w _ _ _ 0)
  have x1 : w3.cell? ⟨w.heap.size, 1, none⟩ = some (I m.e.ob) := HG3.out.cell HN.out (World.cell?_alloc_mark w _ _ _ 1)
  have x2 : w3.cell? ⟨w.heap.size, 2, none⟩ = some (I m.e.va) := HG3.out.cell HN.out (World.cell?_alloc_mark w _ _ _ 2)
  have x3 : w3.cell? ⟨w.heap.size, 3, none⟩ = some (I m.e.ref.o) := HG3.out.cell HN.out (World.cell?_alloc_mark w _ _ _ 3)
  have x4 : w3.cell? ⟨w.heap.size, 4, none⟩ = some (I m.e.ref.s) := HG3.out.cell HN.out (World.cell?_alloc_mark w _ _ _ 4)
  have x5 : w3.cell? ⟨w.heap.size, 5, none⟩ = some (I m.e.ref.i) := HG3.out.cell HN.out (World.cell?_alloc_mark w _ _ _ 5)
  have x6 : w3.cell? ⟨w.heap.size, 6, none⟩ = some (.slice m.da m.e.dots.length m.dc) := HG3.out.cell HN.out (World.cell?_alloc_mark w _ _ _ 6)
  unfold ruleV
  go_wp2_with fail
  refine (hasRef_any _ _ _ _ _ (Wv.rRef m.e.op) _).mono ?_
  rintro e w4 ⟨rfl, hb4⟩
  have HX4 : Hid (Below w3.heap.size w3 w4) := ((Below.refl _ _).alloc (Nat.le_refl _) _).trans (hb4.mono (by simp))
  have HG4 : Hid (Grew (w.alloc (.cells #[I m.e.op, I m.e.ob, I m.e.va, I m.e.ref.o, I m.e.ref.s, I m.e.ref.i, .slice m.da m.e.dots.length m.dc] 43)) w4 v v2) := HG3.out.trans (Grew.of_below HX4.out v2)
  have HO4 : Hid (OwnB w4 w0.heap.size v2 (l ++ op2 m.e ++ Wv.be2 m.e.va)) := HO3.out.kept HX4.out
  have hsz4 : w3.heap.size < w4.heap.size := by have := hb4.size; simp at this; omega
  have HB4 : Hid (Below w0.heap.size w0 w4) := HB3.out.trans (HX4.out.mono (by have := HB3.out.size; omega))
  have r0 : w4.cell? ⟨w3.heap.size, 0, none⟩ = some (I (Wv.rKind m.e.op)) := (hb4.cell (p := ⟨w3.heap.size, 0, none⟩) (by simp)).trans (World.cell?_alloc_mark w3 _ _ _ 0)
  have r1 : w4.cell? ⟨w3.heap.size, 1, none⟩ = some (I (Wv.rLeast m.e.op)) := (hb4.cell (p := ⟨w3.heap.size, 1, none⟩) (by simp)).trans (World.cell?_alloc_mark w3 _ _ _ 1)
  have r2 : w4.cell? ⟨w3.heap.size, 2, none⟩ = some (I (Wv.rGreat m.e.op)) := (hb4.cell (p := ⟨w3.heap.size, 2, none⟩) (by simp)).trans (World.cell?_alloc_mark w3 _ _ _ 2)
  have r3 : w4.cell? ⟨w3.heap.size, 3, none⟩ = some (I (Wv.rRef m.e.op)) := (hb4.cell (p := ⟨w3.heap.size, 3, none⟩) (by simp)).trans (World.cell?_alloc_mark w3 _ _ _ 3)
  have r4 : w4.cell? ⟨w3.heap.size, 4, none⟩ = some (I (Wv.rLeastD m.e.op)) := (hb4.cell (p := ⟨w3.heap.size, 4, none⟩) (by simp)).trans (World.cell?_alloc_mark w3 _ _ _ 4)
  have r5 : w4.cell? ⟨w3.heap.size, 5, none⟩ = some (I (Wv.rMostD m.e.op)) := (hb4.cell (p := ⟨w3.heap.size, 5, none⟩) (by simp)).trans (World.cell?_alloc_mark w3 _ _ _ 5)
  clear x0 x1 x2 x3 x4 x5 x6 hb4
  have x0 : w4.cell? ⟨w.heap.size, 0, none⟩ = some (I m.e.op) := HG4.out.cell HN.out (World.cell?_alloc_mark w _ _ _ 0)
  have x1 : w4.cell? ⟨w.heap.size, 1, none⟩ = some (I m.e.ob) := HG4.out.cell HN.out (World.cell?_alloc_mark w _ _ _ 1)
  have x2 : w4.cell? ⟨w.heap.size, 2, none⟩ = some (I m.e.va) := HG4.out.cell HN.out (World.cell?_alloc_mark w _ _ _ 2)
  have x3 : w4.cell? ⟨w.heap.size, 3, none⟩ = some (I m.e.ref.o) := HG4.out.cell HN.out (World.cell?_alloc_mark w _ _ _ 3)
  have x4 : w4.cell? ⟨w.heap.size, 4, none⟩ = some (I m.e.ref.s) := HG4.out.cell HN.out (World.cell?_alloc_mark w _ _ _ 4)
  have x5 : w4.cell? ⟨w.heap.size, 5, none⟩ = some (I m.e.ref.i) := HG4.out.cell HN.out (World.cell?_alloc_mark w _ _ _ 5)
  have x6 : w4.cell? ⟨w.heap.size, 6, none⟩ = some (.slice m.da m.e.dots.length m.dc) := HG4.out.cell HN.out (World.cell?_alloc_mark w _ _ _ 6)
  have HN2 : Hid (some w3.heap.size ≠ v2.ownBlock) := HO3.out.new_ne (Nat.le_refl _)
  have hB4 : w0.heap.size ≤ w4.heap.size := HB4.out.size
  have hl4 : (l ++ op2 m.e ++ Wv.be2 m.e.va).length ≤ 1048100 := by simp [op2, Wv.be1, Wv.be2]; omega
  generalize hL : l ++ op2 m.e ++ Wv.be2 m.e.va = L at HO4 hl4
  have HL : Hid (l ++ op2 m.e ++ Wv.be2 m.e.va = L) := hL
  clear hL
  go_wp2_with fail
  refine (hasDots_any _ _ _ _ _ (Wv.rMostD m.e.op) _).mono ?_
  rintro e w5 ⟨rfl, hb5⟩
  have HG5 : Hid (Grew (w.alloc (.cells #[I m.e.op, I m.e.ob, I m.e.va, I m.e.ref.o, I m.e.ref.s, I m.e.ref.i, .slice m.da m.e.dots.length m.dc] 43)) w5 v v2) := HG4.out.trans (Grew.of_below hb5 v2)
  have HO5 : Hid (OwnB w5 w0.heap.size v2 L) := HO4.out.kept hb5
  have hsz5 : w0.heap.size ≤ w5.heap.size := by have := hb5.size; omega
  replace x6 := cell_kept hb5 x6
  clear hb5 x0 x1 x2 x3 x4 x5 r0 r1 r2 r3 r4 r5
  go_wp2_with (first | (at_builtin; go_must (refine wpList_append_own_at _ rfl _ _ _ rfl w0.heap.size 5 i (.int .u8 0) 1 1 Tryd.underlying50 hi hz0 hz1 hz2 rfl (by omega) v2 L.length (L.map B8) rfl (HO5.out.alloc _) ⟨w5.heap.size, 0, none⟩ 1 1 ((Wv.be1 m.e.dots.length).map B8) rfl rfl (lit_cells w5 _ _ (be1_small _ (by omega))) (B8_one _) (by unfold maxLen; omega) (by omega) (by simp; omega) ?_; intro v6 w6 hown hgrow hnil hat; have HG6 : Hid (Grew (w.alloc (.cells #[I m.e.op, I m.e.ob, I m.e.va, I m.e.ref.o, I m.e.ref.s, I m.e.ref.i, .slice m.da m.e.dots.length m.dc] 43)) w6 v v6) := HG5.out.trans ((Grew.new _ v2).trans (Grew.app hgrow hat)); have HO6 : Hid (OwnB w6 w0.heap.size v6 (L ++ Wv.be1 m.e.dots.length)) := OwnB.append rfl hown; clear hown hgrow hnil hat; have x6 : w6.cell? ⟨w.heap.size, 6, none⟩ = some (.slice m.da m.e.dots.length m.dc) := HG6.out.cell HN.out (World.cell?_alloc_mark w _ _ _ 6))))
  go_loopw [0, 46] (fun t x wr => ∃ k : Nat, k ≤ m.e.dots.length ∧ x = I k ∧ Hid (OwnB wr w0.heap.size t (L ++ (Wv.be1 m.e.dots.length ++ (m.e.dots.take k).flatMap Wv.dotB))) ∧ Hid (Grew (w.alloc (.cells #[I m.e.op, I m.e.ob, I m.e.va, I m.e.ref.o, I m.e.ref.s, I m.e.ref.i, .slice m.da m.e.dots.length m.dc] 43)) wr v t)) (fun _ x _ => m.e.dots.length - (intOf x).toNat)
  case atStart => exact ⟨0, Nat.zero_le _, rfl, by simpa using HO6, HG6⟩
  case round =>
    obtain ⟨k, hk, rfl, hok, hgk⟩ := hrel
    clear HG6 HO6 x6
    by_cases hlt : k < m.e.dots.length
    · exfalso; omega
    · obtain rfl : k = m.e.dots.length := by omega
      go_wp2
      go_ret
      refine ⟨_, rfl, ?_, (Grew.new _ v).trans hgk.out⟩
      rw [HE.out, HL.out]
      have := hok.out
      rw [List.take_length] at this
      exact this

theorem eff_any (w0 w : World) (v : Value) (l : List UInt8) (m : Em) (eb ef : Addr) (g : Gl w0 eb ef) (hw : Below w0.heap.size w0 w) (ho : OwnB w w0.heap.size v l) (hl : l.length ≤ 1048000) (hop : 1 ≤ m.e.op ∧ m.e.op ≤ 6)
    (hd : At w0 m.da (flat dotCells m.e.dots)) (hdl : m.e.dots.length ≤ 150) :
    Calls Tryd.prog 34 #[v, effV m] w fun e w' => ∃ v', e = .returned v' ∧ OwnB w' w0.heap.size v' (l ++ Wv.effB m.e) ∧ Grew w w' v v' := by
  have h : (Wv.rRef m.e.op = 0 ∧ Wv.rMostD m.e.op = 0) ∨ (¬ Wv.rRef m.e.op = 0 ∧ Wv.rMostD m.e.op = 0) ∨ (Wv.rRef m.e.op = 0 ∧ 0 < Wv.rMostD m.e.op) := by
    unfold Wv.rRef Wv.rMostD
    obtain h | h | h | h | h | h : m.e.op = 1 ∨ m.e.op = 2 ∨ m.e.op = 3 ∨ m.e.op = 4 ∨ m.e.op = 5 ∨ m.e.op = 6 := by omega
    all_goals simp [h]
  rcases h with ⟨h1, h2⟩ | ⟨h1, h2⟩ | ⟨h1, h2⟩
  · exact eff_plain w0 w v l m eb ef g hw ho hl hop h1 h2
  · exact eff_ref w0 w v l m eb ef g hw ho hl hop h1 h2
  · rcases Nat.eq_zero_or_pos m.e.dots.length with hz | hz
    · exact eff_none w0 w v l m eb ef g hw ho hl hop h1 h2 (by omega)
    · obtain ⟨p, q, e, _, hc⟩ := dots_at hd hz
      exact eff_dots w0 w v l m eb ef g hw ho hl hop h1 h2 p q e hdl hc

end Go.Proofs.YtfmcngncaffloaaDoor
