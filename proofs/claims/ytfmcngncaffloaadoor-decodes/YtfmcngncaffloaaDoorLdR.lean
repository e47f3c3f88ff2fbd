import Derived.Test.YtfmcngncaffloaaDoorSameX
import Derived.Test.YtfmcngncaffloaaDoorLwB
import Derived.Test.YtfmcngncaffloaaDoorPow
import Derived.Test.YtfmcngncaffloaaDoorRows
import Derived.OpenShut
import Derived.Stop.LaidTwo
import Derived.Lib.LaidTab
import Derived.Test.YtfmcngncaffloaaDoorRdrA
import Derived.LaidSub
import Derived.Test.YtfmcngncaffloaaDoorCards
import Derived.Test.YtfmcngncaffloaaDoorTie
import Derived.WalkKit
import Derived.ProofKit
import Derived.Carry
import Derived.Deep.DeepHandedRow
import Derived.ChangeMaps5
namespace Go.Proofs.YtfmcngncaffloaaDoor
open Go.RowKit
set_option maxRecDepth 100000
attribute [local go_sem ↓] run_eql_dot run_neq_dot

set_option maxHeartbeats 1600000 in
theorem sameB_any (b : Wv.Bt) (ca ea ca2 ea2 : Option Addr) (cc ec cc2 ec2 : Nat) (ms1 ms2 : List Em) (w : World) (h1 : BatAt w b ca ea ms1) (h2 : BatAt w b ca2 ea2 ms2) (hcl : b.clock.length ≤ 4611686018427387904) (hl : b.effs.length ≤ 4611686018427387904) (hd : ∀ m ∈ ms1, m.e.dots.length ≤ 4611686018427387904) :
    Calls Tryd.prog 12 #[bV b ca ea cc ec, bV b ca2 ea2 cc2 ec2] w fun e w' => e = .returned (.bool true) ∧ Below w.heap.size w w' := by
  have h1' : Hid (BatAt w b ca ea ms1) := h1
  have h2' : Hid (BatAt w b ca2 ea2 ms2) := h2
  have hd' : Hid (∀ m ∈ ms1, m.e.dots.length ≤ 4611686018427387904) := hd
  clear h1 h2 hd
  go_enter Tryd.func12, Tryd.ntmps12
  have HW : Hid (Below w.heap.size w ((w.alloc (.cells #[I b.o, I b.s, I b.t, .slice ca b.clock.length cc, .slice ea b.effs.length ec] 25)).alloc (.cells #[I b.o, I b.s, I b.t, .slice ca2 b.clock.length cc2, .slice ea2 b.effs.length ec2] 25))) := ((Below.refl _ _).alloc (Nat.le_refl _) _).alloc (by simp) _
  go_wp2_with fail
  refine (sameI_any b.clock ca ca2 cc cc2 _ (h1'.out.kept HW.out).clock (h2'.out.kept HW.out).clock hcl).mono ?_
  rintro e w1 ⟨rfl, hb1⟩
  have HB1 : Hid (Below w.heap.size w w1) := HW.out.trans (hb1.mono (by simp; omega))
  have hsz1 : w.heap.size + 1 < w1.heap.size := by have := hb1.size; simp at this; omega
  have y0 : w1.cell? ⟨w.heap.size, 0, none⟩ = some (I b.o) := (hb1.cell (p := ⟨w.heap.size, 0, none⟩) (by simp; omega)).trans (cell_second2 w _ _ _ 0)
  have x0 : w1.cell? ⟨w.heap.size + 1, 0, none⟩ = some (I b.o) := (hb1.cell (p := ⟨w.heap.size + 1, 0, none⟩) (by simp)).trans (Joins.cell_alloc_mark_at _ _ _ _ _ _ (by simp))
  have y1 : w1.cell? ⟨w.heap.size, 1, none⟩ = some (I b.s) := (hb1.cell (p := ⟨w.heap.size, 1, none⟩) (by simp; omega)).trans (cell_second2 w _ _ _ 1)
  have x1 : w1.cell? ⟨w.heap.size + 1, 1, none⟩ = some (I b.s) := (hb1.cell (p := ⟨w.heap.size + 1, 1, none⟩) (by simp)).trans (Joins.cell_alloc_mark_at _ _ _ _ _ _ (by simp))
  have y2 : w1.cell? ⟨w.heap.size, 2, none⟩ = some (I b.t) := (hb1.cell (p := ⟨w.heap.size, 2, none⟩) (by simp; omega)).trans (cell_second2 w _ _ _ 2)
  have x2 : w1.cell? ⟨w.heap.size + 1, 2, none⟩ = some (I b.t) := (hb1.cell (p := ⟨w.heap.size + 1, 2, none⟩) (by simp)).trans (Joins.cell_alloc_mark_at _ _ _ _ _ _ (by simp))
  have y3 : w1.cell? ⟨w.heap.size, 3, none⟩ = some (.slice ca b.clock.length cc) := (hb1.cell (p := ⟨w.heap.size, 3, none⟩) (by simp; omega)).trans (cell_second2 w _ _ _ 3)
  have x3 : w1.cell? ⟨w.heap.size + 1, 3, none⟩ = some (.slice ca2 b.clock.length cc2) := (hb1.cell (p := ⟨w.heap.size + 1, 3, none⟩) (by simp)).trans (Joins.cell_alloc_mark_at _ _ _ _ _ _ (by simp))
  have y4 : w1.cell? ⟨w.heap.size, 4, none⟩ = some (.slice ea b.effs.length ec) := (hb1.cell (p := ⟨w.heap.size, 4, none⟩) (by simp; omega)).trans (cell_second2 w _ _ _ 4)
  have x4 : w1.cell? ⟨w.heap.size + 1, 4, none⟩ = some (.slice ea2 b.effs.length ec2) := (hb1.cell (p := ⟨w.heap.size + 1, 4, none⟩) (by simp)).trans (Joins.cell_alloc_mark_at _ _ _ _ _ _ (by simp))
  clear hb1
  have HM : Hid (ms1.map (·.e) = ms2.map (·.e)) := by show ms1.map (·.e) = ms2.map (·.e); rw [← h1'.out.effs, ← h2'.out.effs]
  have HL : Hid (b.effs.length = ms1.length) := by show b.effs.length = ms1.length; rw [h1'.out.effs]; simp
  go_wp2_with fail
  rw [HL.out]
  refine (sameX_any ms1 ms2 HM.out ea ea2 ec ec2 _ (h1'.out.kept HB1.out).cells (h2'.out.kept HB1.out).cells (h1'.out.kept HB1.out).dots (h2'.out.kept HB1.out).dots (by rw [← HL.out]; exact hl) hd'.out).mono ?_
  rintro e w2 ⟨rfl, hb2⟩
  have HB2 : Hid (Below w.heap.size w w2) := HB1.out.trans (hb2.mono (by omega))
  replace x0 := cell_kept hb2 x0
  replace x1 := cell_kept hb2 x1
  replace x2 := cell_kept hb2 x2
  replace x3 := cell_kept hb2 x3
  replace x4 := cell_kept hb2 x4
  replace y0 := cell_kept hb2 y0
  replace y1 := cell_kept hb2 y1
  replace y2 := cell_kept hb2 y2
  replace y3 := cell_kept hb2 y3
  replace y4 := cell_kept hb2 y4
  clear hb2
  have t0 : (b.o == b.o) = true := by simp
  have t1 : (b.s == b.s) = true := by simp
  have t2 : (b.t == b.t) = true := by simp
  go_wp2_with fail

  go_ret
  exact ⟨rfl, HB2.out⟩

end Go.Proofs.YtfmcngncaffloaaDoor

namespace Go.Proofs.YtfmcngncaffloaaDoor
open Go.RowKit
set_option maxRecDepth 100000

set_option maxHeartbeats 3200000 in
theorem decodes_any (l : List UInt8) (w : World) (eb ef : Addr) (hI : ItoaSaid) (gl : Gl w eb ef) (hp : Pw w) (g0 : Gd w) (hlen : l.length ≤ 9223372036854775807) :
    Calls Tryd.prog 4 #[.string ⟨l.toArray⟩] w fun e w' => e = .returned (.bool true) ∧ Below w.heap.size w w' := by
  have G0 : Hid (Gd w) := g0
  have GL : Hid (Gl w eb ef) := gl
  have HP : Hid (Pw w) := hp
  have HSM : Hid ((decB l).clock.length ≤ 4 ∧ (decB l).effs.length ≤ 5 ∧ ∀ e ∈ (decB l).effs, e.dots.length ≤ 150) := decB_small l
  have HW : Hid (∀ w' : World, Below w.heap.size w w' → Calls Tryd.prog 10 #[.string ⟨l.toArray⟩] w' fun e w2 => (∃ ca ea cc ec ms, e = .returned (.tuple #[bV (decB l) ca ea cc ec, I (decN l)]) ∧ (decB l).effs = ms.map (·.e) ∧ Ob w2 w'.heap.size (.slice ca (decB l).clock.length cc) (.slice ea (decB l).effs.length ec) (decB l).clock ms) ∧ Below w'.heap.size w' w2) := fun w' hb => wdec_any l w' eb ef hI (gl.kept hb) (hp.kept hb) (g0.kept hb) hlen
  have HR : Hid (∀ w' : World, Calls Tryd.prog 11 #[.string ⟨l.toArray⟩] w' fun e w2 => (∃ ca ea cc ec ms, e = .returned (.tuple #[bV (decB l) ca ea cc ec, I (decN l)]) ∧ (decB l).effs = ms.map (·.e) ∧ Ob w2 w'.heap.size (.slice ca (decB l).clock.length cc) (.slice ea (decB l).effs.length ec) (decB l).clock ms) ∧ Below w'.heap.size w' w2) := fun w' => rdec_any l w' hlen
  generalize decB l = b at *
  generalize decN l = nn at *
  clear g0 gl hp
  go_enter Tryd.func4, Tryd.ntmps4
  go_wp2_with fail
  refine (HW.out _ (Below.refl _ _)).mono ?_
  rintro e w1 ⟨⟨ca, ea, cc, ec, ms, rfl, hef, hob⟩, hb1⟩
  have HEF : Hid (b.effs = ms.map (·.e)) := hef
  have HOB : Hid (Ob w1 w.heap.size (.slice ca b.clock.length cc) (.slice ea b.effs.length ec) b.clock ms) := hob
  have HB1 : Hid (Below w.heap.size w w1) := hb1
  clear hef hob hb1
  go_wp2_with fail
  refine (HR.out _).mono ?_
  rintro e w2 ⟨⟨ca2, ea2, cc2, ec2, ms2, rfl, hef2, hob2⟩, hb2⟩
  have hsz : (w1.alloc (.cells (bCells b ca ea cc ec) 25)).heap.size = w1.heap.size + 1 := by simp
  have hob2' : Ob w2 (w1.heap.size + 1) (.slice ca2 b.clock.length cc2) (.slice ea2 b.effs.length ec2) b.clock ms2 := hsz ▸ hob2
  have hb2' : Below (w1.heap.size + 1) (w1.alloc (.cells (bCells b ca ea cc ec) 25)) w2 := hsz ▸ hb2
  have hs2 : w1.heap.size + 1 ≤ w2.heap.size := by have := hb2'.size; simpa using this
  have HEF2 : Hid (b.effs = ms2.map (·.e)) := hef2
  have HRF : Hid (Ob w2 (w1.heap.size + 1) (.slice ca2 b.clock.length cc2) (.slice ea2 b.effs.length ec2) b.clock ms2) := hob2'
  have KB2 : Hid (Blk w2 w1.heap.size (bCells b ca ea cc ec) 25) := Blk.kept (heap_alloc_new w1 _) hb2' (by omega)
  have OB2 : Hid (Ob w2 w.heap.size (.slice ca b.clock.length cc) (.slice ea b.effs.length ec) b.clock ms) := HOB.out.kept (fun k h1 _ => by rw [hb2'.block k (by omega), Below.heap_alloc w1 _ k h1])
  have HB2 : Hid (Below w.heap.size w w2) := (HB1.out.alloc HB1.out.size _).trans (hb2'.mono (by have := HB1.out.size; omega))
  have hw1 : w.heap.size ≤ w1.heap.size := HB1.out.size
  have inB : ∀ k, InB (.slice ca b.clock.length cc) (.slice ea b.effs.length ec) ms k → w.heap.size ≤ k ∧ k < w1.heap.size := fun k hk => HOB.out.blk hk
  have inW : ∀ k, InB (.slice ca2 b.clock.length cc2) (.slice ea2 b.effs.length ec2) ms2 k → w1.heap.size < k ∧ k < w2.heap.size := fun k hk => HRF.out.blk hk
  have KW2 : Hid (Blk (w2.alloc (.cells (bCells b ca2 ea2 cc2 ec2) 25)) w2.heap.size (bCells b ca2 ea2 cc2 ec2) 25) := heap_alloc_new w2 _
  have OBa : Hid (Ob (w2.alloc (.cells (bCells b ca2 ea2 cc2 ec2) 25)) w.heap.size (.slice ca b.clock.length cc) (.slice ea b.effs.length ec) b.clock ms) := OB2.out.kept (fun k h1 _ => Below.heap_alloc w2 _ k h1)
  have RFa : Hid (Ob (w2.alloc (.cells (bCells b ca2 ea2 cc2 ec2) 25)) (w1.heap.size + 1) (.slice ca2 b.clock.length cc2) (.slice ea2 b.effs.length ec2) b.clock ms2) := HRF.out.kept (fun k h1 _ => Below.heap_alloc w2 _ k h1)
  have KBa : Hid (Blk (w2.alloc (.cells (bCells b ca2 ea2 cc2 ec2) 25)) w1.heap.size (bCells b ca ea cc ec) 25) := KB2.out.alloc _
  have HBa : Hid (Below w.heap.size w (w2.alloc (.cells (bCells b ca2 ea2 cc2 ec2) 25))) := HB2.out.alloc HB2.out.size _
  have hsa : (w2.alloc (.cells (bCells b ca2 ea2 cc2 ec2) 25)).heap.size = w2.heap.size + 1 := by simp
  have hs2' : w1.heap.size < w2.heap.size := by omega
  have b0 : w2.cell? ⟨w1.heap.size, 0, none⟩ = some (I b.o) := KB2.out.cell 0
  have b1 : w2.cell? ⟨w1.heap.size, 1, none⟩ = some (I b.s) := KB2.out.cell 1
  have b2 : w2.cell? ⟨w1.heap.size, 2, none⟩ = some (I b.t) := KB2.out.cell 2
  have b3 : w2.cell? ⟨w1.heap.size, 3, none⟩ = some (.slice ca b.clock.length cc) := KB2.out.cell 3
  have b4 : w2.cell? ⟨w1.heap.size, 4, none⟩ = some (.slice ea b.effs.length ec) := KB2.out.cell 4
  clear hef2 hob2 hb2 hob2' hb2' hsz HOB OB2 HRF KB2 HB2
  go_wp2_with fail
  clear b0 b1 b2 b3 b4
  generalize w2.alloc (.cells (bCells b ca2 ea2 cc2 ec2) 25) = wa at *
  have hdl : ∀ m ∈ ms, m.e.dots.length ≤ 150 := fun m hm => HSM.out.2.2 m.e (by rw [HEF.out]; exact List.mem_map_of_mem hm)
  refine (sameB_any b ca ea ca2 ea2 cc ec cc2 ec2 ms ms2 wa (OBa.out.bat HEF.out) (RFa.out.bat HEF2.out) (by have := HSM.out.1; omega) (by have := HSM.out.2.1; omega) (fun m hm => by have := hdl m hm; omega)).mono ?_
  rintro e w3 ⟨rfl, hb3⟩
  have hml : ms.length = b.effs.length := by rw [HEF.out]; simp
  have DK : Hid (Dk w w1.heap.size w2.heap.size w3.heap.size b ca ea ca2 ea2 cc ec cc2 ec2 ms ms2) := ⟨HEF.out, HEF2.out, inB, inW, OBa.out.ce, OBa.out.cd, OBa.out.dd, hw1, hs2', by have := hb3.size; omega⟩
  have DL : Hid (Dl w w3 w1.heap.size w2.heap.size w3.heap.size b ca ea ca2 ea2 cc ec cc2 ec2 ms ms2 0 (.slice none 0 0) []) := by
    have o := OBa.out.kept (fun k h1 _ => hb3.block k h1)
    refine ⟨KBa.out.kept hb3 (by omega), KW2.out.kept hb3 (by omega), o.clock, ?_, fun j hj _ => o.dots _ (List.getElem_mem hj), RFa.out.kept (fun k h1 _ => hb3.block k h1), ⟨rfl, .inl ⟨rfl, rfl⟩⟩, (fun j hj _ => by cases hj), HBa.out.trans (hb3.mono HBa.out.size), Nat.le_refl _⟩
    have := o.cells
    rw [hml] at this
    exact this
  have HDL : Hid (∀ m ∈ ms, m.e.dots.length ≤ 150) := hdl
  have hsm1 : b.clock.length ≤ 4 := HSM.out.1
  have hsm2 : b.effs.length ≤ 5 := HSM.out.2.1
  clear hb3 hdl OBa RFa KBa KW2 HBa inB inW hsa hs2 hs2' hw1 HB1 HEF HEF2
  have hnn : (nn != nn) = false := by simp
  generalize w1.heap.size = B at *
  generalize w2.heap.size = Wb at *
  generalize w3.heap.size = Z at *
  go_wp2_with fail
  go_loopw [8, 9] (fun vA x wr => ∃ i : Nat, ∃ gs, i ≤ b.effs.length ∧ x = I i ∧ Hid (Dl w wr B Wb Z b ca ea ca2 ea2 cc ec cc2 ec2 ms ms2 i vA gs)) (fun _ x _ => b.effs.length - (intOf x).toNat)
  case atStart => exact ⟨0, [], Nat.zero_le _, rfl, DL⟩
  case round =>
    obtain ⟨i, gs, hi, rfl, HE⟩ := hrel
    clear DL
    have b0 : wr.cell? ⟨B, 4, none⟩ = some (.slice ea b.effs.length ec) := HE.out.kB.cell 4
    have hBl : B < wr.heap.size := HE.out.kB.lt
    by_cases hlt : i < b.effs.length
    · have him : i < ms.length := by omega
      obtain ⟨gE, cE, hEf, _, hgE⟩ := HE.out.eff.form (by omega)
      obtain ⟨rfl, rfl⟩ : ea = some ⟨gE, 0, none⟩ ∧ ec = cE := by simpa using hEf
      have HDV : Hid (wr.ownsRow w.heap.size 40 3 (.slice ms[i].da ms[i].e.dots.length ms[i].dc) ms[i].e.dots.length (flat dotCells ms[i].e.dots)) := HE.out.dts i him (Nat.le_refl _)
      have e6 : wr.cell? ⟨gE, i * 7 + 6, none⟩ = some (.slice ms[i].da ms[i].e.dots.length ms[i].dc) := own_cell HE.out.eff (by rw [flat_get Em.cells 7 emCells_len ms i him 6 (by omega)]; rfl)
      have hdn : ms[i].e.dots.length ≤ 150 := HDL.out _ (List.getElem_mem him)
      have HOWN : Hid (ms[i].dv.ownBlock = (Value.slice ms[i].da ms[i].e.dots.length ms[i].dc).ownBlock) := rfl
      have HOL : Hid (∀ k, ms[i].dv.ownBlock = some k → k < B) := fun k e => (DK.out.inB k (Or.inr (Or.inr ⟨ms[i], List.getElem_mem him, e⟩))).2
      have HBZ : Hid (w.heap.size ≤ B ∧ B < Z ∧ Z ≤ wr.heap.size) := ⟨DK.out.wB, by have := DK.out.BW; have := DK.out.WZ; omega, HE.out.sz⟩
      generalize hda : ms[i].da = da at HDV e6 HOWN
      generalize hdc : ms[i].dc = dc at HDV e6 HOWN
      generalize hds : ms[i].e.dots = ds at HDV e6 HOWN hdn
      clear hda hdc hds hEf
      have hii : (i : Int) < (b.effs.length : Int) := by omega
      have hdi : (ds.length : Int) ≤ 150 := by omega
      have HM : Hid (Blk (wr.alloc (.cells #[I (-(i : Int) - 1), I 0, I 0] 40)) wr.heap.size #[I (-(i : Int) - 1), I 0, I 0] 40) := heap_alloc_new wr _
      have HwM : Hid ((∀ k, k < wr.heap.size → (wr.alloc (.cells #[I (-(i : Int) - 1), I 0, I 0] 40)).heap[k]? = wr.heap[k]?) ∧ (wr.alloc (.cells #[I (-(i : Int) - 1), I 0, I 0] 40)).heap.size = wr.heap.size + 1 ∧ Below w.heap.size w (wr.alloc (.cells #[I (-(i : Int) - 1), I 0, I 0] 40))) := ⟨fun k hk => Below.heap_alloc wr _ k hk, by simp, HE.out.below.alloc HE.out.below.size _⟩
      have OM : Hid ((wr.alloc (.cells #[I (-(i : Int) - 1), I 0, I 0] 40)).ownsRow w.heap.size 40 3 (.slice da ds.length dc) ds.length (part 0 (mark i) ds)) := own_kept HDV.out (fun k e => Below.heap_alloc wr _ k (HDV.out.lt k e).2)
      go_wp2_with fail
      generalize wr.alloc (.cells #[I (-(i : Int) - 1), I 0, I 0] 40) = wM at *
      generalize hS : wr.heap.size = S at *
      have HSZ : Hid (wr.heap.size = S) := hS
      clear hS HDV e6 b0
      have OWL : Hid (∀ k, (Value.slice da ds.length dc).ownBlock = some k → k < B) := fun k e => HOL.out k (HOWN.out.trans e)
      go_loopw [12] (fun x wq => ∃ k : Nat, k ≤ ds.length ∧ x = I k ∧ Hid (wM.grownBy wq (Value.slice da ds.length dc).ownBlock) ∧ Hid (wq.heap.size = S + 1) ∧ Hid (wq.ownsRow w.heap.size 40 3 (.slice da ds.length dc) ds.length (part k (mark i) ds)) ∧ Hid (Blk wq S #[I (-(i : Int) - 1), I 0, I 0] 40)) (fun x _ => ds.length - (intOf x).toNat)
      case atStart => exact ⟨0, Nat.zero_le _, rfl, grown_refl _ _, HwM.out.2.1, OM, HM⟩
      case round =>
        obtain ⟨k, hk, rfl, HG, HZ, HO, HD⟩ := hrel
        clear OM HM
        have m0 := HD.out.cell 0
        have m1 := HD.out.cell 1
        have m2 := HD.out.cell 2
        simp only [List.getElem?_toArray, List.getElem?_cons_zero, List.getElem?_cons_succ] at m0 m1 m2
        by_cases hlk : k < ds.length
        · obtain ⟨gD, cD, hDf, _, hgD⟩ := HO.out.form (by omega)
          obtain ⟨rfl, rfl⟩ : da = some ⟨gD, 0, none⟩ ∧ dc = cD := by simpa using hDf
          obtain ⟨p0, p1, p2⟩ := part_get k (mark i) ds hlk
          have x0 := own_cell HO.out p0
          have x1 := own_cell HO.out p1
          have x2 := own_cell HO.out p2
          have z0 := own_frozen HO.out (k * 3)
          have z1 := own_frozen HO.out (k * 3 + 1)
          have z2 := own_frozen HO.out (k * 3 + 2)
          have hgS : gD ≠ S := by have := OWL.out gD rfl; have := HBZ.out; omega
          have hki : (k : Int) < (ds.length : Int) := by omega
          clear p0 p1 p2 hDf
          go_wp2_with fail
          refine ⟨⟨k + 1, by omega, by go_num, grown_trans HG.out (grown_trans (grown_set _ _ _ _) (grown_trans (grown_set _ _ _ _) (grown_set _ _ _ _))), ?_, ?_, ((HD.out.other (Ne.symm hgS) _).other (Ne.symm hgS) _).other (Ne.symm hgS) _⟩, by simp [intOf]; omega⟩
          · show _ = _
            rw [← HZ.out]
            simp [World.setCell]
          · show World.ownsRow _ _ _ _ _ _ _
            rw [← part_set k (mark i) ds hlk]
            exact own_set (own_set (own_set HO.out _ _) _ _) _ _
        · obtain rfl : k = ds.length := by omega
          obtain ⟨i3, hi3, hy0, hy1, hy2⟩ := info_parts infoSS
          have hzz := HBZ.out
          have hz1 : w.heap.size ≤ wr.heap.size := by have := HZ.out; omega
          go_wp2_with fail
          refine (longer_any da ds.length dc (mark i) w.heap.size wr (by have := HO.out; rw [part_all] at this; exact this) (by omega) hz1).mono ?_
          rintro e w5 ⟨vA4, vl, ss, rfl, hLn⟩
          obtain ⟨gA, cA, rfl, _, _⟩ := hLn.all.form (by omega)
          have HLN : Hid (Ln wr w5 w.heap.size (Value.slice da ds.length dc).ownBlock ds.length 3 (mark i) vl (.slice (some ⟨gA, 0, none⟩) (3 + 1) cA) ss) := hLn
          have hs5 : S + 1 ≤ w5.heap.size := by have := hLn.g.size; have := HZ.out; omega
          have H5 : Hid (∀ k, k < S → (Value.slice da ds.length dc).ownBlock ≠ some k → w5.heap[k]? = wM.heap[k]?) := by
            show ∀ k, _
            intro k h1 h2
            have hM := HwM.out.2.1
            rw [HLN.out.g.block k (by have := HZ.out; omega) (fun e => h2 e.symm), HG.out.block k (by omega) (fun e => h2 e.symm)]
          have HB5 : Hid (Below w.heap.size w w5) := (HwM.out.2.2.grown HG.out HwM.out.2.2.size (fun k e => (HO.out.lt k e).1)).grown HLN.out.g (by have := HZ.out; have := hzz; omega) (fun k e => (HO.out.lt k e).1)
          have hAlt : ∀ k, u8.ownBlock = some k → Z ≤ k ∧ k < S := fun k e => by have := HE.out.all.lt k e; rw [HSZ.out] at this; exact this
          have hAne : ∀ k, u8.ownBlock = some k → (Value.slice da ds.length dc).ownBlock ≠ some k := fun k e e2 => by have := OWL.out k e2; have := hAlt k e; omega
          have HA5 : Hid (w5.ownsRow Z 31 1 u8 i gs) := own_kept HE.out.all (fun k e => (H5.out k (hAlt k e).2 (hAne k e)).trans (HwM.out.1 k (hAlt k e).2))
          clear hLn m0 m1 m2
          go_wp2_with (first | (at_builtin; go_must (refine wpList_append_lies _ rfl _ _ _ rfl Z 31 i3 (.slice none 0 0) 1 24 Tryd.underlying38 hi3 hy0 hy1 hy2 rfl (by omega) u8 i gs rfl (HA5.out.alloc _) ⟨w5.heap.size, 0, none⟩ 1 1 [.slice (some ⟨gA, 0, none⟩) (3 + 1) cA] rfl rfl (lit_any w5 _ _) (by intro u hu; rw [List.mem_singleton] at hu; subst hu; rfl) (by omega) (by unfold maxLen; omega) (by omega) (by simp; omega) (w5.heap.size + 1) (by simp) ?_; intro g6 cap6 w6 own6 hk6 at6 hlt6)))
          have HN : Hid (Dl w w6 B Wb Z b ca (some ⟨gE, 0, none⟩) ca2 ea2 cc ec cc2 ec2 ms ms2 (i + 1) (.slice (some ⟨g6, 0, none⟩) (i + 1) cap6) (gs ++ [.slice (some ⟨gA, 0, none⟩) (3 + 1) cA])) := by
            have hs6 : w5.heap.size + 1 ≤ w6.heap.size := by have := hk6.size; simpa using this
            refine HE.out.step DK.out him (by rw [HSZ.out]; omega) ?_ own6 ?_ ?_ ?_
            · intro k h1 h2 h3
              rw [HSZ.out] at h1
              rw [hk6.block k (by simp; omega) (fun e => h3 e.symm), Below.heap_alloc w5 _ k (by omega), H5.out k h1 (fun e => h2 (HOWN.out.trans e)), HwM.out.1 k h1]
            · rcases at6 with e | e
              · exact Or.inl e.symm
              · exact Or.inr ⟨g6, rfl, by rw [HSZ.out]; omega⟩
            · rw [HOWN.out]
              have hd := HLN.out.done (by omega) Z (by have := HZ.out; omega) u8 (fun k e => ⟨by have := (hAlt k e).2; have := HZ.out; omega, hAne k e⟩)
              refine hd.kept (by omega) (fun k h1 h2 _ => ?_) (fun k h1 h2 e => ?_)
              · rw [hk6.block k (by simp; omega) (fun e => h2 e.symm), Below.heap_alloc w5 _ k h1]
              · have e' : g6 = k := by simpa [Value.ownBlock] using e
                subst e'
                rcases at6 with e2 | e2
                · exact h2 e2
                · omega
            · exact (HB5.out.alloc HB5.out.size _).grown hk6 (by have := HB5.out.size; simp; omega) (fun k e => by have := hAlt k e; omega)
          clear HE HLN HA5 own6 hk6 at6 hlt6 H5 HB5 hAlt hAne HO HD HG HZ
          go_roundw
          case rel => exact ⟨i + 1, _, by omega, by go_num, HN⟩
          case measure => simp [intOf]; omega
    · obtain rfl : i = b.effs.length := by omega
      have HF0 : Hid (Df w wr B Wb Z b ca ea ca2 ea2 cc ec cc2 ec2 ms ms2 u8 gs) := HE.out.fin
      have HC0 : Hid (wr.ownsRow w.heap.size 3 1 (.slice ca b.clock.length cc) b.clock.length (cpart 0 b.clock)) := HE.out.clk
      have b3 : wr.cell? ⟨B, 3, none⟩ = some (.slice ca b.clock.length cc) := HE.out.kB.cell 3
      have HCL : Hid (∀ k, (Value.slice ca b.clock.length cc).ownBlock = some k → w.heap.size ≤ k ∧ k < B ∧ ∀ m ∈ ms, m.dv.ownBlock ≠ some k) := fun k e => ⟨(DK.out.inB k (Or.inl e)).1, (DK.out.inB k (Or.inl e)).2, fun m hm e2 => (DK.out.cd m hm k e2).1 e⟩
      have HGR : Hid (wr.grownBy wr (Value.slice ca b.clock.length cc).ownBlock) := grown_refl _ _
      have HEA : Hid (∀ wj : World, wr.grownBy wj (Value.slice ca b.clock.length cc).ownBlock → At wj ea (flat Em.cells ms)) := fun wj hg => own_at' (own_kept HE.out.eff (fun k e => hg.block k (HE.out.eff.lt k e).2 (fun e2 => DK.out.ce k e2.symm e)))
      have HDF : Hid (∀ wj : World, wr.grownBy wj (Value.slice ca b.clock.length cc).ownBlock → Df w wj B Wb Z b ca ea ca2 ea2 cc ec cc2 ec2 ms ms2 u8 gs) := fun wj hg => HF0.out.turn DK.out hg HCL.out (HEA.out wj hg)
      have hgl : gs.length = b.effs.length := by have := HE.out.all.1; simpa using this
      have hwz : Z ≤ wr.heap.size := HE.out.sz
      have HBZ : Hid (w.heap.size ≤ B ∧ B < Z) := ⟨DK.out.wB, by have := DK.out.BW; have := DK.out.WZ; omega⟩
      have HEO : Hid (∀ wj : World, wr.grownBy wj (Value.slice ca b.clock.length cc).ownBlock → wj.ownsRow w.heap.size 43 7 (.slice ea b.effs.length ec) b.effs.length (flat Em.cells ms)) := fun wj hg => own_kept HE.out.eff (fun k e => hg.block k (HE.out.eff.lt k e).2 (fun e2 => DK.out.ce k e2.symm e))
      clear HE HEA HF0
      go_wp2_with fail
      generalize wr = wp at *
      go_loopw [14] (fun x wq => ∃ k : Nat, k ≤ b.clock.length ∧ x = I k ∧ Hid (wp.grownBy wq (Value.slice ca b.clock.length cc).ownBlock) ∧ Hid (wq.ownsRow w.heap.size 3 1 (.slice ca b.clock.length cc) b.clock.length (cpart k b.clock))) (fun x _ => b.clock.length - (intOf x).toNat)
      case atStart => exact ⟨0, Nat.zero_le _, rfl, HGR, HC0⟩
      case round =>
        obtain ⟨k, hk, rfl, HG, HO⟩ := hrel
        clear HGR HC0 b3
        have b3 : wr.cell? ⟨B, 3, none⟩ = some (.slice ca b.clock.length cc) := (HDF.out wr HG.out).kB.cell 3
        have hBl : B < wr.heap.size := (HDF.out wr HG.out).kB.lt
        by_cases hlk : k < b.clock.length
        · obtain ⟨gC, cC, hCf, _, hgC⟩ := HO.out.form (by omega)
          obtain ⟨rfl, rfl⟩ : ca = some ⟨gC, 0, none⟩ ∧ cc = cC := by simpa using hCf
          have x0 := own_cell HO.out (cpart_get k b.clock hlk)
          have z0 := own_frozen HO.out k
          have hki : (k : Int) < (b.clock.length : Int) := by omega
          clear hCf
          go_wp2_with fail
          refine ⟨⟨k + 1, by omega, by go_num, grown_trans HG.out (grown_set _ _ _ _), ?_⟩, by simp [intOf]; omega⟩
          show World.ownsRow _ _ _ _ _ _ _
          rw [← cpart_set k b.clock hlk]
          exact own_set HO.out _ _
        · obtain rfl : k = b.clock.length := by omega
          have HO' : Hid (wr.ownsRow w.heap.size 3 1 (.slice ca b.clock.length cc) b.clock.length (List.replicate b.clock.length (I (-1)))) := by have := HO.out; rw [cpart_all] at this; exact this
          obtain ⟨i4, hi4, hq0, hq1, hq2⟩ := info_parts infoI
          have hsz3 : Z ≤ wr.heap.size := (HDF.out wr HG.out).sz
          have hbz := HBZ.out
          clear HO
          go_wp2_with fail
          go_loopw [15, 16] (fun vc x wq => ∃ k : Nat, k ≤ 3 ∧ x = I k ∧ Hid (wp.grownBy wq (Value.slice ca b.clock.length cc).ownBlock) ∧ Hid (wq.ownsRow w.heap.size 3 1 vc (b.clock.length + k) (List.replicate (b.clock.length + k) (I (-1)))) ∧ Hid (vc.ownBlock = (Value.slice ca b.clock.length cc).ownBlock ∨ ∃ b', vc.ownBlock = some b' ∧ wp.heap.size ≤ b')) (fun _ x _ => 3 - (intOf x).toNat)
          case atStart => exact ⟨0, Nat.zero_le _, rfl, HG, HO', Or.inl rfl⟩
          case round =>
            obtain ⟨k, hk, rfl, HG3, HO3, HV3⟩ := hrel
            clear HG HO' b3 hBl
            have hbl3 : w.heap.size ≤ wr.heap.size := by have := HG3.out.size; omega
            by_cases hlk : k < 3
            · have hki : (k : Int) < 3 := by omega
              go_wp2_with (first | (at_builtin; go_must (refine wpList_append_lies _ rfl _ _ _ rfl w.heap.size 3 i4 (.int .i64 0) 1 8 Tryd.underlying22 hi4 hq0 hq1 hq2 rfl (by omega) u15 (b.clock.length + k) (List.replicate (b.clock.length + k) (I (-1))) rfl (HO3.out.alloc _) ⟨wr.heap.size, 0, none⟩ 1 1 [I (-1)] rfl rfl (lit_any wr _ _) (int_one (-1)) (by omega) (by unfold maxLen; omega) (by omega) (by simp; omega) (wr.heap.size + 1) (by simp) ?_; intro g6 cap6 w6 own6 hk6 at6 hlt6)))
              have HG4 : Hid (wp.grownBy w6 (Value.slice ca b.clock.length cc).ownBlock) := grown_app HG3.out hk6 HV3.out
              have HO4 : Hid (w6.ownsRow w.heap.size 3 1 (.slice (some ⟨g6, 0, none⟩) (b.clock.length + k + 1) cap6) (b.clock.length + (k + 1)) (List.replicate (b.clock.length + (k + 1)) (I (-1)))) := by
                have := own6
                rw [← List.replicate_succ'] at this
                exact this
              have HV4 : Hid ((Value.slice (some ⟨g6, 0, none⟩) (b.clock.length + k + 1) cap6).ownBlock = (Value.slice ca b.clock.length cc).ownBlock ∨ ∃ b', (Value.slice (some ⟨g6, 0, none⟩) (b.clock.length + k + 1) cap6).ownBlock = some b' ∧ wp.heap.size ≤ b') := by
                show _ ∨ _
                have hsz := HG3.out.size
                rcases at6 with e | e
                · rcases HV3.out with e2 | ⟨b', e2, hb'⟩
                  · exact Or.inl (by rw [← e2, e]; rfl)
                  · rw [e2] at e; cases e; exact Or.inr ⟨_, rfl, hb'⟩
                · exact Or.inr ⟨g6, rfl, by omega⟩
              clear HG3 HO3 HV3 own6 hk6 at6 hlt6
              go_roundw
              case rel => exact ⟨k + 1, by omega, by go_num, HG4, HO4, HV4⟩
              case measure => simp [intOf]; omega
            · have hk3 : k = 3 := by omega
              have HO3' : Hid (wr.ownsRow w.heap.size 3 1 u15 (b.clock.length + 3) (List.replicate (b.clock.length + 3) (I (-1)))) := by have := HO3.out; rw [hk3] at this; exact this
              clear HO3 hk3
              have HD4 : Hid (Df w wr B Wb Z b ca ea ca2 ea2 cc ec cc2 ec2 ms ms2 u8 gs) := HDF.out wr HG3.out
              have HE4 : Hid (wr.ownsRow w.heap.size 43 7 (.slice ea b.effs.length ec) b.effs.length (flat Em.cells ms)) := HEO.out wr HG3.out
              have hwpz : wp.heap.size ≤ wr.heap.size := HG3.out.size
              have HVE : Hid (∀ k, u15.ownBlock = some k → (Value.slice ea b.effs.length ec).ownBlock ≠ some k) := by
                show ∀ k, _
                intro k e e2
                rcases HV3.out with e3 | ⟨b', e3, hb'⟩
                · exact DK.out.ce k (e3.symm.trans e) e2
                · rw [e3] at e; cases e; have := (DK.out.inB _ (Or.inr (Or.inl e2))).2; omega
              have HEL : Hid (∀ k, (Value.slice ea b.effs.length ec).ownBlock = some k → w.heap.size ≤ k ∧ k < B ∧ ∀ m ∈ ms, m.dv.ownBlock ≠ some k) := fun k e => ⟨(DK.out.inB k (Or.inr (Or.inl e))).1, (DK.out.inB k (Or.inr (Or.inl e))).2, fun m hm e2 => (DK.out.cd m hm k e2).2 e⟩
              have b4 : wr.cell? ⟨B, 4, none⟩ = some (.slice ea b.effs.length ec) := HD4.out.kB.cell 4
              obtain ⟨i5, hi5, hs0, hs1, hs2⟩ := info_parts infoEf
              clear HDF HEO HG3 HV3 hi4 hq0 hq1 hq2
              go_wp2_with fail
              have HG0 : Hid (wr.grownBy wr (Value.slice ea b.effs.length ec).ownBlock) := grown_refl _ _
              have HQ0 : Hid (∀ p q, ea = some ⟨p, q, none⟩ → q = 0) := by
                show ∀ p q, _
                intro p q e
                rcases HE4.out.2 with ⟨e2, _⟩ | ⟨g, cap, cur, e2, _⟩
                · rw [e] at e2; cases e2
                · rw [e] at e2; cases e2; rfl
              have HA0 : Hid (At wr ea (flat Em.cells ms)) := own_at' HE4.out
              generalize wr = wp4 at *
              go_loopw [17, 18] (fun vx x wq => ∃ k : Nat, ∃ xs, k ≤ 3 ∧ x = I k ∧ Hid (wp4.grownBy wq (Value.slice ea b.effs.length ec).ownBlock) ∧ Hid (wq.ownsRow w.heap.size 43 7 vx (b.effs.length + k) xs) ∧ Hid (vx.ownBlock = (Value.slice ea b.effs.length ec).ownBlock ∨ ∃ b', vx.ownBlock = some b' ∧ wp4.heap.size ≤ b') ∧ Hid (At wq ea (flat Em.cells ms)) ∧ Hid (0 < k ∨ vx = .slice ea b.effs.length ec)) (fun _ x _ => 3 - (intOf x).toNat)
              case atStart => exact ⟨0, _, Nat.zero_le _, rfl, HG0, HE4, Or.inl rfl, HA0, Or.inr rfl⟩
              case round =>
                obtain ⟨k, xs, hk, rfl, HG5, HO5, HV5, HA5, HX5⟩ := hrel
                clear HG0 HE4 HA0 b4
                have hbl5 : w.heap.size ≤ wr.heap.size := by have := HG5.out.size; omega
                by_cases hlk : k < 3
                · have hki : (k : Int) < 3 := by omega
                  go_wp2_with (first | (at_builtin; go_must (refine wpList_append_keep rfl _ _ _ rfl w.heap.size 43 i5 (.agg #[.int .i64 0, .int .i64 0, .int .i64 0, .int .i64 0, .int .i64 0, .int .i64 0, .slice none 0 0]) 7 72 Tryd.underlying23 hi5 hs0 hs1 hs2 rfl (by omega) u17 (b.effs.length + k) xs rfl (HO5.out.alloc _) ⟨wr.heap.size, 0, none⟩ 1 1 [I (-1), I 0, I 0, I 0, I 0, I 0, .slice none 0 0] rfl rfl (lit_any wr _ _) negE_one (by omega) (by unfold maxLen; omega) (by omega) (by simp; omega) (wr.heap.size + 1) (by simp) ?_; intro g6 cap6 w6 own6 hk6 at6 kp6)))
                  have HG6 : Hid (wp4.grownBy w6 (Value.slice ea b.effs.length ec).ownBlock) := grown_app HG5.out hk6 HV5.out
                  have HV6 : Hid ((Value.slice (some ⟨g6, 0, none⟩) (b.effs.length + k + 1) cap6).ownBlock = (Value.slice ea b.effs.length ec).ownBlock ∨ ∃ b', (Value.slice (some ⟨g6, 0, none⟩) (b.effs.length + k + 1) cap6).ownBlock = some b' ∧ wp4.heap.size ≤ b') := by
                    show _ ∨ _
                    have hsz := HG5.out.size
                    rcases at6 with e | e
                    · rcases HV5.out with e2 | ⟨b', e2, hb'⟩
                      · exact Or.inl (by rw [← e2, e]; rfl)
                      · rw [e2] at e; cases e; exact Or.inr ⟨_, rfl, hb'⟩
                    · exact Or.inr ⟨g6, rfl, by omega⟩
                  have HA6 : Hid (At w6 ea (flat Em.cells ms)) := by
                    show At _ _ _
                    rcases Nat.eq_zero_or_pos b.effs.length with h0 | h0
                    · have : ms = [] := List.eq_nil_of_length_eq_zero (by omega)
                      rw [this]
                      intro j u hj
                      simp [flat] at hj
                    · obtain ⟨p, q, e, hp, hc⟩ := HA5.out.first (by rw [flat_len _ 7 emCells_len]; omega)
                      have hq : q = 0 := HQ0.out p q e
                      subst hq
                      rw [e] at HA5 ⊢
                      refine at_cells HA5.out fun j hj => ?_
                      rw [flat_len _ 7 emCells_len] at hj
                      by_cases hv : u17.ownBlock = some p
                      · rw [kp6 p j hv (by omega)]
                        exact World.cell?_of_block (a := ⟨p, j, none⟩) (Below.heap_alloc wr _ p hp)
                      · rw [World.cell?_of_block (a := ⟨p, j, none⟩) (hk6.block p (by simp; omega) (fun e => hv e.symm))]
                        exact World.cell?_of_block (a := ⟨p, j, none⟩) (Below.heap_alloc wr _ p hp)
                  have HO6 : Hid (w6.ownsRow w.heap.size 43 7 (.slice (some ⟨g6, 0, none⟩) (b.effs.length + k + 1) cap6) (b.effs.length + (k + 1)) (xs ++ [I (-1), I 0, I 0, I 0, I 0, I 0, .slice none 0 0])) := own6
                  clear HG5 HO5 HV5 HA5 HX5 own6 hk6 at6 kp6
                  go_roundw
                  case rel => exact ⟨k + 1, _, by omega, by go_num, HG6, HO6, HV6, HA6, Or.inl (by omega)⟩
                  case measure => simp [intOf]; omega
                · have hk3 : k = 3 := by omega
                  obtain ⟨gX, cX, hX, _, _⟩ := HO5.out.form (by omega)
                  rw [hk3] at hX
                  subst hX
                  clear hk3
                  have HD7 : Hid (Df w wr B Wb Z b ca ea ca2 ea2 cc ec cc2 ec2 ms ms2 u8 gs) := HD4.out.turn DK.out HG5.out HEL.out HA5.out
                  have HC7 : Hid (wr.ownsRow w.heap.size 3 1 u15 (b.clock.length + 3) (List.replicate (b.clock.length + 3) (I (-1)))) := own_kept HO3'.out (fun k e => HG5.out.block k (HO3'.out.lt k e).2 (fun e2 => HVE.out k e e2.symm))
                  clear HD4 HG5 HV5 HA5 HX5 HO3' HVE HEL HO5
                  go_wp2_with fail
                  refine (HW.out wr HD7.out.below).mono ?_
                  rintro e w7 ⟨⟨ca3, ea3, cc3, ec3, ms3, rfl, hef3, hob3⟩, hb7⟩
                  have HEF3 : Hid (b.effs = ms3.map (·.e)) := hef3
                  have OB3 : Hid (Ob (w7.alloc (.cells (bCells b ca3 ea3 cc3 ec3) 25)) wr.heap.size (.slice ca3 b.clock.length cc3) (.slice ea3 b.effs.length ec3) b.clock ms3) := hob3.kept (fun k h1 _ => Below.heap_alloc w7 _ k h1)
                  have hb7a : Below wr.heap.size wr (w7.alloc (.cells (bCells b ca3 ea3 cc3 ec3) 25)) := hb7.alloc hb7.size _
                  have DF7 : Hid (Df w (w7.alloc (.cells (bCells b ca3 ea3 cc3 ec3) 25)) B Wb Z b ca ea ca2 ea2 cc ec cc2 ec2 ms ms2 u8 gs) := HD7.out.kept DK.out hb7a
                  have HC8 : Hid ((w7.alloc (.cells (bCells b ca3 ea3 cc3 ec3) 25)).ownsRow w.heap.size 3 1 u15 (b.clock.length + 3) (List.replicate (b.clock.length + 3) (I (-1)))) := own_kept HC7.out (fun k e => hb7a.block k (HC7.out.lt k e).2)
                  have DF70 := HD7.out.kept DK.out hb7
                  have hWl : Wb < w7.heap.size := DF70.kW.lt
                  have v0 : w7.cell? ⟨Wb, 0, none⟩ = some (I b.o) := DF70.kW.cell 0
                  have v1 : w7.cell? ⟨Wb, 1, none⟩ = some (I b.s) := DF70.kW.cell 1
                  have v2 : w7.cell? ⟨Wb, 2, none⟩ = some (I b.t) := DF70.kW.cell 2
                  have v3 : w7.cell? ⟨Wb, 3, none⟩ = some (.slice ca2 b.clock.length cc2) := DF70.kW.cell 3
                  have v4 : w7.cell? ⟨Wb, 4, none⟩ = some (.slice ea2 b.effs.length ec2) := DF70.kW.cell 4
                  clear hef3 hob3 hb7 hb7a DF70 HD7 HC7
                  go_wp2_with fail
                  clear v0 v1 v2 v3 v4
                  generalize w7.alloc (.cells (bCells b ca3 ea3 cc3 ec3) 25) = w7a at *
                  refine (sameB_any b ca3 ea3 ca2 ea2 cc3 ec3 cc2 ec2 ms3 ms2 w7a (OB3.out.bat HEF3.out) (DF7.out.rf.bat DK.out.effs2) (by omega) (by omega) (fun m hm => by have := HSM.out.2.2 m.e (by rw [HEF3.out]; exact List.mem_map_of_mem hm); omega)).mono ?_
                  rintro e w8 ⟨rfl, hb8⟩
                  have DF8 : Hid (Df w w8 B Wb Z b ca ea ca2 ea2 cc ec cc2 ec2 ms ms2 u8 gs) := DF7.out.kept DK.out hb8
                  have HC9 : Hid (w8.ownsRow w.heap.size 3 1 u15 (b.clock.length + 3) (List.replicate (b.clock.length + 3) (I (-1)))) := own_kept HC8.out (fun k e => hb8.block k (HC8.out.lt k e).2)
                  clear hb8 DF7 HC8 OB3
                  obtain ⟨aV, cV, rfl⟩ := own_slice DF8.out.all
                  obtain ⟨gC, cC, rfl, _, hgC⟩ := HC9.out.form (by omega)
                  have HML2 : Hid (ms2.length = b.effs.length) := by show _ = _; rw [DK.out.effs2]; simp
                  go_wp2_with fail
                  go_loopw [21] (fun x wq => ∃ i : Nat, i ≤ b.effs.length ∧ x = I i ∧ Hid (Below w8.heap.size w8 wq)) (fun x _ => b.effs.length - (intOf x).toNat)
                  case atStart => exact ⟨0, Nat.zero_le _, rfl, Below.refl _ _⟩
                  case round =>
                    obtain ⟨i, hi, rfl, HQ⟩ := hrel
                    have DF9 : Hid (Df w wr B Wb Z b ca ea ca2 ea2 cc ec cc2 ec2 ms ms2 (.slice aV b.effs.length cV) gs) := DF8.out.kept DK.out HQ.out
                    by_cases hli : i < b.effs.length
                    · have hig : i < gs.length := by omega
                      have him : i < ms.length := by omega
                      have him2 : i < ms2.length := by have := HML2.out; omega
                      obtain ⟨gV, cV', hVf, _, hgV⟩ := DF9.out.all.form (by omega)
                      obtain ⟨rfl, rfl⟩ : aV = some ⟨gV, 0, none⟩ ∧ cV = cV' := by simpa using hVf
                      obtain ⟨gA, cA, ss, hgs, hss, hA, hF, hN⟩ := (DF9.out.done i hig him).full
                      have c0 : wr.cell? ⟨gV, i, none⟩ = some (.slice (some ⟨gA, 0, none⟩) 4 cA) := own_cell DF9.out.all (by rw [List.getElem?_eq_getElem hig, hgs])
                      have HA : Hid (∀ k (hk : k < ss.length), wr.cell? ⟨gA, k, none⟩ = some (.slice ss[k].a ss[k].n ss[k].c)) := hA
                      have HF : Hid (∀ s ∈ ss, At wr s.a (marks s.n (mark i))) := hF
                      have HN : Hid (∀ s ∈ ss, s.n ≤ 1000) := hN
                      have HSS : Hid (ss.length = 4) := hss
                      have hii : (i : Int) < (b.effs.length : Int) := by omega
                      clear hVf hgs hss hA hF hN
                      go_wp2_with fail
                      have hq := full_any ss gA cA (mark i) wr HA.out HF.out (by have := HSS.out; omega) HN.out
                      rw [HSS.out] at hq
                      refine hq.mono ?_
                      rintro e w10 ⟨rfl, hb10⟩
                      have DF10 : Hid (Df w w10 B Wb Z b ca ea ca2 ea2 cc ec cc2 ec2 ms ms2 (.slice (some ⟨gV, 0, none⟩) b.effs.length cV) gs) := DF9.out.kept DK.out hb10
                      have HQ2 : Hid (Below w8.heap.size w8 w10) := HQ.out.trans (hb10.mono HQ.out.size)
                      have hop : ms[i].e.op = ms2[i].e.op := by
                        have e1 : ms.map (·.e) = ms2.map (·.e) := DK.out.effs.symm.trans DK.out.effs2
                        have e2 := congrArg (fun l => l[i]?) e1
                        simp [him, him2] at e2
                        rw [e2]
                      obtain ⟨p1, q1, hea, hp1, hc1⟩ := effs_at DF10.out.eff (by omega)
                      obtain ⟨p2, q2, hea2, hp2, hc2⟩ := effs_at (DF10.out.rf.bat DK.out.effs2).cells (by have := HML2.out; omega)
                      have o1 := (hc1 i him).1
                      have o2 := (hc2 i him2).1
                      rw [hop] at o1
                      have b4 : w10.cell? ⟨B, 4, none⟩ = some (.slice ea b.effs.length ec) := DF10.out.kB.cell 4
                      have v4 : w10.cell? ⟨Wb, 4, none⟩ = some (.slice ea2 b.effs.length ec2) := DF10.out.kW.cell 4
                      rw [hea] at b4
                      rw [hea2] at v4
                      generalize ms2[i].e.op = opv at *
                      clear hq hc1 hc2 hea hea2 hb10 c0 HA HF HN HSS DF9 DF10 hop
                      have hov : (opv != opv) = false := by simp
                      go_wp2_with fail
                      go_quiet (fail)
                      go_wp2
                      exact ⟨⟨i + 1, by omega, by go_num, belowN HQ2.out _⟩, by simp [intOf]; omega⟩
                    · obtain rfl : i = b.effs.length := by omega
                      have HC10 : Hid (wr.ownsRow w.heap.size 3 1 (.slice (some ⟨gC, 0, none⟩) (b.clock.length + 3) cC) (b.clock.length + 3) (List.replicate (b.clock.length + 3) (I (-1)))) := own_kept HC9.out (fun k e => HQ.out.block k (HC9.out.lt k e).2)
                      have b4 : wr.cell? ⟨B, 4, none⟩ = some (.slice ea b.effs.length ec) := DF9.out.kB.cell 4
                      have HBW : Hid (Below w.heap.size w wr) := DF9.out.below
                      clear DF9 DF8 HC9 HQ
                      go_wp2_with fail
                      go_loopw [23] (fun x wq => ∃ i : Nat, i ≤ b.clock.length + 3 ∧ x = I i ∧ wq = wr) (fun x _ => b.clock.length + 3 - (intOf x).toNat)
                      case atStart => exact ⟨0, Nat.zero_le _, rfl, rfl⟩
                      case round =>
                        obtain ⟨i, hi, rfl, hw⟩ := hrel
                        subst hw
                        by_cases hli : i < b.clock.length + 3
                        · have x0 : wr.cell? ⟨gC, i, none⟩ = some (I (-1)) := own_cell HC10.out (by rw [List.getElem?_replicate, if_pos hli])
                          have hii : (i : Int) < (b.clock.length : Int) + 3 := by omega
                          go_wp2
                          exact ⟨⟨i + 1, by omega, by go_num, trivial⟩, by simp [intOf]; omega⟩
                        · have hie : i = b.clock.length + 3 := by omega
                          have hnn2 : (nn == nn) = true := by simp
                          go_wp2_with fail
                          go_ret
                          exact ⟨rfl, HBW.out⟩

end Go.Proofs.YtfmcngncaffloaaDoor

namespace Go.Proofs.YtfmcngncaffloaaDoor
open Go.RowKit
set_option maxRecDepth 100000

/-- One of the list may be left out. -/
theorem laidMet.less {P : Program} {x y : String × DataW Unit} {r : List (String × DataW Unit)} {w : World} (h : laidMet P (x :: y :: r) w) : laidMet P (x :: r) w := by
  obtain ⟨ps, hv, hnd, hrows⟩ := h
  obtain ⟨n, d⟩ := x
  obtain ⟨n2, d2⟩ := y
  obtain ⟨g, t, cs, fuel, p, q, h1, h2, h3, h4, ⟨g', t', cs', fuel', p', q', _, _, _, _, hq, rfl⟩, rfl⟩ := hv
  have hsub : (MemPlace.row ⟨g, 0, none⟩ cs.size ++ p ++ q').Sublist (MemPlace.row ⟨g, 0, none⟩ cs.size ++ p ++ (MemPlace.row ⟨g', 0, none⟩ cs'.size ++ p' ++ q')) := (List.Sublist.refl _).append (List.sublist_append_right _ _)
  exact ⟨_, ⟨g, t, cs, fuel, p, q', h1, h2, h3, h4, hq, rfl⟩, hnd.sublist hsub, fun b off hm => hrows b off (hsub.subset hm)⟩

def lits {H : Type} (l : List Int) : DataW H := .agg (l.map fun z => .lit (.int .i64 z))
theorem uInt' : Tryd.prog.underlying 3 = some (.int .i64) := by kernel_rfl
theorem cellsInt' : Tryd.prog.cellsOf 3 = 1 := by kernel_rfl
theorem uKind : Tryd.prog.underlying 92 = some (.int .i64) := by kernel_rfl
theorem cellsKind : Tryd.prog.cellsOf 92 = 1 := by kernel_rfl
theorem uFit : Tryd.prog.underlying 93 = some (.int .i64) := by kernel_rfl
theorem cellsFit : Tryd.prog.cellsOf 93 = 1 := by kernel_rfl
theorem cellsRule : Tryd.prog.cellsOf 95 = 6 := by kernel_rfl
theorem cellsRules : Tryd.prog.cellsOf 117 = 42 := by kernel_rfl
theorem trodRule {H : Type} {enc : TypeId × Value → H} {W : World} {base : Nat} {spare : Nat → Bool} {held : Bool} {fuel : Nat} {cs : List Value} {x : DataW H × List MemPlace} (h : DataW.trod enc Tryd.prog W base spare held fuel 95 cs = some x) :
    ∃ zs : List Int, zs.length = 6 ∧ cs = zs.map I ∧ x.1 = lits zs := by
  obtain ⟨xs, n, _, hx, hl, hlen, hf⟩ := DataW.trod_struct Tryd.underlying95 h
  rw [cellsRule] at hl
  match xs, hlen with
  | [y0, y1, y2, y3, y4, y5], _ =>
    match cs, hl with
    | [c0, c1, c2, c3, c4, c5], _ =>
      have h0 : DataW.trod enc Tryd.prog W base spare held n 92 [c0] = some y0 := by have := hf 0 _ rfl; simpa [cellsKind] using this
      have h1 : DataW.trod enc Tryd.prog W base spare held n 3 [c1] = some y1 := by have := hf 1 _ rfl; simpa [cellsInt'] using this
      have h2 : DataW.trod enc Tryd.prog W base spare held n 3 [c2] = some y2 := by have := hf 2 _ rfl; simpa [cellsInt'] using this
      have h3 : DataW.trod enc Tryd.prog W base spare held n 93 [c3] = some y3 := by have := hf 3 _ rfl; simpa [cellsFit] using this
      have h4 : DataW.trod enc Tryd.prog W base spare held n 3 [c4] = some y4 := by have := hf 4 _ rfl; simpa [cellsInt'] using this
      have h5 : DataW.trod enc Tryd.prog W base spare held n 3 [c5] = some y5 := by have := hf 5 _ rfl; simpa [cellsInt'] using this
      obtain ⟨z0, e0, d0, _⟩ := DataW.trod_int uKind h0
      obtain ⟨z1, e1, d1, _⟩ := DataW.trod_int uInt' h1
      obtain ⟨z2, e2, d2, _⟩ := DataW.trod_int uInt' h2
      obtain ⟨z3, e3, d3, _⟩ := DataW.trod_int uFit h3
      obtain ⟨z4, e4, d4, _⟩ := DataW.trod_int uInt' h4
      obtain ⟨z5, e5, d5, _⟩ := DataW.trod_int uInt' h5
      simp at e0 e1 e2 e3 e4 e5
      exact ⟨[z0, z1, z2, z3, z4, z5], rfl, by simp [e0, e1, e2, e3, e4, e5], by rw [hx]; simp [lits, d0, d1, d2, d3, d4, d5]⟩
theorem lits_inj {H : Type} {a b : List Int} (h : (lits a : DataW H) = lits b) : a = b := by
  simp only [lits, DataW.agg.injEq] at h
  exact List.map_inj_right (fun x y e => by simpa using e) |>.1 h
theorem rules_are : (Rows.laid_weave_batch_rules : DataW Unit) = .agg ((List.range 7).map fun i => lits ((Wv.tab.drop (i * 6)).take 6)) := by kernel_rfl
theorem trodRules {enc : TypeId × Value → Unit} {W : World} {base : Nat} {spare : Nat → Bool} {held : Bool} {fuel : Nat} {cs : List Value} {p : List MemPlace} (h : DataW.trod enc Tryd.prog W base spare held fuel 117 cs = some (Rows.laid_weave_batch_rules, p)) :
    ∀ j, j < 42 → cs[j]? = some (I (Wv.tab.getD j 0)) := by
  obtain ⟨xs, m, _, hx, hl, hlen, hf⟩ := DataW.trod_array Tryd.underlying117 h
  rw [cellsRule] at hf
  have hxs : xs.map (·.1) = (List.range 7).map fun i => lits ((Wv.tab.drop (i * 6)).take 6) := by
    have := congrArg Prod.fst hx
    rw [rules_are] at this
    simpa using this.symm
  intro j hj
  have hi : j / 6 < 7 := by omega
  have hr : j % 6 < 6 := Nat.mod_lt _ (by omega)
  have h1 := hf (j / 6) hi
  rw [List.getElem?_eq_getElem (by omega)] at h1
  obtain ⟨zs, hz, e1, e2⟩ := trodRule h1
  have e3 : (xs[j / 6]'(by omega)).1 = lits ((Wv.tab.drop (j / 6 * 6)).take 6) := by
    have := congrArg (fun l => l[j / 6]?) hxs
    simpa [hi, hlen] using this
  have e4 := lits_inj (e2.symm.trans e3)
  have e5 : ((cs.drop (j / 6 * 6)).take 6)[j % 6]? = cs[j]? := by
    rw [List.getElem?_take_of_lt hr, List.getElem?_drop, show j / 6 * 6 + j % 6 = j by omega]
  rw [← e5, e1, e4, List.getElem?_map, List.getElem?_take_of_lt hr, List.getElem?_drop, show j / 6 * 6 + j % 6 = j by omega]
  have ht : j < Wv.tab.length := hj
  simp [List.getD, ht]

end Go.Proofs.YtfmcngncaffloaaDoor

namespace Go.Proofs.YtfmcngncaffloaaDoor
open Go.RowKit
set_option maxRecDepth 100000

theorem star : "*" ++ "errors.errorString" = "*errors.errorString" := by decide
theorem rowStar (u : TypeId) (h : Tryd.prog.typeName? 3 u = some "*errors.errorString") : u = 149 :=
  typeName_ptr_named (nm := "errors.errorString") (by rw [star]; kernel_rfl) (by kernel_rfl) (by decide) u (by rw [star]; exact h)
theorem cellsErr : Tryd.prog.cellsOf 173 = 1 := by kernel_rfl
theorem cellsStr : Tryd.prog.cellsOf 9 = 1 := by kernel_rfl

theorem pw_of_tab {P : Program} {W : World} {n : String} (hg : P.globalNamed n = some 7) (h : Lib.TabIs P W n .u64 Lib.pow10Tab) : Pw W := by
  unfold Lib.TabIs World.var? at h
  rw [hg] at h
  simp only [Option.bind_some] at h
  split at h
  · rename_i cs t fr e
    cases h
    exact ⟨t, fr, e⟩
  · cases h
theorem gl_of_laid {W : World} (h : laidMetH Tryd.prog Rows.encodesRow.laid W) : ∃ eb ef, Gl W eb ef ∧ Pw W := by
  have h3 : laidMet Tryd.prog _ W := laidMet.tail (laidMet.tail (show laidMet Tryd.prog Rows.encodesRow.laid W from h))
  have h4 := laidMet.tail h3
  have h5 := laidMet.tail h4
  have hp : Pw W := by
    have := Lib.tabIs_of_head (P := Tryd.prog) (zs := Lib.pow10Tab) (k := .u64) (g := 7) (by kernel_rfl) (by kernel_rfl) Tryd.underlying143 Tryd.underlying136 (by kernel_rfl) (by kernel_rfl) h3
    exact pw_of_tab (by kernel_rfl) this
  obtain ⟨a0, a1, s0, s1, c0, c1, t0, t1, hv0, hv1, hc0, hs0, hz0, hc1, hs1, hz1, hne, hb0, hb1⟩ := laid_sentinels2 (laidMet.less h4) (g0 := 4) (g1 := 0) (by kernel_rfl) (by kernel_rfl) (by kernel_rfl) (by kernel_rfl) Tryd.underlying55 rowStar Tryd.underlying149 Tryd.underlying173 rfl rfl Tryd.underlying9 cellsErr cellsStr
  refine ⟨a0, a1, ⟨by simpa using World.var?_cell (by kernel_rfl) hv0 0, by simpa using World.var?_cell (by kernel_rfl) hv1 0, hne, ⟨_, _, hb0⟩, ⟨_, _, hb1⟩, ?_⟩, hp⟩
  obtain ⟨ps, ⟨g, t, cs, fuel, p, q, hg, ht, hv, hd, _, _⟩, _, _⟩ := h5
  obtain rfl : 5 = g := Option.some.inj ((show Tryd.prog.globalNamed _ = some 5 by kernel_rfl).symm.trans hg)
  obtain rfl : 117 = t := Option.some.inj ((show (Tryd.prog.globals[5]?).map (·.type) = some 117 by kernel_rfl).symm.trans ht)
  intro j hj
  rw [World.var?_cell hg hv j, ← Array.getElem?_toList]
  exact trodRules hd j hj

end Go.Proofs.YtfmcngncaffloaaDoor

namespace Go.Proofs.YtfmcngncaffloaaDoor
open Go.RowKit
set_option maxRecDepth 100000

def lessD (x : String × DataW Unit) : Bool := !(x.1 == "weave/frames.ErrLength" || x.1 == "weave/frames.ErrSum" || x.1 == "weave/frames.ErrCut" || x.1 == "weave/frames.ErrRest")
theorem lessD_is : Rows.decodesRow.laid.filter lessD = Rows.encodesRow.laid := by kernel_rfl
theorem gd_of_laid {W : World} (h : laidMetH Tryd.prog Rows.decodesRow.laid W) : (∃ eb ef, Gl W eb ef ∧ Pw W) ∧ Gd W := by
  have h0 : laidMet Tryd.prog Rows.decodesRow.laid W := h
  refine ⟨?_, ?_⟩
  · have h1 := laidMet.filter lessD h0
    rw [lessD_is] at h1
    exact gl_of_laid h1
  · have h6 := laidMet.tail (laidMet.tail (laidMet.tail (laidMet.tail (laidMet.tail (laidMet.tail h0)))))
    have h8 := laidMet.tail (laidMet.tail h6)
    obtain ⟨a0, a1, s0, s1, c0, c1, t0, t1, hv0, hv1, _⟩ := laid_sentinels2 h6 (g0 := 2) (g1 := 3) (by kernel_rfl) (by kernel_rfl) (by kernel_rfl) (by kernel_rfl) Tryd.underlying55 rowStar Tryd.underlying149 Tryd.underlying173 rfl rfl Tryd.underlying9 cellsErr cellsStr
    obtain ⟨a2, a3, s2, s3, c2, c3, t2, t3, hv2, hv3, _⟩ := laid_sentinels2 h8 (g0 := 6) (g1 := 1) (by kernel_rfl) (by kernel_rfl) (by kernel_rfl) (by kernel_rfl) Tryd.underlying55 rowStar Tryd.underlying149 Tryd.underlying173 rfl rfl Tryd.underlying9 cellsErr cellsStr
    exact ⟨⟨a2, by simpa using World.var?_cell (by kernel_rfl) hv2 0⟩, ⟨a0, by simpa using World.var?_cell (by kernel_rfl) hv0 0⟩, ⟨a1, by simpa using World.var?_cell (by kernel_rfl) hv1 0⟩, ⟨a3, by simpa using World.var?_cell (by kernel_rfl) hv3 0⟩⟩

end Go.Proofs.YtfmcngncaffloaaDoor

namespace Go.Proofs.YtfmcngncaffloaaDoor.Dcd
open Go.ChangeShapes Go.WideShapes Go.ChangeAt Go.RowKit
set_option maxRecDepth 100000

theorem own : ownKnob Tryd.prog.godebug = none := by kernel_rfl
theorem laidOut : laidOutB Tryd.prog = true := by kernel_rfl

theorem contract (H : Type) (enc : TypeId × Value → H) (W : World) (base : Nat) (args : Array Value) (ds gs : List (DataW H)) (before : List MemPlace)
    (hval : ∀ (j : Nat) t v, Tryd.f4.params[j]? = some t → args[j]? = some v → Value.okWide Tryd.prog W .any base t v)
    (hW : DataW.Whole enc Tryd.prog Tryd.f4.params.toList Rows.decodesSpec.vars false W args.toList ds gs before)
    (hL : laidMetH Tryd.prog Rows.decodesRow.laid W) :
    Calls Tryd.prog 4 args W fun e W' => ∃ v, e = .returned v ∧ Rows.decodesSpec.post enc Tryd.prog Tryd.f4 false true false false W args v W' := by
  have hW' := hW
  obtain ⟨p, q, hA0, hV, rfl, hfz, hnd⟩ := hW
  have hA : DataW.TrodAll enc Tryd.prog W 0 (fun _ => true) true Tryd.f4.params.toList args.toList ds p := hA0
  rw [Tryd.params4] at hA hval
  obtain ⟨v0, vs0, d0, ds0, p0, q0, hargs, rfl, rfl, h0, r0⟩ := trodAll_cons hA
  obtain ⟨rfl, rfl, rfl⟩ := trodAll_nil r0
  obtain rfl : args = #[v0] := by cases args; simp_all
  obtain ⟨rfl, rfl⟩ := trodVars_none hV
  have hok := hval 0 9 v0 rfl rfl
  obtain ⟨s, rfl, _, _, hsz⟩ := Go.ChangeMaps.open_string Tryd.underlying9 hok h0
  obtain ⟨⟨eb, ef, hg, hp⟩, hd⟩ := gd_of_laid hL
  have hlt := DataW.TrodAll.lt hA
  have hsl : s.data.toList.length = s.size := Array.length_toList
  have hw := decodes_any s.data.toList W eb ef itoa_said hg hp hd (by rw [hsl]; unfold maxLen at hsz; omega)
  rw [← str_eta s] at hw
  refine hw.mono fun e W' ⟨he, hb⟩ => ?_
  subst he
  have hpl : ∀ x ∈ p0, x.block < W.heap.size := fun x hx => hlt x (by simpa using hx)
  have hback : DataW.Trod enc Tryd.prog W' 0 (fun b => decide (b < W.heap.size)) true 9 _ d0 p0 := Below.trod laidOut (by kernel_rfl) (of_decide_eq_true (by kernel_rfl)) h0 hb hpl
  exact ⟨_, rfl, _, _, _, [], p0 ++ [], [], hW', trodAll_cons_mk (shut_bool Tryd.underlying4 _) trodAll_mk0, trodAll_cons_mk hback trodAll_mk0, rfl, hb.frame _, fun h => by cases h⟩

/-! A world that meets the list. -/
def litV : DataW Unit → Value
  | .lit (.int k z) => .int k z
  | _ => .int .i64 0
def rowV : DataW Unit → Array Value
  | .agg l => (l.map litV).toArray
  | _ => #[]
def textV : DataW Unit → Value
  | .iface _ (.ptr (.agg [.lit (.string t)])) => .string ⟨t.toArray⟩
  | _ => .string ⟨#[]⟩
noncomputable def low : Nat := (World.holding Tryd.prog default ⟨#[], #[], []⟩).heap.size
def lay (cs : Array Value) : Obj → Obj
  | .cells _ t frozen => .cells cs t frozen
  | o => o
def sent (d : DataW Unit) : Obj := .cells #[textV d] 173
noncomputable def ptr (n : Nat) : Obj → Obj := lay #[.iface 149 (.pointer (some ⟨low + n, 0, none⟩))]
noncomputable def laidWorld (os : Os) : World :=
  let w0 := World.holding Tryd.prog os ⟨#[sent Rows.laid_weave_batch_ErrBatch, sent Rows.laid_weave_frames_ErrFrame, sent Rows.laid_weave_frames_ErrLength, sent Rows.laid_weave_frames_ErrSum, sent Rows.laid_weave_frames_ErrCut, sent Rows.laid_weave_frames_ErrRest], #[], []⟩
  { w0 with heap := (((((((((w0.heap.modify 8 (lay (rowV Rows.laid_math_bits_deBruijn32tab))).modify 9 (lay (rowV Rows.laid_math_bits_deBruijn64tab))).modify 7 (lay (rowV Rows.laid_internal_strconv_uint64pow10))).modify 5 (lay (Wv.tab.map I).toArray)).modify 4 (ptr 0)).modify 0 (ptr 1)).modify 2 (ptr 2)).modify 3 (ptr 3)).modify 6 (ptr 4)).modify 1 (ptr 5) }
abbrev noStr : Value := .string ⟨#[]⟩
theorem laid_met (os : Os) : laidMet Tryd.prog Rows.decodesRow.laid ((laidWorld os).forCall (fun _ _ => 0) ⟨#[], #[noStr], []⟩).memory :=
  laidMet_of_run' 8 (by kernel_rfl) (by kernel_rfl)
theorem reads (os : Os) {H : Type} (enc : TypeId × Value → H) : ∃ places, DataW.whole enc Tryd.prog ((laidWorld os).forCall (fun _ _ => 0) ⟨#[], #[noStr], []⟩).memory Tryd.f4.params.toList Rows.decodesSpec.vars false #[noStr].toList 8 = some ([.lit (.string [])], [], places) :=
  ⟨[], by kernel_rfl⟩

theorem lifted (os : Os) (started : os.Started) (H : Type) (enc : TypeId × Value → H) (F : Stop.Interp) :
    ReturnsInHanded {} Tryd.checked os 4 .any ((OpenSpec.ofChange Rows.decodesSpec).preRow enc Tryd.prog Tryd.f4 Rows.decodesRow.domain false Rows.decodesRow.laid) (((OpenSpec.ofChange Rows.decodesSpec).at F).post enc Tryd.prog Tryd.f4 false true false false) := by
  obtain ⟨places, hx⟩ := reads os enc
  refine returnsInHanded_of_row (C := Tryd.checked) (s := OpenSpec.ofChange Rows.decodesSpec) own started (by kernel_rfl) Tryd.func4
    (witness_row_at (enc := enc) (C := Tryd.checked) false (laidWorld os) #[noStr] rfl (by kernel_rfl) (by kernel_rfl) (by kernel_rfl)
      (OpenSpec.preRow_of_cond 8 hx (by kernel_rfl) (fun k hk => by cases hk) (by kernel_rfl) (laid_met os))) ?_
  intro W base args ds gs before hval hW _ _ hwt hL _ _
  exact contract H enc W base args ds gs before hval hW hL

theorem said : Rows.DecodesSaid :=
  OpenClaim.holds_of_cond 4 Tryd.f4 rfl rfl rfl rfl rfl rfl rfl ⟨rfl, rfl, rfl, rfl, rfl⟩ rfl rfl rfl rfl rfl (by kernel_rfl) Tryd.func4 (by kernel_rfl)
    (of_decide_eq_true (by kernel_rfl)) (by unfold Func.isWrapper; first | (rw [if_pos (by decide +kernel)]; kernel_rfl) | (rw [if_neg (by decide +kernel)]; exact ⟨rfl, rfl⟩))
    (fun os started H enc _ F => by rw [OpenClaim.pre_eq_preRow]; exact lifted os started H enc F)

/-- No parameter wants a stand-in; the program's own looks are off. -/
theorem plain (f : FuncId) (fn : Func) (hf : Tryd.pinned.checked.prog.funcNamed "weave/weavelaw.Decodes" = some f) (hfn : Tryd.pinned.checked.prog.funcs[f]? = some fn) :
    true = Tryd.pinned.checked.prog.looks [] ∧ ∀ (j : Nat) t, fn.params[j]? = some t → Tryd.pinned.checked.prog.wantsStandIn t = false := by
  obtain rfl : f = 4 := Option.some.inj ((show Tryd.prog.funcNamed "weave/weavelaw.Decodes" = some 4 by kernel_rfl).symm.trans hf) |>.symm
  obtain rfl : fn = Tryd.f4 := (Option.some.inj (Tryd.func4.symm.trans hfn)).symm
  refine ⟨by kernel_rfl, fun j t ht => ?_⟩
  rw [Tryd.params4] at ht
  obtain rfl : t = 9 := by simpa using Array.mem_of_getElem? ht
  exact (show Tryd.prog.wantsStandIn 9 = false by kernel_rfl)

theorem card : Rows.DecodesCardSaid :=
  Claim7.holds_tied_plain_at .later [] _ _ _ _ said (fun _ h => by cases h) (by kernel_rfl) (fun _ h => by cases h) decodes_row_tie rfl ⟨rfl, rfl⟩ (by kernel_rfl) rfl plain (by kernel_rfl)

end Go.Proofs.YtfmcngncaffloaaDoor.Dcd

namespace Go.Proofs.YtfmcngncaffloaaDoor
theorem decodes_card : Rows.DecodesCardSaid := Dcd.card
end Go.Proofs.YtfmcngncaffloaaDoor
