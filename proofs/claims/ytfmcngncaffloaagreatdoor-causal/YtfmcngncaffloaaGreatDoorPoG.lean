import Derived.Test.YtfmcngncaffloaaGreatDoorG16PoF
import Derived.Test.YtfmcngncaffloaaGreatDoorTbA
import Derived.Test.YtfmcngncaffloaaGreatDoorG18BkJ
import Derived.Deep.RegionHeldLaw
namespace Go.Proofs.YtfmcngncaffloaaGreatDoor
open Go.RowKit
set_option maxRecDepth 100000

/-- A message with those bits of a byte turned. -/
def spoilM (m : Ms) (at_ mask : Nat) : Ms := { m with bs := Wv.chg m.bs at_ (fun _ => UInt8.ofNat mask) 1, sp := true }
theorem set2_flat (ms : List Ms) (k : Nat) (hk : k < ms.length) (s : List UInt8) (b : Bool) : ((flat Ms.cells ms).set (k * 5 + 3) (.string ⟨s.toArray⟩)).set (k * 5 + 4) (.bool b) = flat Ms.cells (ms.set k { ms[k] with bs := s, sp := b }) := by
  have hl : (flat Ms.cells ms).length = ms.length * 5 := flat_len Ms.cells 5 msCells_len ms
  apply List.ext_getElem?
  intro j
  rcases Nat.lt_or_ge j (ms.length * 5) with hj | hj
  · rw [flat_set Ms.cells 5 msCells_len ms k _ j hj]
    simp only [List.getElem?_set, List.length_set, hl]
    by_cases h3 : j = k * 5 + 3
    · subst h3; simp [Ms.cells, hj]
    by_cases h4 : j = k * 5 + 4
    · subst h4; simp [Ms.cells, hj]
    rw [if_neg (by omega), if_neg (by omega)]
    split
    · rename_i hq
      have e : j = k * 5 + (j - k * 5) := by omega
      rw [e, flat_get Ms.cells 5 msCells_len ms k hk _ (by omega)]
      have : j - k * 5 = 0 ∨ j - k * 5 = 1 ∨ j - k * 5 = 2 := by omega
      rcases this with h | h | h <;> rw [h] <;> simp [Ms.cells]
    · rfl
  · rw [List.getElem?_eq_none (by simp only [List.length_set, hl]; omega), List.getElem?_eq_none (by rw [flat_len Ms.cells 5 msCells_len, List.length_set]; omega)]
set_option maxHeartbeats 1600000 in
theorem pspoil_yes (own : Clr) (c pp ch : Nat) (pv : Value) (ms : List Ms) (i j k : Nat) (m : Ms) (w : World) (h : PoIn w own c pp ch pv ms) (hi : ms[i]? = some m) (hsp : m.sp = false) (hk0 : 1 ≤ k) (hk1 : k ≤ 255) (hj : j < m.bs.length) (hl : m.bs.length ≤ 100000) :
    Calls Tryz.prog 54 #[.pointer (some ⟨pp, 0, none⟩), I i, I j, I k] w fun e w' => e = .returned (I 0) ∧ PoOk w own c pp ch (ms.set i (spoilM m j k)) w' := by
  obtain ⟨hk, rfl⟩ := List.getElem?_eq_some_iff.1 hi
  obtain ⟨g, cp, rfl⟩ := row_some h.row (by omega)
  have HP : Hid (PoIn w own c pp ch (.slice (some ⟨g, 0, none⟩) ms.length cp) ms) := h
  have c1 : w.cell? ⟨pp, 1, none⟩ = some (.slice (some ⟨g, 0, none⟩) ms.length cp) := h.blk.cell 1
  obtain ⟨e0, e1, e2, e3, e4⟩ := msgs_of h.row i hk
  have hd : decide (0 ≤ (i : Int) ∧ (i : Int) < (ms.length : Int)) = true := decide_eq_true ⟨by omega, by omega⟩
  have hki : (i : Int) < ms.length := by omega
  have HML : Hid (ms.length ≤ 40) := h.most
  have HSF : Hid (∀ s b, ((flat Ms.cells ms).set (i * 5 + 3) (.string ⟨s.toArray⟩)).set (i * 5 + 4) (.bool b) = flat Ms.cells (ms.set i { ms[i] with bs := s, sp := b })) := fun s b => set2_flat ms i hk s b
  clear h hi
  rw [hsp] at e4
  generalize ms[i] = m at *
  go_enter Tryz.func54, Tryz.ntmps54
  go_wp2_with fail
  refine (phas_any own c pp ch _ ms i w HP.out).mono ?_
  rintro e w1 ⟨rfl, hw1⟩
  subst hw1
  rw [hd]
  have hcv : (convert 9 170 (.string ⟨m.bs.toArray⟩)).run Tryz.prog w1 = .ok (.slice (some ⟨w1.heap.size, 0, none⟩) m.bs.length (grownCap w1 m.bs.length 0 5)) (Lib.bytesWorld w1 5 ⟨m.bs.toArray⟩) := Lib.run_convert_string_bytes w1 _ _ _ _ Tryz.underlying9 Tryz.underlying170 Tryz.underlying5
  have TB2 : Hid (Tb (Lib.bytesWorld w1 5 ⟨m.bs.toArray⟩) w1.heap.size m.bs) := Tb.begin w1 m.bs
  have BB2 : Below w1.heap.size w1 (Lib.bytesWorld w1 5 ⟨m.bs.toArray⟩) := bytes_below w1 _ _
  have HB2 : Hid (Below w1.heap.size w1 (Lib.bytesWorld w1 5 ⟨m.bs.toArray⟩)) := BB2
  clear BB2
  have hji : (j : Int) < (m.bs.length : Int) := by omega
  have hjs : (j : Int) < ((⟨m.bs.toArray⟩ : ByteArray).size : Int) := by show (j : Int) < (m.bs.toArray.size : Int); simp; omega
  have hki0 : ¬ (k : Int) < 1 := by omega
  have hki1 : ¬ (k : Int) > 255 := by omega
  have t0 : (Lib.bytesWorld w1 5 ⟨m.bs.toArray⟩).cell? ⟨w1.heap.size, j, none⟩ = some (B8 m.bs[j]) := TB2.out.cell j hj
  have z0 : (Lib.bytesWorld w1 5 ⟨m.bs.toArray⟩).frozen? ⟨w1.heap.size, j, none⟩ = false := TB2.out.free j hj
  have HCG : Hid (Wv.chg m.bs j (fun _ => UInt8.ofNat k) 1 = m.bs.set j (m.bs[j] ^^^ UInt8.ofNat k)) := by
    show _ = _
    simp [Wv.chg, hj]
  generalize m.bs[j] = cb at *
  have hwk : IntKind.u8.wrap (k : Int) = (k : Int) := by simp [IntKind.wrap, IntKind.bits, IntKind.signed]; omega
  have hxor := xor_b8 cb (k : Int) (by omega) (by omega)
  rw [Int.toNat_natCast] at hxor
  obtain ⟨nb, HNB⟩ : ∃ nb, Hid (cb ^^^ UInt8.ofNat k = nb) := ⟨_, rfl⟩
  rw [HNB.out] at hxor HCG
  obtain ⟨wB, hwB⟩ : ∃ wB, wB = Lib.bytesWorld w1 5 ⟨m.bs.toArray⟩ := ⟨_, rfl⟩
  rw [← hwB] at hcv t0 z0 TB2 HB2
  obtain ⟨wS, hwS⟩ : ∃ wS, wS = wB.setCell ⟨w1.heap.size, j, none⟩ (B8 nb) := ⟨_, rfl⟩
  have TB3 : Hid (Tb wS w1.heap.size (m.bs.set j nb)) := by rw [hwS]; exact TB2.out.set j _
  have HB3 : Hid (Below w1.heap.size w1 wS) := by rw [hwS]; exact HB2.out.setCell (Nat.le_refl _) _
  have HP3 : Hid (PoIn wS own c pp ch (.slice (some ⟨g, 0, none⟩) ms.length cp) ms) := HP.out.keep (fun b hb _ => HB3.out.block b hb) (Ext.refl _ _)
  clear hwB
  have hcs : (convert 170 9 (.slice (some ⟨w1.heap.size, 0, none⟩) m.bs.length (grownCap w1 m.bs.length 0 5))).run Tryz.prog (wB.setCell ⟨w1.heap.size, j, none⟩ (.int .u8 (nb.toNat : Int))) = .ok (.string ⟨(Wv.chg m.bs j (fun _ => UInt8.ofNat k) 1).toArray⟩) (wB.setCell ⟨w1.heap.size, j, none⟩ (.int .u8 (nb.toNat : Int))) := by
    have := conv_cells wS ⟨w1.heap.size, 0, none⟩ (grownCap w1 m.bs.length 0 5) (m.bs.set j nb) (fun q u hq => by
      rw [Addr.add_lit, Nat.zero_add]
      have hq' : q < (m.bs.set j nb).length := by simpa using (List.getElem?_eq_some_iff.1 hq).1
      rw [TB3.out.cell q hq']
      rw [List.getElem?_map, List.getElem?_eq_getElem hq'] at hq
      simpa using hq)
    rw [List.length_set, ← HCG.out] at this
    have e : wB.setCell ⟨w1.heap.size, j, none⟩ (.int .u8 (nb.toNat : Int)) = wS := hwS.symm
    rw [e]
    exact this
  obtain ⟨nl, HNL⟩ : ∃ nl, Hid (Wv.chg m.bs j (fun _ => UInt8.ofNat k) 1 = nl) := ⟨_, rfl⟩
  rw [HNL.out] at hcs
  obtain ⟨gcur, hGB⟩ : ∃ cur, Blk wS g cur 162 := by
    rcases HP3.out.row.2 with ⟨e, _⟩ | ⟨g', cap, cur, e, _, hg, _⟩
    · cases e
    · cases e; exact ⟨cur, hg⟩
  obtain ⟨s0, s1, s2, s3, s4⟩ := msgs_of HP3.out.row i hk
  have z3 : wS.frozen? ⟨g, i * 5 + 3, none⟩ = false := hGB.frozen _
  have z4 : wS.frozen? ⟨g, i * 5 + 4, none⟩ = false := hGB.frozen _
  rw [hwS] at s3 s4 z3 z4
  clear hGB
  go_wp2_with fail
  have HE : Hid (PoOk w1 own c pp ch (ms.set i (spoilM m j k)) ((wS.setCell ⟨g, i * 5 + 3, none⟩ (.string ⟨nl.toArray⟩)).setCell ⟨g, i * 5 + 4, none⟩ (.bool true))) := by
    have hgp : pp ≠ g := by
      rintro rfl
      rcases HP3.out.row.2 with ⟨e, _⟩ | ⟨g', cap, cur, e, _, hg, _⟩
      · cases e
      · cases e
        have h9 := hg.symm.trans HP3.out.blk
        simp at h9
    have hgc : ch ≠ g := by
      rintro rfl
      obtain ⟨_, _, _, hc, _⟩ := HP3.out.chn
      rcases HP3.out.row.2 with ⟨e, _⟩ | ⟨g', cap, cur, e, _, hg, _⟩
      · cases e
      · cases e
        cases hg.symm.trans hc
    have hT : Tch (fun k => k = g) wS ((wS.setCell ⟨g, i * 5 + 3, none⟩ (.string ⟨nl.toArray⟩)).setCell ⟨g, i * 5 + 4, none⟩ (.bool true)) := ((Tch.refl (fun k => k = g) wS).setCell ⟨g, i * 5 + 3, none⟩ _ (Or.inl rfl)).setCell ⟨g, i * 5 + 4, none⟩ _ (Or.inl rfl)
    have hlen : (ms.set i (spoilM m j k)).length = ms.length := List.length_set
    refine ⟨newTo own w1.heap.size 0, .slice (some ⟨g, 0, none⟩) (ms.set i (spoilM m j k)).length cp, newTo_ext _ _ _, ⟨?_, ?_, ?_, (newTo_same _ _ _ _ HP.out.blk.lt).trans HP.out.own1, (newTo_same _ _ _ _ HP.out.chlt).trans HP.out.own2, fun q e => ?_, by rw [hlen]; exact HP.out.most⟩, (Tch.below HB3.out).trans hT (fun _ _ h => h) (fun q _ e => by rw [e]; exact HP.out.own3 g rfl)⟩
    · rw [hlen]; exact hT.blk HP3.out.blk hgp
    · obtain ⟨b, s, r, h1, h2⟩ := HP3.out.chn
      exact ⟨b, s, r, (hT.block ch HP3.out.chlt hgc).trans h1, by rw [hlen]; exact h2⟩
    · have e : ms.set i (spoilM m j k) = ms.set i { m with bs := nl, sp := true } := by
        unfold spoilM
        rw [HNL.out]
      rw [hlen, e, ← HSF.out]
      exact own_setN (own_setN HP3.out.row _ _) _ _
    · cases e
      exact (newTo_same _ _ _ _ (HP.out.row.lt g rfl).2).trans (HP.out.own3 g rfl)
  rw [hwS] at HE
  go_ret
  exact ⟨rfl, HE.out⟩

end Go.Proofs.YtfmcngncaffloaaGreatDoor
