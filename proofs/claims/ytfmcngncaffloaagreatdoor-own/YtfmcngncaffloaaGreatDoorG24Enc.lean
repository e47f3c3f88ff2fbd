import Derived.Test.YtfmcngncaffloaaGreatDoorG21Check
import Derived.Test.YtfmcngncaffloaaGreatDoorG23AppF
namespace Go.Proofs.YtfmcngncaffloaaGreatDoor
open Go.RowKit
set_option maxRecDepth 100000

theorem _root_.Go.Proofs.YtfmcngncaffloaaGreatDoor.Wv.effs_len (l : List Wv.Ef) (h : ∀ e ∈ l, (Wv.effB e).length ≤ 500) : (l.flatMap Wv.effB).length ≤ 500 * l.length := by
  induction l with
  | nil => simp
  | cons e l ih =>
    have h1 := h e (by simp)
    have h2 := ih (fun x hx => h x (by simp [hx]))
    simp only [List.flatMap_cons, List.length_append, List.length_cons]
    omega
theorem _root_.Go.Proofs.YtfmcngncaffloaaGreatDoor.Wv.headB_len (b : Wv.Bt) : (Wv.headB b).length = b.clock.length + 5 := by
  have h1 := Wv.flat1_len b.clock
  have h2 : (Wv.hd4 b).length = 4 := rfl
  simp only [Wv.headB, List.length_append, h1, h2, Wv.be1_len]
  omega
theorem _root_.Go.Proofs.YtfmcngncaffloaaGreatDoor.Wv.headB_pos (b : Wv.Bt) : 1 ≤ (Wv.headB b).length := by have := Wv.headB_len b; omega
theorem effsTo_at (b : Wv.Bt) : ∀ (n k : Nat), k < n → Wv.effsTo b n = true → Wv.effOk b k (b.effs.getD k ⟨0, 0, 0, ⟨0, 0, 0⟩, []⟩) = true
  | n + 1, k, hk, h => by
    rw [Wv.effsTo, Bool.and_eq_true] at h
    rcases Nat.lt_succ_iff_lt_or_eq.1 hk with hk | rfl
    · exact effsTo_at b n k hk h.1
    · exact h.2
theorem isB_effs (b : Wv.Bt) (ms : List Em) (he : b.effs = ms.map (·.e)) (hb : Wv.isB b = true) : ∀ m ∈ ms, (1 ≤ m.e.op ∧ m.e.op ≤ 6) ∧ m.e.dots.length ≤ 150 := by
  intro m hm
  obtain ⟨k, hk, rfl⟩ := List.mem_iff_getElem.1 hm
  simp only [Wv.isB, Bool.and_eq_true] at hb
  have h := effsTo_at b b.effs.length k (by rw [he]; simpa using hk) hb.2
  have e : b.effs.getD k ⟨0, 0, 0, ⟨0, 0, 0⟩, []⟩ = ms[k].e := by rw [he]; simp [hk]
  rw [e] at h
  simp only [Wv.effOk, Wv.isOp, Bool.and_eq_true, decide_eq_true_eq] at h
  refine ⟨h.1.1.1.1.1, ?_⟩
  have h2 := h.1.2.2
  have : Wv.rMostD ms[k].e.op ≤ 150 := by unfold Wv.rMostD; repeat' split <;> omega
  omega

theorem _root_.Go.Proofs.YtfmcngncaffloaaGreatDoor.Grew.below0 {w w' : World} {v' : Value} (h : Grew w w' (.slice none 0 0) v') : Below w.heap.size w w' :=
  ⟨h.grown.os, h.grown.tape, h.grown.output, h.grown.size, fun k hk => h.grown.block k hk (by simp [Value.ownBlock])⟩
theorem own_conv {w : World} {B g n cap : Nat} {l : List UInt8} (h : OwnB w B (.slice (some ⟨g, 0, none⟩) n cap) l) :
    (convert 170 9 (.slice (some ⟨g, 0, none⟩) n cap)).run Tryz.prog w = .ok (.string ⟨l.toArray⟩) w := by
  have hn : n = l.length := by
    rcases h.2 with ⟨e, _⟩ | ⟨_, _, _, e, _⟩
    · cases e
    · injection e
  subst hn
  exact conv_cells w _ _ l (fun j u hu => h.cells rfl j u hu)

set_option maxHeartbeats 3200000 in
theorem fencode_yes (b : Wv.Bt) (ca ea : Option Addr) (cc ec : Nat) (ms : List Em) (w : World) (eb ef : Addr) (hI : ItoaSaid) (g : Gl w eb ef) (hp : Pw w) (h : BatAt w b ca ea ms) (hb : Wv.isB b = true) :
    Calls Tryz.prog 116 #[bV b ca ea cc ec] w fun e w' => e = .returned (.tuple #[.string ⟨(Wv.frameB b).toArray⟩, .nilIface]) ∧ Below w.heap.size w w' := by
  have hpw' : Hid (Pw w) := hp
  have g' : Hid (Gl w eb ef) := g
  have h' : Hid (BatAt w b ca ea ms) := h
  have HF : Hid (Wv.isB b = true) := hb
  have hH : Wv.headOk b = true := by simp only [Wv.isB, Bool.and_eq_true] at hb; exact hb.1
  have hcl : 2 ≤ b.clock.length ∧ b.clock.length ≤ 4 := by
    simp only [Wv.headOk, Bool.and_eq_true, decide_eq_true_eq] at hH
    exact hH.1.1.1.1.1
  have hel : 1 ≤ b.effs.length ∧ b.effs.length ≤ 5 := by
    simp only [Wv.headOk, Bool.and_eq_true, decide_eq_true_eq] at hH
    exact hH.1.2
  have hml : ms.length = b.effs.length := by rw [h.effs]; simp
  have HL : Hid (ms.length = b.effs.length) := hml
  obtain ⟨p, q, rfl, hp0, hc0⟩ := h.clock.first (by simp; omega)
  obtain ⟨p2, q2, rfl, hp2, hc2⟩ := effs_at h.cells (by omega)
  have hcc : Hid _ := hc0
  have hce : Hid _ := hc2
  have HOK : Hid (∀ m ∈ ms, (1 ≤ m.e.op ∧ m.e.op ≤ 6) ∧ m.e.dots.length ≤ 150) := isB_effs b ms h.effs hb
  have HB : Hid (Below w.heap.size w (w.alloc (.cells #[I b.o, I b.s, I b.t, .slice (some ⟨p, q, none⟩) b.clock.length cc, .slice (some ⟨p2, q2, none⟩) b.effs.length ec] 124))) := (Below.refl _ _).alloc (Nat.le_refl _) _
  clear g hp h hb hc0 hc2 hH hml
  go_enter Tryz.func116, Tryz.ntmps116
  go_wp2_with fail
  refine (check_any b _ _ cc ec ms _ eb ef hI (g'.out.kept HB.out) (hpw'.out.kept HB.out) (h'.out.kept HB.out) (by omega) (by omega) (fun m hm => by have := (HOK.out m hm).2; omega)).mono ?_
  rintro e w1 ⟨he, hb1⟩
  have HB1 : Hid (Below w.heap.size w w1) := HB.out.trans (hb1.mono (by simp))
  have hsz1 : w.heap.size < w1.heap.size := by have := hb1.size; simp at this; omega
  unfold ErrEnd2 at he
  rw [HF.out] at he
  obtain rfl := he
  have y0 : w1.cell? ⟨w.heap.size, 0, none⟩ = some (I b.o) := (hb1.cell (p := ⟨w.heap.size, 0, none⟩) (by simp)).trans (World.cell?_alloc_mark w _ _ _ 0)
  have y1 : w1.cell? ⟨w.heap.size, 1, none⟩ = some (I b.s) := (hb1.cell (p := ⟨w.heap.size, 1, none⟩) (by simp)).trans (World.cell?_alloc_mark w _ _ _ 1)
  have y2 : w1.cell? ⟨w.heap.size, 2, none⟩ = some (I b.t) := (hb1.cell (p := ⟨w.heap.size, 2, none⟩) (by simp)).trans (World.cell?_alloc_mark w _ _ _ 2)
  have y3 : w1.cell? ⟨w.heap.size, 3, none⟩ = some (.slice (some ⟨p, q, none⟩) b.clock.length cc) := (hb1.cell (p := ⟨w.heap.size, 3, none⟩) (by simp)).trans (World.cell?_alloc_mark w _ _ _ 3)
  have y4 : w1.cell? ⟨w.heap.size, 4, none⟩ = some (.slice (some ⟨p2, q2, none⟩) b.effs.length ec) := (hb1.cell (p := ⟨w.heap.size, 4, none⟩) (by simp)).trans (World.cell?_alloc_mark w _ _ _ 4)
  clear hb1
  go_wp2_with fail
  refine (head_some w w1 (.slice none 0 0) [] b p q (some ⟨p2, q2, none⟩) cc ec HB1.out hcc (OwnB.nil _ _) (by simp) hcl.2 hel.2).mono ?_
  rintro e w2 ⟨v2, rfl, hO2, hG2⟩
  have HG2 : Hid (Grew w1 w2 (.slice none 0 0) v2) := hG2
  have HO2 : Hid (OwnB w2 w.heap.size v2 (Wv.headB b)) := hO2
  replace y0 := HG2.out.cell (by simp [Value.ownBlock]) y0
  replace y1 := HG2.out.cell (by simp [Value.ownBlock]) y1
  replace y2 := HG2.out.cell (by simp [Value.ownBlock]) y2
  replace y3 := HG2.out.cell (by simp [Value.ownBlock]) y3
  replace y4 := HG2.out.cell (by simp [Value.ownBlock]) y4
  clear hO2 hG2
  go_wp2_with fail
  clear y0 y1 y2 y3 y4
  have HEL : Hid (∀ e ∈ b.effs, (Wv.effB e).length ≤ 500) := by
    show ∀ e ∈ b.effs, _
    rw [h'.out.effs]
    intro e he
    obtain ⟨m, hm, rfl⟩ := List.mem_map.1 he
    exact Wv.effB_len _ (HOK.out m hm).2
  go_loopw [5, 19] (fun t x wr => ∃ k : Nat, k ≤ b.effs.length ∧ x = I k ∧ Hid (OwnB wr w.heap.size t (Wv.headB b ++ (b.effs.take k).flatMap Wv.effB)) ∧ Hid (Grew w1 wr (.slice none 0 0) t)) (fun _ x _ => b.effs.length - (intOf x).toNat)
  case atStart => exact ⟨0, Nat.zero_le _, rfl, by simpa using HO2, HG2⟩
  case round =>
    obtain ⟨k, hk, rfl, hok, hgk⟩ := hrel
    clear HG2 HO2
    have HBr : Hid (Below w.heap.size w wr) := HB1.out.trans (hgk.out.below (l := []) (by omega) (OwnB.nil _ _))
    have hszr : w.heap.size ≤ wr.heap.size := HBr.out.size
    have HLn : Hid ((Wv.headB b ++ (b.effs.take k).flatMap Wv.effB).length ≤ 10000) := by
      show _ ≤ _
      have h1 := Wv.effs_len (b.effs.take k) (fun e he => HEL.out e (List.mem_of_mem_take he))
      have h2 := Wv.headB_len b
      simp only [List.length_append, List.length_take] at h1 ⊢
      omega
    by_cases hlt : k < b.effs.length
    · have hlt' : k < ms.length := by rw [HL.out]; exact hlt
      obtain ⟨c0, c1, c2, c3, c4, c5, c6⟩ := hce.out k hlt'
      replace c0 := cell_kept HBr.out c0
      replace c1 := cell_kept HBr.out c1
      replace c2 := cell_kept HBr.out c2
      replace c3 := cell_kept HBr.out c3
      replace c4 := cell_kept HBr.out c4
      replace c5 := cell_kept HBr.out c5
      replace c6 := cell_kept HBr.out c6
      have hpr := lt_of_cell c0
      have HM : Hid (ms[k] ∈ ms ∧ (b.effs.take (k + 1)).flatMap Wv.effB = (b.effs.take k).flatMap Wv.effB ++ Wv.effB ms[k].e) := by
        refine ⟨List.getElem_mem _, ?_⟩
        rw [Wv.take_flat _ _ _ hlt]
        simp [h'.out.effs]
      generalize ms[k] = m at c0 c1 c2 c3 c4 c5 c6 HM
      generalize hL : Wv.headB b ++ (b.effs.take k).flatMap Wv.effB = L at hok HLn
      have HLL : Hid (Wv.headB b ++ (b.effs.take k).flatMap Wv.effB = L) := hL
      clear hL
      have HX : Hid (Below w.heap.size w (wr.alloc (.cells #[I m.e.op, I m.e.ob, I m.e.va, I m.e.ref.o, I m.e.ref.s, I m.e.ref.i, .slice m.da m.e.dots.length m.dc] 149))) := HBr.out.alloc hszr _
      go_wp2_with fail
      refine (eff_any w _ u5 L m eb ef g'.out HX.out (hok.out.alloc _) (by have := HLn.out; omega) (HOK.out m HM.out.1).1 (h'.out.dots m HM.out.1) (HOK.out m HM.out.1).2).mono ?_
      rintro e w7 ⟨v7, rfl, hO7, hG7⟩
      have HO7 : Hid (OwnB w7 w.heap.size v7 (L ++ Wv.effB m.e)) := hO7
      have HG7 : Hid (Grew wr w7 u5 v7) := (Grew.new _ u5).trans hG7
      clear hO7 hG7
      go_wp2
      go_roundw
      case rel => exact ⟨k + 1, by omega, by go_num, by rw [HM.out.2, ← List.append_assoc, HLL.out]; exact HO7, hgk.out.trans HG7.out⟩
      case measure => simp [intOf]; omega
    · obtain rfl : k = b.effs.length := by omega
      have HC : Hid (OwnB wr w.heap.size u5 (Wv.contentB b)) := by
        have := hok.out
        rw [List.take_length] at this
        exact this
      have HCn : Hid ((Wv.contentB b).length ≤ 10000 ∧ 1 ≤ (Wv.contentB b).length) := by
        have h1 := HLn.out
        rw [List.take_length] at h1
        refine ⟨h1, ?_⟩
        have := Wv.headB_pos b
        simp only [Wv.contentB, List.length_append]
        omega
      obtain ⟨gg, cap, hu⟩ := Joins.ownsRow_form HC.out (by have := HCn.out.2; omega)
      subst hu
      clear hok HLn
      have hcn := HCn.out
      go_wp2_with fail
      refine (two_any (.slice none 0 0) [] _ w.heap.size wr hszr (OwnB.nil _ _) (by simp)).mono ?_
      rintro e w9 ⟨v9, rfl, hO9, hG9⟩
      have HX9 : Hid (Below wr.heap.size wr w9) := hG9.below0
      have e9 : (2 + ((Wv.contentB b).length : Int) + 4) = ((Wv.contentB b).length : Int) + 6 := by omega
      rw [e9] at hO9
      have HO9 : Hid (OwnB w9 w.heap.size v9 (Wv.be2 (((Wv.contentB b).length : Int) + 6))) := hO9
      have HC9 : Hid (OwnB w9 w.heap.size (.slice (some ⟨gg, 0, none⟩) (Wv.contentB b).length cap) (Wv.contentB b)) := HC.out.kept HX9.out
      have HB9 : Hid (Below w.heap.size w w9) := HBr.out.trans (HX9.out.mono hszr)
      obtain ⟨g9, cap9, h9⟩ := Joins.ownsRow_form HO9.out (by simp [Wv.be2])
      have h9' : v9 = .slice (some ⟨g9, 0, none⟩) 2 cap9 := h9
      subst h9'
      have hq1 := own_conv HO9.out
      have hq2 := own_conv HC9.out
      have h2 : (Wv.be2 (((Wv.contentB b).length : Int) + 6)).length = 2 := rfl
      have hle : ¬ 9223372036854775807 < (Wv.be2 (((Wv.contentB b).length : Int) + 6)).length + (Wv.contentB b).length := by omega
      have hss : ((⟨(Wv.be2 (((Wv.contentB b).length : Int) + 6)).toArray⟩ ++ ⟨(Wv.contentB b).toArray⟩ : ByteArray)).size ≤ 1048576 := by
        rw [str_append]
        show (Wv.be2 (((Wv.contentB b).length : Int) + 6) ++ Wv.contentB b).toArray.size ≤ _
        simp only [List.size_toArray, List.length_append]
        omega
      have HSS : Hid _ := hss
      have HFr : Hid ((⟨(((⟨(Wv.be2 (((Wv.contentB b).length : Int) + 6)).toArray⟩ ++ ⟨(Wv.contentB b).toArray⟩ : ByteArray)).data.toList ++ Wv.be4 (Wv.sum ((⟨(Wv.be2 (((Wv.contentB b).length : Int) + 6)).toArray⟩ ++ ⟨(Wv.contentB b).toArray⟩ : ByteArray)).data.toList : Nat)).toArray⟩ : ByteArray) = ⟨(Wv.frameB b).toArray⟩) := by
        show _ = _
        rw [str_append]
        rfl
      clear hO9 hG9 e9 h9 h2 hss
      go_wp2_with (first | (go_at_call 160; refine (seal_any _ _ HSS.out).mono ?_; rw [HFr.out]; rintro e w10 ⟨rfl, hb10⟩))
      go_ret2
      exact ⟨rfl, HB9.out.trans (hb10.mono (by have := HB9.out.size; omega))⟩

end Go.Proofs.YtfmcngncaffloaaGreatDoor
