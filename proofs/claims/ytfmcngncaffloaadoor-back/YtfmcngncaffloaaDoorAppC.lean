import Derived.Test.YtfmcngncaffloaaDoorAppB
import Derived.Test.YtfmcngncaffloaaDoorPlain4
namespace Go.Proofs.YtfmcngncaffloaaDoor
open Go.RowKit
set_option maxRecDepth 100000

theorem be1_cells (n : Int) : #[Value.int .u8 (n % 256)] = ((Wv.be1 n).map B8).toArray := by
  simp only [Wv.be1, B8, List.map, Wv.ofNat_toNat]
theorem be1_small (n : Nat) (h : n < 256) : #[Value.int .u8 (n : Int)] = ((Wv.be1 n).map B8).toArray := by
  have e : (n : Int) = (n : Int) % 256 := by omega
  rw [e, be1_cells]
  simp [Wv.be1]
theorem hd4_cells (b : Wv.Bt) (h : b.clock.length ≤ 4) : #[Value.int .u8 (b.o % 256), Value.int .u8 (b.s % 256), Value.int .u8 (b.t % 256), Value.int .u8 (b.clock.length : Int)] = ((Wv.hd4 b).map B8).toArray := by
  have e : Value.int .u8 (b.clock.length : Int) = .int .u8 ((b.clock.length : Int) % 256) := val_int (by omega)
  rw [e]
  simp only [Wv.hd4, Wv.be1, B8, List.map, List.cons_append, List.nil_append, Wv.ofNat_toNat]

set_option maxHeartbeats 1600000 in
theorem head_some (w0 w : World) (v : Value) (l : List UInt8) (b : Wv.Bt) (p q : Nat) (ea : Option Addr) (cc ec : Nat) (hw : Below w0.heap.size w0 w) (hc : Hid (∀ j u, (b.clock.map I)[j]? = some u → w0.cell? ⟨p, q + j, none⟩ = some u)) (ho : OwnB w w0.heap.size v l) (hl : l.length ≤ 1048000) (hcl : b.clock.length ≤ 4) (hel : b.effs.length ≤ 5) :
    Calls Tryd.prog 33 #[v, bV b (some ⟨p, q, none⟩) ea cc ec] w fun e w' => ∃ v', e = .returned v' ∧ OwnB w' w0.heap.size v' (l ++ Wv.headB b) ∧ Grew w w' v v' := by
  obtain ⟨i, hi, hz0, hz1, hz2⟩ := info_parts infoU8
  have HO : Hid (OwnB w w0.heap.size v l) := ho
  have HW : Hid (Below w0.heap.size w0 w) := hw
  have hsz := hw.size
  clear ho hw
  go_enter Tryd.func33, Tryd.ntmps33
  go_wp2_with (first | (at_builtin; go_must (refine wpList_append_own_at _ rfl _ _ _ rfl w0.heap.size 5 i (.int .u8 0) 1 1 Tryd.underlying50 hi hz0 hz1 hz2 rfl (by omega) v l.length (l.map B8) rfl ((HO.out.alloc _).alloc _) ⟨w.heap.size + 1, 0, none⟩ 4 4 ((Wv.hd4 b).map B8) rfl rfl (lit_cells_at (w.alloc (.cells #[I b.o, I b.s, I b.t, .slice (some ⟨p, q, none⟩) b.clock.length cc, .slice ea b.effs.length ec] 25)) _ _ _ (by simp) (hd4_cells b hcl)) (B8_one _) (by unfold maxLen; omega) (by omega) (by simp; omega) ?_; intro v' w' hown hgrow hnil hat; have HG : Hid (Grew (w.alloc (.cells #[I b.o, I b.s, I b.t, .slice (some ⟨p, q, none⟩) b.clock.length cc, .slice ea b.effs.length ec] 25)) w' v v') := (Grew.new _ v).trans (Grew.app hgrow hat); have HO1 : Hid (OwnB w' w0.heap.size v' (l ++ Wv.hd4 b)) := OwnB.append rfl hown; clear hown hgrow hnil hat; have y3 : w'.cell? ⟨w.heap.size, 3, none⟩ = some (.slice (some ⟨p, q, none⟩) b.clock.length cc) := HG.out.cell (HO.out.new_ne (Nat.le_refl _)) (World.cell?_alloc_mark w _ _ _ 3)))
    )
  have HN : Hid (some w.heap.size ≠ v.ownBlock) := HO.out.new_ne (Nat.le_refl _)
  go_loopw [0, 26] (fun t x wr => ∃ k : Nat, k ≤ b.clock.length ∧ x = I k ∧ Hid (OwnB wr w0.heap.size t (l ++ (Wv.hd4 b ++ (b.clock.take k).flatMap Wv.be1))) ∧ Hid (Grew (w.alloc (.cells #[I b.o, I b.s, I b.t, .slice (some ⟨p, q, none⟩) b.clock.length cc, .slice ea b.effs.length ec] 25)) wr v t)) (fun _ x _ => b.clock.length - (intOf x).toNat)
  case atStart => exact ⟨0, Nat.zero_le _, rfl, by simpa using HO1, HG⟩
  case round =>
    obtain ⟨k, hk, rfl, hok, hgk⟩ := hrel
    clear HG HO1 y3
    have hszr : w.heap.size < wr.heap.size := by have := hgk.out.grown.size; simp at this; omega
    have HBr : Hid (Below w0.heap.size w0 wr) := HW.out.trans (((Below.refl _ _).alloc hsz _).trans (hgk.out.below (l := l) (by simp; omega) (HO.out.alloc _)))
    have y4 : wr.cell? ⟨w.heap.size, 4, none⟩ = some (.slice ea b.effs.length ec) := hgk.out.cell HN.out (World.cell?_alloc_mark w _ _ _ 4)
    have HLn : Hid ((l ++ (Wv.hd4 b ++ (b.clock.take k).flatMap Wv.be1)).length ≤ 1048100) := by
      show _ ≤ _
      have h1 := Wv.flat1_len (b.clock.take k)
      have h2 : (Wv.hd4 b).length = 4 := rfl
      simp only [List.length_append, h1, h2, List.length_take]
      omega
    by_cases hlt : k < b.clock.length
    · have c0 : wr.cell? ⟨p, q + k, none⟩ = some (I (b.clock.getD k 0)) := cell_kept HBr.out (hc.out k _ (by simp [hlt]))
      have hpr := lt_of_cell c0
      have HT : Hid ((b.clock.take (k + 1)).flatMap Wv.be1 = (b.clock.take k).flatMap Wv.be1 ++ Wv.be1 (b.clock.getD k 0)) := by
        show _ = _
        rw [Wv.take_flat _ _ _ hlt]; simp [hlt]
      generalize b.clock.getD k 0 = z at c0 HT
      generalize hL : l ++ (Wv.hd4 b ++ (b.clock.take k).flatMap Wv.be1) = L at hok HLn
      have HL : Hid (l ++ (Wv.hd4 b ++ (b.clock.take k).flatMap Wv.be1) = L) := hL
      clear hL
      have hLn := HLn.out
      go_wp2_with (first | (at_builtin; go_must (refine wpList_append_own_at _ rfl _ _ _ rfl w0.heap.size 5 i (.int .u8 0) 1 1 Tryd.underlying50 hi hz0 hz1 hz2 rfl (by omega) u0 L.length (L.map B8) rfl (hok.out.alloc _) ⟨wr.heap.size, 0, none⟩ 1 1 ((Wv.be1 z).map B8) rfl rfl (lit_cells wr _ _ (be1_cells z)) (B8_one _) (by unfold maxLen; omega) (by omega) (by simp; omega) ?_; intro v1 w1 hown hgrow hnil hat; have HG : Hid (Grew wr w1 u0 v1) := (Grew.new _ u0).trans (Grew.app hgrow hat); have HO1 : Hid (OwnB w1 w0.heap.size v1 (L ++ Wv.be1 z)) := OwnB.append rfl hown; clear hown hgrow hnil hat)))
      go_roundw
      case rel => exact ⟨k + 1, by omega, by go_num, by rw [HT.out, ← List.append_assoc (Wv.hd4 b), ← List.append_assoc l, HL.out]; exact HO1, hgk.out.trans HG.out⟩
      case measure => simp [intOf]; omega
    · obtain rfl : k = b.clock.length := by omega
      generalize hL : l ++ (Wv.hd4 b ++ (b.clock.take b.clock.length).flatMap Wv.be1) = L at hok HLn
      have HL : Hid (l ++ (Wv.hd4 b ++ (b.clock.take b.clock.length).flatMap Wv.be1) = L) := hL
      clear hL
      have hLn := HLn.out
      go_wp2_with (first | (at_builtin; go_must (refine wpList_append_own_at _ rfl _ _ _ rfl w0.heap.size 5 i (.int .u8 0) 1 1 Tryd.underlying50 hi hz0 hz1 hz2 rfl (by omega) u0 L.length (L.map B8) rfl (hok.out.alloc _) ⟨wr.heap.size, 0, none⟩ 1 1 ((Wv.be1 b.effs.length).map B8) rfl rfl (lit_cells wr _ _ (be1_small _ (by omega))) (B8_one _) (by unfold maxLen; omega) (by omega) (by simp; omega) ?_; intro v1 w1 hown hgrow hnil hat; have HG : Hid (Grew wr w1 u0 v1) := (Grew.new _ u0).trans (Grew.app hgrow hat); have HO1 : Hid (OwnB w1 w0.heap.size v1 (L ++ Wv.be1 b.effs.length)) := OwnB.append rfl hown; clear hown hgrow hnil hat)))
      go_ret
      refine ⟨_, rfl, ?_, ((Grew.new _ v).trans hgk.out).trans HG.out⟩
      have e : l ++ Wv.headB b = L ++ Wv.be1 b.effs.length := by rw [← HL.out, List.take_length]; simp only [Wv.headB, List.append_assoc]
      rw [e]
      exact HO1.out

end Go.Proofs.YtfmcngncaffloaaDoor
