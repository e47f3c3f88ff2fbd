import Derived.Test.YtfmcngncaffloaaDoorIsG
import Derived.Deep.RegionHeld3
import Derived.Test.YtfmcngncaffloaaDoorTkB
import Derived.Test.YtfmcngncaffloaaDoorDkA
import Derived.Test.YtfmcngncaffloaaDoorRdrB
import Derived.Test.YtfmcngncaffloaaDoorDkB
namespace Go.Proofs.YtfmcngncaffloaaDoor
open Go.RowKit
set_option maxRecDepth 100000

theorem isBatch_any (b : Wv.Bt) (ca ea : Option Addr) (cc ec : Nat) (ms : List Em) (w : World) (h : BatAt w b ca ea ms) (hn' : b.effs.length ≤ 9223372036854775807) :
    Calls Tryd.prog 22 #[bV b ca ea cc ec] w fun e w' => e = .returned (.bool (Wv.isB b)) ∧ Below w.heap.size w w' := by
  by_cases h1 : 2 ≤ b.clock.length ∧ b.clock.length ≤ 4 ∧ 0 ≤ b.o ∧ b.o < b.clock.length
  · obtain ⟨a1, a2, a3, a4⟩ := h1
    by_cases h2 : 1 ≤ b.s ∧ b.s ≤ 30 ∧ 1 ≤ b.t ∧ b.t ≤ 200
    · obtain ⟨g1, g2, g3, g4⟩ := h2
      obtain ⟨p, q, rfl, hp, hc⟩ := h.clock.first (by simp; omega)
      by_cases hz : b.clock.getD b.o.toNat 0 = b.s - 1
      · exact isBatch_4 b ea cc ec p q ms w a1 a2 a3 a4 g1 g2 g3 g4 h hc hp hz hn'
      · exact isBatch_3 b ea cc ec p q w a1 a2 a3 a4 g1 g2 g3 g4 hc hp hz
    · exact isBatch_2 b ca ea cc ec w a1 a2 a3 a4 h2
  · exact isBatch_1 b ca ea cc ec w h1

theorem bytes1 (n : Int) (w : World) : Calls Tryd.prog 23 #[I n, .int .i64 1] w fun e w' => e = .returned (.string ⟨(Wv.be1 n).toArray⟩) ∧ Below w.heap.size w w' := by
  have := bytes_any n 1 (by omega) (by omega) w
  simpa [beN] using this
theorem bytes2 (n : Int) (w : World) : Calls Tryd.prog 23 #[I n, .int .i64 2] w fun e w' => e = .returned (.string ⟨(Wv.be2 n).toArray⟩) ∧ Below w.heap.size w w' := by
  have e : beN n 2 = Wv.be2 n := by simp [beN, Wv.be1, Wv.be2]
  have := bytes_any n 2 (by omega) (by omega) w
  rw [e] at this
  exact this
theorem bytes4 (n : Int) (w : World) : Calls Tryd.prog 23 #[I n, .int .i64 4] w fun e w' => e = .returned (.string ⟨(Wv.be4 n).toArray⟩) ∧ Below w.heap.size w w' := by
  have e : beN n 4 = Wv.be4 n := by
    simp only [beN, Wv.be1, Wv.be4, List.nil_append, List.cons_append]
    have h2 : n / 256 / 256 = n / 65536 := by omega
    have h3 : n / 256 / 256 / 256 = n / 16777216 := by omega
    rw [h3, h2]
  have := bytes_any n 4 (by omega) (by omega) w
  rw [e] at this
  exact this

set_option maxHeartbeats 1600000 in
theorem rdot_any (d : Wv.Dt) (w : World) :
    Calls Tryd.prog 24 #[dotV d] w fun e w' => e = .returned (.string ⟨(Wv.dotB d).toArray⟩) ∧ Below w.heap.size w w' := by
  have l1 : ∀ n, (Wv.be1 n).length = 1 := Wv.be1_len
  have HB : Hid (Below w.heap.size w (w.alloc (.cells #[I d.o, I d.s, I d.i] 40))) := (Below.refl _ _).alloc (Nat.le_refl _) _
  go_enter Tryd.func24, Tryd.ntmps24
  go_wp2_with fail
  go_region_held3 (fun w' => w'.cell? ⟨w.heap.size, 0, none⟩ = some (I d.o) ∧ w'.cell? ⟨w.heap.size, 1, none⟩ = some (I d.s) ∧ w'.cell? ⟨w.heap.size, 2, none⟩ = some (I d.i)) (first | go_keep | (refine ⟨cell_kept hb ?_, cell_kept hb ?_, cell_kept hb ?_⟩ <;> go_keep))
    (first | (go_at_call 23; refine (bytes1 _ _).mono ?_; rintro e w' ⟨rfl, hb⟩; have HC : Hid (Below w.heap.size w w') := (by first | exact HC.out.trans (hb.mono (by have := HC.out.size; omega)) | exact HB.out.drew.trans (hb.mono (by simp)))))
  go_wp2
  go_ret
  exact ⟨ret_str (by rw [str_append, str_append]; rfl), HC.out⟩

end Go.Proofs.YtfmcngncaffloaaDoor

namespace Go.Proofs.YtfmcngncaffloaaDoor
open Go.RowKit
set_option maxRecDepth 100000

theorem rsum_any (l : List UInt8) (w : World) (hs : l.length ≤ 9223372036854775807) :
    Calls Tryd.prog 25 #[.string ⟨l.toArray⟩] w fun e w' => e = .returned (.int .i64 (Wv.sum l : Nat)) ∧ w' = w := by
  have := refsum_any ⟨l.toArray⟩ w (by rw [str_size]; unfold maxLen; omega)
  exact this
theorem str_mid (l : List UInt8) (a n : Nat) : (⟨l.toArray⟩ : ByteArray).extract a n = ⟨((l.take n).drop a).toArray⟩ := by
  apply ByteArray.ext
  simp [ByteArray.data_extract, List.drop_take]

set_option maxHeartbeats 1600000 in
theorem rdec_short (l : List UInt8) (w : World) (h : l.length < 6) :
    Calls Tryd.prog 11 #[.string ⟨l.toArray⟩] w fun e w' => e = .returned (.tuple #[zeroBat, I 15]) ∧ Below w.heap.size w w' := by
  have hs := str_size l
  have HK : Hid (Blk (w.alloc (.cells #[.int .i64 0, .int .i64 0, .int .i64 0, .slice none 0 0, .slice none 0 0] 25)) w.heap.size #[.int .i64 0, .int .i64 0, .int .i64 0, .slice none 0 0, .slice none 0 0] 25) := heap_alloc_new w _
  have HB : Hid (Below w.heap.size w (w.alloc (.cells #[.int .i64 0, .int .i64 0, .int .i64 0, .slice none 0 0, .slice none 0 0] 25))) := (Below.refl _ _).alloc (Nat.le_refl _) _
  have hd : decide ((l.length : Int) < 6) = true := by simp; omega
  go_enter Tryd.func11, Tryd.ntmps11
  go_wp2_with fail
  go_quiet (fail)
  have HKX : Hid (Blk ((w.alloc (.cells #[.int .i64 0, .int .i64 0, .int .i64 0, .slice none 0 0, .slice none 0 0] 25)).drewN nq) w.heap.size #[.int .i64 0, .int .i64 0, .int .i64 0, .slice none 0 0, .slice none 0 0] 25) := HK.out
  have HBX : Hid (Below w.heap.size w ((w.alloc (.cells #[.int .i64 0, .int .i64 0, .int .i64 0, .slice none 0 0, .slice none 0 0] 25)).drewN nq)) := belowN HB.out nq
  generalize (w.alloc (.cells #[.int .i64 0, .int .i64 0, .int .i64 0, .slice none 0 0, .slice none 0 0] 25)).drewN nq = wX at *
  have k0 : wX.cell? ⟨w.heap.size, 0, none⟩ = some (.int .i64 0) := HKX.out.cell 0
  have z0 := HKX.out.frozen 0
  have k1 : wX.cell? ⟨w.heap.size, 1, none⟩ = some (.int .i64 0) := HKX.out.cell 1
  have z1 := HKX.out.frozen 1
  have k2 : wX.cell? ⟨w.heap.size, 2, none⟩ = some (.int .i64 0) := HKX.out.cell 2
  have z2 := HKX.out.frozen 2
  have k3 : wX.cell? ⟨w.heap.size, 3, none⟩ = some (.slice none 0 0) := HKX.out.cell 3
  have z3 := HKX.out.frozen 3
  have k4 : wX.cell? ⟨w.heap.size, 4, none⟩ = some (.slice none 0 0) := HKX.out.cell 4
  have z4 := HKX.out.frozen 4
  go_wp2
  have HF : Hid (Blk (put5 wX w.heap.size (.int .i64 0) (.int .i64 0) (.int .i64 0) (.slice none 0 0) (.slice none 0 0)) w.heap.size #[.int .i64 0, .int .i64 0, .int .i64 0, .slice none 0 0, .slice none 0 0] 25) := put5_blk HKX.out _ _ _ _ _
  have HY : Hid (Below w.heap.size w (put5 wX w.heap.size (.int .i64 0) (.int .i64 0) (.int .i64 0) (.slice none 0 0) (.slice none 0 0))) := ((((HBX.out.setCell (Nat.le_refl _) _).setCell (Nat.le_refl _) _).setCell (Nat.le_refl _) _).setCell (Nat.le_refl _) _).setCell (Nat.le_refl _) _
  unfold put5 at HF HY
  generalize (((((wX.setCell ⟨w.heap.size, 0, none⟩ (.int .i64 0)).setCell ⟨w.heap.size, 1, none⟩ (.int .i64 0)).setCell ⟨w.heap.size, 2, none⟩ (.int .i64 0)).setCell ⟨w.heap.size, 3, none⟩ (.slice none 0 0)).setCell ⟨w.heap.size, 4, none⟩ (.slice none 0 0)) = wF at *
  have f0 : wF.cell? ⟨w.heap.size, 0, none⟩ = some (.int .i64 0) := HF.out.cell 0
  have f1 : wF.cell? ⟨w.heap.size, 1, none⟩ = some (.int .i64 0) := HF.out.cell 1
  have f2 : wF.cell? ⟨w.heap.size, 2, none⟩ = some (.int .i64 0) := HF.out.cell 2
  have f3 : wF.cell? ⟨w.heap.size, 3, none⟩ = some (.slice none 0 0) := HF.out.cell 3
  have f4 : wF.cell? ⟨w.heap.size, 4, none⟩ = some (.slice none 0 0) := HF.out.cell 4
  refine bodyPost_ret (v := .tuple #[zeroBat, I 15]) (by simp [results, Tryd.results11, go_sem, f0, f1, f2, f3, f4]) rfl ⟨rfl, HY.out⟩

set_option maxHeartbeats 1600000 in
theorem rdec_len (l : List UInt8) (w : World) (h : 6 ≤ l.length) (hlen : l.length ≤ 9223372036854775807) (hn : ¬ Wv.num2 l = l.length) :
    Calls Tryd.prog 11 #[.string ⟨l.toArray⟩] w fun e w' => e = .returned (.tuple #[zeroBat, I 15]) ∧ Below w.heap.size w w' := by
  have hs := str_size l
  have HK : Hid (Blk (w.alloc (.cells #[.int .i64 0, .int .i64 0, .int .i64 0, .slice none 0 0, .slice none 0 0] 25)) w.heap.size #[.int .i64 0, .int .i64 0, .int .i64 0, .slice none 0 0, .slice none 0 0] 25) := heap_alloc_new w _
  have HB : Hid (Below w.heap.size w (w.alloc (.cells #[.int .i64 0, .int .i64 0, .int .i64 0, .slice none 0 0, .slice none 0 0] 25))) := (Below.refl _ _).alloc (Nat.le_refl _) _
  have hd : decide ((l.length : Int) < 6) = false := by simp; omega
  have hx : (⟨l.toArray⟩ : ByteArray).extract 0 2 = ⟨(l.take 2).toArray⟩ := str_take _ _
  have h2 := Wv.num_two l (by omega)
  have hn1 : ((Wv.numB (l.take 2) : Nat) : Int) ≠ l.length := by rw [h2]; exact hn
  have hg : (((Wv.numB (l.take 2) : Nat) : Int) != (l.length : Int)) = true := by simpa using hn1
  have hg2 : ¬ Wv.numB (l.take 2) = l.length := by intro e; apply hn1; omega
  clear h2 hn
  go_enter Tryd.func11, Tryd.ntmps11
  go_wp2_with fail
  go_quiet (first | (go_at_call 27; exact Calls.quiet_of_same (number_any _ _ (by first | (rw [List.length_take]; omega) | (unfold Wv.tail4; rw [List.length_drop]; omega)))) | (go_at_call 25; exact Calls.quiet_of_same (rsum_any _ _ (by rw [Wv.body_len]; omega))))
  have HKX : Hid (Blk ((w.alloc (.cells #[.int .i64 0, .int .i64 0, .int .i64 0, .slice none 0 0, .slice none 0 0] 25)).drewN nq) w.heap.size #[.int .i64 0, .int .i64 0, .int .i64 0, .slice none 0 0, .slice none 0 0] 25) := HK.out
  have HBX : Hid (Below w.heap.size w ((w.alloc (.cells #[.int .i64 0, .int .i64 0, .int .i64 0, .slice none 0 0, .slice none 0 0] 25)).drewN nq)) := belowN HB.out nq
  generalize (w.alloc (.cells #[.int .i64 0, .int .i64 0, .int .i64 0, .slice none 0 0, .slice none 0 0] 25)).drewN nq = wX at *
  have k0 : wX.cell? ⟨w.heap.size, 0, none⟩ = some (.int .i64 0) := HKX.out.cell 0
  have z0 := HKX.out.frozen 0
  have k1 : wX.cell? ⟨w.heap.size, 1, none⟩ = some (.int .i64 0) := HKX.out.cell 1
  have z1 := HKX.out.frozen 1
  have k2 : wX.cell? ⟨w.heap.size, 2, none⟩ = some (.int .i64 0) := HKX.out.cell 2
  have z2 := HKX.out.frozen 2
  have k3 : wX.cell? ⟨w.heap.size, 3, none⟩ = some (.slice none 0 0) := HKX.out.cell 3
  have z3 := HKX.out.frozen 3
  have k4 : wX.cell? ⟨w.heap.size, 4, none⟩ = some (.slice none 0 0) := HKX.out.cell 4
  have z4 := HKX.out.frozen 4
  go_wp2
  have HF : Hid (Blk (put5 wX w.heap.size (.int .i64 0) (.int .i64 0) (.int .i64 0) (.slice none 0 0) (.slice none 0 0)) w.heap.size #[.int .i64 0, .int .i64 0, .int .i64 0, .slice none 0 0, .slice none 0 0] 25) := put5_blk HKX.out _ _ _ _ _
  have HY : Hid (Below w.heap.size w (put5 wX w.heap.size (.int .i64 0) (.int .i64 0) (.int .i64 0) (.slice none 0 0) (.slice none 0 0))) := ((((HBX.out.setCell (Nat.le_refl _) _).setCell (Nat.le_refl _) _).setCell (Nat.le_refl _) _).setCell (Nat.le_refl _) _).setCell (Nat.le_refl _) _
  unfold put5 at HF HY
  generalize (((((wX.setCell ⟨w.heap.size, 0, none⟩ (.int .i64 0)).setCell ⟨w.heap.size, 1, none⟩ (.int .i64 0)).setCell ⟨w.heap.size, 2, none⟩ (.int .i64 0)).setCell ⟨w.heap.size, 3, none⟩ (.slice none 0 0)).setCell ⟨w.heap.size, 4, none⟩ (.slice none 0 0)) = wF at *
  have f0 : wF.cell? ⟨w.heap.size, 0, none⟩ = some (.int .i64 0) := HF.out.cell 0
  have f1 : wF.cell? ⟨w.heap.size, 1, none⟩ = some (.int .i64 0) := HF.out.cell 1
  have f2 : wF.cell? ⟨w.heap.size, 2, none⟩ = some (.int .i64 0) := HF.out.cell 2
  have f3 : wF.cell? ⟨w.heap.size, 3, none⟩ = some (.slice none 0 0) := HF.out.cell 3
  have f4 : wF.cell? ⟨w.heap.size, 4, none⟩ = some (.slice none 0 0) := HF.out.cell 4
  refine bodyPost_ret (v := .tuple #[zeroBat, I 15]) (by simp [results, Tryd.results11, go_sem, f0, f1, f2, f3, f4]) rfl ⟨rfl, HY.out⟩

set_option maxHeartbeats 1600000 in
theorem rdec_sum (l : List UInt8) (w : World) (h : 6 ≤ l.length) (hn : Wv.num2 l = l.length) (ht : ¬ Wv.tail4 l = Wv.be4 (Wv.sum (Wv.body l) : Nat)) :
    Calls Tryd.prog 11 #[.string ⟨l.toArray⟩] w fun e w' => e = .returned (.tuple #[zeroBat, I 15]) ∧ Below w.heap.size w w' := by
  have hs := str_size l
  have HK : Hid (Blk (w.alloc (.cells #[.int .i64 0, .int .i64 0, .int .i64 0, .slice none 0 0, .slice none 0 0] 25)) w.heap.size #[.int .i64 0, .int .i64 0, .int .i64 0, .slice none 0 0, .slice none 0 0] 25) := heap_alloc_new w _
  have HB : Hid (Below w.heap.size w (w.alloc (.cells #[.int .i64 0, .int .i64 0, .int .i64 0, .slice none 0 0, .slice none 0 0] 25))) := (Below.refl _ _).alloc (Nat.le_refl _) _
  have hd : decide ((l.length : Int) < 6) = false := by simp; omega
  have h6 : l.length ≤ 65535 := by have := (Wv.num2_le l).2; omega
  have hx : (⟨l.toArray⟩ : ByteArray).extract 0 2 = ⟨(l.take 2).toArray⟩ := str_take _ _
  have hx2 : (⟨l.toArray⟩ : ByteArray).extract 0 (l.length - 4) = ⟨(Wv.body l).toArray⟩ := str_take _ _
  have hx3 : (⟨l.toArray⟩ : ByteArray).extract (l.length - 4) l.length = ⟨(Wv.tail4 l).toArray⟩ := str_drop _ _
  have h2 := Wv.num_two l (by omega)
  have hn1 : ((Wv.numB (l.take 2) : Nat) : Int) = l.length := by rw [h2]; exact hn
  have hg : (((Wv.numB (l.take 2) : Nat) : Int) != (l.length : Int)) = false := by simpa using hn1
  have hgn : Wv.numB (l.take 2) = l.length := by omega
  have hg2 : ¬ Wv.sum (Wv.body l) = Wv.numB (Wv.tail4 l) := fun e => ht ((Wv.num_four l (by omega)).1 e)
  have hg3 : (((Wv.sum (Wv.body l) : Nat) : Int) != ((Wv.numB (Wv.tail4 l) : Nat) : Int)) = true := by simp only [bne_iff_ne, ne_eq]; omega
  clear h2 hn ht
  go_enter Tryd.func11, Tryd.ntmps11
  go_wp2_with fail
  go_quiet (first | (go_at_call 27; exact Calls.quiet_of_same (number_any _ _ (by first | (rw [List.length_take]; omega) | (unfold Wv.tail4; rw [List.length_drop]; omega)))) | (go_at_call 25; exact Calls.quiet_of_same (rsum_any _ _ (by rw [Wv.body_len]; omega))))
  have HKX : Hid (Blk ((w.alloc (.cells #[.int .i64 0, .int .i64 0, .int .i64 0, .slice none 0 0, .slice none 0 0] 25)).drewN nq) w.heap.size #[.int .i64 0, .int .i64 0, .int .i64 0, .slice none 0 0, .slice none 0 0] 25) := HK.out
  have HBX : Hid (Below w.heap.size w ((w.alloc (.cells #[.int .i64 0, .int .i64 0, .int .i64 0, .slice none 0 0, .slice none 0 0] 25)).drewN nq)) := belowN HB.out nq
  generalize (w.alloc (.cells #[.int .i64 0, .int .i64 0, .int .i64 0, .slice none 0 0, .slice none 0 0] 25)).drewN nq = wX at *
  have k0 : wX.cell? ⟨w.heap.size, 0, none⟩ = some (.int .i64 0) := HKX.out.cell 0
  have z0 := HKX.out.frozen 0
  have k1 : wX.cell? ⟨w.heap.size, 1, none⟩ = some (.int .i64 0) := HKX.out.cell 1
  have z1 := HKX.out.frozen 1
  have k2 : wX.cell? ⟨w.heap.size, 2, none⟩ = some (.int .i64 0) := HKX.out.cell 2
  have z2 := HKX.out.frozen 2
  have k3 : wX.cell? ⟨w.heap.size, 3, none⟩ = some (.slice none 0 0) := HKX.out.cell 3
  have z3 := HKX.out.frozen 3
  have k4 : wX.cell? ⟨w.heap.size, 4, none⟩ = some (.slice none 0 0) := HKX.out.cell 4
  have z4 := HKX.out.frozen 4
  go_wp2
  have HF : Hid (Blk (put5 wX w.heap.size (.int .i64 0) (.int .i64 0) (.int .i64 0) (.slice none 0 0) (.slice none 0 0)) w.heap.size #[.int .i64 0, .int .i64 0, .int .i64 0, .slice none 0 0, .slice none 0 0] 25) := put5_blk HKX.out _ _ _ _ _
  have HY : Hid (Below w.heap.size w (put5 wX w.heap.size (.int .i64 0) (.int .i64 0) (.int .i64 0) (.slice none 0 0) (.slice none 0 0))) := ((((HBX.out.setCell (Nat.le_refl _) _).setCell (Nat.le_refl _) _).setCell (Nat.le_refl _) _).setCell (Nat.le_refl _) _).setCell (Nat.le_refl _) _
  unfold put5 at HF HY
  generalize (((((wX.setCell ⟨w.heap.size, 0, none⟩ (.int .i64 0)).setCell ⟨w.heap.size, 1, none⟩ (.int .i64 0)).setCell ⟨w.heap.size, 2, none⟩ (.int .i64 0)).setCell ⟨w.heap.size, 3, none⟩ (.slice none 0 0)).setCell ⟨w.heap.size, 4, none⟩ (.slice none 0 0)) = wF at *
  have f0 : wF.cell? ⟨w.heap.size, 0, none⟩ = some (.int .i64 0) := HF.out.cell 0
  have f1 : wF.cell? ⟨w.heap.size, 1, none⟩ = some (.int .i64 0) := HF.out.cell 1
  have f2 : wF.cell? ⟨w.heap.size, 2, none⟩ = some (.int .i64 0) := HF.out.cell 2
  have f3 : wF.cell? ⟨w.heap.size, 3, none⟩ = some (.slice none 0 0) := HF.out.cell 3
  have f4 : wF.cell? ⟨w.heap.size, 4, none⟩ = some (.slice none 0 0) := HF.out.cell 4
  refine bodyPost_ret (v := .tuple #[zeroBat, I 15]) (by simp [results, Tryd.results11, go_sem, f0, f1, f2, f3, f4]) rfl ⟨rfl, HY.out⟩

end Go.Proofs.YtfmcngncaffloaaDoor

namespace Go.Proofs.YtfmcngncaffloaaDoor
open Go.RowKit
set_option maxRecDepth 100000

/-- The document's decoding under way. -/
structure Rw (w wi : World) (G E : Nat) (c : List UInt8) (q : Wv.St) (bs : Array Value) : Prop where
  tk : Tk wi G c q
  below : Below w.heap.size w wi
  kR : Blk wi w.heap.size #[.int .i64 0, .int .i64 0, .int .i64 0, .slice none 0 0, .slice none 0 0] 25
  kE : Blk wi E bs 25
  lg : w.heap.size < G
  lt : G < E
theorem Rw.kept {w wi wj : World} {G E : Nat} {c : List UInt8} {q : Wv.St} {bs : Array Value} (h : Rw w wi G E c q bs) (hb : Below wi.heap.size wi wj) : Rw w wj G E c q bs :=
  ⟨h.tk.kept hb h.tk.lt, h.below.trans (hb.mono h.below.size), h.kR.kept hb h.kR.lt, h.kE.kept hb h.kE.lt, h.lg, h.lt⟩
theorem Rw.alloc {w wi : World} {G E : Nat} {c : List UInt8} {q : Wv.St} {bs : Array Value} (h : Rw w wi G E c q bs) (o : Obj) : Rw w (wi.alloc o) G E c q bs := h.kept ((Below.refl _ _).alloc (Nat.le_refl _) _)
theorem Rw.drew {w wi : World} {G E : Nat} {c : List UInt8} {q : Wv.St} {bs : Array Value} (h : Rw w wi G E c q bs) : Rw w wi.drew G E c q bs := h.kept (Below.refl _ _).drew
theorem Rw.drewN {w wi : World} {G E : Nat} {c : List UInt8} {q : Wv.St} {bs : Array Value} (h : Rw w wi G E c q bs) (n : Nat) : Rw w (wi.drewN n) G E c q bs := h.kept (belowN (Below.refl _ _) n)
theorem Rw.read {w wi wj : World} {G E : Nat} {c : List UInt8} {q q' : Wv.St} {bs : Array Value} (h : Rw w wi G E c q bs) (hg : wi.grownBy wj (some G)) (ht : Tk wj G c q') : Rw w wj G E c q' bs := by
  have h1 := h.lg
  have h2 := h.lt
  exact ⟨ht, below_g h.below hg (by omega), h.kR.grown hg (by simp; omega), h.kE.grown hg (by simp; omega), h1, h2⟩
theorem Rw.set {w wi : World} {G E : Nat} {c : List UInt8} {q : Wv.St} {bs : Array Value} (h : Rw w wi G E c q bs) (j : Nat) (u : Value) : Rw w (wi.setCell ⟨E, j, none⟩ u) G E c q (bs.setIfInBounds j u) := by
  have h1 := h.lg
  have h2 := h.lt
  exact ⟨h.tk.other (by show G ≠ E; omega) u, h.below.setCell (by show w.heap.size ≤ E; omega) u, h.kR.other (by show w.heap.size ≠ E; omega) u, h.kE.set j u, h1, h2⟩
theorem Rw.grow {w wi wj : World} {G E : Nat} {c : List UInt8} {q : Wv.St} {bs : Array Value} {row : Option Nat} (h : Rw w wi G E c q bs) (hg : wi.grownBy wj row) (hr : ∀ b, row = some b → E < b) : Rw w wj G E c q bs := by
  have h1 := h.lg
  have h2 := h.lt
  have ne : ∀ k, k ≤ E → some k ≠ row := fun k hk e => by have := hr k e.symm; omega
  exact ⟨h.tk.grown hg (ne _ (by omega)), h.below.grown hg h.below.size (fun k e => by have := hr k e; omega), h.kR.grown hg (ne _ (by omega)), h.kE.grown hg (ne _ (by omega)), h1, h2⟩

set_option maxHeartbeats 3200000 in
theorem rdec_no (l : List UInt8) (w : World) (h : 6 ≤ l.length) (ho : opens l) (hno : ¬ ((Wv.batF false (Wv.body l) (some 2)).2 = some (Wv.body l).length ∧ Wv.isB (Wv.batF false (Wv.body l) (some 2)).1 = true)) :
    Calls Tryd.prog 11 #[.string ⟨l.toArray⟩] w fun e w' => e = .returned (.tuple #[zeroBat, I 15]) ∧ Below w.heap.size w w' := by
  obtain ⟨_, hn, ht⟩ := ho
  have HNO : Hid (¬ ((Wv.batF false (Wv.body l) (some 2)).2 = some (Wv.body l).length ∧ Wv.isB (Wv.batF false (Wv.body l) (some 2)).1 = true)) := hno
  clear hno
  have hs := str_size l
  have hd : decide ((l.length : Int) < 6) = false := by simp; omega
  have h6 : l.length ≤ 65535 := by have := (Wv.num2_le l).2; omega
  have hx : (⟨l.toArray⟩ : ByteArray).extract 0 2 = ⟨(l.take 2).toArray⟩ := str_take _ _
  have hx2 : (⟨l.toArray⟩ : ByteArray).extract 0 (l.length - 4) = ⟨(Wv.body l).toArray⟩ := str_take _ _
  have hx3 : (⟨l.toArray⟩ : ByteArray).extract (l.length - 4) l.length = ⟨(Wv.tail4 l).toArray⟩ := str_drop _ _
  have hx4 : (⟨l.toArray⟩ : ByteArray).extract 2 (l.length - 4) = ⟨((Wv.body l).drop 2).toArray⟩ := str_mid _ _ _
  have h2 := Wv.num_two l (by omega)
  have hn1 : ((Wv.numB (l.take 2) : Nat) : Int) = l.length := by rw [h2]; exact hn
  have hg : (((Wv.numB (l.take 2) : Nat) : Int) != (l.length : Int)) = false := by simpa using hn1
  have hgn : Wv.numB (l.take 2) = l.length := by omega
  have hg2 : Wv.sum (Wv.body l) = Wv.numB (Wv.tail4 l) := (Wv.num_four l (by omega)).2 ht
  have hg3 : (((Wv.sum (Wv.body l) : Nat) : Int) != ((Wv.numB (Wv.tail4 l) : Nat) : Int)) = false := by rw [hg2]; simp
  have HK : Hid (Blk (w.alloc (.cells #[.int .i64 0, .int .i64 0, .int .i64 0, .slice none 0 0, .slice none 0 0] 25)) w.heap.size #[.int .i64 0, .int .i64 0, .int .i64 0, .slice none 0 0, .slice none 0 0] 25) := heap_alloc_new w _
  have HB : Hid (Below w.heap.size w (w.alloc (.cells #[.int .i64 0, .int .i64 0, .int .i64 0, .slice none 0 0, .slice none 0 0] 25))) := (Below.refl _ _).alloc (Nat.le_refl _) _
  have hbl : (Wv.body l).length = l.length - 4 := Wv.body_len l
  clear h2 hn ht
  go_enter Tryd.func11, Tryd.ntmps11
  go_wp2_with fail
  go_quiet (first | (go_at_call 27; exact Calls.quiet_of_same (number_any _ _ (by first | (rw [List.length_take]; omega) | (unfold Wv.tail4; rw [List.length_drop]; omega)))) | (go_at_call 25; exact Calls.quiet_of_same (rsum_any _ _ (by rw [Wv.body_len]; omega))))
  have HKX : Hid (Blk ((w.alloc (.cells #[.int .i64 0, .int .i64 0, .int .i64 0, .slice none 0 0, .slice none 0 0] 25)).drewN nq) w.heap.size #[.int .i64 0, .int .i64 0, .int .i64 0, .slice none 0 0, .slice none 0 0] 25) := HK.out
  have HBX : Hid (Below w.heap.size w ((w.alloc (.cells #[.int .i64 0, .int .i64 0, .int .i64 0, .slice none 0 0, .slice none 0 0] 25)).drewN nq)) := belowN HB.out nq
  have hsX : w.heap.size < ((w.alloc (.cells #[.int .i64 0, .int .i64 0, .int .i64 0, .slice none 0 0, .slice none 0 0] 25)).drewN nq).heap.size := by simp
  clear HK HB
  generalize (w.alloc (.cells #[.int .i64 0, .int .i64 0, .int .i64 0, .slice none 0 0, .slice none 0 0] 25)).drewN nq = wX at *
  go_wp2_with fail
  have hcl : (Wv.body l).length ≤ 1048576 := by omega
  have RW0 : Hid (Rw w ((wX.alloc (.cells #[.string ⟨((Wv.body l).drop 2).toArray⟩, .bool false] 66)).alloc (.cells #[.int .i64 0, .int .i64 0, .int .i64 0, .slice none 0 0, .slice none 0 0] 25)) wX.heap.size (wX.heap.size + 1) (Wv.body l) (some 2) #[.int .i64 0, .int .i64 0, .int .i64 0, .slice none 0 0, .slice none 0 0]) := ⟨⟨Blk.alloc (heap_alloc_new wX _) _, by omega⟩, ((HBX.out.alloc (by omega) _).alloc (by simp; omega) _), (HKX.out.alloc _).alloc _, Blk.second wX _ _ _, hsX, by omega⟩
  clear HBX HKX
  generalize ((wX.alloc (.cells #[.string ⟨((Wv.body l).drop 2).toArray⟩, .bool false] 66)).alloc (.cells #[.int .i64 0, .int .i64 0, .int .i64 0, .slice none 0 0, .slice none 0 0] 25)) = wT at *
  have HQ2 : Hid (Wv.batF false (Wv.body l) (some 2) = Wv.batF false (Wv.body l) (some 2)) := rfl
  generalize hcb : Wv.body l = c at *
  have HC : Hid (Wv.body l = c) := hcb
  clear hcb
  refine (take1_any c _ wX.heap.size _ RW0.out.tk hcl).mono ?_
  rintro e w1 ⟨rfl, hR, hG⟩
  have RA0 : Hid (Rw w w1 wX.heap.size (wX.heap.size + 1) c (Wv.nxt c (some 2)) #[.int .i64 0, .int .i64 0, .int .i64 0, .slice none 0 0, .slice none 0 0]) := RW0.out.read hG hR
  have e0 : w1.cell? ⟨wX.heap.size + 1, 0, none⟩ = some (.int .i64 0) := RA0.out.kE.cell 0
  have x0 := RA0.out.kE.frozen 0
  clear hR hG RW0
  go_wp2_with fail
  have RW1 : Hid (Rw w (w1.setCell ⟨wX.heap.size + 1, 0, none⟩ (I (Wv.one c (some 2)))) wX.heap.size (wX.heap.size + 1) c (Wv.nxt c (some 2)) #[I (Wv.one c (some 2)), .int .i64 0, .int .i64 0, .slice none 0 0, .slice none 0 0]) := RA0.out.set 0 _
  clear RA0 e0 x0
  generalize w1.setCell ⟨wX.heap.size + 1, 0, none⟩ (I (Wv.one c (some 2))) = wS1 at *
  refine (take1_any c _ wX.heap.size _ RW1.out.tk hcl).mono ?_
  rintro e w2 ⟨rfl, hR, hG⟩
  have RA1 : Hid (Rw w w2 wX.heap.size (wX.heap.size + 1) c (Wv.nxt2 c (some 2)) #[I (Wv.one c (some 2)), .int .i64 0, .int .i64 0, .slice none 0 0, .slice none 0 0]) := RW1.out.read hG hR
  have e1 : w2.cell? ⟨wX.heap.size + 1, 1, none⟩ = some (.int .i64 0) := RA1.out.kE.cell 1
  have x1 := RA1.out.kE.frozen 1
  clear hR hG RW1
  go_wp2_with fail
  have RW2 : Hid (Rw w (w2.setCell ⟨wX.heap.size + 1, 1, none⟩ (I (Wv.one c (Wv.nxt c (some 2))))) wX.heap.size (wX.heap.size + 1) c (Wv.nxt2 c (some 2)) #[I (Wv.one c (some 2)), I (Wv.one c (Wv.nxt c (some 2))), .int .i64 0, .slice none 0 0, .slice none 0 0]) := RA1.out.set 1 _
  clear RA1 e1 x1
  generalize w2.setCell ⟨wX.heap.size + 1, 1, none⟩ (I (Wv.one c (Wv.nxt c (some 2)))) = wS2 at *
  refine (take1_any c _ wX.heap.size _ RW2.out.tk hcl).mono ?_
  rintro e w3 ⟨rfl, hR, hG⟩
  have RA2 : Hid (Rw w w3 wX.heap.size (wX.heap.size + 1) c (Wv.nxt3 c (some 2)) #[I (Wv.one c (some 2)), I (Wv.one c (Wv.nxt c (some 2))), .int .i64 0, .slice none 0 0, .slice none 0 0]) := RW2.out.read hG hR
  have e2 : w3.cell? ⟨wX.heap.size + 1, 2, none⟩ = some (.int .i64 0) := RA2.out.kE.cell 2
  have x2 := RA2.out.kE.frozen 2
  clear hR hG RW2
  go_wp2_with fail
  have RW3 : Hid (Rw w (w3.setCell ⟨wX.heap.size + 1, 2, none⟩ (I (Wv.one c (Wv.nxt2 c (some 2))))) wX.heap.size (wX.heap.size + 1) c (Wv.nxt3 c (some 2)) #[I (Wv.one c (some 2)), I (Wv.one c (Wv.nxt c (some 2))), I (Wv.one c (Wv.nxt2 c (some 2))), .slice none 0 0, .slice none 0 0]) := RA2.out.set 2 _
  clear RA2 e2 x2
  generalize w3.setCell ⟨wX.heap.size + 1, 2, none⟩ (I (Wv.one c (Wv.nxt2 c (some 2)))) = wS3 at *
  have HE1 : Hid (Wv.batF false c (some 2) = (⟨Wv.one c (some 2), Wv.one c (Wv.nxt c (some 2)), Wv.one c (Wv.nxt2 c (some 2)), (Wv.batC c (some 2)).1, (Wv.batE false c (some 2)).1⟩, (Wv.batE false c (some 2)).2)) := rfl
  have HEC : Hid (Wv.batC c (some 2) = Wv.run (Wv.oneF c) (Wv.one c (Wv.nxt3 c (some 2))).toNat (Wv.nxt c (Wv.nxt3 c (some 2)))) := rfl
  have HEE : Hid (Wv.batE false c (some 2) = Wv.run (Wv.effF false c) (Wv.one c (Wv.batC c (some 2)).2).toNat (Wv.nxt c (Wv.batC c (some 2)).2)) := rfl
  generalize Wv.one c (some 2) = o at *
  generalize Wv.one c (Wv.nxt c (some 2)) = sq at *
  generalize Wv.one c (Wv.nxt2 c (some 2)) = tm at *
  generalize Wv.nxt3 c (some 2) = q3 at *
  refine (take1_any c q3 wX.heap.size _ RW3.out.tk hcl).mono ?_
  rintro e w4 ⟨rfl, hR, hG⟩
  have RW4 : Hid (Rw w w4 wX.heap.size (wX.heap.size + 1) c (Wv.nxt c q3) #[I o, I sq, I tm, .slice none 0 0, .slice none 0 0]) := RW3.out.read hG hR
  clear RW3 hR hG
  obtain ⟨n1, n2⟩ := Wv.one_lt c q3
  obtain ⟨N, hN⟩ := Int.eq_ofNat_of_zero_le n1
  have HNN : Hid ((Wv.one c q3).toNat = N) := by show _ = _; omega
  rw [hN] at n2 ⊢
  clear hN n1
  have O4 : Hid (w4.ownsRow (wX.heap.size + 2) 3 1 (.slice none 0 0) 0 (([] : List Int).map I)) := ⟨rfl, .inl ⟨rfl, rfl⟩⟩
  obtain ⟨i, hi, hz0, hz1, hz2⟩ := info_parts infoI
  clear hx hx2 hx3 hx4 hg hg2 hg3 hgn hn1 hd hs
  generalize (⟨l.toArray⟩ : ByteArray) = ls at *
  go_wp2_with fail
  go_loopw [7] (fun x wr => ∃ (k : Nat) (ca : Option Addr) (cc : Nat), k ≤ N ∧ x = I k ∧ Hid (Rw w wr wX.heap.size (wX.heap.size + 1) c (Wv.run (Wv.oneF c) k (Wv.nxt c q3)).2 #[I o, I sq, I tm, .slice ca k cc, .slice none 0 0]) ∧ Hid (wr.ownsRow (wX.heap.size + 2) 3 1 (.slice ca k cc) k ((Wv.run (Wv.oneF c) k (Wv.nxt c q3)).1.map I))) (fun x _ => N - (intOf x).toNat)
  case atStart => exact ⟨0, none, 0, Nat.zero_le _, rfl, RW4, O4⟩
  case round =>
    obtain ⟨k, ca, cc, hk, rfl, HE, HO2⟩ := hrel
    clear RW4 O4
    by_cases hlt2 : k < N
    · have HRN : Hid ((Wv.run (Wv.oneF c) (k + 1) (Wv.nxt c q3)) = ((Wv.run (Wv.oneF c) k (Wv.nxt c q3)).1 ++ [Wv.one c (Wv.run (Wv.oneF c) k (Wv.nxt c q3)).2], Wv.nxt c (Wv.run (Wv.oneF c) k (Wv.nxt c q3)).2)) := rfl
      generalize (Wv.run (Wv.oneF c) k (Wv.nxt c q3)) = rr at *
      go_wp2_with fail
      refine (take1_any c rr.2 wX.heap.size _ HE.out.tk hcl).mono ?_
      rintro e w10 ⟨rfl, hR10, hG10⟩
      have hEl : wX.heap.size + 1 < wr.heap.size := HE.out.kE.lt
      have E10 : Hid (Rw w w10 wX.heap.size (wX.heap.size + 1) c (Wv.nxt c rr.2) #[I o, I sq, I tm, .slice ca k cc, .slice none 0 0]) := HE.out.read hG10 hR10
      have O10 : Hid (w10.ownsRow (wX.heap.size + 2) 3 1 (.slice ca k cc) k (rr.1.map I)) := own_kept HO2.out (fun b hb => hG10.block b (HO2.out.lt b hb).2 (fun e => by cases e; have := (HO2.out.lt _ hb).1; omega))
      clear hR10 hG10 HE HO2
      generalize Wv.one c rr.2 = d at *
      have e3a : w10.cell? ⟨wX.heap.size + 1, 3, none⟩ = some (.slice ca k cc) := E10.out.kE.cell 3
      go_wp2_with (first | (at_builtin; go_must (refine wpList_append_lies _ rfl _ _ _ rfl (wX.heap.size + 2) 3 i (.int .i64 0) 1 8 Tryd.underlying22 hi hz0 hz1 hz2 rfl (by omega) (.slice ca k cc) k (rr.1.map I) rfl (O10.out.alloc _) ⟨w10.heap.size, 0, none⟩ 1 1 [I d] rfl rfl (lit_any w10 _ _) (int_one d) (by omega) (by unfold maxLen; omega) (by omega) (by have := E10.out.kE.lt; simp; omega) (w10.heap.size + 1) (by simp) ?_; intro g5 cap5 w11 hown5 hgrow5 hat5 hlt5; have E11 : Hid (Rw w w11 wX.heap.size (wX.heap.size + 1) c (Wv.nxt c rr.2) #[I o, I sq, I tm, .slice ca k cc, .slice none 0 0]) := (E10.out.alloc _).grow hgrow5 (fun b hb => by have := (O10.out.lt b hb).1; omega); have e3b : w11.cell? ⟨wX.heap.size + 1, 3, none⟩ = some (.slice ca k cc) := E11.out.kE.cell 3; have x3b := E11.out.kE.frozen 3)))
      have LF : Hid (Rw w (w11.setCell ⟨wX.heap.size + 1, 3, none⟩ (.slice (some ⟨g5, 0, none⟩) (k + 1) cap5)) wX.heap.size (wX.heap.size + 1) c (Wv.nxt c rr.2) #[I o, I sq, I tm, .slice (some ⟨g5, 0, none⟩) (k + 1) cap5, .slice none 0 0]) := E11.out.set 3 _
      have LO : Hid ((w11.setCell ⟨wX.heap.size + 1, 3, none⟩ (.slice (some ⟨g5, 0, none⟩) (k + 1) cap5)).ownsRow (wX.heap.size + 2) 3 1 (.slice (some ⟨g5, 0, none⟩) (k + 1) cap5) (k + 1) ((rr.1 ++ [d]).map I)) := by
        rw [List.map_append]
        refine own_kept hown5 fun b hb => heap_setCell_other _ ⟨wX.heap.size + 1, 3, none⟩ _ _ ?_
        have := (hown5.lt b hb).1
        show b ≠ wX.heap.size + 1
        omega
      clear E11 E10 O10 e3a e3b x3b hown5 hgrow5 hat5 hlt5
      go_roundw
      case rel =>
        refine ⟨k + 1, some ⟨g5, 0, none⟩, cap5, by omega, by go_num, ?_, ?_⟩
        · rw [HRN.out]; exact LF
        · rw [HRN.out]; exact LO
      case measure => simp [intOf]; omega
    · obtain rfl : k = N := by omega
      have hlenC : (Wv.run (Wv.oneF c) k (Wv.nxt c q3)).1.length = k := Wv.run_len _ _ _
      have HC2 : Hid (Wv.batC c (some 2) = (Wv.run (Wv.oneF c) k (Wv.nxt c q3))) := by show _ = _; rw [HEC.out, HNN.out]
      have HEE2 : Hid (Wv.batE false c (some 2) = Wv.run (Wv.effF false c) (Wv.one c (Wv.run (Wv.oneF c) k (Wv.nxt c q3)).2).toNat (Wv.nxt c (Wv.run (Wv.oneF c) k (Wv.nxt c q3)).2)) := by show _ = _; rw [HEE.out, HC2.out]
      clear HNN HEC HEE
      generalize (Wv.run (Wv.oneF c) k (Wv.nxt c q3)) = rc at *
      go_wp2_with fail
      refine (take1_any c rc.2 wX.heap.size _ HE.out.tk hcl).mono ?_
      rintro e w5 ⟨rfl, hR, hG⟩
      have hE0 : wX.heap.size + 1 < wr.heap.size := HE.out.kE.lt
      have EW5 : Hid (Rw w w5 wX.heap.size (wX.heap.size + 1) c (Wv.nxt c rc.2) #[I o, I sq, I tm, .slice ca k cc, .slice none 0 0]) := HE.out.read hG hR
      have O5 : Hid (Ob w5 (wX.heap.size + 2) (.slice ca k cc) (.slice none 0 0) rc.1 []) :=
        ⟨by rw [hlenC]; exact own_kept HO2.out (fun b hb => hG.block b (HO2.out.lt b hb).2 (fun e => by cases e; have := (HO2.out.lt _ hb).1; omega)), ⟨rfl, .inl ⟨rfl, rfl⟩⟩, (fun _ h => by cases h), (fun _ _ h => by cases h), (fun _ h => by cases h), List.Pairwise.nil⟩
      clear HE HO2 hR hG
      obtain ⟨n3, n4⟩ := Wv.one_lt c rc.2
      obtain ⟨M, hM⟩ := Int.eq_ofNat_of_zero_le n3
      have HMM : Hid ((Wv.one c rc.2).toNat = M) := by show _ = _; omega
      rw [hM] at n4 ⊢
      clear hM n3 hi hz0 hz1 hz2
      obtain ⟨i2, hi2, hy0, hy1, hy2⟩ := info_parts infoEf
      go_wp2_with fail
      go_loopw [9] (fun x wr => ∃ (j : Nat) (ea : Option Addr) (ec : Nat) (ms : List Em), j ≤ M ∧ x = I j ∧ Hid (Rw w wr wX.heap.size (wX.heap.size + 1) c (Wv.run (Wv.effF false c) j (Wv.nxt c rc.2)).2 #[I o, I sq, I tm, .slice ca k cc, .slice ea j ec]) ∧ Hid (Ob wr (wX.heap.size + 2) (.slice ca k cc) (.slice ea j ec) rc.1 ms) ∧ Hid (ms.map (·.e) = (Wv.run (Wv.effF false c) j (Wv.nxt c rc.2)).1)) (fun x _ => M - (intOf x).toNat)
      case atStart => exact ⟨0, none, 0, [], Nat.zero_le _, rfl, EW5, O5, rfl⟩
      case round =>
        obtain ⟨j, ea, ec, ms, hj, rfl, HE, HO2, HMS⟩ := hrel
        clear EW5 O5
        have hml : ms.length = j := by have := congrArg List.length HMS.out; rw [Wv.run_len] at this; simpa using this
        by_cases hlt3 : j < M
        · have hEl : wX.heap.size + 1 < wr.heap.size := HE.out.kE.lt
          have HRN : Hid ((Wv.run (Wv.effF false c) (j + 1) (Wv.nxt c rc.2)) = ((Wv.run (Wv.effF false c) j (Wv.nxt c rc.2)).1 ++ [(Wv.effF false c (Wv.run (Wv.effF false c) j (Wv.nxt c rc.2)).2).1], (Wv.effF false c (Wv.run (Wv.effF false c) j (Wv.nxt c rc.2)).2).2)) := rfl
          have HOE : Hid (wr.ownsRow (wX.heap.size + 2) 43 7 (.slice ea j ec) j (flat Em.cells ms)) := by have := HO2.out.cells; rw [hml] at this; exact this
          generalize (Wv.run (Wv.effF false c) j (Wv.nxt c rc.2)) = rr at *
          go_wp2_with fail
          refine (teff_any c rr.2 wX.heap.size _ HE.out.tk hcl).mono ?_
          rintro e w10 ⟨m, rfl, hme, hDo, hR10, hG10⟩
          have HME : Hid (m.e = (Wv.effF false c rr.2).1) := hme
          have HDo : Hid (w10.ownsRow wr.heap.size 40 3 m.dv m.e.dots.length (flat dotCells m.e.dots)) := hDo
          have HGK : Hid (wr.grownBy w10 (some wX.heap.size)) := hG10
          have E10 : Hid (Rw w w10 wX.heap.size (wX.heap.size + 1) c (Wv.effF false c rr.2).2 #[I o, I sq, I tm, .slice ca k cc, .slice ea j ec]) := HE.out.read hG10 hR10
          have O10 : Hid (w10.ownsRow (wX.heap.size + 2) 43 7 (.slice ea j ec) j (flat Em.cells ms)) := own_kept HOE.out (fun b hb => hG10.block b (HOE.out.lt b hb).2 (fun e => by cases e; have := (HOE.out.lt _ hb).1; omega))
          clear hR10 hG10 hme hDo
          have e4a : w10.cell? ⟨wX.heap.size + 1, 4, none⟩ = some (.slice ea j ec) := E10.out.kE.cell 4
          have e4c : (w10.alloc (.cells #[I m.e.op, I m.e.ob, I m.e.va, I m.e.ref.o, I m.e.ref.s, I m.e.ref.i, .slice m.da m.e.dots.length m.dc] 43)).cell? ⟨wX.heap.size + 1, 4, none⟩ = some (.slice ea j ec) := (E10.out.alloc _).kE.cell 4
          go_wp2_with (first | (at_builtin; go_must (refine wpList_append_lies _ rfl _ _ _ rfl (wX.heap.size + 2) 43 i2 (.agg #[.int .i64 0, .int .i64 0, .int .i64 0, .int .i64 0, .int .i64 0, .int .i64 0, .slice none 0 0]) 7 72 Tryd.underlying23 hi2 hy0 hy1 hy2 rfl (by omega) (.slice ea j ec) j (flat Em.cells ms) rfl ((O10.out.alloc _).alloc _) ⟨w10.heap.size + 1, 0, none⟩ 1 1 [I m.e.op, I m.e.ob, I m.e.va, I m.e.ref.o, I m.e.ref.s, I m.e.ref.i, .slice m.da m.e.dots.length m.dc] rfl rfl (lit_second w10 _ _ _) (em_one m) (by omega) (by unfold maxLen; omega) (by omega) (by have := E10.out.kE.lt; simp; omega) (w10.heap.size + 1 + 1) (by simp) ?_; intro g5 cap5 w11 hown5 hgrow5 hat5 hlt5; have E11 : Hid (Rw w w11 wX.heap.size (wX.heap.size + 1) c (Wv.effF false c rr.2).2 #[I o, I sq, I tm, .slice ca k cc, .slice ea j ec]) := ((E10.out.alloc _).alloc _).grow hgrow5 (fun b hb => by have := (O10.out.lt b hb).1; omega); have e4b : w11.cell? ⟨wX.heap.size + 1, 4, none⟩ = some (.slice ea j ec) := E11.out.kE.cell 4; have x4b := E11.out.kE.frozen 4)))
          have LF : Hid (Rw w (w11.setCell ⟨wX.heap.size + 1, 4, none⟩ (.slice (some ⟨g5, 0, none⟩) (j + 1) cap5)) wX.heap.size (wX.heap.size + 1) c (Wv.effF false c rr.2).2 #[I o, I sq, I tm, .slice ca k cc, .slice (some ⟨g5, 0, none⟩) (j + 1) cap5]) := E11.out.set 4 _
          have hs10 : wr.heap.size ≤ w10.heap.size := HGK.out.size
          have hnb : ∀ b, (Value.slice ea j ec).ownBlock = some b → b < wr.heap.size := fun b hb => (HOE.out.lt b hb).2
          have LO : Hid (Ob (w11.setCell ⟨wX.heap.size + 1, 4, none⟩ (.slice (some ⟨g5, 0, none⟩) (j + 1) cap5)) (wX.heap.size + 2) (.slice ca k cc) (.slice (some ⟨g5, 0, none⟩) (j + 1) cap5) rc.1 (ms ++ [m])) := by
            refine HO2.out.push ?_ ?_ ?_ ?_ ?_
            · intro b h1 h2 h3
              rw [heap_setCell_other _ ⟨wX.heap.size + 1, 4, none⟩ b _ (by show b ≠ wX.heap.size + 1; omega), hgrow5.block b (by simp; omega) (fun e => h3 e.symm), Below.heap_alloc (w10.alloc _) _ b (by simp; omega), Below.heap_alloc w10 _ b (by omega), HGK.out.block b h1 (by simp; omega)]
            · rw [hml]
              refine own_kept hown5 fun b hb => heap_setCell_other _ ⟨wX.heap.size + 1, 4, none⟩ _ _ ?_
              have := (hown5.lt b hb).1
              show b ≠ wX.heap.size + 1
              omega
            · rcases hat5 with e | e
              · exact Or.inl e.symm
              · exact Or.inr ⟨g5, rfl, by omega⟩
            · refine own_mono (own_kept HDo.out fun b hb => ?_) (by omega)
              obtain ⟨b1, b2⟩ := HDo.out.lt b hb
              rw [heap_setCell_other _ ⟨wX.heap.size + 1, 4, none⟩ b _ (by show b ≠ wX.heap.size + 1; omega), hgrow5.block b (by simp; omega) (fun e => by have := hnb b e.symm; omega), Below.heap_alloc (w10.alloc _) _ b (by simp; omega), Below.heap_alloc w10 _ b b2]
            · intro b hb
              obtain ⟨b1, b2⟩ := HDo.out.lt b hb
              refine ⟨b1, fun e => ?_⟩
              have e' : g5 = b := by simpa [Value.ownBlock] using e
              subst e'
              clear e
              rcases hat5 with e | e
              · have := hnb _ e; omega
              · omega
          have LM : Hid ((ms ++ [m]).map (·.e) = rr.1 ++ [(Wv.effF false c rr.2).1]) := by show List.map _ _ = _; rw [List.map_append, HMS.out, ← HME.out]; rfl
          clear E11 E10 O10 e4a e4b e4c x4b hown5 hgrow5 hat5 hlt5 HE HO2 HDo HGK HME hnb HOE
          go_roundw
          case rel =>
            refine ⟨j + 1, some ⟨g5, 0, none⟩, cap5, ms ++ [m], by omega, by go_num, ?_, ?_, ?_⟩
            · rw [HRN.out]; exact LF
            · exact LO
            · rw [HRN.out]; exact LM
          case measure => simp [intOf]; omega
        · obtain rfl : j = M := by omega
          have HD2 : Hid (Wv.batE false c (some 2) = (Wv.run (Wv.effF false c) j (Wv.nxt c rc.2))) := by show _ = _; rw [HEE2.out, HMM.out]
          clear HMM HEE2
          have hlenE : (Wv.run (Wv.effF false c) j (Wv.nxt c rc.2)).1.length = j := Wv.run_len _ _ _
          generalize (Wv.run (Wv.effF false c) j (Wv.nxt c rc.2)) = rr at *
          have HBB : Hid (Wv.batF false c (some 2) = (⟨o, sq, tm, rc.1, rr.1⟩, rr.2)) := by show _ = _; rw [HE1.out, HC2.out, HD2.out]
          clear HE1 HC2 HD2
          have HBA : Hid (BatAt wr ⟨o, sq, tm, rc.1, rr.1⟩ ca ea ms) := Ob.bat (by rw [hlenC, hlenE]; exact HO2.out) HMS.out.symm
          have b0 : wr.cell? ⟨wX.heap.size + 1, 0, none⟩ = some (I o) := HE.out.kE.cell 0
          have b1 : wr.cell? ⟨wX.heap.size + 1, 1, none⟩ = some (I sq) := HE.out.kE.cell 1
          have b2 : wr.cell? ⟨wX.heap.size + 1, 2, none⟩ = some (I tm) := HE.out.kE.cell 2
          have b3 : wr.cell? ⟨wX.heap.size + 1, 3, none⟩ = some (.slice ca k cc) := HE.out.kE.cell 3
          have b4 : wr.cell? ⟨wX.heap.size + 1, 4, none⟩ = some (.slice ea j ec) := HE.out.kE.cell 4
          go_wp2_with fail
          have hisb := isBatch_any ⟨o, sq, tm, rc.1, rr.1⟩ ca ea cc ec ms wr HBA.out (by show rr.1.length ≤ _; omega)
          unfold bV batV at hisb
          rw [hlenC, hlenE] at hisb
          refine hisb.mono ?_
          rintro e w6 ⟨rfl, hb6⟩
          have R6 : Hid (Rw w w6 wX.heap.size (wX.heap.size + 1) c rr.2 #[I o, I sq, I tm, .slice ca k cc, .slice ea j ec]) := HE.out.kept hb6
          have O6 : Hid (Ob w6 (wX.heap.size + 2) (.slice ca k cc) (.slice ea j ec) rc.1 ms) := HO2.out.kept (fun b h1 _ => hb6.block b h1)
          clear hisb HBA b0 b1 b2 b3 b4 hb6 HE HO2
          have HNO2 : Hid (¬ (rr.2 = some c.length ∧ Wv.isB ⟨o, sq, tm, rc.1, rr.1⟩ = true)) := by show ¬ _; have := HNO.out; rw [HBB.out] at this; exact this
          clear HNO HBB
          cases hq : rr.2 with
          | none =>
            have hT : Blk w6 wX.heap.size #[.string ⟨#[]⟩, .bool true] 66 := by have := R6.out.tk; rw [hq] at this; exact this
            have t0 : w6.cell? ⟨wX.heap.size, 0, none⟩ = some (.string ⟨#[]⟩) := hT.cell 0
            have t1 : w6.cell? ⟨wX.heap.size, 1, none⟩ = some (.bool true) := hT.cell 1
            clear hT
            have HBw : Hid (Below w.heap.size w w6) := R6.out.below
            have HKw : Hid (Blk w6 w.heap.size #[.int .i64 0, .int .i64 0, .int .i64 0, .slice none 0 0, .slice none 0 0] 25) := R6.out.kR
            have k0 : w6.cell? ⟨w.heap.size, 0, none⟩ = some (.int .i64 0) := R6.out.kR.cell 0
            have z0 := R6.out.kR.frozen 0
            have k1 : w6.cell? ⟨w.heap.size, 1, none⟩ = some (.int .i64 0) := R6.out.kR.cell 1
            have z1 := R6.out.kR.frozen 1
            have k2 : w6.cell? ⟨w.heap.size, 2, none⟩ = some (.int .i64 0) := R6.out.kR.cell 2
            have z2 := R6.out.kR.frozen 2
            have k3 : w6.cell? ⟨w.heap.size, 3, none⟩ = some (.slice none 0 0) := R6.out.kR.cell 3
            have z3 := R6.out.kR.frozen 3
            have k4 : w6.cell? ⟨w.heap.size, 4, none⟩ = some (.slice none 0 0) := R6.out.kR.cell 4
            have z4 := R6.out.kR.frozen 4
            go_wp2
            have HF : Hid (Blk (put5 w6 w.heap.size (.int .i64 0) (.int .i64 0) (.int .i64 0) (.slice none 0 0) (.slice none 0 0)) w.heap.size #[.int .i64 0, .int .i64 0, .int .i64 0, .slice none 0 0, .slice none 0 0] 25) := put5_blk HKw.out _ _ _ _ _
            have HY : Hid (Below w.heap.size w (put5 w6 w.heap.size (.int .i64 0) (.int .i64 0) (.int .i64 0) (.slice none 0 0) (.slice none 0 0))) := ((((HBw.out.setCell (Nat.le_refl _) _).setCell (Nat.le_refl _) _).setCell (Nat.le_refl _) _).setCell (Nat.le_refl _) _).setCell (Nat.le_refl _) _
            unfold put5 at HF HY
            generalize (((((w6.setCell ⟨w.heap.size, 0, none⟩ (.int .i64 0)).setCell ⟨w.heap.size, 1, none⟩ (.int .i64 0)).setCell ⟨w.heap.size, 2, none⟩ (.int .i64 0)).setCell ⟨w.heap.size, 3, none⟩ (.slice none 0 0)).setCell ⟨w.heap.size, 4, none⟩ (.slice none 0 0)) = wF at *
            have f0 : wF.cell? ⟨w.heap.size, 0, none⟩ = some (.int .i64 0) := HF.out.cell 0
            have f1 : wF.cell? ⟨w.heap.size, 1, none⟩ = some (.int .i64 0) := HF.out.cell 1
            have f2 : wF.cell? ⟨w.heap.size, 2, none⟩ = some (.int .i64 0) := HF.out.cell 2
            have f3 : wF.cell? ⟨w.heap.size, 3, none⟩ = some (.slice none 0 0) := HF.out.cell 3
            have f4 : wF.cell? ⟨w.heap.size, 4, none⟩ = some (.slice none 0 0) := HF.out.cell 4
            refine bodyPost_ret (v := .tuple #[zeroBat, I 15]) (by simp [results, Tryd.results11, go_sem, f0, f1, f2, f3, f4]) rfl ⟨rfl, HY.out⟩
          | some p =>
            have hT : Tk w6 wX.heap.size c (some p) := by have := R6.out.tk; rw [hq] at this; exact this
            have hpl : p ≤ c.length := hT.2
            have t0 : w6.cell? ⟨wX.heap.size, 0, none⟩ = some (.string ⟨(c.drop p).toArray⟩) := hT.1.cell 0
            have t1 : w6.cell? ⟨wX.heap.size, 1, none⟩ = some (.bool false) := hT.1.cell 1
            by_cases hp : p < c.length
            · have hne1 : ¬ c.drop p = [] := by intro e; have := congrArg List.length e; simp at this; omega
              have hne2 : (c.drop p == []) = false := beq_eq_false_iff_ne.2 hne1
              have hne3 : (c.drop p != []) = true := by rw [bne, hne2]; rfl
              generalize c.drop p = cd at *
              clear hT hq HNO2
              have HBw : Hid (Below w.heap.size w w6) := R6.out.below
              have HKw : Hid (Blk w6 w.heap.size #[.int .i64 0, .int .i64 0, .int .i64 0, .slice none 0 0, .slice none 0 0] 25) := R6.out.kR
              have k0 : w6.cell? ⟨w.heap.size, 0, none⟩ = some (.int .i64 0) := R6.out.kR.cell 0
              have z0 := R6.out.kR.frozen 0
              have k1 : w6.cell? ⟨w.heap.size, 1, none⟩ = some (.int .i64 0) := R6.out.kR.cell 1
              have z1 := R6.out.kR.frozen 1
              have k2 : w6.cell? ⟨w.heap.size, 2, none⟩ = some (.int .i64 0) := R6.out.kR.cell 2
              have z2 := R6.out.kR.frozen 2
              have k3 : w6.cell? ⟨w.heap.size, 3, none⟩ = some (.slice none 0 0) := R6.out.kR.cell 3
              have z3 := R6.out.kR.frozen 3
              have k4 : w6.cell? ⟨w.heap.size, 4, none⟩ = some (.slice none 0 0) := R6.out.kR.cell 4
              have z4 := R6.out.kR.frozen 4
              go_wp2
              have HF : Hid (Blk (put5 w6 w.heap.size (.int .i64 0) (.int .i64 0) (.int .i64 0) (.slice none 0 0) (.slice none 0 0)) w.heap.size #[.int .i64 0, .int .i64 0, .int .i64 0, .slice none 0 0, .slice none 0 0] 25) := put5_blk HKw.out _ _ _ _ _
              have HY : Hid (Below w.heap.size w (put5 w6 w.heap.size (.int .i64 0) (.int .i64 0) (.int .i64 0) (.slice none 0 0) (.slice none 0 0))) := ((((HBw.out.setCell (Nat.le_refl _) _).setCell (Nat.le_refl _) _).setCell (Nat.le_refl _) _).setCell (Nat.le_refl _) _).setCell (Nat.le_refl _) _
              unfold put5 at HF HY
              generalize (((((w6.setCell ⟨w.heap.size, 0, none⟩ (.int .i64 0)).setCell ⟨w.heap.size, 1, none⟩ (.int .i64 0)).setCell ⟨w.heap.size, 2, none⟩ (.int .i64 0)).setCell ⟨w.heap.size, 3, none⟩ (.slice none 0 0)).setCell ⟨w.heap.size, 4, none⟩ (.slice none 0 0)) = wF at *
              have f0 : wF.cell? ⟨w.heap.size, 0, none⟩ = some (.int .i64 0) := HF.out.cell 0
              have f1 : wF.cell? ⟨w.heap.size, 1, none⟩ = some (.int .i64 0) := HF.out.cell 1
              have f2 : wF.cell? ⟨w.heap.size, 2, none⟩ = some (.int .i64 0) := HF.out.cell 2
              have f3 : wF.cell? ⟨w.heap.size, 3, none⟩ = some (.slice none 0 0) := HF.out.cell 3
              have f4 : wF.cell? ⟨w.heap.size, 4, none⟩ = some (.slice none 0 0) := HF.out.cell 4
              refine bodyPost_ret (v := .tuple #[zeroBat, I 15]) (by simp [results, Tryd.results11, go_sem, f0, f1, f2, f3, f4]) rfl ⟨rfl, HY.out⟩
            · have hpe : p = c.length := by omega
              have hbf : Wv.isB ⟨o, sq, tm, rc.1, rr.1⟩ = false := by
                cases hb : Wv.isB ⟨o, sq, tm, rc.1, rr.1⟩ with
                | false => rfl
                | true => exact absurd ⟨by rw [hq, hpe], hb⟩ HNO2.out
              have hd0 : c.drop p = [] := by rw [hpe]; exact List.drop_length
              rw [hd0] at t0
              rw [hbf]
              clear hT hq HNO2 hbf hd0
              have HBw : Hid (Below w.heap.size w w6) := R6.out.below
              have HKw : Hid (Blk w6 w.heap.size #[.int .i64 0, .int .i64 0, .int .i64 0, .slice none 0 0, .slice none 0 0] 25) := R6.out.kR
              have k0 : w6.cell? ⟨w.heap.size, 0, none⟩ = some (.int .i64 0) := R6.out.kR.cell 0
              have z0 := R6.out.kR.frozen 0
              have k1 : w6.cell? ⟨w.heap.size, 1, none⟩ = some (.int .i64 0) := R6.out.kR.cell 1
              have z1 := R6.out.kR.frozen 1
              have k2 : w6.cell? ⟨w.heap.size, 2, none⟩ = some (.int .i64 0) := R6.out.kR.cell 2
              have z2 := R6.out.kR.frozen 2
              have k3 : w6.cell? ⟨w.heap.size, 3, none⟩ = some (.slice none 0 0) := R6.out.kR.cell 3
              have z3 := R6.out.kR.frozen 3
              have k4 : w6.cell? ⟨w.heap.size, 4, none⟩ = some (.slice none 0 0) := R6.out.kR.cell 4
              have z4 := R6.out.kR.frozen 4
              go_wp2
              have HF : Hid (Blk (put5 w6 w.heap.size (.int .i64 0) (.int .i64 0) (.int .i64 0) (.slice none 0 0) (.slice none 0 0)) w.heap.size #[.int .i64 0, .int .i64 0, .int .i64 0, .slice none 0 0, .slice none 0 0] 25) := put5_blk HKw.out _ _ _ _ _
              have HY : Hid (Below w.heap.size w (put5 w6 w.heap.size (.int .i64 0) (.int .i64 0) (.int .i64 0) (.slice none 0 0) (.slice none 0 0))) := ((((HBw.out.setCell (Nat.le_refl _) _).setCell (Nat.le_refl _) _).setCell (Nat.le_refl _) _).setCell (Nat.le_refl _) _).setCell (Nat.le_refl _) _
              unfold put5 at HF HY
              generalize (((((w6.setCell ⟨w.heap.size, 0, none⟩ (.int .i64 0)).setCell ⟨w.heap.size, 1, none⟩ (.int .i64 0)).setCell ⟨w.heap.size, 2, none⟩ (.int .i64 0)).setCell ⟨w.heap.size, 3, none⟩ (.slice none 0 0)).setCell ⟨w.heap.size, 4, none⟩ (.slice none 0 0)) = wF at *
              have f0 : wF.cell? ⟨w.heap.size, 0, none⟩ = some (.int .i64 0) := HF.out.cell 0
              have f1 : wF.cell? ⟨w.heap.size, 1, none⟩ = some (.int .i64 0) := HF.out.cell 1
              have f2 : wF.cell? ⟨w.heap.size, 2, none⟩ = some (.int .i64 0) := HF.out.cell 2
              have f3 : wF.cell? ⟨w.heap.size, 3, none⟩ = some (.slice none 0 0) := HF.out.cell 3
              have f4 : wF.cell? ⟨w.heap.size, 4, none⟩ = some (.slice none 0 0) := HF.out.cell 4
              refine bodyPost_ret (v := .tuple #[zeroBat, I 15]) (by simp [results, Tryd.results11, go_sem, f0, f1, f2, f3, f4]) rfl ⟨rfl, HY.out⟩

end Go.Proofs.YtfmcngncaffloaaDoor

namespace Go.Proofs.YtfmcngncaffloaaDoor
open Go.RowKit
set_option maxRecDepth 100000

set_option maxHeartbeats 3200000 in
theorem rdec_yes (l : List UInt8) (w : World) (h : 6 ≤ l.length) (ho : opens l) (hye : (Wv.batF false (Wv.body l) (some 2)).2 = some (Wv.body l).length ∧ Wv.isB (Wv.batF false (Wv.body l) (some 2)).1 = true) :
    Calls Tryd.prog 11 #[.string ⟨l.toArray⟩] w fun e w' => (∃ ca ea cc ec ms, e = .returned (.tuple #[bV (Wv.batF false (Wv.body l) (some 2)).1 ca ea cc ec, I 0]) ∧ (Wv.batF false (Wv.body l) (some 2)).1.effs = ms.map (·.e) ∧ Ob w' w.heap.size (.slice ca (Wv.batF false (Wv.body l) (some 2)).1.clock.length cc) (.slice ea (Wv.batF false (Wv.body l) (some 2)).1.effs.length ec) (Wv.batF false (Wv.body l) (some 2)).1.clock ms) ∧ Below w.heap.size w w' := by
  obtain ⟨_, hn, ht⟩ := ho
  have HYE : Hid ((Wv.batF false (Wv.body l) (some 2)).2 = some (Wv.body l).length ∧ Wv.isB (Wv.batF false (Wv.body l) (some 2)).1 = true) := hye
  clear hye
  have hs := str_size l
  have hd : decide ((l.length : Int) < 6) = false := by simp; omega
  have h6 : l.length ≤ 65535 := by have := (Wv.num2_le l).2; omega
  have hx : (⟨l.toArray⟩ : ByteArray).extract 0 2 = ⟨(l.take 2).toArray⟩ := str_take _ _
  have hx2 : (⟨l.toArray⟩ : ByteArray).extract 0 (l.length - 4) = ⟨(Wv.body l).toArray⟩ := str_take _ _
  have hx3 : (⟨l.toArray⟩ : ByteArray).extract (l.length - 4) l.length = ⟨(Wv.tail4 l).toArray⟩ := str_drop _ _
  have hx4 : (⟨l.toArray⟩ : ByteArray).extract 2 (l.length - 4) = ⟨((Wv.body l).drop 2).toArray⟩ := str_mid _ _ _
  have h2 := Wv.num_two l (by omega)
  have hn1 : ((Wv.numB (l.take 2) : Nat) : Int) = l.length := by rw [h2]; exact hn
  have hg : (((Wv.numB (l.take 2) : Nat) : Int) != (l.length : Int)) = false := by simpa using hn1
  have hgn : Wv.numB (l.take 2) = l.length := by omega
  have hg2 : Wv.sum (Wv.body l) = Wv.numB (Wv.tail4 l) := (Wv.num_four l (by omega)).2 ht
  have hg3 : (((Wv.sum (Wv.body l) : Nat) : Int) != ((Wv.numB (Wv.tail4 l) : Nat) : Int)) = false := by rw [hg2]; simp
  have HK : Hid (Blk (w.alloc (.cells #[.int .i64 0, .int .i64 0, .int .i64 0, .slice none 0 0, .slice none 0 0] 25)) w.heap.size #[.int .i64 0, .int .i64 0, .int .i64 0, .slice none 0 0, .slice none 0 0] 25) := heap_alloc_new w _
  have HB : Hid (Below w.heap.size w (w.alloc (.cells #[.int .i64 0, .int .i64 0, .int .i64 0, .slice none 0 0, .slice none 0 0] 25))) := (Below.refl _ _).alloc (Nat.le_refl _) _
  have hbl : (Wv.body l).length = l.length - 4 := Wv.body_len l
  clear h2 hn ht
  go_enter Tryd.func11, Tryd.ntmps11
  go_wp2_with fail
  go_quiet (first | (go_at_call 27; exact Calls.quiet_of_same (number_any _ _ (by first | (rw [List.length_take]; omega) | (unfold Wv.tail4; rw [List.length_drop]; omega)))) | (go_at_call 25; exact Calls.quiet_of_same (rsum_any _ _ (by rw [Wv.body_len]; omega))))
  have HKX : Hid (Blk ((w.alloc (.cells #[.int .i64 0, .int .i64 0, .int .i64 0, .slice none 0 0, .slice none 0 0] 25)).drewN nq) w.heap.size #[.int .i64 0, .int .i64 0, .int .i64 0, .slice none 0 0, .slice none 0 0] 25) := HK.out
  have HBX : Hid (Below w.heap.size w ((w.alloc (.cells #[.int .i64 0, .int .i64 0, .int .i64 0, .slice none 0 0, .slice none 0 0] 25)).drewN nq)) := belowN HB.out nq
  have hsX : w.heap.size < ((w.alloc (.cells #[.int .i64 0, .int .i64 0, .int .i64 0, .slice none 0 0, .slice none 0 0] 25)).drewN nq).heap.size := by simp
  clear HK HB
  generalize (w.alloc (.cells #[.int .i64 0, .int .i64 0, .int .i64 0, .slice none 0 0, .slice none 0 0] 25)).drewN nq = wX at *
  go_wp2_with fail
  have hcl : (Wv.body l).length ≤ 1048576 := by omega
  have RW0 : Hid (Rw w ((wX.alloc (.cells #[.string ⟨((Wv.body l).drop 2).toArray⟩, .bool false] 66)).alloc (.cells #[.int .i64 0, .int .i64 0, .int .i64 0, .slice none 0 0, .slice none 0 0] 25)) wX.heap.size (wX.heap.size + 1) (Wv.body l) (some 2) #[.int .i64 0, .int .i64 0, .int .i64 0, .slice none 0 0, .slice none 0 0]) := ⟨⟨Blk.alloc (heap_alloc_new wX _) _, by omega⟩, ((HBX.out.alloc (by omega) _).alloc (by simp; omega) _), (HKX.out.alloc _).alloc _, Blk.second wX _ _ _, hsX, by omega⟩
  clear HBX HKX
  generalize ((wX.alloc (.cells #[.string ⟨((Wv.body l).drop 2).toArray⟩, .bool false] 66)).alloc (.cells #[.int .i64 0, .int .i64 0, .int .i64 0, .slice none 0 0, .slice none 0 0] 25)) = wT at *
  have HQ2 : Hid (Wv.batF false (Wv.body l) (some 2) = Wv.batF false (Wv.body l) (some 2)) := rfl
  generalize hcb : Wv.body l = c at *
  have HC : Hid (Wv.body l = c) := hcb
  clear hcb
  refine (take1_any c _ wX.heap.size _ RW0.out.tk hcl).mono ?_
  rintro e w1 ⟨rfl, hR, hG⟩
  have RA0 : Hid (Rw w w1 wX.heap.size (wX.heap.size + 1) c (Wv.nxt c (some 2)) #[.int .i64 0, .int .i64 0, .int .i64 0, .slice none 0 0, .slice none 0 0]) := RW0.out.read hG hR
  have e0 : w1.cell? ⟨wX.heap.size + 1, 0, none⟩ = some (.int .i64 0) := RA0.out.kE.cell 0
  have x0 := RA0.out.kE.frozen 0
  clear hR hG RW0
  go_wp2_with fail
  have RW1 : Hid (Rw w (w1.setCell ⟨wX.heap.size + 1, 0, none⟩ (I (Wv.one c (some 2)))) wX.heap.size (wX.heap.size + 1) c (Wv.nxt c (some 2)) #[I (Wv.one c (some 2)), .int .i64 0, .int .i64 0, .slice none 0 0, .slice none 0 0]) := RA0.out.set 0 _
  clear RA0 e0 x0
  generalize w1.setCell ⟨wX.heap.size + 1, 0, none⟩ (I (Wv.one c (some 2))) = wS1 at *
  refine (take1_any c _ wX.heap.size _ RW1.out.tk hcl).mono ?_
  rintro e w2 ⟨rfl, hR, hG⟩
  have RA1 : Hid (Rw w w2 wX.heap.size (wX.heap.size + 1) c (Wv.nxt2 c (some 2)) #[I (Wv.one c (some 2)), .int .i64 0, .int .i64 0, .slice none 0 0, .slice none 0 0]) := RW1.out.read hG hR
  have e1 : w2.cell? ⟨wX.heap.size + 1, 1, none⟩ = some (.int .i64 0) := RA1.out.kE.cell 1
  have x1 := RA1.out.kE.frozen 1
  clear hR hG RW1
  go_wp2_with fail
  have RW2 : Hid (Rw w (w2.setCell ⟨wX.heap.size + 1, 1, none⟩ (I (Wv.one c (Wv.nxt c (some 2))))) wX.heap.size (wX.heap.size + 1) c (Wv.nxt2 c (some 2)) #[I (Wv.one c (some 2)), I (Wv.one c (Wv.nxt c (some 2))), .int .i64 0, .slice none 0 0, .slice none 0 0]) := RA1.out.set 1 _
  clear RA1 e1 x1
  generalize w2.setCell ⟨wX.heap.size + 1, 1, none⟩ (I (Wv.one c (Wv.nxt c (some 2)))) = wS2 at *
  refine (take1_any c _ wX.heap.size _ RW2.out.tk hcl).mono ?_
  rintro e w3 ⟨rfl, hR, hG⟩
  have RA2 : Hid (Rw w w3 wX.heap.size (wX.heap.size + 1) c (Wv.nxt3 c (some 2)) #[I (Wv.one c (some 2)), I (Wv.one c (Wv.nxt c (some 2))), .int .i64 0, .slice none 0 0, .slice none 0 0]) := RW2.out.read hG hR
  have e2 : w3.cell? ⟨wX.heap.size + 1, 2, none⟩ = some (.int .i64 0) := RA2.out.kE.cell 2
  have x2 := RA2.out.kE.frozen 2
  clear hR hG RW2
  go_wp2_with fail
  have RW3 : Hid (Rw w (w3.setCell ⟨wX.heap.size + 1, 2, none⟩ (I (Wv.one c (Wv.nxt2 c (some 2))))) wX.heap.size (wX.heap.size + 1) c (Wv.nxt3 c (some 2)) #[I (Wv.one c (some 2)), I (Wv.one c (Wv.nxt c (some 2))), I (Wv.one c (Wv.nxt2 c (some 2))), .slice none 0 0, .slice none 0 0]) := RA2.out.set 2 _
  clear RA2 e2 x2
  generalize w3.setCell ⟨wX.heap.size + 1, 2, none⟩ (I (Wv.one c (Wv.nxt2 c (some 2)))) = wS3 at *
  have HE1 : Hid (Wv.batF false c (some 2) = (⟨Wv.one c (some 2), Wv.one c (Wv.nxt c (some 2)), Wv.one c (Wv.nxt2 c (some 2)), (Wv.batC c (some 2)).1, (Wv.batE false c (some 2)).1⟩, (Wv.batE false c (some 2)).2)) := rfl
  have HEC : Hid (Wv.batC c (some 2) = Wv.run (Wv.oneF c) (Wv.one c (Wv.nxt3 c (some 2))).toNat (Wv.nxt c (Wv.nxt3 c (some 2)))) := rfl
  have HEE : Hid (Wv.batE false c (some 2) = Wv.run (Wv.effF false c) (Wv.one c (Wv.batC c (some 2)).2).toNat (Wv.nxt c (Wv.batC c (some 2)).2)) := rfl
  generalize Wv.one c (some 2) = o at *
  generalize Wv.one c (Wv.nxt c (some 2)) = sq at *
  generalize Wv.one c (Wv.nxt2 c (some 2)) = tm at *
  generalize Wv.nxt3 c (some 2) = q3 at *
  refine (take1_any c q3 wX.heap.size _ RW3.out.tk hcl).mono ?_
  rintro e w4 ⟨rfl, hR, hG⟩
  have RW4 : Hid (Rw w w4 wX.heap.size (wX.heap.size + 1) c (Wv.nxt c q3) #[I o, I sq, I tm, .slice none 0 0, .slice none 0 0]) := RW3.out.read hG hR
  clear RW3 hR hG
  obtain ⟨n1, n2⟩ := Wv.one_lt c q3
  obtain ⟨N, hN⟩ := Int.eq_ofNat_of_zero_le n1
  have HNN : Hid ((Wv.one c q3).toNat = N) := by show _ = _; omega
  rw [hN] at n2 ⊢
  clear hN n1
  have O4 : Hid (w4.ownsRow (wX.heap.size + 2) 3 1 (.slice none 0 0) 0 (([] : List Int).map I)) := ⟨rfl, .inl ⟨rfl, rfl⟩⟩
  obtain ⟨i, hi, hz0, hz1, hz2⟩ := info_parts infoI
  clear hx hx2 hx3 hx4 hg hg2 hg3 hgn hn1 hd hs
  generalize (⟨l.toArray⟩ : ByteArray) = ls at *
  go_wp2_with fail
  go_loopw [7] (fun x wr => ∃ (k : Nat) (ca : Option Addr) (cc : Nat), k ≤ N ∧ x = I k ∧ Hid (Rw w wr wX.heap.size (wX.heap.size + 1) c (Wv.run (Wv.oneF c) k (Wv.nxt c q3)).2 #[I o, I sq, I tm, .slice ca k cc, .slice none 0 0]) ∧ Hid (wr.ownsRow (wX.heap.size + 2) 3 1 (.slice ca k cc) k ((Wv.run (Wv.oneF c) k (Wv.nxt c q3)).1.map I))) (fun x _ => N - (intOf x).toNat)
  case atStart => exact ⟨0, none, 0, Nat.zero_le _, rfl, RW4, O4⟩
  case round =>
    obtain ⟨k, ca, cc, hk, rfl, HE, HO2⟩ := hrel
    clear RW4 O4
    by_cases hlt2 : k < N
    · have HRN : Hid ((Wv.run (Wv.oneF c) (k + 1) (Wv.nxt c q3)) = ((Wv.run (Wv.oneF c) k (Wv.nxt c q3)).1 ++ [Wv.one c (Wv.run (Wv.oneF c) k (Wv.nxt c q3)).2], Wv.nxt c (Wv.run (Wv.oneF c) k (Wv.nxt c q3)).2)) := rfl
      generalize (Wv.run (Wv.oneF c) k (Wv.nxt c q3)) = rr at *
      go_wp2_with fail
      refine (take1_any c rr.2 wX.heap.size _ HE.out.tk hcl).mono ?_
      rintro e w10 ⟨rfl, hR10, hG10⟩
      have hEl : wX.heap.size + 1 < wr.heap.size := HE.out.kE.lt
      have E10 : Hid (Rw w w10 wX.heap.size (wX.heap.size + 1) c (Wv.nxt c rr.2) #[I o, I sq, I tm, .slice ca k cc, .slice none 0 0]) := HE.out.read hG10 hR10
      have O10 : Hid (w10.ownsRow (wX.heap.size + 2) 3 1 (.slice ca k cc) k (rr.1.map I)) := own_kept HO2.out (fun b hb => hG10.block b (HO2.out.lt b hb).2 (fun e => by cases e; have := (HO2.out.lt _ hb).1; omega))
      clear hR10 hG10 HE HO2
      generalize Wv.one c rr.2 = d at *
      have e3a : w10.cell? ⟨wX.heap.size + 1, 3, none⟩ = some (.slice ca k cc) := E10.out.kE.cell 3
      go_wp2_with (first | (at_builtin; go_must (refine wpList_append_lies _ rfl _ _ _ rfl (wX.heap.size + 2) 3 i (.int .i64 0) 1 8 Tryd.underlying22 hi hz0 hz1 hz2 rfl (by omega) (.slice ca k cc) k (rr.1.map I) rfl (O10.out.alloc _) ⟨w10.heap.size, 0, none⟩ 1 1 [I d] rfl rfl (lit_any w10 _ _) (int_one d) (by omega) (by unfold maxLen; omega) (by omega) (by have := E10.out.kE.lt; simp; omega) (w10.heap.size + 1) (by simp) ?_; intro g5 cap5 w11 hown5 hgrow5 hat5 hlt5; have E11 : Hid (Rw w w11 wX.heap.size (wX.heap.size + 1) c (Wv.nxt c rr.2) #[I o, I sq, I tm, .slice ca k cc, .slice none 0 0]) := (E10.out.alloc _).grow hgrow5 (fun b hb => by have := (O10.out.lt b hb).1; omega); have e3b : w11.cell? ⟨wX.heap.size + 1, 3, none⟩ = some (.slice ca k cc) := E11.out.kE.cell 3; have x3b := E11.out.kE.frozen 3)))
      have LF : Hid (Rw w (w11.setCell ⟨wX.heap.size + 1, 3, none⟩ (.slice (some ⟨g5, 0, none⟩) (k + 1) cap5)) wX.heap.size (wX.heap.size + 1) c (Wv.nxt c rr.2) #[I o, I sq, I tm, .slice (some ⟨g5, 0, none⟩) (k + 1) cap5, .slice none 0 0]) := E11.out.set 3 _
      have LO : Hid ((w11.setCell ⟨wX.heap.size + 1, 3, none⟩ (.slice (some ⟨g5, 0, none⟩) (k + 1) cap5)).ownsRow (wX.heap.size + 2) 3 1 (.slice (some ⟨g5, 0, none⟩) (k + 1) cap5) (k + 1) ((rr.1 ++ [d]).map I)) := by
        rw [List.map_append]
        refine own_kept hown5 fun b hb => heap_setCell_other _ ⟨wX.heap.size + 1, 3, none⟩ _ _ ?_
        have := (hown5.lt b hb).1
        show b ≠ wX.heap.size + 1
        omega
      clear E11 E10 O10 e3a e3b x3b hown5 hgrow5 hat5 hlt5
      go_roundw
      case rel =>
        refine ⟨k + 1, some ⟨g5, 0, none⟩, cap5, by omega, by go_num, ?_, ?_⟩
        · rw [HRN.out]; exact LF
        · rw [HRN.out]; exact LO
      case measure => simp [intOf]; omega
    · obtain rfl : k = N := by omega
      have hlenC : (Wv.run (Wv.oneF c) k (Wv.nxt c q3)).1.length = k := Wv.run_len _ _ _
      have HC2 : Hid (Wv.batC c (some 2) = (Wv.run (Wv.oneF c) k (Wv.nxt c q3))) := by show _ = _; rw [HEC.out, HNN.out]
      have HEE2 : Hid (Wv.batE false c (some 2) = Wv.run (Wv.effF false c) (Wv.one c (Wv.run (Wv.oneF c) k (Wv.nxt c q3)).2).toNat (Wv.nxt c (Wv.run (Wv.oneF c) k (Wv.nxt c q3)).2)) := by show _ = _; rw [HEE.out, HC2.out]
      clear HNN HEC HEE
      generalize (Wv.run (Wv.oneF c) k (Wv.nxt c q3)) = rc at *
      go_wp2_with fail
      refine (take1_any c rc.2 wX.heap.size _ HE.out.tk hcl).mono ?_
      rintro e w5 ⟨rfl, hR, hG⟩
      have hE0 : wX.heap.size + 1 < wr.heap.size := HE.out.kE.lt
      have EW5 : Hid (Rw w w5 wX.heap.size (wX.heap.size + 1) c (Wv.nxt c rc.2) #[I o, I sq, I tm, .slice ca k cc, .slice none 0 0]) := HE.out.read hG hR
      have O5 : Hid (Ob w5 (wX.heap.size + 2) (.slice ca k cc) (.slice none 0 0) rc.1 []) :=
        ⟨by rw [hlenC]; exact own_kept HO2.out (fun b hb => hG.block b (HO2.out.lt b hb).2 (fun e => by cases e; have := (HO2.out.lt _ hb).1; omega)), ⟨rfl, .inl ⟨rfl, rfl⟩⟩, (fun _ h => by cases h), (fun _ _ h => by cases h), (fun _ h => by cases h), List.Pairwise.nil⟩
      clear HE HO2 hR hG
      obtain ⟨n3, n4⟩ := Wv.one_lt c rc.2
      obtain ⟨M, hM⟩ := Int.eq_ofNat_of_zero_le n3
      have HMM : Hid ((Wv.one c rc.2).toNat = M) := by show _ = _; omega
      rw [hM] at n4 ⊢
      clear hM n3 hi hz0 hz1 hz2
      obtain ⟨i2, hi2, hy0, hy1, hy2⟩ := info_parts infoEf
      go_wp2_with fail
      go_loopw [9] (fun x wr => ∃ (j : Nat) (ea : Option Addr) (ec : Nat) (ms : List Em), j ≤ M ∧ x = I j ∧ Hid (Rw w wr wX.heap.size (wX.heap.size + 1) c (Wv.run (Wv.effF false c) j (Wv.nxt c rc.2)).2 #[I o, I sq, I tm, .slice ca k cc, .slice ea j ec]) ∧ Hid (Ob wr (wX.heap.size + 2) (.slice ca k cc) (.slice ea j ec) rc.1 ms) ∧ Hid (ms.map (·.e) = (Wv.run (Wv.effF false c) j (Wv.nxt c rc.2)).1)) (fun x _ => M - (intOf x).toNat)
      case atStart => exact ⟨0, none, 0, [], Nat.zero_le _, rfl, EW5, O5, rfl⟩
      case round =>
        obtain ⟨j, ea, ec, ms, hj, rfl, HE, HO2, HMS⟩ := hrel
        clear EW5 O5
        have hml : ms.length = j := by have := congrArg List.length HMS.out; rw [Wv.run_len] at this; simpa using this
        by_cases hlt3 : j < M
        · have hEl : wX.heap.size + 1 < wr.heap.size := HE.out.kE.lt
          have HRN : Hid ((Wv.run (Wv.effF false c) (j + 1) (Wv.nxt c rc.2)) = ((Wv.run (Wv.effF false c) j (Wv.nxt c rc.2)).1 ++ [(Wv.effF false c (Wv.run (Wv.effF false c) j (Wv.nxt c rc.2)).2).1], (Wv.effF false c (Wv.run (Wv.effF false c) j (Wv.nxt c rc.2)).2).2)) := rfl
          have HOE : Hid (wr.ownsRow (wX.heap.size + 2) 43 7 (.slice ea j ec) j (flat Em.cells ms)) := by have := HO2.out.cells; rw [hml] at this; exact this
          generalize (Wv.run (Wv.effF false c) j (Wv.nxt c rc.2)) = rr at *
          go_wp2_with fail
          refine (teff_any c rr.2 wX.heap.size _ HE.out.tk hcl).mono ?_
          rintro e w10 ⟨m, rfl, hme, hDo, hR10, hG10⟩
          have HME : Hid (m.e = (Wv.effF false c rr.2).1) := hme
          have HDo : Hid (w10.ownsRow wr.heap.size 40 3 m.dv m.e.dots.length (flat dotCells m.e.dots)) := hDo
          have HGK : Hid (wr.grownBy w10 (some wX.heap.size)) := hG10
          have E10 : Hid (Rw w w10 wX.heap.size (wX.heap.size + 1) c (Wv.effF false c rr.2).2 #[I o, I sq, I tm, .slice ca k cc, .slice ea j ec]) := HE.out.read hG10 hR10
          have O10 : Hid (w10.ownsRow (wX.heap.size + 2) 43 7 (.slice ea j ec) j (flat Em.cells ms)) := own_kept HOE.out (fun b hb => hG10.block b (HOE.out.lt b hb).2 (fun e => by cases e; have := (HOE.out.lt _ hb).1; omega))
          clear hR10 hG10 hme hDo
          have e4a : w10.cell? ⟨wX.heap.size + 1, 4, none⟩ = some (.slice ea j ec) := E10.out.kE.cell 4
          have e4c : (w10.alloc (.cells #[I m.e.op, I m.e.ob, I m.e.va, I m.e.ref.o, I m.e.ref.s, I m.e.ref.i, .slice m.da m.e.dots.length m.dc] 43)).cell? ⟨wX.heap.size + 1, 4, none⟩ = some (.slice ea j ec) := (E10.out.alloc _).kE.cell 4
          go_wp2_with (first | (at_builtin; go_must (refine wpList_append_lies _ rfl _ _ _ rfl (wX.heap.size + 2) 43 i2 (.agg #[.int .i64 0, .int .i64 0, .int .i64 0, .int .i64 0, .int .i64 0, .int .i64 0, .slice none 0 0]) 7 72 Tryd.underlying23 hi2 hy0 hy1 hy2 rfl (by omega) (.slice ea j ec) j (flat Em.cells ms) rfl ((O10.out.alloc _).alloc _) ⟨w10.heap.size + 1, 0, none⟩ 1 1 [I m.e.op, I m.e.ob, I m.e.va, I m.e.ref.o, I m.e.ref.s, I m.e.ref.i, .slice m.da m.e.dots.length m.dc] rfl rfl (lit_second w10 _ _ _) (em_one m) (by omega) (by unfold maxLen; omega) (by omega) (by have := E10.out.kE.lt; simp; omega) (w10.heap.size + 1 + 1) (by simp) ?_; intro g5 cap5 w11 hown5 hgrow5 hat5 hlt5; have E11 : Hid (Rw w w11 wX.heap.size (wX.heap.size + 1) c (Wv.effF false c rr.2).2 #[I o, I sq, I tm, .slice ca k cc, .slice ea j ec]) := ((E10.out.alloc _).alloc _).grow hgrow5 (fun b hb => by have := (O10.out.lt b hb).1; omega); have e4b : w11.cell? ⟨wX.heap.size + 1, 4, none⟩ = some (.slice ea j ec) := E11.out.kE.cell 4; have x4b := E11.out.kE.frozen 4)))
          have LF : Hid (Rw w (w11.setCell ⟨wX.heap.size + 1, 4, none⟩ (.slice (some ⟨g5, 0, none⟩) (j + 1) cap5)) wX.heap.size (wX.heap.size + 1) c (Wv.effF false c rr.2).2 #[I o, I sq, I tm, .slice ca k cc, .slice (some ⟨g5, 0, none⟩) (j + 1) cap5]) := E11.out.set 4 _
          have hs10 : wr.heap.size ≤ w10.heap.size := HGK.out.size
          have hnb : ∀ b, (Value.slice ea j ec).ownBlock = some b → b < wr.heap.size := fun b hb => (HOE.out.lt b hb).2
          have LO : Hid (Ob (w11.setCell ⟨wX.heap.size + 1, 4, none⟩ (.slice (some ⟨g5, 0, none⟩) (j + 1) cap5)) (wX.heap.size + 2) (.slice ca k cc) (.slice (some ⟨g5, 0, none⟩) (j + 1) cap5) rc.1 (ms ++ [m])) := by
            refine HO2.out.push ?_ ?_ ?_ ?_ ?_
            · intro b h1 h2 h3
              rw [heap_setCell_other _ ⟨wX.heap.size + 1, 4, none⟩ b _ (by show b ≠ wX.heap.size + 1; omega), hgrow5.block b (by simp; omega) (fun e => h3 e.symm), Below.heap_alloc (w10.alloc _) _ b (by simp; omega), Below.heap_alloc w10 _ b (by omega), HGK.out.block b h1 (by simp; omega)]
            · rw [hml]
              refine own_kept hown5 fun b hb => heap_setCell_other _ ⟨wX.heap.size + 1, 4, none⟩ _ _ ?_
              have := (hown5.lt b hb).1
              show b ≠ wX.heap.size + 1
              omega
            · rcases hat5 with e | e
              · exact Or.inl e.symm
              · exact Or.inr ⟨g5, rfl, by omega⟩
            · refine own_mono (own_kept HDo.out fun b hb => ?_) (by omega)
              obtain ⟨b1, b2⟩ := HDo.out.lt b hb
              rw [heap_setCell_other _ ⟨wX.heap.size + 1, 4, none⟩ b _ (by show b ≠ wX.heap.size + 1; omega), hgrow5.block b (by simp; omega) (fun e => by have := hnb b e.symm; omega), Below.heap_alloc (w10.alloc _) _ b (by simp; omega), Below.heap_alloc w10 _ b b2]
            · intro b hb
              obtain ⟨b1, b2⟩ := HDo.out.lt b hb
              refine ⟨b1, fun e => ?_⟩
              have e' : g5 = b := by simpa [Value.ownBlock] using e
              subst e'
              clear e
              rcases hat5 with e | e
              · have := hnb _ e; omega
              · omega
          have LM : Hid ((ms ++ [m]).map (·.e) = rr.1 ++ [(Wv.effF false c rr.2).1]) := by show List.map _ _ = _; rw [List.map_append, HMS.out, ← HME.out]; rfl
          clear E11 E10 O10 e4a e4b e4c x4b hown5 hgrow5 hat5 hlt5 HE HO2 HDo HGK HME hnb HOE
          go_roundw
          case rel =>
            refine ⟨j + 1, some ⟨g5, 0, none⟩, cap5, ms ++ [m], by omega, by go_num, ?_, ?_, ?_⟩
            · rw [HRN.out]; exact LF
            · exact LO
            · rw [HRN.out]; exact LM
          case measure => simp [intOf]; omega
        · obtain rfl : j = M := by omega
          have HD2 : Hid (Wv.batE false c (some 2) = (Wv.run (Wv.effF false c) j (Wv.nxt c rc.2))) := by show _ = _; rw [HEE2.out, HMM.out]
          clear HMM HEE2
          have hlenE : (Wv.run (Wv.effF false c) j (Wv.nxt c rc.2)).1.length = j := Wv.run_len _ _ _
          generalize (Wv.run (Wv.effF false c) j (Wv.nxt c rc.2)) = rr at *
          have HBB : Hid (Wv.batF false c (some 2) = (⟨o, sq, tm, rc.1, rr.1⟩, rr.2)) := by show _ = _; rw [HE1.out, HC2.out, HD2.out]
          clear HE1 HC2 HD2
          have HBA : Hid (BatAt wr ⟨o, sq, tm, rc.1, rr.1⟩ ca ea ms) := Ob.bat (by rw [hlenC, hlenE]; exact HO2.out) HMS.out.symm
          have b0 : wr.cell? ⟨wX.heap.size + 1, 0, none⟩ = some (I o) := HE.out.kE.cell 0
          have b1 : wr.cell? ⟨wX.heap.size + 1, 1, none⟩ = some (I sq) := HE.out.kE.cell 1
          have b2 : wr.cell? ⟨wX.heap.size + 1, 2, none⟩ = some (I tm) := HE.out.kE.cell 2
          have b3 : wr.cell? ⟨wX.heap.size + 1, 3, none⟩ = some (.slice ca k cc) := HE.out.kE.cell 3
          have b4 : wr.cell? ⟨wX.heap.size + 1, 4, none⟩ = some (.slice ea j ec) := HE.out.kE.cell 4
          go_wp2_with fail
          have hisb := isBatch_any ⟨o, sq, tm, rc.1, rr.1⟩ ca ea cc ec ms wr HBA.out (by show rr.1.length ≤ _; omega)
          unfold bV batV at hisb
          rw [hlenC, hlenE] at hisb
          refine hisb.mono ?_
          rintro e w6 ⟨rfl, hb6⟩
          have R6 : Hid (Rw w w6 wX.heap.size (wX.heap.size + 1) c rr.2 #[I o, I sq, I tm, .slice ca k cc, .slice ea j ec]) := HE.out.kept hb6
          have O6 : Hid (Ob w6 (wX.heap.size + 2) (.slice ca k cc) (.slice ea j ec) rc.1 ms) := HO2.out.kept (fun b h1 _ => hb6.block b h1)
          clear hisb HBA b0 b1 b2 b3 b4 hb6 HE HO2
          have HYE2 : Hid (rr.2 = some c.length ∧ Wv.isB ⟨o, sq, tm, rc.1, rr.1⟩ = true) := by show _ ∧ _; have := HYE.out; rw [HBB.out] at this; exact this
          have hT : Tk w6 wX.heap.size c (some c.length) := by have := R6.out.tk; rw [HYE2.out.1] at this; exact this
          have t0 : w6.cell? ⟨wX.heap.size, 0, none⟩ = some (.string ⟨#[]⟩) := by have := hT.1.cell 0; rw [List.drop_length] at this; exact this
          have t1 : w6.cell? ⟨wX.heap.size, 1, none⟩ = some (.bool false) := hT.1.cell 1
          rw [HYE2.out.2]
          clear hT HYE HYE2
          have HBw : Hid (Below w.heap.size w w6) := R6.out.below
          have HKw : Hid (Blk w6 w.heap.size #[.int .i64 0, .int .i64 0, .int .i64 0, .slice none 0 0, .slice none 0 0] 25) := R6.out.kR
          have b0 : w6.cell? ⟨wX.heap.size + 1, 0, none⟩ = some (I o) := R6.out.kE.cell 0
          have b1 : w6.cell? ⟨wX.heap.size + 1, 1, none⟩ = some (I sq) := R6.out.kE.cell 1
          have b2 : w6.cell? ⟨wX.heap.size + 1, 2, none⟩ = some (I tm) := R6.out.kE.cell 2
          have b3 : w6.cell? ⟨wX.heap.size + 1, 3, none⟩ = some (.slice ca k cc) := R6.out.kE.cell 3
          have b4 : w6.cell? ⟨wX.heap.size + 1, 4, none⟩ = some (.slice ea j ec) := R6.out.kE.cell 4
          have k0 : w6.cell? ⟨w.heap.size, 0, none⟩ = some (.int .i64 0) := R6.out.kR.cell 0
          have z0 := R6.out.kR.frozen 0
          have k1 : w6.cell? ⟨w.heap.size, 1, none⟩ = some (.int .i64 0) := R6.out.kR.cell 1
          have z1 := R6.out.kR.frozen 1
          have k2 : w6.cell? ⟨w.heap.size, 2, none⟩ = some (.int .i64 0) := R6.out.kR.cell 2
          have z2 := R6.out.kR.frozen 2
          have k3 : w6.cell? ⟨w.heap.size, 3, none⟩ = some (.slice none 0 0) := R6.out.kR.cell 3
          have z3 := R6.out.kR.frozen 3
          have k4 : w6.cell? ⟨w.heap.size, 4, none⟩ = some (.slice none 0 0) := R6.out.kR.cell 4
          have z4 := R6.out.kR.frozen 4
          go_wp2
          rw [HC.out, HBB.out]
          have HF : Hid (Blk (put5 w6 w.heap.size (I o) (I sq) (I tm) (.slice ca k cc) (.slice ea j ec)) w.heap.size #[I o, I sq, I tm, .slice ca k cc, .slice ea j ec] 25) := put5_blk HKw.out _ _ _ _ _
          have HY : Hid (Below w.heap.size w (put5 w6 w.heap.size (I o) (I sq) (I tm) (.slice ca k cc) (.slice ea j ec))) := ((((HBw.out.setCell (Nat.le_refl _) _).setCell (Nat.le_refl _) _).setCell (Nat.le_refl _) _).setCell (Nat.le_refl _) _).setCell (Nat.le_refl _) _
          have HPP : Hid (∀ bb, bb ≠ w.heap.size → (put5 w6 w.heap.size (I o) (I sq) (I tm) (.slice ca k cc) (.slice ea j ec)).heap[bb]? = w6.heap[bb]?) := fun bb hk => put5_heap _ _ _ _ _ _ _ bb hk
          unfold put5 at HF HY HPP
          generalize (((((w6.setCell ⟨w.heap.size, 0, none⟩ (I o)).setCell ⟨w.heap.size, 1, none⟩ (I sq)).setCell ⟨w.heap.size, 2, none⟩ (I tm)).setCell ⟨w.heap.size, 3, none⟩ (.slice ca k cc)).setCell ⟨w.heap.size, 4, none⟩ (.slice ea j ec)) = wF at *
          have f0 : wF.cell? ⟨w.heap.size, 0, none⟩ = some (I o) := HF.out.cell 0
          have f1 : wF.cell? ⟨w.heap.size, 1, none⟩ = some (I sq) := HF.out.cell 1
          have f2 : wF.cell? ⟨w.heap.size, 2, none⟩ = some (I tm) := HF.out.cell 2
          have f3 : wF.cell? ⟨w.heap.size, 3, none⟩ = some (.slice ca k cc) := HF.out.cell 3
          have f4 : wF.cell? ⟨w.heap.size, 4, none⟩ = some (.slice ea j ec) := HF.out.cell 4
          refine bodyPost_ret (v := .tuple #[bV ⟨o, sq, tm, rc.1, rr.1⟩ ca ea cc ec, I 0]) (by simp [results, Tryd.results11, go_sem, f0, f1, f2, f3, f4, hlenC, hlenE]) rfl ⟨⟨ca, ea, cc, ec, ms, rfl, HMS.out.symm, ?_⟩, HY.out⟩
          have hp2 : ∀ b, b ≠ w.heap.size → wF.heap[b]? = w6.heap[b]? := HPP.out
          show Ob wF w.heap.size (.slice ca rc.1.length cc) (.slice ea rr.1.length ec) rc.1 ms
          rw [hlenC, hlenE]
          exact (O6.out.kept (fun b _ h2 => hp2 b (by omega))).mono (by omega)

end Go.Proofs.YtfmcngncaffloaaDoor

namespace Go.Proofs.YtfmcngncaffloaaDoor
open Go.RowKit
set_option maxRecDepth 100000

theorem rdec_none (l : List UInt8) (w : World) (hlen : l.length ≤ 9223372036854775807) (h : Wv.dec l = none) :
    Calls Tryd.prog 11 #[.string ⟨l.toArray⟩] w fun e w' => e = .returned (.tuple #[zeroBat, I 15]) ∧ Below w.heap.size w w' := by
  by_cases h6 : l.length < 6
  · exact rdec_short l w h6
  · by_cases hn : Wv.num2 l = l.length
    · by_cases ht : Wv.tail4 l = Wv.be4 (Wv.sum (Wv.body l) : Nat)
      · have ho : opens l := ⟨by omega, hn, ht⟩
        refine rdec_no l w (by omega) ho ?_
        have h2 : Wv.decC true (Wv.body l) = none := by
          unfold Wv.dec at h
          split at h
          · exact h
          · exact absurd ho ‹_›
        rw [Wv.decC_same] at h2
        unfold Wv.decC at h2
        split at h2
        · cases h2
        · assumption
      · exact rdec_sum l w (by omega) hn ht
    · exact rdec_len l w (by omega) hlen hn
theorem rdec_some (l : List UInt8) (b : Wv.Bt) (w : World) (h : Wv.dec l = some b) :
    Calls Tryd.prog 11 #[.string ⟨l.toArray⟩] w fun e w' => (∃ ca ea cc ec ms, e = .returned (.tuple #[bV b ca ea cc ec, I 0]) ∧ b.effs = ms.map (·.e) ∧ Ob w' w.heap.size (.slice ca b.clock.length cc) (.slice ea b.effs.length ec) b.clock ms) ∧ Below w.heap.size w w' := by
  unfold Wv.dec at h
  split at h
  · rename_i ho
    rw [Wv.decC_same] at h
    have h6 : 6 ≤ l.length := by
      rcases Nat.lt_or_ge l.length 6 with h1 | h1
      · rw [Wv.decC_short false (Wv.body l) (by rw [Wv.body_len]; omega)] at h
        cases h
      · exact h1
    unfold Wv.decC at h
    split at h
    · rename_i hq
      cases h
      exact rdec_yes l w h6 ho hq
    · cases h
  · cases h
/-- What both answer. -/
def decB (l : List UInt8) : Wv.Bt := (Wv.dec l).getD ⟨0, 0, 0, [], []⟩
def decN (l : List UInt8) : Int := if (Wv.dec l).isSome then 0 else 15
theorem ob_zero (w : World) (base : Nat) : Ob w base (.slice none 0 0) (.slice none 0 0) [] [] :=
  ⟨⟨rfl, .inl ⟨rfl, rfl⟩⟩, ⟨rfl, .inl ⟨rfl, rfl⟩⟩, (fun _ h => by cases h), (fun _ h => by cases h), (fun _ h => by cases h), List.Pairwise.nil⟩
theorem wdec_any (l : List UInt8) (w : World) (eb ef : Addr) (hI : ItoaSaid) (gl : Gl w eb ef) (hp : Pw w) (g0 : Gd w) (hlen : l.length ≤ 9223372036854775807) :
    Calls Tryd.prog 10 #[.string ⟨l.toArray⟩] w fun e w' => (∃ ca ea cc ec ms, e = .returned (.tuple #[bV (decB l) ca ea cc ec, I (decN l)]) ∧ (decB l).effs = ms.map (·.e) ∧ Ob w' w.heap.size (.slice ca (decB l).clock.length cc) (.slice ea (decB l).effs.length ec) (decB l).clock ms) ∧ Below w.heap.size w w' := by
  unfold decB decN
  cases h : Wv.dec l with
  | none => exact (wdec_none l w eb ef hI gl hp g0 hlen h).mono fun e w' ⟨he, hb⟩ => ⟨⟨none, none, 0, 0, [], he, rfl, ob_zero _ _⟩, hb⟩
  | some b => exact wdec_some l b w eb ef hI gl hp g0 h
theorem rdec_any (l : List UInt8) (w : World) (hlen : l.length ≤ 9223372036854775807) :
    Calls Tryd.prog 11 #[.string ⟨l.toArray⟩] w fun e w' => (∃ ca ea cc ec ms, e = .returned (.tuple #[bV (decB l) ca ea cc ec, I (decN l)]) ∧ (decB l).effs = ms.map (·.e) ∧ Ob w' w.heap.size (.slice ca (decB l).clock.length cc) (.slice ea (decB l).effs.length ec) (decB l).clock ms) ∧ Below w.heap.size w w' := by
  unfold decB decN
  cases h : Wv.dec l with
  | none => exact (rdec_none l w hlen h).mono fun e w' ⟨he, hb⟩ => ⟨⟨none, none, 0, 0, [], he, rfl, ob_zero _ _⟩, hb⟩
  | some b => exact rdec_some l b w h
theorem isB_small {b : Wv.Bt} (h : Wv.isB b = true) : b.clock.length ≤ 4 ∧ b.effs.length ≤ 5 ∧ ∀ e ∈ b.effs, e.dots.length ≤ 150 := by
  have h' := h
  simp only [Wv.isB, Bool.and_eq_true] at h
  have hH := h.1
  simp only [Wv.headOk, Bool.and_eq_true, decide_eq_true_eq] at hH
  refine ⟨hH.1.1.1.1.1.2, hH.1.2.2, fun e he => ?_⟩
  obtain ⟨k, hk, rfl⟩ := List.mem_iff_getElem.1 he
  have h2 := Wv.effsTo_at' b b.effs.length k hk h.2
  have e1 : b.effs.getD k ⟨0, 0, 0, ⟨0, 0, 0⟩, []⟩ = b.effs[k] := by simp [hk]
  rw [e1] at h2
  simp only [Wv.effOk, Bool.and_eq_true, decide_eq_true_eq] at h2
  have h3 := h2.1.2.2
  have : Wv.rMostD b.effs[k].op ≤ 150 := by unfold Wv.rMostD; repeat' split <;> omega
  omega
theorem decB_small (l : List UInt8) : (decB l).clock.length ≤ 4 ∧ (decB l).effs.length ≤ 5 ∧ ∀ e ∈ (decB l).effs, e.dots.length ≤ 150 := by
  unfold decB
  cases h : Wv.dec l with
  | none => exact ⟨by simp, by simp, by simp⟩
  | some b =>
    unfold Wv.dec at h
    split at h
    · unfold Wv.decC at h
      split at h
      · rename_i hq
        cases h
        exact isB_small hq.2
      · cases h
    · cases h

end Go.Proofs.YtfmcngncaffloaaDoor
