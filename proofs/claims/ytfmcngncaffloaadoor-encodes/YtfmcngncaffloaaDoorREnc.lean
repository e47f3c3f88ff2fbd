import Derived.Test.YtfmcngncaffloaaDoorIsB4
import Derived.Deep.RegionHeld3
namespace Go.Proofs.YtfmcngncaffloaaDoor
open Go.RowKit
set_option maxRecDepth 100000

theorem isBatch_any (b : Wv.Bt) (ca ea : Option Addr) (cc ec : Nat) (ms : List Em) (w : World) (h : BatAt w b ca ea ms) (hn' : b.effs.length ≤ 9223372036854775807) :
    Calls Tryd.prog 22 #[bV b ca ea cc ec] w fun e w' => e = .returned (.bool (Wv.isB b)) ∧ Below w.heap.size w w' := by
  by_cases h1 : 2 ≤ b.clock.length ∧ b.clock.length ≤ 4 ∧ 0 ≤ b.o ∧ b.o < b.clock.length
  · obtain ⟨a1, a2, a3, a4⟩ := h1
    by_cases h2 : 1 ≤ b.s ∧ b.s ≤ 30 ∧ 1 ≤ b.t ∧ b.t ≤ 200
    · obtain ⟨g1, g2, g3, g4⟩ := h2
      obtain ⟨p, q, rfl, hp, hc⟩ := h.clock.first (by simp; omega)
      by_cases hz : b.clock.getD b.o.toNat 0 = b.s - 1
      · exact isBatch_4 b ea cc ec p q ms w a1 a2 a3 a4 g1 g2 g3 g4 h hc hp hz hn'
      · exact isBatch_3 b ea cc ec p q w a1 a2 a3 a4 g1 g2 g3 g4 hc hp hz
    · exact isBatch_2 b ca ea cc ec w a1 a2 a3 a4 h2
  · exact isBatch_1 b ca ea cc ec w h1

theorem bytes1 (n : Int) (w : World) : Calls Tryd.prog 23 #[I n, .int .i64 1] w fun e w' => e = .returned (.string ⟨(Wv.be1 n).toArray⟩) ∧ Below w.heap.size w w' := by
  have := bytes_any n 1 (by omega) (by omega) w
  simpa [beN] using this
theorem bytes2 (n : Int) (w : World) : Calls Tryd.prog 23 #[I n, .int .i64 2] w fun e w' => e = .returned (.string ⟨(Wv.be2 n).toArray⟩) ∧ Below w.heap.size w w' := by
  have e : beN n 2 = Wv.be2 n := by simp [beN, Wv.be1, Wv.be2]
  have := bytes_any n 2 (by omega) (by omega) w
  rw [e] at this
  exact this
theorem bytes4 (n : Int) (w : World) : Calls Tryd.prog 23 #[I n, .int .i64 4] w fun e w' => e = .returned (.string ⟨(Wv.be4 n).toArray⟩) ∧ Below w.heap.size w w' := by
  have e : beN n 4 = Wv.be4 n := by
    simp only [beN, Wv.be1, Wv.be4, List.nil_append, List.cons_append]
    have h2 : n / 256 / 256 = n / 65536 := by omega
    have h3 : n / 256 / 256 / 256 = n / 16777216 := by omega
    rw [h3, h2]
  have := bytes_any n 4 (by omega) (by omega) w
  rw [e] at this
  exact this

set_option maxHeartbeats 1600000 in
theorem rdot_any (d : Wv.Dt) (w : World) :
    Calls Tryd.prog 24 #[dotV d] w fun e w' => e = .returned (.string ⟨(Wv.dotB d).toArray⟩) ∧ Below w.heap.size w w' := by
  have l1 : ∀ n, (Wv.be1 n).length = 1 := Wv.be1_len
  have HB : Hid (Below w.heap.size w (w.alloc (.cells #[I d.o, I d.s, I d.i] 40))) := (Below.refl _ _).alloc (Nat.le_refl _) _
  go_enter Tryd.func24, Tryd.ntmps24
  go_wp2_with fail
  go_region_held3 (fun w' => w'.cell? ⟨w.heap.size, 0, none⟩ = some (I d.o) ∧ w'.cell? ⟨w.heap.size, 1, none⟩ = some (I d.s) ∧ w'.cell? ⟨w.heap.size, 2, none⟩ = some (I d.i)) (first | go_keep | (refine ⟨cell_kept hb ?_, cell_kept hb ?_, cell_kept hb ?_⟩ <;> go_keep))
    (first | (go_at_call 23; refine (bytes1 _ _).mono ?_; rintro e w' ⟨rfl, hb⟩; have HC : Hid (Below w.heap.size w w') := (by first | exact HC.out.trans (hb.mono (by have := HC.out.size; omega)) | exact HB.out.drew.trans (hb.mono (by simp)))))
  go_wp2
  go_ret
  exact ⟨ret_str (by rw [str_append, str_append]; rfl), HC.out⟩

end Go.Proofs.YtfmcngncaffloaaDoor
