import Derived.Test.YtfmcngncaffloaaDoorSaid
import Derived.Test.YtfmcngncaffloaaDoorPlain3
import Derived.Deep.QuietTactic
import Derived.BigQuiet
import Derived.Deep.RegionHeld3
namespace Go.Proofs.YtfmcngncaffloaaDoor
open Go.RowKit
set_option maxRecDepth 100000

set_option maxHeartbeats 1600000 in
theorem checkClock_some (b : Wv.Bt) (p q : Nat) (cc : Nat) (ev : Value) (w : World) (eb ef : Addr) (hI : ItoaSaid) (g : Gl w eb ef) (hpw : Pw w) (h : Hid (∀ j u, (b.clock.map I)[j]? = some u → w.cell? ⟨p, q + j, none⟩ = some u)) (hp : p < w.heap.size) (hl : b.clock.length ≤ 4) (hs : 1 ≤ b.s) (hs' : b.s ≤ 30) :
    Calls Tryd.prog 62 #[batV b (some ⟨p, q, none⟩) cc ev] w fun e w' => ErrEnd (Wv.clkOk b) eb e ∧ Below w.heap.size w w' := by
  have hE := g.errBatch
  have hz := lt_of_cell hE
  have hpw' : Hid (Pw w) := hpw
  clear g hpw
  go_enter Tryd.func62, Tryd.ntmps62
  go_wp2_with fail
  go_loop [8] (fun i => ∃ k : Nat, k ≤ b.clock.length ∧ i = I k ∧ Hid (Wv.clkTo b k = true)) (fun i => b.clock.length - (intOf i).toNat)
  case atStart => exact ⟨0, Nat.zero_le _, rfl, rfl⟩
  case round =>
    obtain ⟨k, hk, rfl, hto⟩ := hrel
    by_cases hlt : k < b.clock.length
    · have hc : w.cell? ⟨p, q + k, none⟩ = some (I (b.clock.getD k 0)) := h.out k _ (by simp [hlt])
      have HC : Hid (Wv.cOk b k = (decide (0 ≤ b.clock.getD k 0) && decide (b.clock.getD k 0 ≤ 30) && (!((k : Int) == b.o) || (b.clock.getD k 0 == b.s - 1)))) := rfl
      generalize b.clock.getD k 0 = z at hc HC
      cases hin : (decide (0 ≤ z) && decide (z ≤ 30))
      · have HF : Hid (Wv.clkOk b = false) := Wv.clkTo_no b _ k hlt (by rw [HC.out, hin]; rfl)
        go_wp2_with (first | (go_at_call 61; refine (within_any _ _ _ _).mono ?_; rintro e w' ⟨rfl, h⟩; subst h))
        go_region_held3 (fun w' => w'.cell? ⟨4, 0, none⟩ = some (Sent eb)) (first | go_keep | (refine cell_kept hb ?_; go_keep))
          (first | (go_at_call 46; refine (hI k _ (by omega) ?_).mono ?_; exact hpw'.out.kept ((Below.refl _ _).alloc (Nat.le_refl _) _).drew; rintro e w' ⟨⟨st, hst, rfl⟩, hb⟩; have hcat : ¬ 9223372036854775807 < 9 + st.size := by omega))
        go_wp2
        go_ret
        exact ⟨errEnd_no HF.out, ((Below.refl _ _).alloc (Nat.le_refl _) _).drew.trans (hb.mono (by simp))⟩
      · cases hko : ((k : Int) == b.o)
        · have HT : Hid (Wv.clkTo b (k + 1) = true) := by show (Wv.clkTo b k && Wv.cOk b k) = true; rw [hto.out, HC.out, hin, hko]; rfl
          go_wp2_with (first | (go_at_call 61; refine (within_any _ _ _ _).mono ?_; rintro e w' ⟨rfl, h⟩; subst h))
          exact ⟨⟨k + 1, by omega, by go_num, HT⟩, by simp [intOf]; omega⟩
        · cases hzs : (z == b.s - 1)
          · have hzs' : (z != b.s - 1) = true := by simpa using hzs
            have HF : Hid (Wv.clkOk b = false) := Wv.clkTo_no b _ k hlt (by rw [HC.out, hin, hko, hzs]; rfl)
            go_wp2_with (first | (go_at_call 61; refine (within_any _ _ _ _).mono ?_; rintro e w' ⟨rfl, h⟩; subst h))
            go_region_held3 (fun w' => w'.cell? ⟨4, 0, none⟩ = some (Sent eb)) (first | go_keep | (refine cell_kept hb ?_; go_keep))
              (first | (go_at_call 46; refine (hI k _ (by omega) ?_).mono ?_; exact hpw'.out.kept ((Below.refl _ _).alloc (Nat.le_refl _) _).drew; rintro e w' ⟨⟨st, hst, rfl⟩, hb⟩; have hcat : ¬ 9223372036854775807 < 9 + st.size := by omega))
            go_wp2
            go_ret
            exact ⟨errEnd_no HF.out, ((Below.refl _ _).alloc (Nat.le_refl _) _).drew.trans (hb.mono (by simp))⟩
          · have hzs' : (z != b.s - 1) = false := by simpa using hzs
            have HT : Hid (Wv.clkTo b (k + 1) = true) := by show (Wv.clkTo b k && Wv.cOk b k) = true; rw [hto.out, HC.out, hin, hko, hzs]; rfl
            go_wp2_with (first | (go_at_call 61; refine (within_any _ _ _ _).mono ?_; rintro e w' ⟨rfl, h⟩; subst h))
            exact ⟨⟨k + 1, by omega, by go_num, HT⟩, by simp [intOf]; omega⟩
    · obtain rfl : k = b.clock.length := by omega
      go_wp2
      go_ret
      exact ⟨errEnd_yes hto.out, (Below.refl _ _).alloc (Nat.le_refl _) _⟩

set_option maxHeartbeats 400000 in
theorem checkClock_any (b : Wv.Bt) (ca : Option Addr) (cc : Nat) (ev : Value) (w : World) (eb ef : Addr) (hI : ItoaSaid) (g : Gl w eb ef) (hp : Pw w) (h : At w ca (b.clock.map I)) (hl : b.clock.length ≤ 4) (h2 : 2 ≤ b.clock.length) (hs : 1 ≤ b.s) (hs' : b.s ≤ 30) :
    Calls Tryd.prog 62 #[batV b ca cc ev] w fun e w' => ErrEnd (Wv.clkOk b) eb e ∧ Below w.heap.size w w' := by
  obtain ⟨p, q, rfl, hlt, hc⟩ := h.first (by simp; omega)
  exact checkClock_some b p q cc ev w eb ef hI g hp hc hlt hl hs hs'

end Go.Proofs.YtfmcngncaffloaaDoor
