import Derived.Test.YtfmcngncaffloaaDoorAppA
import Derived.Deep.RegionHeld3
import Derived.Deep.AppendLies
namespace Go.Proofs.YtfmcngncaffloaaDoor
open Go.RowKit
set_option maxRecDepth 100000

theorem lit_cells_at (w : World) (cs : Array Value) (l : List UInt8) (g : Nat) (hg : g = w.heap.size) (hcs : cs = (l.map B8).toArray) : ∀ j u, (l.map B8)[j]? = some u → (w.alloc (.cells cs 5)).cell? ((⟨g, 0, none⟩ : Addr).add j) = some u := by
  subst hg; exact lit_cells w cs l hcs
/-- A dot in bytes. -/
def dotB (d : Wv.Dt) : List UInt8 := Wv.be1 d.o ++ Wv.be1 d.s ++ Wv.be1 d.i
theorem dotB_cells (d : Wv.Dt) : #[Value.int .u8 (d.o % 256), Value.int .u8 (d.s % 256), Value.int .u8 (d.i % 256)] = ((dotB d).map B8).toArray := by
  simp only [dotB, Wv.be1, B8, List.map, List.cons_append, List.nil_append, Wv.ofNat_toNat]

set_option maxHeartbeats 800000 in
theorem dot_any (v : Value) (l : List UInt8) (d : Wv.Dt) (B : Nat) (w : World) (hB : B ≤ w.heap.size) (ho : OwnB w B v l) (hl : l.length ≤ 1048576) :
    Calls Tryd.prog 49 #[v, dotV d] w fun e w' => ∃ v', e = .returned v' ∧ OwnB w' B v' (l ++ dotB d) ∧ Grew w w' v v' := by
  obtain ⟨i, hi, hz0, hz1, hz2⟩ := info_parts infoU8
  have HO : Hid (OwnB w B v l) := ho
  clear ho
  go_enter Tryd.func49, Tryd.ntmps49
  go_wp2_with (first | (at_builtin; go_must (refine wpList_append_own_at _ rfl _ _ _ rfl B 5 i (.int .u8 0) 1 1 Tryd.underlying50 hi hz0 hz1 hz2 rfl (by omega) v l.length (l.map B8) rfl ((HO.out.alloc _).alloc _) ⟨w.heap.size + 1, 0, none⟩ 3 3 ((dotB d).map B8) rfl rfl (lit_cells_at (w.alloc (.cells #[I d.o, I d.s, I d.i] 40)) _ _ _ (by simp) (dotB_cells d)) (B8_one _) (by unfold maxLen; omega) (by omega) (by simp; omega) ?_; intro v' w' hown hgrow hnil hat)))
  go_ret
  exact ⟨_, rfl, OwnB.append rfl hown, ((Grew.new _ v).trans (Grew.new _ v)).trans (Grew.app hgrow hat)⟩

set_option maxHeartbeats 800000 in
theorem hasRef_any (h0 h1 h2 h4 h5 : Value) (r : Int) (w : World) :
    Calls Tryd.prog 48 #[.agg #[h0, h1, h2, I r, h4, h5]] w fun e w' => e = .returned (.bool (r != 0)) ∧ Below w.heap.size w w' := by
  go_enter Tryd.func48, Tryd.ntmps48
  go_wp2
  go_ret
  exact ⟨rfl, (Below.refl _ _).alloc (Nat.le_refl _) _⟩
set_option maxHeartbeats 800000 in
theorem hasDots_any (h0 h1 h2 h3 h4 : Value) (r : Int) (w : World) :
    Calls Tryd.prog 50 #[.agg #[h0, h1, h2, h3, h4, I r]] w fun e w' => e = .returned (.bool (decide (0 < r))) ∧ Below w.heap.size w w' := by
  go_enter Tryd.func50, Tryd.ntmps50
  go_wp2
  go_ret
  exact ⟨rfl, (Below.refl _ _).alloc (Nat.le_refl _) _⟩

end Go.Proofs.YtfmcngncaffloaaDoor
