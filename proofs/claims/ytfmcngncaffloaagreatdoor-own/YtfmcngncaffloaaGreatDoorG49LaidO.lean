import Derived.Test.YtfmcngncaffloaaGreatDoorG48Laid
import Derived.Test.YtfmcngncaffloaaGreatDoorG27DecA
import Derived.Lib.LaidTab
import Derived.Stop.LaidErr
namespace Go.Proofs.YtfmcngncaffloaaGreatDoor
open Go.RowKit
set_option maxRecDepth 100000

theorem starC : "*" ++ "errors.errorString" = "*errors.errorString" := by decide
theorem rowStarC (u : TypeId) (h : Tryz.prog.typeName? 3 u = some "*errors.errorString") : u = 308 :=
  typeName_ptr_named (nm := "errors.errorString") (by rw [starC]; kernel_rfl) (by kernel_rfl) (by decide) u (by rw [starC]; exact h)
theorem cellsErrC : Tryz.prog.cellsOf 389 = 1 := by kernel_rfl
theorem cellsStrC : Tryz.prog.cellsOf 9 = 1 := by kernel_rfl
theorem pw_of_tabC {P : Program} {W : World} {n : String} (hg : P.globalNamed n = some 8) (h : Lib.TabIs P W n .u64 Lib.pow10Tab) : Pw W := by
  unfold Lib.TabIs World.var? at h
  rw [hg] at h
  simp only [Option.bind_some] at h
  split at h
  · rename_i cs t fr e
    cases h
    exact ⟨t, fr, e⟩
  · cases h
end Go.Proofs.YtfmcngncaffloaaGreatDoor

namespace Go.Proofs.YtfmcngncaffloaaGreatDoor
open Go.RowKit
set_option maxRecDepth 100000

/-- One sentinel: its address, and its block. -/
theorem sentinel_at {P : Program} {n nm : String} {text : List UInt8} {r : List (String × DataW Unit)} {W : World} {g : Nat} {ti tp te ts : TypeId} {ms : Array (String × TypeId)} {f : Field}
    (h : laidMet P ((n, .iface nm (.ptr (.agg [.lit (.string text)]))) :: r) W)
    (hg : P.globalNamed n = some g) (ht : (P.globals[g]?).map (·.type) = some ti) (hi : P.underlying ti = some (.interface ms)) (hrow : ∀ u, P.typeName? 3 u = some nm → u = tp)
    (hp : P.underlying tp = some (.pointer te)) (he : P.underlying te = some (.struct #[f])) (hft : f.type = ts) (hfo : f.offset = 0) (hs : P.underlying ts = some .string) (hc : P.cellsOf te = 1) (hcs : P.cellsOf ts = 1) :
    ∃ (a : Addr) (c : Array Value) (t : TypeId), W.var? P n = some #[.iface tp (.pointer (some a))] ∧ W.heap[a.block]? = some (.cells c t (0, 0)) := by
  obtain ⟨ps, ⟨g1, t1, cs1, f1, p1, q1, hg1, ht1, hv1, hd1, _, e1⟩, _, hrows⟩ := h
  obtain rfl := Option.some.inj (hg.symm.trans hg1)
  obtain rfl := Option.some.inj (ht.symm.trans ht1)
  subst e1
  obtain ⟨l1⟩ := cs1
  obtain ⟨a, s, rfl, _, _, _, rfl⟩ := errorString_of_trod hi hrow hp he hft hfo hs hc hcs hd1 (fun u v e => by
    subst e
    exact (hrows g 0 (by simp [MemPlace.row])).2 u v (by simpa using World.var?_cell hg1 hv1 0))
  obtain ⟨c, t, hb⟩ := (hrows a.block a.off (by simp [MemPlace.row])).1
  exact ⟨a, c, t, hv1, hb⟩
/-- What the row's list of Own gives. -/
theorem go_of_laid {W : World} (h : laidMetH Tryz.prog Rows.ownRow.laid W) : ∃ eb ef, Gl W eb ef ∧ Pw W := by
  have h3 : laidMet Tryz.prog _ W := laidMet.tail (laidMet.tail (show laidMet Tryz.prog Rows.ownRow.laid W from h))
  have h4 := laidMet.tail h3
  have h5 := laidMet.tail h4
  have hp : Pw W := by
    have := Lib.tabIs_of_head (P := Tryz.prog) (zs := Lib.pow10Tab) (k := .u64) (g := 8) (by kernel_rfl) (by kernel_rfl) Tryz.underlying302 Tryz.underlying296 (by kernel_rfl) (by kernel_rfl) h3
    exact pw_of_tabC (by kernel_rfl) this
  obtain ⟨a, c, t, hv, hb⟩ := sentinel_at h4 (g := 0) (by kernel_rfl) (by kernel_rfl) Tryz.underlying142 rowStarC Tryz.underlying308 Tryz.underlying389 rfl rfl Tryz.underlying9 cellsErrC cellsStrC
  refine ⟨a, ⟨a.block, a.off + 1, a.spot⟩, ⟨by simpa using World.var?_cell (by kernel_rfl) hv 0, trivial, ?_, ⟨_, _, hb⟩, ⟨_, _, hb⟩, ?_⟩, hp⟩
  · intro e
    have := congrArg Addr.off e
    simp at this
  · obtain ⟨ps, ⟨g, t, cs, fuel, p, q, hg, ht, hv, hd, _, _⟩, _, _⟩ := h5
    obtain rfl : 1 = g := Option.some.inj ((show Tryz.prog.globalNamed _ = some 1 by kernel_rfl).symm.trans hg)
    obtain rfl : 203 = t := Option.some.inj ((show (Tryz.prog.globals[1]?).map (·.type) = some 203 by kernel_rfl).symm.trans ht)
    intro j hj
    rw [World.var?_cell hg hv j, ← Array.getElem?_toList]
    exact trodRules hd j hj

end Go.Proofs.YtfmcngncaffloaaGreatDoor
