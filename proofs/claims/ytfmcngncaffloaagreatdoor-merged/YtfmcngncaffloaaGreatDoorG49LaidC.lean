import Derived.Test.YtfmcngncaffloaaGreatDoorG48Laid
import Derived.Test.YtfmcngncaffloaaGreatDoorG29DecA
import Derived.Lib.LaidTab
namespace Go.Proofs.YtfmcngncaffloaaGreatDoor
open Go.RowKit
set_option maxRecDepth 100000

theorem starC : "*" ++ "errors.errorString" = "*errors.errorString" := by decide
theorem rowStarC (u : TypeId) (h : Tryz.prog.typeName? 3 u = some "*errors.errorString") : u = 308 :=
  typeName_ptr_named (nm := "errors.errorString") (by rw [starC]; kernel_rfl) (by kernel_rfl) (by decide) u (by rw [starC]; exact h)
theorem cellsErrC : Tryz.prog.cellsOf 389 = 1 := by kernel_rfl
theorem cellsStrC : Tryz.prog.cellsOf 9 = 1 := by kernel_rfl
theorem pw_of_tabC {P : Program} {W : World} {n : String} (hg : P.globalNamed n = some 8) (h : Lib.TabIs P W n .u64 Lib.pow10Tab) : Pw W := by
  unfold Lib.TabIs World.var? at h
  rw [hg] at h
  simp only [Option.bind_some] at h
  split at h
  · rename_i cs t fr e
    cases h
    exact ⟨t, fr, e⟩
  · cases h
/-- What the row's list of a law on stores gives. -/
theorem gs_of_laid {W : World} (h : laidMetH Tryz.prog Rows.causalRow.laid W) : (∃ eb ef, Gl W eb ef ∧ Pw W) ∧ Gd W := by
  have h3 : laidMet Tryz.prog _ W := laidMet.tail (laidMet.tail (show laidMet Tryz.prog Rows.causalRow.laid W from h))
  have h4 := laidMet.tail h3
  have h5 := laidMet.tail h4
  have h8 := laidMet.tail (laidMet.tail (laidMet.tail h5))
  have h10 := laidMet.tail (laidMet.tail h8)
  have hp : Pw W := by
    have := Lib.tabIs_of_head (P := Tryz.prog) (zs := Lib.pow10Tab) (k := .u64) (g := 8) (by kernel_rfl) (by kernel_rfl) Tryz.underlying302 Tryz.underlying296 (by kernel_rfl) (by kernel_rfl) h3
    exact pw_of_tabC (by kernel_rfl) this
  refine ⟨?_, ?_⟩
  · obtain ⟨a0, a1, s0, s1, c0, c1, t0, t1, hv0, hv1, hc0, hs0, hz0, hc1, hs1, hz1, hne, hb0, hb1⟩ := laid_sentinels2 (laidMet.less h4) (g0 := 0) (g1 := 3) (by kernel_rfl) (by kernel_rfl) (by kernel_rfl) (by kernel_rfl) Tryz.underlying142 rowStarC Tryz.underlying308 Tryz.underlying389 rfl rfl Tryz.underlying9 cellsErrC cellsStrC
    refine ⟨a0, a1, ⟨by simpa using World.var?_cell (by kernel_rfl) hv0 0, trivial, hne, ⟨_, _, hb0⟩, ⟨_, _, hb1⟩, ?_⟩, hp⟩
    obtain ⟨ps, ⟨g, t, cs, fuel, p, q, hg, ht, hv, hd, _, _⟩, _, _⟩ := h5
    obtain rfl : 1 = g := Option.some.inj ((show Tryz.prog.globalNamed _ = some 1 by kernel_rfl).symm.trans hg)
    obtain rfl : 203 = t := Option.some.inj ((show (Tryz.prog.globals[1]?).map (·.type) = some 203 by kernel_rfl).symm.trans ht)
    intro j hj
    rw [World.var?_cell hg hv j, ← Array.getElem?_toList]
    exact trodRules hd j hj
  · obtain ⟨a0, a1, s0, s1, c0, c1, t0, t1, hv0, hv1, _⟩ := laid_sentinels2 h8 (g0 := 5) (g1 := 6) (by kernel_rfl) (by kernel_rfl) (by kernel_rfl) (by kernel_rfl) Tryz.underlying142 rowStarC Tryz.underlying308 Tryz.underlying389 rfl rfl Tryz.underlying9 cellsErrC cellsStrC
    obtain ⟨a2, a3, s2, s3, c2, c3, t2, t3, hv2, hv3, _⟩ := laid_sentinels2 h10 (g0 := 7) (g1 := 2) (by kernel_rfl) (by kernel_rfl) (by kernel_rfl) (by kernel_rfl) Tryz.underlying142 rowStarC Tryz.underlying308 Tryz.underlying389 rfl rfl Tryz.underlying9 cellsErrC cellsStrC
    exact ⟨⟨a2, by simpa using World.var?_cell (by kernel_rfl) hv2 0⟩, ⟨a0, by simpa using World.var?_cell (by kernel_rfl) hv0 0⟩, ⟨a1, by simpa using World.var?_cell (by kernel_rfl) hv1 0⟩, ⟨a3, by simpa using World.var?_cell (by kernel_rfl) hv3 0⟩⟩

end Go.Proofs.YtfmcngncaffloaaGreatDoor
