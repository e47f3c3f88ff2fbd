import Derived.Test.YtfmcngncaffloaaDoorPow
import Derived.Test.YtfmcngncaffloaaDoorRows
import Derived.OpenShut
import Derived.Stop.LaidTwo
import Derived.Lib.LaidTab
import Derived.Test.YtfmcngncaffloaaDoorRdrA
import Derived.LaidSub
namespace Go.Proofs.YtfmcngncaffloaaDoor
open Go.RowKit
set_option maxRecDepth 100000

/-- One of the list may be left out. -/
theorem laidMet.less {P : Program} {x y : String × DataW Unit} {r : List (String × DataW Unit)} {w : World} (h : laidMet P (x :: y :: r) w) : laidMet P (x :: r) w := by
  obtain ⟨ps, hv, hnd, hrows⟩ := h
  obtain ⟨n, d⟩ := x
  obtain ⟨n2, d2⟩ := y
  obtain ⟨g, t, cs, fuel, p, q, h1, h2, h3, h4, ⟨g', t', cs', fuel', p', q', _, _, _, _, hq, rfl⟩, rfl⟩ := hv
  have hsub : (MemPlace.row ⟨g, 0, none⟩ cs.size ++ p ++ q').Sublist (MemPlace.row ⟨g, 0, none⟩ cs.size ++ p ++ (MemPlace.row ⟨g', 0, none⟩ cs'.size ++ p' ++ q')) := (List.Sublist.refl _).append (List.sublist_append_right _ _)
  exact ⟨_, ⟨g, t, cs, fuel, p, q', h1, h2, h3, h4, hq, rfl⟩, hnd.sublist hsub, fun b off hm => hrows b off (hsub.subset hm)⟩

def lits {H : Type} (l : List Int) : DataW H := .agg (l.map fun z => .lit (.int .i64 z))
theorem uInt' : Tryd.prog.underlying 3 = some (.int .i64) := by kernel_rfl
theorem cellsInt' : Tryd.prog.cellsOf 3 = 1 := by kernel_rfl
theorem uKind : Tryd.prog.underlying 92 = some (.int .i64) := by kernel_rfl
theorem cellsKind : Tryd.prog.cellsOf 92 = 1 := by kernel_rfl
theorem uFit : Tryd.prog.underlying 93 = some (.int .i64) := by kernel_rfl
theorem cellsFit : Tryd.prog.cellsOf 93 = 1 := by kernel_rfl
theorem cellsRule : Tryd.prog.cellsOf 95 = 6 := by kernel_rfl
theorem cellsRules : Tryd.prog.cellsOf 117 = 42 := by kernel_rfl
theorem trodRule {H : Type} {enc : TypeId × Value → H} {W : World} {base : Nat} {spare : Nat → Bool} {held : Bool} {fuel : Nat} {cs : List Value} {x : DataW H × List MemPlace} (h : DataW.trod enc Tryd.prog W base spare held fuel 95 cs = some x) :
    ∃ zs : List Int, zs.length = 6 ∧ cs = zs.map I ∧ x.1 = lits zs := by
  obtain ⟨xs, n, _, hx, hl, hlen, hf⟩ := DataW.trod_struct Tryd.underlying95 h
  rw [cellsRule] at hl
  match xs, hlen with
  | [y0, y1, y2, y3, y4, y5], _ =>
    match cs, hl with
    | [c0, c1, c2, c3, c4, c5], _ =>
      have h0 : DataW.trod enc Tryd.prog W base spare held n 92 [c0] = some y0 := by have := hf 0 _ rfl; simpa [cellsKind] using this
      have h1 : DataW.trod enc Tryd.prog W base spare held n 3 [c1] = some y1 := by have := hf 1 _ rfl; simpa [cellsInt'] using this
      have h2 : DataW.trod enc Tryd.prog W base spare held n 3 [c2] = some y2 := by have := hf 2 _ rfl; simpa [cellsInt'] using this
      have h3 : DataW.trod enc Tryd.prog W base spare held n 93 [c3] = some y3 := by have := hf 3 _ rfl; simpa [cellsFit] using this
      have h4 : DataW.trod enc Tryd.prog W base spare held n 3 [c4] = some y4 := by have := hf 4 _ rfl; simpa [cellsInt'] using this
      have h5 : DataW.trod enc Tryd.prog W base spare held n 3 [c5] = some y5 := by have := hf 5 _ rfl; simpa [cellsInt'] using this
      obtain ⟨z0, e0, d0, _⟩ := DataW.trod_int uKind h0
      obtain ⟨z1, e1, d1, _⟩ := DataW.trod_int uInt' h1
      obtain ⟨z2, e2, d2, _⟩ := DataW.trod_int uInt' h2
      obtain ⟨z3, e3, d3, _⟩ := DataW.trod_int uFit h3
      obtain ⟨z4, e4, d4, _⟩ := DataW.trod_int uInt' h4
      obtain ⟨z5, e5, d5, _⟩ := DataW.trod_int uInt' h5
      simp at e0 e1 e2 e3 e4 e5
      exact ⟨[z0, z1, z2, z3, z4, z5], rfl, by simp [e0, e1, e2, e3, e4, e5], by rw [hx]; simp [lits, d0, d1, d2, d3, d4, d5]⟩
theorem lits_inj {H : Type} {a b : List Int} (h : (lits a : DataW H) = lits b) : a = b := by
  simp only [lits, DataW.agg.injEq] at h
  exact List.map_inj_right (fun x y e => by simpa using e) |>.1 h
theorem rules_are : (Rows.laid_weave_batch_rules : DataW Unit) = .agg ((List.range 7).map fun i => lits ((Wv.tab.drop (i * 6)).take 6)) := by kernel_rfl
theorem trodRules {enc : TypeId × Value → Unit} {W : World} {base : Nat} {spare : Nat → Bool} {held : Bool} {fuel : Nat} {cs : List Value} {p : List MemPlace} (h : DataW.trod enc Tryd.prog W base spare held fuel 117 cs = some (Rows.laid_weave_batch_rules, p)) :
    ∀ j, j < 42 → cs[j]? = some (I (Wv.tab.getD j 0)) := by
  obtain ⟨xs, m, _, hx, hl, hlen, hf⟩ := DataW.trod_array Tryd.underlying117 h
  rw [cellsRule] at hf
  have hxs : xs.map (·.1) = (List.range 7).map fun i => lits ((Wv.tab.drop (i * 6)).take 6) := by
    have := congrArg Prod.fst hx
    rw [rules_are] at this
    simpa using this.symm
  intro j hj
  have hi : j / 6 < 7 := by omega
  have hr : j % 6 < 6 := Nat.mod_lt _ (by omega)
  have h1 := hf (j / 6) hi
  rw [List.getElem?_eq_getElem (by omega)] at h1
  obtain ⟨zs, hz, e1, e2⟩ := trodRule h1
  have e3 : (xs[j / 6]'(by omega)).1 = lits ((Wv.tab.drop (j / 6 * 6)).take 6) := by
    have := congrArg (fun l => l[j / 6]?) hxs
    simpa [hi, hlen] using this
  have e4 := lits_inj (e2.symm.trans e3)
  have e5 : ((cs.drop (j / 6 * 6)).take 6)[j % 6]? = cs[j]? := by
    rw [List.getElem?_take_of_lt hr, List.getElem?_drop, show j / 6 * 6 + j % 6 = j by omega]
  rw [← e5, e1, e4, List.getElem?_map, List.getElem?_take_of_lt hr, List.getElem?_drop, show j / 6 * 6 + j % 6 = j by omega]
  have ht : j < Wv.tab.length := hj
  simp [List.getD, ht]

end Go.Proofs.YtfmcngncaffloaaDoor

namespace Go.Proofs.YtfmcngncaffloaaDoor
open Go.RowKit
set_option maxRecDepth 100000

theorem star : "*" ++ "errors.errorString" = "*errors.errorString" := by decide
theorem rowStar (u : TypeId) (h : Tryd.prog.typeName? 3 u = some "*errors.errorString") : u = 149 :=
  typeName_ptr_named (nm := "errors.errorString") (by rw [star]; kernel_rfl) (by kernel_rfl) (by decide) u (by rw [star]; exact h)
theorem cellsErr : Tryd.prog.cellsOf 173 = 1 := by kernel_rfl
theorem cellsStr : Tryd.prog.cellsOf 9 = 1 := by kernel_rfl

theorem pw_of_tab {P : Program} {W : World} {n : String} (hg : P.globalNamed n = some 7) (h : Lib.TabIs P W n .u64 Lib.pow10Tab) : Pw W := by
  unfold Lib.TabIs World.var? at h
  rw [hg] at h
  simp only [Option.bind_some] at h
  split at h
  · rename_i cs t fr e
    cases h
    exact ⟨t, fr, e⟩
  · cases h
theorem gl_of_laid {W : World} (h : laidMetH Tryd.prog Rows.encodesRow.laid W) : ∃ eb ef, Gl W eb ef ∧ Pw W := by
  have h3 : laidMet Tryd.prog _ W := laidMet.tail (laidMet.tail (show laidMet Tryd.prog Rows.encodesRow.laid W from h))
  have h4 := laidMet.tail h3
  have h5 := laidMet.tail h4
  have hp : Pw W := by
    have := Lib.tabIs_of_head (P := Tryd.prog) (zs := Lib.pow10Tab) (k := .u64) (g := 7) (by kernel_rfl) (by kernel_rfl) Tryd.underlying143 Tryd.underlying136 (by kernel_rfl) (by kernel_rfl) h3
    exact pw_of_tab (by kernel_rfl) this
  obtain ⟨a0, a1, s0, s1, c0, c1, t0, t1, hv0, hv1, hc0, hs0, hz0, hc1, hs1, hz1, hne, hb0, hb1⟩ := laid_sentinels2 (laidMet.less h4) (g0 := 4) (g1 := 0) (by kernel_rfl) (by kernel_rfl) (by kernel_rfl) (by kernel_rfl) Tryd.underlying55 rowStar Tryd.underlying149 Tryd.underlying173 rfl rfl Tryd.underlying9 cellsErr cellsStr
  refine ⟨a0, a1, ⟨by simpa using World.var?_cell (by kernel_rfl) hv0 0, by simpa using World.var?_cell (by kernel_rfl) hv1 0, hne, ⟨_, _, hb0⟩, ⟨_, _, hb1⟩, ?_⟩, hp⟩
  obtain ⟨ps, ⟨g, t, cs, fuel, p, q, hg, ht, hv, hd, _, _⟩, _, _⟩ := h5
  obtain rfl : 5 = g := Option.some.inj ((show Tryd.prog.globalNamed _ = some 5 by kernel_rfl).symm.trans hg)
  obtain rfl : 117 = t := Option.some.inj ((show (Tryd.prog.globals[5]?).map (·.type) = some 117 by kernel_rfl).symm.trans ht)
  intro j hj
  rw [World.var?_cell hg hv j, ← Array.getElem?_toList]
  exact trodRules hd j hj

end Go.Proofs.YtfmcngncaffloaaDoor

namespace Go.Proofs.YtfmcngncaffloaaDoor
open Go.RowKit
set_option maxRecDepth 100000

def lessD (x : String × DataW Unit) : Bool := !(x.1 == "weave/frames.ErrLength" || x.1 == "weave/frames.ErrSum" || x.1 == "weave/frames.ErrCut" || x.1 == "weave/frames.ErrRest")
theorem lessD_is : Rows.decodesRow.laid.filter lessD = Rows.encodesRow.laid := by kernel_rfl
theorem gd_of_laid {W : World} (h : laidMetH Tryd.prog Rows.decodesRow.laid W) : (∃ eb ef, Gl W eb ef ∧ Pw W) ∧ Gd W := by
  have h0 : laidMet Tryd.prog Rows.decodesRow.laid W := h
  refine ⟨?_, ?_⟩
  · have h1 := laidMet.filter lessD h0
    rw [lessD_is] at h1
    exact gl_of_laid h1
  · have h6 := laidMet.tail (laidMet.tail (laidMet.tail (laidMet.tail (laidMet.tail (laidMet.tail h0)))))
    have h8 := laidMet.tail (laidMet.tail h6)
    obtain ⟨a0, a1, s0, s1, c0, c1, t0, t1, hv0, hv1, _⟩ := laid_sentinels2 h6 (g0 := 2) (g1 := 3) (by kernel_rfl) (by kernel_rfl) (by kernel_rfl) (by kernel_rfl) Tryd.underlying55 rowStar Tryd.underlying149 Tryd.underlying173 rfl rfl Tryd.underlying9 cellsErr cellsStr
    obtain ⟨a2, a3, s2, s3, c2, c3, t2, t3, hv2, hv3, _⟩ := laid_sentinels2 h8 (g0 := 6) (g1 := 1) (by kernel_rfl) (by kernel_rfl) (by kernel_rfl) (by kernel_rfl) Tryd.underlying55 rowStar Tryd.underlying149 Tryd.underlying173 rfl rfl Tryd.underlying9 cellsErr cellsStr
    exact ⟨⟨a2, by simpa using World.var?_cell (by kernel_rfl) hv2 0⟩, ⟨a0, by simpa using World.var?_cell (by kernel_rfl) hv0 0⟩, ⟨a1, by simpa using World.var?_cell (by kernel_rfl) hv1 0⟩, ⟨a3, by simpa using World.var?_cell (by kernel_rfl) hv3 0⟩⟩

end Go.Proofs.YtfmcngncaffloaaDoor
