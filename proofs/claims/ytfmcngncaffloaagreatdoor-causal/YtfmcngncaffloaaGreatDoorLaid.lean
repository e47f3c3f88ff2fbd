import Derived.Test.YtfmcngncaffloaaGreatDoorG24Said
import Derived.Test.YtfmcngncaffloaaGreatDoorRows
import Derived.OpenShut
import Derived.Stop.LaidTwo
namespace Go.Proofs.YtfmcngncaffloaaGreatDoor
open Go.RowKit
set_option maxRecDepth 100000

/-- One of the list may be left out. -/
theorem laidMet.less {P : Program} {x y : String × DataW Unit} {r : List (String × DataW Unit)} {w : World} (h : laidMet P (x :: y :: r) w) : laidMet P (x :: r) w := by
  obtain ⟨ps, hv, hnd, hrows⟩ := h
  obtain ⟨n, d⟩ := x
  obtain ⟨n2, d2⟩ := y
  obtain ⟨g, t, cs, fuel, p, q, h1, h2, h3, h4, ⟨g', t', cs', fuel', p', q', _, _, _, _, hq, rfl⟩, rfl⟩ := hv
  have hsub : (MemPlace.row ⟨g, 0, none⟩ cs.size ++ p ++ q').Sublist (MemPlace.row ⟨g, 0, none⟩ cs.size ++ p ++ (MemPlace.row ⟨g', 0, none⟩ cs'.size ++ p' ++ q')) := (List.Sublist.refl _).append (List.sublist_append_right _ _)
  exact ⟨_, ⟨g, t, cs, fuel, p, q', h1, h2, h3, h4, hq, rfl⟩, hnd.sublist hsub, fun b off hm => hrows b off (hsub.subset hm)⟩

def lits {H : Type} (l : List Int) : DataW H := .agg (l.map fun z => .lit (.int .i64 z))
theorem uInt' : Tryz.prog.underlying 3 = some (.int .i64) := by kernel_rfl
theorem cellsInt' : Tryz.prog.cellsOf 3 = 1 := by kernel_rfl
theorem uKind : Tryz.prog.underlying 134 = some (.int .i64) := by kernel_rfl
theorem cellsKind : Tryz.prog.cellsOf 134 = 1 := by kernel_rfl
theorem uFit : Tryz.prog.underlying 138 = some (.int .i64) := by kernel_rfl
theorem cellsFit : Tryz.prog.cellsOf 138 = 1 := by kernel_rfl
theorem cellsRule : Tryz.prog.cellsOf 140 = 6 := by kernel_rfl
theorem cellsRules : Tryz.prog.cellsOf 203 = 42 := by kernel_rfl
theorem trodRule {H : Type} {enc : TypeId × Value → H} {W : World} {base : Nat} {spare : Nat → Bool} {held : Bool} {fuel : Nat} {cs : List Value} {x : DataW H × List MemPlace} (h : DataW.trod enc Tryz.prog W base spare held fuel 140 cs = some x) :
    ∃ zs : List Int, zs.length = 6 ∧ cs = zs.map I ∧ x.1 = lits zs := by
  obtain ⟨xs, n, _, hx, hl, hlen, hf⟩ := DataW.trod_struct Tryz.underlying140 h
  rw [cellsRule] at hl
  match xs, hlen with
  | [y0, y1, y2, y3, y4, y5], _ =>
    match cs, hl with
    | [c0, c1, c2, c3, c4, c5], _ =>
      have h0 : DataW.trod enc Tryz.prog W base spare held n 134 [c0] = some y0 := by have := hf 0 _ rfl; simpa [cellsKind] using this
      have h1 : DataW.trod enc Tryz.prog W base spare held n 3 [c1] = some y1 := by have := hf 1 _ rfl; simpa [cellsInt'] using this
      have h2 : DataW.trod enc Tryz.prog W base spare held n 3 [c2] = some y2 := by have := hf 2 _ rfl; simpa [cellsInt'] using this
      have h3 : DataW.trod enc Tryz.prog W base spare held n 138 [c3] = some y3 := by have := hf 3 _ rfl; simpa [cellsFit] using this
      have h4 : DataW.trod enc Tryz.prog W base spare held n 3 [c4] = some y4 := by have := hf 4 _ rfl; simpa [cellsInt'] using this
      have h5 : DataW.trod enc Tryz.prog W base spare held n 3 [c5] = some y5 := by have := hf 5 _ rfl; simpa [cellsInt'] using this
      obtain ⟨z0, e0, d0, _⟩ := DataW.trod_int uKind h0
      obtain ⟨z1, e1, d1, _⟩ := DataW.trod_int uInt' h1
      obtain ⟨z2, e2, d2, _⟩ := DataW.trod_int uInt' h2
      obtain ⟨z3, e3, d3, _⟩ := DataW.trod_int uFit h3
      obtain ⟨z4, e4, d4, _⟩ := DataW.trod_int uInt' h4
      obtain ⟨z5, e5, d5, _⟩ := DataW.trod_int uInt' h5
      simp at e0 e1 e2 e3 e4 e5
      exact ⟨[z0, z1, z2, z3, z4, z5], rfl, by simp [e0, e1, e2, e3, e4, e5], by rw [hx]; simp [lits, d0, d1, d2, d3, d4, d5]⟩
theorem lits_inj {H : Type} {a b : List Int} (h : (lits a : DataW H) = lits b) : a = b := by
  simp only [lits, DataW.agg.injEq] at h
  exact List.map_inj_right (fun x y e => by simpa using e) |>.1 h
theorem rules_are : (Rows.laid_weave_batch_rules : DataW Unit) = .agg ((List.range 7).map fun i => lits ((Wv.tab.drop (i * 6)).take 6)) := by kernel_rfl
theorem trodRules {enc : TypeId × Value → Unit} {W : World} {base : Nat} {spare : Nat → Bool} {held : Bool} {fuel : Nat} {cs : List Value} {p : List MemPlace} (h : DataW.trod enc Tryz.prog W base spare held fuel 203 cs = some (Rows.laid_weave_batch_rules, p)) :
    ∀ j, j < 42 → cs[j]? = some (I (Wv.tab.getD j 0)) := by
  obtain ⟨xs, m, _, hx, hl, hlen, hf⟩ := DataW.trod_array Tryz.underlying203 h
  rw [cellsRule] at hf
  have hxs : xs.map (·.1) = (List.range 7).map fun i => lits ((Wv.tab.drop (i * 6)).take 6) := by
    have := congrArg Prod.fst hx
    rw [rules_are] at this
    simpa using this.symm
  intro j hj
  have hi : j / 6 < 7 := by omega
  have hr : j % 6 < 6 := Nat.mod_lt _ (by omega)
  have h1 := hf (j / 6) hi
  rw [List.getElem?_eq_getElem (by omega)] at h1
  obtain ⟨zs, hz, e1, e2⟩ := trodRule h1
  have e3 : (xs[j / 6]'(by omega)).1 = lits ((Wv.tab.drop (j / 6 * 6)).take 6) := by
    have := congrArg (fun l => l[j / 6]?) hxs
    simpa [hi, hlen] using this
  have e4 := lits_inj (e2.symm.trans e3)
  have e5 : ((cs.drop (j / 6 * 6)).take 6)[j % 6]? = cs[j]? := by
    rw [List.getElem?_take_of_lt hr, List.getElem?_drop, show j / 6 * 6 + j % 6 = j by omega]
  rw [← e5, e1, e4, List.getElem?_map, List.getElem?_take_of_lt hr, List.getElem?_drop, show j / 6 * 6 + j % 6 = j by omega]
  have ht : j < Wv.tab.length := hj
  simp [List.getD, ht]

end Go.Proofs.YtfmcngncaffloaaGreatDoor
