import Derived.Test.YtfmcngncaffloaaGreatDoorG04PoA
import Derived.Deep.Slices
import Derived.Deep.Strs
import Derived.Lib.SmallJoins
import Derived.SizedLaws
import Derived.Test.YtfmcngncaffloaaGreatDoorG17Said
import Derived.Test.YtfmcngncaffloaaGreatDoorRows
import Derived.OpenShut
import Derived.Stop.LaidTwo
namespace Go.Proofs.YtfmcngncaffloaaGreatDoor
open Go.RowKit
set_option maxRecDepth 100000

variable {H : Type} {enc : TypeId × Value → H} {W : World} {base : Nat} {spare : Nat → Bool} {held : Bool}

theorem cellsInt : Tryz.prog.cellsOf 3 = 1 := by kernel_rfl
theorem uInt : Tryz.prog.underlying 3 = some (.int .i64) := by kernel_rfl

theorem plain_of_cell {w : World} {a : Addr} {v : Value} (h : w.cell? a = some v) : a = ⟨a.block, a.off, none⟩ := by
  obtain ⟨b, o, s⟩ := a
  cases s with
  | none => rfl
  | some s =>
    unfold World.cell? at h
    split at h <;> simp at h
theorem pick {α : Type} (R : Nat → α → Prop) : ∀ n, (∀ i, i < n → ∃ x, R i x) → ∃ xs : List α, xs.length = n ∧ ∀ i (hi : i < xs.length), R i xs[i]
  | 0, _ => ⟨[], rfl, fun i hi => absurd hi (by simp)⟩
  | n + 1, h => by
    obtain ⟨xs, hl, hx⟩ := pick R n fun i hi => h i (by omega)
    obtain ⟨x, hr⟩ := h n (by omega)
    refine ⟨xs ++ [x], by simp [hl], fun i hi => ?_⟩
    rcases Nat.lt_or_ge i xs.length with h1 | h1
    · rw [List.getElem_append_left h1]; exact hx i h1
    · have : i = xs.length := by simp at hi; omega
      subst this
      rw [List.getElem_append_right (Nat.le_refl _)]
      simpa [hl] using hr
/-- Elements that lie behind one another. -/
theorem at_rows {α : Type} (f : α → List Value) (k : Nat) (hk : 0 < k) (hf : ∀ x, (f x).length = k) {w : World} {base : Nat} {a : Addr} {xs : List α} (h : ∀ i (hi : i < xs.length), w.cells? base (a.add (i * k)) k = some (f xs[i])) : At w (some a) (flat f xs) := by
  intro j u hj
  have hjl : j < xs.length * k := by rw [← flat_len f k hf xs]; exact (List.getElem?_eq_some_iff.1 hj).1
  have hi : j / k < xs.length := Nat.div_lt_of_lt_mul (by rw [Nat.mul_comm]; exact hjl)
  have hr : j % k < k := Nat.mod_lt _ hk
  have hpos : 0 < xs.length := Nat.lt_of_le_of_lt (Nat.zero_le _) hi
  have h0 := (World.cells?_some (h 0 hpos)).2.2 0 hk
  rw [Nat.zero_mul, show (a.add 0).add 0 = a by simp [Addr.add], List.getElem?_eq_getElem (by rw [hf]; exact hk)] at h0
  have hp := plain_of_cell h0
  have hc := (World.cells?_some (h (j / k) hi)).2.2 (j % k) hr
  rw [← flat_get f k hf xs (j / k) hi (j % k) hr, show j / k * k + j % k = j by rw [Nat.mul_comm]; exact Nat.div_add_mod j k, hj] at hc
  refine ⟨a.block, a.off, by rw [← hp], ?_⟩
  rw [hp] at hc
  rw [Addr.add_lit, Addr.add_lit, Nat.add_assoc, show j / k * k + j % k = j by rw [Nat.mul_comm]; exact Nat.div_add_mod j k] at hc
  exact hc
theorem weights_mem_all {P : Program} {e : TypeId} : ∀ {l : List (DataW H)} {d : DataW H}, d ∈ l → ∀ n ∈ d.weights P e, n ∈ DataW.weightsAll P e l
  | x :: l, d, hd, n, hn => by
    simp only [DataW.weightsAll, List.mem_append]
    rcases List.mem_cons.1 hd with rfl | h
    · exact Or.inl hn
    · exact Or.inr (weights_mem_all h n hn)
theorem slice_weight {P : Program} {t e : TypeId} {es sp : List (DataW H)} {R : Nat} (hu : P.underlying t = some (.slice e)) (h : ∀ n ∈ (DataW.slice es sp).weights P t, n ≤ R) : (es.length + sp.length) * P.bytesOf e ≤ R ∧ ∀ d ∈ es, ∀ n ∈ d.weights P e, n ≤ R := by
  simp only [DataW.weights, hu] at h
  exact ⟨h _ (by simp), fun d hd n hn => h n (by simp [weights_mem_all hd n hn])⟩
theorem len_weight {a s b R : Nat} (h : (a + s) * b ≤ R) : a * b ≤ R := Nat.le_trans (Nat.mul_le_mul_right _ (Nat.le_add_right _ _)) h
end Go.Proofs.YtfmcngncaffloaaGreatDoor

namespace Go.Proofs.YtfmcngncaffloaaGreatDoor
open Go.RowKit
set_option maxRecDepth 100000

/-- One of the list may be left out. -/
theorem laidMet.less {P : Program} {x y : String × DataW Unit} {r : List (String × DataW Unit)} {w : World} (h : laidMet P (x :: y :: r) w) : laidMet P (x :: r) w := by
  obtain ⟨ps, hv, hnd, hrows⟩ := h
  obtain ⟨n, d⟩ := x
  obtain ⟨n2, d2⟩ := y
  obtain ⟨g, t, cs, fuel, p, q, h1, h2, h3, h4, ⟨g', t', cs', fuel', p', q', _, _, _, _, hq, rfl⟩, rfl⟩ := hv
  have hsub : (MemPlace.row ⟨g, 0, none⟩ cs.size ++ p ++ q').Sublist (MemPlace.row ⟨g, 0, none⟩ cs.size ++ p ++ (MemPlace.row ⟨g', 0, none⟩ cs'.size ++ p' ++ q')) := (List.Sublist.refl _).append (List.sublist_append_right _ _)
  exact ⟨_, ⟨g, t, cs, fuel, p, q', h1, h2, h3, h4, hq, rfl⟩, hnd.sublist hsub, fun b off hm => hrows b off (hsub.subset hm)⟩

def lits {H : Type} (l : List Int) : DataW H := .agg (l.map fun z => .lit (.int .i64 z))
theorem uInt' : Tryz.prog.underlying 3 = some (.int .i64) := by kernel_rfl
theorem cellsInt' : Tryz.prog.cellsOf 3 = 1 := by kernel_rfl
theorem uKind : Tryz.prog.underlying 134 = some (.int .i64) := by kernel_rfl
theorem cellsKind : Tryz.prog.cellsOf 134 = 1 := by kernel_rfl
theorem uFit : Tryz.prog.underlying 138 = some (.int .i64) := by kernel_rfl
theorem cellsFit : Tryz.prog.cellsOf 138 = 1 := by kernel_rfl
theorem cellsRule : Tryz.prog.cellsOf 140 = 6 := by kernel_rfl
theorem trodRule {H : Type} {enc : TypeId × Value → H} {W : World} {base : Nat} {spare : Nat → Bool} {held : Bool} {fuel : Nat} {cs : List Value} {x : DataW H × List MemPlace} (h : DataW.trod enc Tryz.prog W base spare held fuel 140 cs = some x) :
    ∃ zs : List Int, zs.length = 6 ∧ cs = zs.map I ∧ x.1 = lits zs := by
  obtain ⟨xs, n, _, hx, hl, hlen, hf⟩ := DataW.trod_struct Tryz.underlying140 h
  rw [cellsRule] at hl
  match xs, hlen with
  | [y0, y1, y2, y3, y4, y5], _ =>
    match cs, hl with
    | [c0, c1, c2, c3, c4, c5], _ =>
      have h0 : DataW.trod enc Tryz.prog W base spare held n 134 [c0] = some y0 := by have := hf 0 _ rfl; simpa [cellsKind] using this
      have h1 : DataW.trod enc Tryz.prog W base spare held n 3 [c1] = some y1 := by have := hf 1 _ rfl; simpa [cellsInt'] using this
      have h2 : DataW.trod enc Tryz.prog W base spare held n 3 [c2] = some y2 := by have := hf 2 _ rfl; simpa [cellsInt'] using this
      have h3 : DataW.trod enc Tryz.prog W base spare held n 138 [c3] = some y3 := by have := hf 3 _ rfl; simpa [cellsFit] using this
      have h4 : DataW.trod enc Tryz.prog W base spare held n 3 [c4] = some y4 := by have := hf 4 _ rfl; simpa [cellsInt'] using this
      have h5 : DataW.trod enc Tryz.prog W base spare held n 3 [c5] = some y5 := by have := hf 5 _ rfl; simpa [cellsInt'] using this
      obtain ⟨z0, e0, d0, _⟩ := DataW.trod_int uKind h0
      obtain ⟨z1, e1, d1, _⟩ := DataW.trod_int uInt' h1
      obtain ⟨z2, e2, d2, _⟩ := DataW.trod_int uInt' h2
      obtain ⟨z3, e3, d3, _⟩ := DataW.trod_int uFit h3
      obtain ⟨z4, e4, d4, _⟩ := DataW.trod_int uInt' h4
      obtain ⟨z5, e5, d5, _⟩ := DataW.trod_int uInt' h5
      simp at e0 e1 e2 e3 e4 e5
      exact ⟨[z0, z1, z2, z3, z4, z5], rfl, by simp [e0, e1, e2, e3, e4, e5], by rw [hx]; simp [lits, d0, d1, d2, d3, d4, d5]⟩
theorem lits_inj {H : Type} {a b : List Int} (h : (lits a : DataW H) = lits b) : a = b := by
  simp only [lits, DataW.agg.injEq] at h
  exact List.map_inj_right (fun x y e => by simpa using e) |>.1 h
theorem rules_are : (Rows.laid_weave_batch_rules : DataW Unit) = .agg ((List.range 7).map fun i => lits ((Wv.tab.drop (i * 6)).take 6)) := by kernel_rfl
theorem trodRules {enc : TypeId × Value → Unit} {W : World} {base : Nat} {spare : Nat → Bool} {held : Bool} {fuel : Nat} {cs : List Value} {p : List MemPlace} (h : DataW.trod enc Tryz.prog W base spare held fuel 203 cs = some (Rows.laid_weave_batch_rules, p)) :
    ∀ j, j < 42 → cs[j]? = some (I (Wv.tab.getD j 0)) := by
  obtain ⟨xs, m, _, hx, hl, hlen, hf⟩ := DataW.trod_array Tryz.underlying203 h
  rw [cellsRule] at hf
  have hxs : xs.map (·.1) = (List.range 7).map fun i => lits ((Wv.tab.drop (i * 6)).take 6) := by
    have := congrArg Prod.fst hx
    rw [rules_are] at this
    simpa using this.symm
  intro j hj
  have hi : j / 6 < 7 := by omega
  have hr : j % 6 < 6 := Nat.mod_lt _ (by omega)
  have h1 := hf (j / 6) hi
  rw [List.getElem?_eq_getElem (by omega)] at h1
  obtain ⟨zs, hz, e1, e2⟩ := trodRule h1
  have e3 : (xs[j / 6]'(by omega)).1 = lits ((Wv.tab.drop (j / 6 * 6)).take 6) := by
    have := congrArg (fun l => l[j / 6]?) hxs
    simpa [hi, hlen] using this
  have e4 := lits_inj (e2.symm.trans e3)
  have e5 : ((cs.drop (j / 6 * 6)).take 6)[j % 6]? = cs[j]? := by
    rw [List.getElem?_take_of_lt hr, List.getElem?_drop, show j / 6 * 6 + j % 6 = j by omega]
  rw [← e5, e1, e4, List.getElem?_map, List.getElem?_take_of_lt hr, List.getElem?_drop, show j / 6 * 6 + j % 6 = j by omega]
  have ht : j < Wv.tab.length := hj
  simp [List.getD, ht]

end Go.Proofs.YtfmcngncaffloaaGreatDoor
