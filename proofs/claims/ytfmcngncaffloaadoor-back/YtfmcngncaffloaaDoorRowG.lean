import Derived.Test.YtfmcngncaffloaaDoorMem2
import Derived.Deep.Slices
import Derived.Deep.Strs
import Derived.Lib.SmallJoins
import Derived.SizedLaws
import Derived.Test.YtfmcngncaffloaaDoorCards
import Derived.Test.YtfmcngncaffloaaDoorTie
import Derived.Test.YtfmcngncaffloaaDoorBkR
import Derived.Test.YtfmcngncaffloaaDoorLdB
import Derived.WalkKit
import Derived.ProofKit
import Derived.OpenShut
import Derived.Carry
import Derived.Deep.DeepHandedRow
import Derived.Laws.IdiomArrays
namespace Go.Proofs.YtfmcngncaffloaaDoor
open Go.RowKit
set_option maxRecDepth 100000

variable {H : Type} {enc : TypeId × Value → H} {W : World} {base : Nat} {spare : Nat → Bool} {held : Bool}

theorem cellsInt : Tryd.prog.cellsOf 3 = 1 := by kernel_rfl
theorem cellsDot : Tryd.prog.cellsOf 40 = 3 := by kernel_rfl
theorem cellsDots : Tryd.prog.cellsOf 41 = 1 := by kernel_rfl
theorem cellsInts : Tryd.prog.cellsOf 22 = 1 := by kernel_rfl
theorem cellsEffs : Tryd.prog.cellsOf 23 = 1 := by kernel_rfl
theorem cellsEff : Tryd.prog.cellsOf 43 = 7 := by kernel_rfl
theorem cellsBat : Tryd.prog.cellsOf 25 = 5 := by kernel_rfl
theorem uInt : Tryd.prog.underlying 3 = some (.int .i64) := by kernel_rfl

theorem plain_of_cell {w : World} {a : Addr} {v : Value} (h : w.cell? a = some v) : a = ⟨a.block, a.off, none⟩ := by
  obtain ⟨b, o, s⟩ := a
  cases s with
  | none => rfl
  | some s =>
    unfold World.cell? at h
    split at h <;> simp at h
theorem pick {α : Type} (R : Nat → α → Prop) : ∀ n, (∀ i, i < n → ∃ x, R i x) → ∃ xs : List α, xs.length = n ∧ ∀ i (hi : i < xs.length), R i xs[i]
  | 0, _ => ⟨[], rfl, fun i hi => absurd hi (by simp)⟩
  | n + 1, h => by
    obtain ⟨xs, hl, hx⟩ := pick R n fun i hi => h i (by omega)
    obtain ⟨x, hr⟩ := h n (by omega)
    refine ⟨xs ++ [x], by simp [hl], fun i hi => ?_⟩
    rcases Nat.lt_or_ge i xs.length with h1 | h1
    · rw [List.getElem_append_left h1]; exact hx i h1
    · have : i = xs.length := by simp at hi; omega
      subst this
      rw [List.getElem_append_right (Nat.le_refl _)]
      simpa [hl] using hr
/-- Elements that lie behind one another. -/
theorem at_rows {α : Type} (f : α → List Value) (k : Nat) (hk : 0 < k) (hf : ∀ x, (f x).length = k) {w : World} {base : Nat} {a : Addr} {xs : List α} (h : ∀ i (hi : i < xs.length), w.cells? base (a.add (i * k)) k = some (f xs[i])) : At w (some a) (flat f xs) := by
  intro j u hj
  have hjl : j < xs.length * k := by rw [← flat_len f k hf xs]; exact (List.getElem?_eq_some_iff.1 hj).1
  have hi : j / k < xs.length := Nat.div_lt_of_lt_mul (by rw [Nat.mul_comm]; exact hjl)
  have hr : j % k < k := Nat.mod_lt _ hk
  have hpos : 0 < xs.length := Nat.lt_of_le_of_lt (Nat.zero_le _) hi
  have h0 := (World.cells?_some (h 0 hpos)).2.2 0 hk
  rw [Nat.zero_mul, show (a.add 0).add 0 = a by simp [Addr.add], List.getElem?_eq_getElem (by rw [hf]; exact hk)] at h0
  have hp := plain_of_cell h0
  have hc := (World.cells?_some (h (j / k) hi)).2.2 (j % k) hr
  rw [← flat_get f k hf xs (j / k) hi (j % k) hr, show j / k * k + j % k = j by rw [Nat.mul_comm]; exact Nat.div_add_mod j k, hj] at hc
  refine ⟨a.block, a.off, by rw [← hp], ?_⟩
  rw [hp] at hc
  rw [Addr.add_lit, Addr.add_lit, Nat.add_assoc, show j / k * k + j % k = j by rw [Nat.mul_comm]; exact Nat.div_add_mod j k] at hc
  exact hc
theorem trodDot {fuel : Nat} {cs : List Value} {x : DataW H × List MemPlace} (h : DataW.trod enc Tryd.prog W base spare held fuel 40 cs = some x) : ∃ d : Wv.Dt, cs = dotCells d := by
  obtain ⟨y0, y1, y2, n, _, hl, h0, h1, h2⟩ := Go.Deep.trod_struct3 Tryd.underlying40 h
  rw [cellsDot] at hl
  match cs, hl with
  | [a, b, c], _ =>
    simp only [cellsInt] at h0 h1 h2
    obtain ⟨z0, e0, _, _⟩ := DataW.trod_int uInt h0
    obtain ⟨z1, e1, _, _⟩ := DataW.trod_int uInt h1
    obtain ⟨z2, e2, _, _⟩ := DataW.trod_int uInt h2
    simp at e0 e1 e2
    exact ⟨⟨z0, z1, z2⟩, by simp [dotCells, e0, e1, e2]⟩
theorem bytesInt : Tryd.prog.bytesOf 3 = 8 := by kernel_rfl
theorem bytesDot : Tryd.prog.bytesOf 40 = 24 := by kernel_rfl
theorem bytesEff : Tryd.prog.bytesOf 43 = 72 := by kernel_rfl
theorem weights_mem_all {P : Program} {e : TypeId} : ∀ {l : List (DataW H)} {d : DataW H}, d ∈ l → ∀ n ∈ d.weights P e, n ∈ DataW.weightsAll P e l
  | x :: l, d, hd, n, hn => by
    simp only [DataW.weightsAll, List.mem_append]
    rcases List.mem_cons.1 hd with rfl | h
    · exact Or.inl hn
    · exact Or.inr (weights_mem_all h n hn)
theorem slice_weight {P : Program} {t e : TypeId} {es sp : List (DataW H)} {R : Nat} (hu : P.underlying t = some (.slice e)) (h : ∀ n ∈ (DataW.slice es sp).weights P t, n ≤ R) : (es.length + sp.length) * P.bytesOf e ≤ R ∧ ∀ d ∈ es, ∀ n ∈ d.weights P e, n ≤ R := by
  simp only [DataW.weights, hu] at h
  exact ⟨h _ (by simp), fun d hd n hn => h n (by simp [weights_mem_all hd n hn])⟩
theorem len_weight {a s b R : Nat} (h : (a + s) * b ≤ R) : a * b ≤ R := Nat.le_trans (Nat.mul_le_mul_right _ (Nat.le_add_right _ _)) h
theorem trodDots {fuel : Nat} {cs : List Value} {x : DataW H × List MemPlace} (h : DataW.trod enc Tryd.prog W base spare held fuel 41 cs = some x) :
    ∃ (da : Option Addr) (dc : Nat) (ds : List Wv.Dt), cs = [.slice da ds.length dc] ∧ At W da (flat dotCells ds) ∧ ∀ R, (∀ n ∈ x.1.weights Tryd.prog 41, n ≤ R) → ds.length * 24 ≤ R := by
  rcases Go.Deep.open_slice Tryd.underlying41 h with ⟨rfl, _⟩ | ⟨a, len, cap, m, n, D, Pl, rfl, _, hlc, _, hm, hx, he⟩
  · exact ⟨none, 0, [], rfl, fun j u hj => by simp [flat] at hj, fun R _ => by simp⟩
  · have hlm : len ≤ m := by rw [hm]; split <;> omega
    rw [cellsDot] at he
    obtain ⟨ds, hl, hd⟩ := pick (fun i (d : Wv.Dt) => W.cells? base (a.add (i * 3)) 3 = some (dotCells d)) len fun i hi => by
      obtain ⟨cs', h1, h2⟩ := he i (by omega)
      obtain ⟨d, rfl⟩ := trodDot h2
      exact ⟨d, h1⟩
    refine ⟨some a, cap, ds, by rw [hl], at_rows dotCells 3 (by omega) dotCells_len hd, fun R hR => ?_⟩
    rw [hx] at hR
    have := len_weight (slice_weight Tryd.underlying41 hR).1
    rw [bytesDot, List.length_map, List.length_range] at this
    rw [hl]
    exact this
theorem trodEff {fuel : Nat} {cs : List Value} {x : DataW H × List MemPlace} (h : DataW.trod enc Tryd.prog W base spare held fuel 43 cs = some x) :
    ∃ m : Em, cs = m.cells ∧ At W m.da (flat dotCells m.e.dots) ∧ ∀ R, (∀ n ∈ x.1.weights Tryd.prog 43, n ≤ R) → m.e.dots.length * 24 ≤ R := by
  obtain ⟨xs, n, _, hx, hl, hlen, hf⟩ := DataW.trod_struct Tryd.underlying43 h
  rw [cellsEff] at hl
  match xs, hlen with
  | [y0, y1, y2, y3, y4], _ =>
    match cs, hl with
    | [c0, c1, c2, c3, c4, c5, c6], _ =>
      have h0 : DataW.trod enc Tryd.prog W base spare held n 3 [c0] = some y0 := by have := hf 0 _ rfl; simpa [cellsInt] using this
      have h1 : DataW.trod enc Tryd.prog W base spare held n 3 [c1] = some y1 := by have := hf 1 _ rfl; simpa [cellsInt] using this
      have h2 : DataW.trod enc Tryd.prog W base spare held n 3 [c2] = some y2 := by have := hf 2 _ rfl; simpa [cellsInt] using this
      have h3 : DataW.trod enc Tryd.prog W base spare held n 40 [c3, c4, c5] = some y3 := by have := hf 3 _ rfl; simpa [cellsDot] using this
      have h4 : DataW.trod enc Tryd.prog W base spare held n 41 [c6] = some y4 := by have := hf 4 _ rfl; simpa [cellsDots] using this
      obtain ⟨z0, e0, _, _⟩ := DataW.trod_int uInt h0
      obtain ⟨z1, e1, _, _⟩ := DataW.trod_int uInt h1
      obtain ⟨z2, e2, _, _⟩ := DataW.trod_int uInt h2
      obtain ⟨d, e3⟩ := trodDot h3
      obtain ⟨da, dc, ds, e4, ha, hw⟩ := trodDots h4
      simp [dotCells] at e0 e1 e2 e3 e4
      refine ⟨⟨⟨z0, z1, z2, d, ds⟩, da, dc⟩, by simp [Em.cells, Em.dv, e0, e1, e2, e3, e4], ha, fun R hR => hw R fun n hn => hR n ?_⟩
      rw [hx]
      simp only [DataW.weights, Tryd.underlying43]
      exact DataW.weights_mem_each (j := 4) rfl rfl n hn
theorem trodEffs {fuel : Nat} {cs : List Value} {x : DataW H × List MemPlace} (h : DataW.trod enc Tryd.prog W base spare held fuel 23 cs = some x) :
    ∃ (ea : Option Addr) (ec : Nat) (ms : List Em), cs = [.slice ea ms.length ec] ∧ At W ea (flat Em.cells ms) ∧ (∀ m ∈ ms, At W m.da (flat dotCells m.e.dots)) ∧ ∀ R, (∀ n ∈ x.1.weights Tryd.prog 23, n ≤ R) → ms.length * 72 ≤ R ∧ ∀ m ∈ ms, m.e.dots.length * 24 ≤ R := by
  rcases Go.Deep.open_slice Tryd.underlying23 h with ⟨rfl, _⟩ | ⟨a, len, cap, m, n, D, Pl, rfl, _, hlc, _, hm, hx, he⟩
  · exact ⟨none, 0, [], rfl, fun j u hj => by simp [flat] at hj, by simp, fun R _ => by simp⟩
  · have hlm : len ≤ m := by rw [hm]; split <;> omega
    rw [cellsEff] at he
    obtain ⟨ms, hl, hd⟩ := pick (fun i (m : Em) => W.cells? base (a.add (i * 7)) 7 = some m.cells ∧ At W m.da (flat dotCells m.e.dots) ∧ ∀ R, (∀ n ∈ (D i).weights Tryd.prog 43, n ≤ R) → m.e.dots.length * 24 ≤ R) len fun i hi => by
      obtain ⟨cs', h1, h2⟩ := he i (by omega)
      obtain ⟨d, rfl, hA, hw⟩ := trodEff h2
      exact ⟨d, h1, hA, hw⟩
    refine ⟨some a, cap, ms, by rw [hl], at_rows Em.cells 7 (by omega) emCells_len fun i hi => (hd i hi).1, fun m hm => ?_, fun R hR => ?_⟩
    · obtain ⟨i, hi, rfl⟩ := List.mem_iff_getElem.1 hm
      exact (hd i hi).2.1
    · rw [hx] at hR
      obtain ⟨w1, w2⟩ := slice_weight Tryd.underlying23 hR
      have := len_weight w1
      rw [bytesEff, List.length_map, List.length_range] at this
      refine ⟨by rw [hl]; exact this, fun m hm => ?_⟩
      obtain ⟨i, hi, rfl⟩ := List.mem_iff_getElem.1 hm
      exact (hd i hi).2.2 R fun n hn => w2 (D i) (List.mem_map.2 ⟨i, by simp; omega, rfl⟩) n hn
theorem trodInts {fuel : Nat} {cs : List Value} {x : DataW H × List MemPlace} (h : DataW.trod enc Tryd.prog W base spare held fuel 22 cs = some x) :
    ∃ (ca : Option Addr) (cc : Nat) (zs : List Int), cs = [.slice ca zs.length cc] ∧ At W ca (zs.map I) ∧ ∀ R, (∀ n ∈ x.1.weights Tryd.prog 22, n ≤ R) → zs.length * 8 ≤ R := by
  rcases Go.Deep.open_slice Tryd.underlying22 h with ⟨rfl, _⟩ | ⟨a, len, cap, m, n, D, Pl, rfl, _, hlc, _, hm, hx, he⟩
  · exact ⟨none, 0, [], rfl, fun j u hj => by simp at hj, fun R _ => by simp⟩
  · have hlm : len ≤ m := by rw [hm]; split <;> omega
    rw [cellsInt] at he
    obtain ⟨zs, hl, hd⟩ := pick (fun i (z : Int) => W.cells? base (a.add (i * 1)) 1 = some [I z]) len fun i hi => by
      obtain ⟨cs', h1, h2⟩ := he i (by omega)
      obtain ⟨z, rfl, _, _⟩ := DataW.trod_int uInt h2
      exact ⟨z, h1⟩
    have := at_rows (fun z : Int => [I z]) 1 (by omega) (fun _ => rfl) hd
    have e : ∀ l : List Int, flat (fun z : Int => [I z]) l = l.map I := by
      intro l
      induction l with
      | nil => rfl
      | cons z l ih => simp [flat, ih]
    rw [e] at this
    refine ⟨some a, cap, zs, by rw [hl], this, fun R hR => ?_⟩
    rw [hx] at hR
    have := len_weight (slice_weight Tryd.underlying22 hR).1
    rw [bytesInt, List.length_map, List.length_range] at this
    rw [hl]
    exact this
/-- A batch that came in. -/
theorem trodBat {fuel : Nat} {cs : List Value} {x : DataW H × List MemPlace} (h : DataW.trod enc Tryd.prog W base spare held fuel 25 cs = some x) :
    ∃ (b : Wv.Bt) (ca ea : Option Addr) (cc ec : Nat) (ms : List Em), cs = [I b.o, I b.s, I b.t, .slice ca b.clock.length cc, .slice ea b.effs.length ec] ∧ BatAt W b ca ea ms ∧
      ∀ R, (∀ n ∈ x.1.weights Tryd.prog 25, n ≤ R) → b.clock.length * 8 ≤ R ∧ b.effs.length * 72 ≤ R ∧ ∀ m ∈ ms, m.e.dots.length * 24 ≤ R := by
  obtain ⟨xs, n, _, hx, hl, hlen, hf⟩ := DataW.trod_struct Tryd.underlying25 h
  rw [cellsBat] at hl
  match xs, hlen with
  | [y0, y1, y2, y3, y4], _ =>
    match cs, hl with
    | [c0, c1, c2, c3, c4], _ =>
      have h0 : DataW.trod enc Tryd.prog W base spare held n 3 [c0] = some y0 := by have := hf 0 _ rfl; simpa [cellsInt] using this
      have h1 : DataW.trod enc Tryd.prog W base spare held n 3 [c1] = some y1 := by have := hf 1 _ rfl; simpa [cellsInt] using this
      have h2 : DataW.trod enc Tryd.prog W base spare held n 3 [c2] = some y2 := by have := hf 2 _ rfl; simpa [cellsInt] using this
      have h3 : DataW.trod enc Tryd.prog W base spare held n 22 [c3] = some y3 := by have := hf 3 _ rfl; simpa [cellsInts] using this
      have h4 : DataW.trod enc Tryd.prog W base spare held n 23 [c4] = some y4 := by have := hf 4 _ rfl; simpa [cellsEffs] using this
      obtain ⟨z0, e0, _, _⟩ := DataW.trod_int uInt h0
      obtain ⟨z1, e1, _, _⟩ := DataW.trod_int uInt h1
      obtain ⟨z2, e2, _, _⟩ := DataW.trod_int uInt h2
      obtain ⟨ca, cc, zs, e3, hc, hw3⟩ := trodInts h3
      obtain ⟨ea, ec, ms, e4, hA, hD, hw4⟩ := trodEffs h4
      simp at e0 e1 e2 e3 e4
      refine ⟨⟨z0, z1, z2, zs, ms.map (·.e)⟩, ca, ea, cc, ec, ms, by simp [e0, e1, e2, e3, e4], ⟨hc, rfl, hA, hD⟩, fun R hR => ?_⟩
      have q : ∀ n ∈ DataW.weightsEach Tryd.prog [3, 3, 3, 22, 23] [y0.1, y1.1, y2.1, y3.1, y4.1], n ≤ R := fun n hn => hR n (by
        rw [hx]
        simp only [DataW.weights, Tryd.underlying25]
        exact hn)
      have r3 := hw3 R fun n hn => q n (DataW.weights_mem_each (j := 3) rfl rfl n hn)
      have r4 := hw4 R fun n hn => q n (DataW.weights_mem_each (j := 4) rfl rfl n hn)
      exact ⟨r3, by simpa using r4.1, r4.2⟩

end Go.Proofs.YtfmcngncaffloaaDoor

namespace Go.Proofs.YtfmcngncaffloaaDoor.Bck
open Go.ChangeShapes Go.WideShapes Go.ChangeAt Go.RowKit
set_option maxRecDepth 100000

theorem own : ownKnob Tryd.prog.godebug = none := by kernel_rfl
theorem laidOut : laidOutB Tryd.prog = true := by kernel_rfl
theorem sameLaid : Rows.backRow.laid = Rows.decodesRow.laid := by kernel_rfl

theorem wf_i64 {z : Int} (h : (Lit.int .i64 z).wf = true) : i64 z := by
  simp only [Lit.wf, Bool.and_eq_true, decide_eq_true_eq] at h
  exact ⟨h.1, h.2⟩
theorem trodInts2 {H : Type} {enc : TypeId × Value → H} {W : World} {base : Nat} {spare : Nat → Bool} {held : Bool} {fuel : Nat} {cs : List Value} {x : DataW H × List MemPlace} (h : DataW.trod enc Tryd.prog W base spare held fuel 22 cs = some x) :
    ∃ (ca : Option Addr) (cc : Nat) (zs : List Int), cs = [.slice ca zs.length cc] ∧ At W ca (zs.map I) ∧ (∀ z ∈ zs, i64 z) ∧ ∀ R, (∀ n ∈ x.1.weights Tryd.prog 22, n ≤ R) → zs.length * 8 ≤ R := by
  rcases Go.Deep.open_slice Tryd.underlying22 h with ⟨rfl, _⟩ | ⟨a, len, cap, m, n, D, Pl, rfl, _, hlc, _, hm, hx, he⟩
  · exact ⟨none, 0, [], rfl, fun j u hj => (by simp at hj), fun z hz => (by cases hz), fun R _ => (by simp)⟩
  · have hlm : len ≤ m := by rw [hm]; split <;> omega
    rw [cellsInt] at he
    obtain ⟨zs, hl, hd⟩ := pick (fun i (z : Int) => W.cells? base (a.add (i * 1)) 1 = some [I z] ∧ i64 z) len fun i hi => by
      obtain ⟨cs', h1, h2⟩ := he i (by omega)
      obtain ⟨z, rfl, _, hw⟩ := DataW.trod_int uInt h2
      exact ⟨z, h1, wf_i64 hw⟩
    have := at_rows (fun z : Int => [I z]) 1 (by omega) (fun _ => rfl) (fun i hi => (hd i hi).1)
    have e : ∀ l : List Int, flat (fun z : Int => [I z]) l = l.map I := by
      intro l
      induction l with
      | nil => rfl
      | cons z l ih => simp [flat, ih]
    rw [e] at this
    refine ⟨some a, cap, zs, by rw [hl], this, fun z hz => ?_, fun R hR => ?_⟩
    · obtain ⟨i, hi, rfl⟩ := List.mem_iff_getElem.1 hz
      exact (hd i hi).2
    rw [hx] at hR
    have := len_weight (slice_weight Tryd.underlying22 hR).1
    rw [bytesInt, List.length_map, List.length_range] at this
    rw [hl]
    exact this
theorem cells4 : Tryd.prog.cellsOf 47 = 4 := by kernel_rfl
theorem open_four {H : Type} {enc : TypeId × Value → H} {W : World} {base b0 : Nat} {spare : Nat → Bool} {held : Bool} {v : Value} {d : DataW H} {p : List MemPlace} (hok : Value.okWide Tryd.prog W .any b0 47 v) (h : DataW.Trod enc Tryd.prog W base spare held 47 v d p) :
    ∃ m0 m1 m2 m3, v = .agg #[I m0, I m1, I m2, I m3] ∧ i64 m0 ∧ i64 m1 ∧ i64 m2 ∧ i64 m3 := by
  unfold Value.okWide at hok
  rw [Tryd.underlying47] at hok
  obtain ⟨⟨cs⟩, rfl, hs, _⟩ := hok
  rw [cells4] at hs
  match cs, hs with
  | [c0, c1, c2, c3], _ =>
    obtain ⟨fuel, hf⟩ := h
    obtain ⟨y0, y1, y2, y3, n, _, h0, h1, h2, h3⟩ := Go.ChangeShapes.trod_array4 Tryd.underlying47 cellsInt hf
    obtain ⟨z0, e0, _, w0⟩ := DataW.trod_int uInt h0
    obtain ⟨z1, e1, _, w1⟩ := DataW.trod_int uInt h1
    obtain ⟨z2, e2, _, w2⟩ := DataW.trod_int uInt h2
    obtain ⟨z3, e3, _, w3⟩ := DataW.trod_int uInt h3
    simp at e0 e1 e2 e3
    exact ⟨z0, z1, z2, z3, by rw [e0, e1, e2, e3], wf_i64 w0, wf_i64 w1, wf_i64 w2, wf_i64 w3⟩

theorem contract (H : Type) (enc : TypeId × Value → H) (W : World) (base : Nat) (args : Array Value) (ds gs : List (DataW H)) (before : List MemPlace)
    (hval : ∀ (j : Nat) t v, Tryd.f5.params[j]? = some t → args[j]? = some v → Value.okWide Tryd.prog W .any base t v)
    (hW : DataW.Whole enc Tryd.prog Tryd.f5.params.toList Rows.backSpec.vars false W args.toList ds gs before)
    (hL : laidMetH Tryd.prog Rows.backRow.laid W)
    (vt : List TypeId) (hwt : (DataW.weightsEach Tryd.prog (Tryd.f5.params.toList ++ vt) (ds ++ gs)).all (· ≤ reachBytes) = true) :
    Calls Tryd.prog 5 args W fun e W' => ∃ v, e = .returned v ∧ Rows.backSpec.post enc Tryd.prog Tryd.f5 false true false false W args v W' := by
  have hW' := hW
  obtain ⟨p, q, hA0, hV, rfl, hfz, hnd⟩ := hW
  have hA : DataW.TrodAll enc Tryd.prog W 0 (fun _ => true) true Tryd.f5.params.toList args.toList ds p := hA0
  rw [Tryd.params5] at hA hval hwt
  have hlt := DataW.TrodAll.lt hA
  obtain ⟨v0, vs0, d0, ds0, p0, q0, hargs, rfl, rfl, h0, r0⟩ := trodAll_cons hA
  obtain ⟨v1, vs1, d1, ds1, p1, q1, rfl, rfl, rfl, h1, r1⟩ := trodAll_cons r0
  obtain ⟨v2, vs2, d2, ds2, p2, q2, rfl, rfl, rfl, h2, r2⟩ := trodAll_cons r1
  obtain ⟨v3, vs3, d3, ds3, p3, q3, rfl, rfl, rfl, h3, r3⟩ := trodAll_cons r2
  obtain ⟨v4, vs4, d4, ds4, p4, q4, rfl, rfl, rfl, h4, r4⟩ := trodAll_cons r3
  obtain ⟨v5, vs5, d5, ds5, p5, q5, rfl, rfl, rfl, h5, r5⟩ := trodAll_cons r4
  obtain ⟨v6, vs6, d6, ds6, p6, q6, rfl, rfl, rfl, h6, r6⟩ := trodAll_cons r5
  obtain ⟨rfl, rfl, rfl⟩ := trodAll_nil r6
  obtain rfl : args = #[v0, v1, v2, v3, v4, v5, v6] := by cases args; simp_all
  obtain ⟨rfl, rfl⟩ := trodVars_none hV
  obtain ⟨n, rfl, _, _, w0⟩ := open_int uInt (hval 0 3 v0 rfl rfl) h0
  obtain ⟨origin, rfl, _, _, w1⟩ := open_int uInt (hval 1 3 v1 rfl rfl) h1
  obtain ⟨seq, rfl, _, _, w2⟩ := open_int uInt (hval 2 3 v2 rfl rfl) h2
  obtain ⟨time, rfl, _, _, w3⟩ := open_int uInt (hval 3 3 v3 rfl rfl) h3
  obtain ⟨at', rfl, _, _, w5⟩ := open_int uInt (hval 5 3 v5 rfl rfl) h5
  obtain ⟨m0, m1, m2, m3, rfl, i0, i1, i2, i3⟩ := open_four (hval 6 47 v6 rfl rfl) h6
  obtain ⟨ra', len', rc', rfl⟩ := okWide_slice Tryd.underlying22 (hval 4 22 v4 rfl rfl)
  have h4' := h4
  obtain ⟨fuel, hf⟩ := h4'
  obtain ⟨ra, rc, raw, hcs, hat, hri, hw⟩ := trodInts2 hf
  simp [Value.cells] at hcs
  obtain ⟨rfl, rfl, rfl⟩ := hcs
  have hR : ∀ n ∈ d4.weights Tryd.prog 22, n ≤ reachBytes := fun n hn => by
    have := List.all_eq_true.1 hwt n (DataW.weights_mem_each (j := 4) rfl rfl n hn)
    simpa using this
  have hlen := hw reachBytes hR
  rw [sameLaid] at hL
  obtain ⟨⟨eb, ef, hg, hp⟩, hd⟩ := gd_of_laid hL
  refine (back_any n origin seq time at' raw ra' rc' m0 m1 m2 m3 W eb ef itoa_said hg hp hd (wf_i64 w0) (wf_i64 w1) (wf_i64 w2) (wf_i64 w3) (wf_i64 w5) i0 i1 i2 i3 hat hri (by unfold reachBytes at hlen; omega)).mono fun e W' ⟨he, hb⟩ => ?_
  subst he
  have hb0 : DataW.Trod enc Tryd.prog W' 0 (fun b => decide (b < W.heap.size)) true 3 _ d0 p0 := Below.trod laidOut (by kernel_rfl) (of_decide_eq_true (by kernel_rfl)) h0 hb (fun x hx => hlt x (by simp [hx]))
  have hb1 : DataW.Trod enc Tryd.prog W' 0 (fun b => decide (b < W.heap.size)) true 3 _ d1 p1 := Below.trod laidOut (by kernel_rfl) (of_decide_eq_true (by kernel_rfl)) h1 hb (fun x hx => hlt x (by simp [hx]))
  have hb2 : DataW.Trod enc Tryd.prog W' 0 (fun b => decide (b < W.heap.size)) true 3 _ d2 p2 := Below.trod laidOut (by kernel_rfl) (of_decide_eq_true (by kernel_rfl)) h2 hb (fun x hx => hlt x (by simp [hx]))
  have hb3 : DataW.Trod enc Tryd.prog W' 0 (fun b => decide (b < W.heap.size)) true 3 _ d3 p3 := Below.trod laidOut (by kernel_rfl) (of_decide_eq_true (by kernel_rfl)) h3 hb (fun x hx => hlt x (by simp [hx]))
  have hb4 : DataW.Trod enc Tryd.prog W' 0 (fun b => decide (b < W.heap.size)) true 22 _ d4 p4 := Below.trod laidOut (by kernel_rfl) (of_decide_eq_true (by kernel_rfl)) h4 hb (fun x hx => hlt x (by simp [hx]))
  have hb5 : DataW.Trod enc Tryd.prog W' 0 (fun b => decide (b < W.heap.size)) true 3 _ d5 p5 := Below.trod laidOut (by kernel_rfl) (of_decide_eq_true (by kernel_rfl)) h5 hb (fun x hx => hlt x (by simp [hx]))
  have hb6 : DataW.Trod enc Tryd.prog W' 0 (fun b => decide (b < W.heap.size)) true 47 _ d6 p6 := Below.trod laidOut (by kernel_rfl) (of_decide_eq_true (by kernel_rfl)) h6 hb (fun x hx => hlt x (by simp [hx]))
  exact ⟨_, rfl, _, _, _, [], p0 ++ (p1 ++ (p2 ++ (p3 ++ (p4 ++ (p5 ++ (p6 ++ [])))))), [], hW', trodAll_cons_mk (shut_bool Tryd.underlying4 _) trodAll_mk0, trodAll_cons_mk hb0 (trodAll_cons_mk hb1 (trodAll_cons_mk hb2 (trodAll_cons_mk hb3 (trodAll_cons_mk hb4 (trodAll_cons_mk hb5 (trodAll_cons_mk hb6 trodAll_mk0)))))), rfl, hb.frame _, fun h => by cases h⟩

/-! A world that meets the list. -/
def litV : DataW Unit → Value
  | .lit (.int k z) => .int k z
  | _ => .int .i64 0
def rowV : DataW Unit → Array Value
  | .agg l => (l.map litV).toArray
  | _ => #[]
def textV : DataW Unit → Value
  | .iface _ (.ptr (.agg [.lit (.string t)])) => .string ⟨t.toArray⟩
  | _ => .string ⟨#[]⟩
noncomputable def low : Nat := (World.holding Tryd.prog default ⟨#[], #[], []⟩).heap.size
def lay (cs : Array Value) : Obj → Obj
  | .cells _ t frozen => .cells cs t frozen
  | o => o
def sent (d : DataW Unit) : Obj := .cells #[textV d] 173
noncomputable def ptr (n : Nat) : Obj → Obj := lay #[.iface 149 (.pointer (some ⟨low + n, 0, none⟩))]
noncomputable def laidWorld (os : Os) : World :=
  let w0 := World.holding Tryd.prog os ⟨#[sent Rows.laid_weave_batch_ErrBatch, sent Rows.laid_weave_frames_ErrFrame, sent Rows.laid_weave_frames_ErrLength, sent Rows.laid_weave_frames_ErrSum, sent Rows.laid_weave_frames_ErrCut, sent Rows.laid_weave_frames_ErrRest], #[], []⟩
  { w0 with heap := (((((((((w0.heap.modify 8 (lay (rowV Rows.laid_math_bits_deBruijn32tab))).modify 9 (lay (rowV Rows.laid_math_bits_deBruijn64tab))).modify 7 (lay (rowV Rows.laid_internal_strconv_uint64pow10))).modify 5 (lay (Wv.tab.map I).toArray)).modify 4 (ptr 0)).modify 0 (ptr 1)).modify 2 (ptr 2)).modify 3 (ptr 3)).modify 6 (ptr 4)).modify 1 (ptr 5) }
abbrev noArgs : Array Value := #[I 0, I 0, I 0, I 0, .slice none 0 0, I 0, .agg #[I 0, I 0, I 0, I 0]]
abbrev noDat {H : Type} : List (DataW H) := [.lit (.int .i64 0), .lit (.int .i64 0), .lit (.int .i64 0), .lit (.int .i64 0), .nil, .lit (.int .i64 0), .agg [.lit (.int .i64 0), .lit (.int .i64 0), .lit (.int .i64 0), .lit (.int .i64 0)]]
theorem laid_met (os : Os) : laidMet Tryd.prog Rows.backRow.laid ((laidWorld os).forCall (fun _ _ => 0) ⟨#[], noArgs, []⟩).memory :=
  laidMet_of_run' 8 (by kernel_rfl) (by kernel_rfl)
theorem reads (os : Os) {H : Type} (enc : TypeId × Value → H) : ∃ places, DataW.whole enc Tryd.prog ((laidWorld os).forCall (fun _ _ => 0) ⟨#[], noArgs, []⟩).memory Tryd.f5.params.toList Rows.backSpec.vars false noArgs.toList 8 = some (noDat, [], places) :=
  ⟨[], by kernel_rfl⟩

theorem lifted (os : Os) (started : os.Started) (H : Type) (enc : TypeId × Value → H) (F : Stop.Interp) :
    ReturnsInHanded {} Tryd.checked os 5 .any ((OpenSpec.ofChange Rows.backSpec).preRow enc Tryd.prog Tryd.f5 Rows.backRow.domain false Rows.backRow.laid) (((OpenSpec.ofChange Rows.backSpec).at F).post enc Tryd.prog Tryd.f5 false true false false) := by
  obtain ⟨places, hx⟩ := reads os enc
  refine returnsInHanded_of_row (C := Tryd.checked) (s := OpenSpec.ofChange Rows.backSpec) own started (by kernel_rfl) Tryd.func5
    (witness_row_at (enc := enc) (C := Tryd.checked) false (laidWorld os) noArgs rfl (by kernel_rfl) (by kernel_rfl) (by kernel_rfl)
      (OpenSpec.preRow_of_cond 8 hx (by kernel_rfl) (fun k hk => by cases hk) (by kernel_rfl) (laid_met os))) ?_
  intro W base args ds gs before hval hW _ _ hwt hL _ _
  exact contract H enc W base args ds gs before hval hW hL _ hwt

theorem said : Rows.BackSaid :=
  OpenClaim.holds_of_cond 5 Tryd.f5 rfl rfl rfl rfl rfl rfl rfl ⟨rfl, rfl, rfl, rfl, rfl⟩ rfl rfl rfl rfl rfl (by kernel_rfl) Tryd.func5 (by kernel_rfl)
    (of_decide_eq_true (by kernel_rfl)) (by unfold Func.isWrapper; first | (rw [if_pos (by decide +kernel)]; kernel_rfl) | (rw [if_neg (by decide +kernel)]; exact ⟨rfl, rfl⟩))
    (fun os started H enc _ F => by rw [OpenClaim.pre_eq_preRow]; exact lifted os started H enc F)

/-- No parameter wants a stand-in; the program's own looks are off. -/
theorem plain (f : FuncId) (fn : Func) (hf : Tryd.pinned.checked.prog.funcNamed "weave/weavekeep.Back" = some f) (hfn : Tryd.pinned.checked.prog.funcs[f]? = some fn) :
    true = Tryd.pinned.checked.prog.looks [] ∧ ∀ (j : Nat) t, fn.params[j]? = some t → Tryd.pinned.checked.prog.wantsStandIn t = false := by
  obtain rfl : f = 5 := Option.some.inj ((show Tryd.prog.funcNamed "weave/weavekeep.Back" = some 5 by kernel_rfl).symm.trans hf) |>.symm
  obtain rfl : fn = Tryd.f5 := (Option.some.inj (Tryd.func5.symm.trans hfn)).symm
  refine ⟨by kernel_rfl, fun j t ht => ?_⟩
  rw [Tryd.params5] at ht
  have hall : (#[3, 3, 3, 3, 22, 3, 47] : Array TypeId).all (fun t => !Tryd.prog.wantsStandIn t) = true := by kernel_rfl
  have := Array.all_eq_true_iff_forall_mem.1 hall t (Array.mem_of_getElem? ht)
  have h2 : Tryd.prog.wantsStandIn t = false := by simpa using this
  exact h2

theorem card : Rows.BackCardSaid :=
  Claim7.holds_tied_plain_at .later [] _ _ _ _ said (fun _ h => by cases h) (by kernel_rfl) (fun _ h => by cases h) back_row_tie rfl ⟨rfl, rfl⟩ (by kernel_rfl) rfl plain (by kernel_rfl)

end Go.Proofs.YtfmcngncaffloaaDoor.Bck

namespace Go.Proofs.YtfmcngncaffloaaDoor
theorem back_card : Rows.BackCardSaid := Bck.card
end Go.Proofs.YtfmcngncaffloaaDoor
