import Derived.Test.YtfmcngncaffloaaGreatDoorCards
import Derived.Test.YtfmcngncaffloaaGreatDoorTie
import Derived.Test.YtfmcngncaffloaaGreatDoorG47MgK
import Derived.Test.YtfmcngncaffloaaGreatDoorG48Laid
import Derived.Test.YtfmcngncaffloaaGreatDoorG49LaidC
import Derived.WalkKit
import Derived.ProofKit
import Derived.OpenShut
import Derived.Carry
import Derived.Deep.DeepHandedRow
namespace Go.Proofs.YtfmcngncaffloaaGreatDoor.Mgd
open Go.ChangeShapes Go.WideShapes Go.ChangeAt Go.RowKit
set_option maxRecDepth 100000

theorem own : ownKnob Tryz.prog.godebug = none := by kernel_rfl
theorem laidOut : laidOutB Tryz.prog = true := by kernel_rfl
abbrev i64 (n : Int) : Prop := -9223372036854775808 ≤ n ∧ n ≤ 9223372036854775807
theorem sameLaid : Rows.mergedRow.laid = Rows.causalRow.laid := by kernel_rfl
theorem wf_i64 {z : Int} (h : (Lit.int .i64 z).wf = true) : i64 z := by
  simp only [Lit.wf, Bool.and_eq_true, decide_eq_true_eq] at h
  exact ⟨h.1, h.2⟩

theorem trodInts2 {H : Type} {enc : TypeId × Value → H} {W : World} {base : Nat} {spare : Nat → Bool} {held : Bool} {fuel : Nat} {cs : List Value} {x : DataW H × List MemPlace} (h : DataW.trod enc Tryz.prog W base spare held fuel 34 cs = some x) :
    ∃ (ca : Option Addr) (cc : Nat) (zs : List Int), cs = [.slice ca zs.length cc] ∧ At W ca (zs.map I) ∧ (∀ z ∈ zs, i64 z) ∧ ∀ R, (∀ n ∈ x.1.weights Tryz.prog 34, n ≤ R) → zs.length * 8 ≤ R := by
  rcases Go.Deep.open_slice Tryz.underlying34 h with ⟨rfl, _⟩ | ⟨a, len, cap, m, n, D, Pl, rfl, _, hlc, _, hm, hx, he⟩
  · exact ⟨none, 0, [], rfl, fun j u hj => (by simp at hj), fun z hz => (by cases hz), fun R _ => (by simp)⟩
  · have hlm : len ≤ m := by rw [hm]; split <;> omega
    rw [cellsInt] at he
    obtain ⟨zs, hl, hd⟩ := pick (fun i (z : Int) => W.cells? base (a.add (i * 1)) 1 = some [I z] ∧ i64 z) len fun i hi => by
      obtain ⟨cs', h1, h2⟩ := he i (by omega)
      obtain ⟨z, rfl, _, hw⟩ := DataW.trod_int uInt h2
      exact ⟨z, h1, wf_i64 hw⟩
    have := at_rows (fun z : Int => [I z]) 1 (by omega) (fun _ => rfl) (fun i hi => (hd i hi).1)
    have e : ∀ l : List Int, flat (fun z : Int => [I z]) l = l.map I := by
      intro l
      induction l with
      | nil => rfl
      | cons z l ih => simp [flat, ih]
    rw [e] at this
    refine ⟨some a, cap, zs, by rw [hl], this, fun z hz => ?_, fun R hR => ?_⟩
    · obtain ⟨i, hi, rfl⟩ := List.mem_iff_getElem.1 hz
      exact (hd i hi).2
    rw [hx] at hR
    have := len_weight (slice_weight Tryz.underlying34 hR).1
    rw [bytesInt, List.length_map, List.length_range] at this
    rw [hl]
    exact this

theorem contract (H : Type) (enc : TypeId × Value → H) (W : World) (base : Nat) (args : Array Value) (ds gs : List (DataW H)) (before : List MemPlace)
    (hval : ∀ (j : Nat) t v, Tryz.f6.params[j]? = some t → args[j]? = some v → Value.okWide Tryz.prog W .any base t v)
    (hW : DataW.Whole enc Tryz.prog Tryz.f6.params.toList Rows.mergedSpec.vars false W args.toList ds gs before)
    (hL : laidMetH Tryz.prog Rows.mergedRow.laid W)
    (vt : List TypeId) (hwt : (DataW.weightsEach Tryz.prog (Tryz.f6.params.toList ++ vt) (ds ++ gs)).all (· ≤ reachBytes) = true) :
    Calls Tryz.prog 6 args W fun e W' => ∃ v, e = .returned v ∧ Rows.mergedSpec.post enc Tryz.prog Tryz.f6 false true false false W args v W' := by
  have hW' := hW
  obtain ⟨p, q, hA0, hV, rfl, hfz, hnd⟩ := hW
  have hA : DataW.TrodAll enc Tryz.prog W 0 (fun _ => true) true Tryz.f6.params.toList args.toList ds p := hA0
  rw [Tryz.params6] at hA hval hwt
  have hlt := DataW.TrodAll.lt hA
  obtain ⟨v0, vs0, d0, ds0, p0, q0, hargs, rfl, rfl, h0, r0⟩ := trodAll_cons hA
  obtain ⟨v1, vs1, d1, ds1, p1, q1, rfl, rfl, rfl, h1, r1⟩ := trodAll_cons r0
  obtain ⟨v2, vs2, d2, ds2, p2, q2, rfl, rfl, rfl, h2, r2⟩ := trodAll_cons r1
  obtain ⟨v3, vs3, d3, ds3, p3, q3, rfl, rfl, rfl, h3, r3⟩ := trodAll_cons r2
  obtain ⟨rfl, rfl, rfl⟩ := trodAll_nil r3
  obtain rfl : args = #[v0, v1, v2, v3] := by cases args; simp_all
  obtain ⟨rfl, rfl⟩ := trodVars_none hV
  obtain ⟨n0, rfl, _, _, w0⟩ := open_int uInt (hval 0 3 v0 rfl rfl) h0
  obtain ⟨n1, rfl, _, _, w1⟩ := open_int uInt (hval 1 3 v1 rfl rfl) h1
  obtain ⟨a2', len2', c2', rfl⟩ := okWide_slice Tryz.underlying34 (hval 2 34 v2 rfl rfl)
  have h2' := h2
  obtain ⟨fuel2, hf2⟩ := h2'
  obtain ⟨a2, c2, ra, hcs2, hat2, hri2, hw2⟩ := trodInts2 hf2
  simp [Value.cells] at hcs2
  obtain ⟨rfl, rfl, rfl⟩ := hcs2
  have hR2 : ∀ n ∈ d2.weights Tryz.prog 34, n ≤ reachBytes := fun n hn => by
    have := List.all_eq_true.1 hwt n (DataW.weights_mem_each (j := 2) rfl rfl n hn)
    simpa using this
  have hlen2 := hw2 reachBytes hR2
  obtain ⟨a3', len3', c3', rfl⟩ := okWide_slice Tryz.underlying34 (hval 3 34 v3 rfl rfl)
  have h3' := h3
  obtain ⟨fuel3, hf3⟩ := h3'
  obtain ⟨a3, c3, rb, hcs3, hat3, hri3, hw3⟩ := trodInts2 hf3
  simp [Value.cells] at hcs3
  obtain ⟨rfl, rfl, rfl⟩ := hcs3
  have hR3 : ∀ n ∈ d3.weights Tryz.prog 34, n ≤ reachBytes := fun n hn => by
    have := List.all_eq_true.1 hwt n (DataW.weights_mem_each (j := 3) rfl rfl n hn)
    simpa using this
  have hlen3 := hw3 reachBytes hR3
  rw [sameLaid] at hL
  obtain ⟨⟨eb, ef, hg, hp⟩, hd⟩ := gs_of_laid hL
  refine (merged_any n0 n1 ra rb a2' a3' c2' c3' W eb ef itoa_said hg hp hd (wf_i64 w0) (wf_i64 w1) hat2 hat3 hri2 hri3 (by unfold reachBytes at hlen2; omega) (by unfold reachBytes at hlen3; omega)).mono fun e W' ⟨he, hb⟩ => ?_
  subst he
  have hb0 : DataW.Trod enc Tryz.prog W' 0 (fun b => decide (b < W.heap.size)) true 3 _ d0 p0 := Below.trod laidOut (by kernel_rfl) (of_decide_eq_true (by kernel_rfl)) h0 hb (fun x hx => hlt x (by simp [hx]))
  have hb1 : DataW.Trod enc Tryz.prog W' 0 (fun b => decide (b < W.heap.size)) true 3 _ d1 p1 := Below.trod laidOut (by kernel_rfl) (of_decide_eq_true (by kernel_rfl)) h1 hb (fun x hx => hlt x (by simp [hx]))
  have hb2 : DataW.Trod enc Tryz.prog W' 0 (fun b => decide (b < W.heap.size)) true 34 _ d2 p2 := Below.trod laidOut (by kernel_rfl) (of_decide_eq_true (by kernel_rfl)) h2 hb (fun x hx => hlt x (by simp [hx]))
  have hb3 : DataW.Trod enc Tryz.prog W' 0 (fun b => decide (b < W.heap.size)) true 34 _ d3 p3 := Below.trod laidOut (by kernel_rfl) (of_decide_eq_true (by kernel_rfl)) h3 hb (fun x hx => hlt x (by simp [hx]))
  exact ⟨_, rfl, _, _, _, [], p0 ++ (p1 ++ (p2 ++ (p3 ++ []))), [], hW', trodAll_cons_mk (shut_bool Tryz.underlying4 _) trodAll_mk0, trodAll_cons_mk hb0 (trodAll_cons_mk hb1 (trodAll_cons_mk hb2 (trodAll_cons_mk hb3 trodAll_mk0))), rfl, hb.frame _, fun h => by cases h⟩

end Go.Proofs.YtfmcngncaffloaaGreatDoor.Mgd
