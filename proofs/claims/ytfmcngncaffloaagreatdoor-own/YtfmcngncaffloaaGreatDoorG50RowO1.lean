import Derived.Test.YtfmcngncaffloaaGreatDoorCards
import Derived.Test.YtfmcngncaffloaaGreatDoorTie
import Derived.Test.YtfmcngncaffloaaGreatDoorG47OwS
import Derived.Test.YtfmcngncaffloaaGreatDoorG48Laid
import Derived.Test.YtfmcngncaffloaaGreatDoorG49LaidO
import Derived.WalkKit
import Derived.ProofKit
import Derived.OpenShut
import Derived.Carry
import Derived.Deep.DeepHandedRow
namespace Go.Proofs.YtfmcngncaffloaaGreatDoor.Owd
open Go.ChangeShapes Go.WideShapes Go.ChangeAt Go.RowKit
set_option maxRecDepth 100000

theorem own : ownKnob Tryz.prog.godebug = none := by kernel_rfl
theorem laidOut : laidOutB Tryz.prog = true := by kernel_rfl
abbrev i64 (n : Int) : Prop := -9223372036854775808 ≤ n ∧ n ≤ 9223372036854775807
theorem wf_i64 {z : Int} (h : (Lit.int .i64 z).wf = true) : i64 z := by
  simp only [Lit.wf, Bool.and_eq_true, decide_eq_true_eq] at h
  exact ⟨h.1, h.2⟩

theorem cellsAct : Tryz.prog.cellsOf 41 = 5 := by kernel_rfl
theorem bytesAct : Tryz.prog.bytesOf 41 = 40 := by kernel_rfl
theorem trodAct {H : Type} {enc : TypeId × Value → H} {W : World} {base : Nat} {spare : Nat → Bool} {held : Bool} {fuel : Nat} {cs : List Value} {x : DataW H × List MemPlace} (h : DataW.trod enc Tryz.prog W base spare held fuel 41 cs = some x) : ∃ a : Ra, cs = raC a ∧ RaOk a := by
  obtain ⟨xs, n, _, hx, hl, hlen, hf⟩ := DataW.trod_struct Tryz.underlying41 h
  rw [cellsAct] at hl
  match xs, hlen with
  | [y0, y1, y2, y3, y4], _ =>
    match cs, hl with
    | [c0, c1, c2, c3, c4], _ =>
      have h0 : DataW.trod enc Tryz.prog W base spare held n 3 [c0] = some y0 := by have := hf 0 _ rfl; simpa [cellsInt] using this
      have h1 : DataW.trod enc Tryz.prog W base spare held n 3 [c1] = some y1 := by have := hf 1 _ rfl; simpa [cellsInt] using this
      have h2 : DataW.trod enc Tryz.prog W base spare held n 3 [c2] = some y2 := by have := hf 2 _ rfl; simpa [cellsInt] using this
      have h3 : DataW.trod enc Tryz.prog W base spare held n 3 [c3] = some y3 := by have := hf 3 _ rfl; simpa [cellsInt] using this
      have h4 : DataW.trod enc Tryz.prog W base spare held n 3 [c4] = some y4 := by have := hf 4 _ rfl; simpa [cellsInt] using this
      obtain ⟨z0, e0, _, w0⟩ := DataW.trod_int uInt h0
      obtain ⟨z1, e1, _, w1⟩ := DataW.trod_int uInt h1
      obtain ⟨z2, e2, _, w2⟩ := DataW.trod_int uInt h2
      obtain ⟨z3, e3, _, w3⟩ := DataW.trod_int uInt h3
      obtain ⟨z4, e4, _, w4⟩ := DataW.trod_int uInt h4
      simp at e0 e1 e2 e3 e4
      exact ⟨⟨z0, z1, z2, z3, z4⟩, by simp [raC, e0, e1, e2, e3, e4], wf_i64 w0, wf_i64 w1, wf_i64 w2, wf_i64 w3, wf_i64 w4⟩
theorem trodActs {H : Type} {enc : TypeId × Value → H} {W : World} {base : Nat} {spare : Nat → Bool} {held : Bool} {fuel : Nat} {cs : List Value} {x : DataW H × List MemPlace} (h : DataW.trod enc Tryz.prog W base spare held fuel 25 cs = some x) :
    ∃ (ca : Option Addr) (cc : Nat) (zs : List Ra), cs = [.slice ca zs.length cc] ∧ At W ca (flat raC zs) ∧ (∀ z ∈ zs, RaOk z) ∧ ∀ R, (∀ n ∈ x.1.weights Tryz.prog 25, n ≤ R) → zs.length * 40 ≤ R := by
  rcases Go.Deep.open_slice Tryz.underlying25 h with ⟨rfl, _⟩ | ⟨a, len, cap, m, n, D, Pl, rfl, _, hlc, _, hm, hx, he⟩
  · exact ⟨none, 0, [], rfl, fun j u hj => (by simp [flat] at hj), fun z hz => (by cases hz), fun R _ => (by simp)⟩
  · have hlm : len ≤ m := by rw [hm]; split <;> omega
    rw [cellsAct] at he
    obtain ⟨zs, hl, hd⟩ := pick (fun i (z : Ra) => W.cells? base (a.add (i * 5)) 5 = some (raC z) ∧ RaOk z) len fun i hi => by
      obtain ⟨cs', h1, h2⟩ := he i (by omega)
      obtain ⟨z, rfl, hw⟩ := trodAct h2
      exact ⟨z, h1, hw⟩
    refine ⟨some a, cap, zs, by rw [hl], at_rows raC 5 (by omega) (fun _ => rfl) (fun i hi => (hd i hi).1), fun z hz => ?_, fun R hR => ?_⟩
    · obtain ⟨i, hi, rfl⟩ := List.mem_iff_getElem.1 hz
      exact (hd i hi).2
    rw [hx] at hR
    have := len_weight (slice_weight Tryz.underlying25 hR).1
    rw [bytesAct, List.length_map, List.length_range] at this
    rw [hl]
    exact this

theorem contract (H : Type) (enc : TypeId × Value → H) (W : World) (base : Nat) (args : Array Value) (ds gs : List (DataW H)) (before : List MemPlace)
    (hval : ∀ (j : Nat) t v, Tryz.f4.params[j]? = some t → args[j]? = some v → Value.okWide Tryz.prog W .any base t v)
    (hW : DataW.Whole enc Tryz.prog Tryz.f4.params.toList Rows.ownSpec.vars false W args.toList ds gs before)
    (hL : laidMetH Tryz.prog Rows.ownRow.laid W)
    (vt : List TypeId) (hwt : (DataW.weightsEach Tryz.prog (Tryz.f4.params.toList ++ vt) (ds ++ gs)).all (· ≤ reachBytes) = true) :
    Calls Tryz.prog 4 args W fun e W' => ∃ v, e = .returned v ∧ Rows.ownSpec.post enc Tryz.prog Tryz.f4 false true false false W args v W' := by
  have hW' := hW
  obtain ⟨p, q, hA0, hV, rfl, hfz, hnd⟩ := hW
  have hA : DataW.TrodAll enc Tryz.prog W 0 (fun _ => true) true Tryz.f4.params.toList args.toList ds p := hA0
  rw [Tryz.params4] at hA hval hwt
  have hlt := DataW.TrodAll.lt hA
  obtain ⟨v0, vs0, d0, ds0, p0, q0, hargs, rfl, rfl, h0, r0⟩ := trodAll_cons hA
  obtain ⟨v1, vs1, d1, ds1, p1, q1, rfl, rfl, rfl, h1, r1⟩ := trodAll_cons r0
  obtain ⟨v2, vs2, d2, ds2, p2, q2, rfl, rfl, rfl, h2, r2⟩ := trodAll_cons r1
  obtain ⟨rfl, rfl, rfl⟩ := trodAll_nil r2
  obtain rfl : args = #[v0, v1, v2] := by cases args; simp_all
  obtain ⟨rfl, rfl⟩ := trodVars_none hV
  obtain ⟨n1, rfl, _, _, w1⟩ := open_int uInt (hval 1 3 v1 rfl rfl) h1
  obtain ⟨n2, rfl, _, _, w2⟩ := open_int uInt (hval 2 3 v2 rfl rfl) h2
  obtain ⟨a0', len0', c0', rfl⟩ := okWide_slice Tryz.underlying25 (hval 0 25 v0 rfl rfl)
  have h0' := h0
  obtain ⟨fuel0, hf0⟩ := h0'
  obtain ⟨a0, c0, raws, hcs0, hat0, hri0, hw0⟩ := trodActs hf0
  simp [Value.cells] at hcs0
  obtain ⟨rfl, rfl, rfl⟩ := hcs0
  have hR0 : ∀ n ∈ d0.weights Tryz.prog 25, n ≤ reachBytes := fun n hn => by
    have := List.all_eq_true.1 hwt n (DataW.weights_mem_each (j := 0) rfl rfl n hn)
    simpa using this
  have hlen0 := hw0 reachBytes hR0
  obtain ⟨eb, ef, hg, hp⟩ := go_of_laid hL
  refine (own_any raws a0' c0' n1 n2 W eb ef itoa_said hg hp (wf_i64 w1) (wf_i64 w2) hat0 hri0 (by unfold reachBytes at hlen0; omega)).mono fun e W' ⟨he, hb⟩ => ?_
  subst he
  have hb0 : DataW.Trod enc Tryz.prog W' 0 (fun b => decide (b < W.heap.size)) true 25 _ d0 p0 := Below.trod laidOut (by kernel_rfl) (of_decide_eq_true (by kernel_rfl)) h0 hb (fun x hx => hlt x (by simp [hx]))
  have hb1 : DataW.Trod enc Tryz.prog W' 0 (fun b => decide (b < W.heap.size)) true 3 _ d1 p1 := Below.trod laidOut (by kernel_rfl) (of_decide_eq_true (by kernel_rfl)) h1 hb (fun x hx => hlt x (by simp [hx]))
  have hb2 : DataW.Trod enc Tryz.prog W' 0 (fun b => decide (b < W.heap.size)) true 3 _ d2 p2 := Below.trod laidOut (by kernel_rfl) (of_decide_eq_true (by kernel_rfl)) h2 hb (fun x hx => hlt x (by simp [hx]))
  exact ⟨_, rfl, _, _, _, [], p0 ++ (p1 ++ (p2 ++ [])), [], hW', trodAll_cons_mk (shut_bool Tryz.underlying4 _) trodAll_mk0, trodAll_cons_mk hb0 (trodAll_cons_mk hb1 (trodAll_cons_mk hb2 trodAll_mk0)), rfl, hb.frame _, fun h => by cases h⟩

end Go.Proofs.YtfmcngncaffloaaGreatDoor.Owd
