import Derived.Test.YtfmcngncaffloaaGreatDoorG10HpA
namespace Go.Proofs.YtfmcngncaffloaaGreatDoor
open Go.RowKit
set_option maxRecDepth 100000

/-- A map from the numbers 0, 1, .. to these. -/
def OmAt (w : World) (b : Nat) (vs : List Value) : Prop := ∃ es clock, w.heap[b]? = some (.map es clock) ∧ es.toList.map (fun e => (e.key, e.val)) = vs.mapIdx (fun i v => (I i, v))
theorem OmAt.lt {w : World} {b : Nat} {vs : List Value} (h : OmAt w b vs) : b < w.heap.size := by
  obtain ⟨es, clock, hb, _⟩ := h
  exact (Array.getElem?_eq_some_iff.1 hb).1
theorem OmAt.same {w w' : World} {b : Nat} {vs : List Value} (h : OmAt w b vs) (hb : w'.heap[b]? = w.heap[b]?) : OmAt w' b vs := by
  obtain ⟨es, clock, h1, h2⟩ := h
  exact ⟨es, clock, hb.trans h1, h2⟩
theorem OmAt.new (w : World) : OmAt (w.alloc (.map #[] 0)) w.heap.size [] := ⟨#[], 0, (MapKept.heap_alloc w _).1, rfl⟩
theorem findNow_int (k : Int) : ∀ (es : List MapEntry) (vs : List Value) (a i : Nat), es.map (fun e => (e.key, e.val)) = vs.mapIdx (fun j v => (I ((a + j : Nat) : Int), v)) →
    Instr.findNow (.int .i64) (I k) es i = some (if h : (a : Int) ≤ k ∧ k < a + vs.length then some (i + (k - a).toNat, vs[(k - a).toNat]'(by omega)) else none)
  | [], [], a, i, _ => by
    rw [dif_neg (by simp)]
    rfl
  | [], _ :: _, _, _, h => by simp at h
  | _ :: _, [], _, _, h => by simp at h
  | e :: es, v :: vs, a, i, h => by
    simp only [List.map_cons, List.mapIdx_cons, List.cons.injEq, Prod.mk.injEq, Nat.add_zero] at h
    obtain ⟨⟨h1, h2⟩, h3⟩ := h
    have h3' : es.map (fun e => (e.key, e.val)) = vs.mapIdx (fun j v => (I ((a + 1 + j : Nat) : Int), v)) := by
      rw [h3]
      congr 1
      funext j v
      congr 3
      omega
    have ih := findNow_int k es vs (a + 1) (i + 1) h3'
    unfold Instr.findNow
    rw [h1]
    simp only [Instr.sameNow]
    by_cases hq : k = (a : Int)
    · subst hq
      simp [h2]
      omega
    · have hb : (k == (a : Int)) = false := by simp [hq]
      simp only [if_true, hb, ih]
      by_cases hr : (a : Int) ≤ k ∧ k < a + (v :: vs).length
      · rw [dif_pos hr, dif_pos (by simp at hr ⊢; omega)]
        have e1 : (k - (a : Int)).toNat = (k - ((a + 1 : Nat) : Int)).toNat + 1 := by omega
        simp only [Option.some.injEq, Prod.mk.injEq]
        refine ⟨by omega, ?_⟩
        simp only [e1, List.getElem_cons_succ]
      · rw [dif_neg hr, dif_neg (by simp at hr ⊢; omega)]
theorem run_checkKey_int (k : Int) (b : Bool) (w : World) : (Instr.checkKey b 10000 3 (I k)).run Tryz.prog w = .ok () w := by
  show (Instr.checkKey b (9999 + 1) 3 (.int .i64 k)).run Tryz.prog w = _
  rw [Instr.checkKey, Sem.run_bind, run_underlying Tryz.underlying3]
  simp
theorem run_findKey_int (k : Int) (w : World) (es : List MapEntry) (vs : List Value) (h : es.map (fun e => (e.key, e.val)) = vs.mapIdx (fun i v => (I i, v))) :
    (Instr.findKey 3 (I k) es).run Tryz.prog w = .ok (if h : 0 ≤ k ∧ k < vs.length then some (k.toNat, vs[k.toNat]'(by omega)) else none) w := by
  have hf := findNow_int k es vs 0 0 (by rw [h]; congr 1; funext j v; simp)
  unfold Instr.findKey
  rw [Sem.run_bind, run_underlying Tryz.underlying3]
  simp only [Result.andThen_ok]
  rw [hf]
  simp
theorem run_lookup_om (k : Int) (w : World) (b : Nat) (vs : List Value) (h : OmAt w b vs) (hk : 0 ≤ k ∧ k < vs.length) : (Instr.lookup 120 (.map (some b)) (I k) false).run Tryz.prog w = .ok (vs[k.toNat]'(by omega)) w := by
  obtain ⟨es, clock, hb, he⟩ := h
  unfold Instr.lookup
  simp only [Sem.run_bind, run_underlying Tryz.underlying120, Result.andThen_ok, MapKept.run_getObj_map hb, Sem.run_pure, run_checkKey_int, run_findKey_int k w es.toList vs he]
  rw [dif_pos hk]
  simp
theorem run_lookup_ok (k : Int) (w : World) (b : Nat) (vs : List Value) (h : OmAt w b vs) (hk : 0 ≤ k ∧ k < vs.length) : (Instr.lookup 120 (.map (some b)) (I k) true).run Tryz.prog w = .ok (.tuple #[vs[k.toNat]'(by omega), .bool true]) w := by
  obtain ⟨es, clock, hb, he⟩ := h
  unfold Instr.lookup
  simp only [Sem.run_bind, run_underlying Tryz.underlying120, Result.andThen_ok, MapKept.run_getObj_map hb, Sem.run_pure, run_checkKey_int, run_findKey_int k w es.toList vs he]
  rw [dif_pos hk]
  simp
theorem run_update_om (v : Value) (w : World) (b : Nat) (vs : List Value) (h : OmAt w b vs) : ∃ w', (Instr.mapUpdate 120 (.map (some b)) (I vs.length) v).run Tryz.prog w = .ok () w' ∧ OmAt w' b (vs ++ [v]) ∧ w.grownBy w' (some b) := by
  have hlt := h.lt
  obtain ⟨es, clock, hb, he⟩ := h
  have hset : ∀ o : Obj, (setObj b o).run Tryz.prog w = .ok () (setM w b o) := fun o => MapKept.run_setObj_map o hb
  unfold Instr.mapUpdate
  simp only [Sem.run_bind, run_underlying Tryz.underlying120, Result.andThen_ok, MapKept.run_getObj_map hb, run_checkKey_int, run_findKey_int _ w es.toList vs he]
  rw [dif_neg (by omega)]
  simp only [hset]
  refine ⟨_, rfl, ⟨_, _, setM_at hlt _, ?_⟩, setM_grown w b _⟩
  rw [Array.toList_push, List.map_append, he, List.mapIdx_append]
  simp

end Go.Proofs.YtfmcngncaffloaaGreatDoor
