import Derived.Test.YtfmcngncaffloaaGreatDoorG04PoA
import Derived.Test.YtfmcngncaffloaaGreatDoorG06EqD
namespace Go.Proofs.YtfmcngncaffloaaGreatDoor
open Go.RowKit
set_option maxRecDepth 100000

/-- A map from dots to numbers, its entries in the order in which they came. -/
abbrev Lv := List (Wv.Dt × Int)
def entD (x : Wv.Dt × Int) (b : Nat) : MapEntry := ⟨dotV x.1, I x.2, b⟩
/-- The stamps of a map's entries: each its own, all behind the clock. -/
def Stm (es : Array MapEntry) (clock : Nat) : Prop := (∀ x ∈ es.toList, x.born < clock) ∧ (es.toList.map (·.born)).Nodup
/-- Block b of w is that map. -/
def MpAt (w : World) (b : Nat) (m : Lv) : Prop := ∃ es clock, w.heap[b]? = some (.map es clock) ∧ es.toList.map (fun e => (e.key, e.val)) = m.map (fun x => (dotV x.1, I x.2)) ∧ Stm es clock
theorem Stm.none : Stm #[] 0 := ⟨fun x hx => by simp at hx, by simp⟩
theorem Stm.push {es : Array MapEntry} {clock : Nat} (h : Stm es clock) (k v : Value) : Stm (es.push ⟨k, v, clock⟩) (clock + 1) := by
  refine ⟨fun x hx => ?_, ?_⟩
  · rw [Array.toList_push, List.mem_append] at hx
    rcases hx with hx | hx
    · have := h.1 x hx
      omega
    · simp only [List.mem_singleton] at hx
      subst hx
      show clock < clock + 1
      omega
  · rw [Array.toList_push, List.map_append, List.nodup_append]
    refine ⟨h.2, by simp, fun a ha c hc => ?_⟩
    obtain ⟨x, hx, rfl⟩ := List.mem_map.1 ha
    simp only [List.map_cons, List.map_nil, List.mem_singleton] at hc
    have := h.1 x hx
    omega
theorem Stm.erase {es : Array MapEntry} {clock : Nat} (h : Stm es clock) (j : Nat) : Stm (es.eraseIdxIfInBounds j) clock := by
  have hs : ((es.eraseIdxIfInBounds j).toList).Sublist es.toList := by
    rw [Array.toList_eraseIdxIfInBounds]
    exact List.eraseIdx_sublist _ _
  exact ⟨fun x hx => h.1 x (hs.subset hx), (hs.map _).nodup h.2⟩
theorem Stm.modify {es : Array MapEntry} {clock : Nat} (h : Stm es clock) (j : Nat) (f : MapEntry → MapEntry) (hf : ∀ x, (f x).born = x.born) : Stm (es.modify j f) clock := by
  have hb : (es.modify j f).toList.map (·.born) = es.toList.map (·.born) := by
    apply List.ext_getElem?
    intro k
    simp only [List.getElem?_map, Array.getElem?_toList, Array.getElem?_modify]
    by_cases hjk : j = k
    · rw [if_pos hjk]
      cases es[k]? with
      | none => rfl
      | some x => simp [hf]
    · rw [if_neg hjk]
  refine ⟨fun x hx => ?_, by rw [hb]; exact h.2⟩
  have hm : x.born ∈ (es.modify j f).toList.map (·.born) := List.mem_map.2 ⟨x, hx, rfl⟩
  rw [hb] at hm
  obtain ⟨y, hy, hyx⟩ := List.mem_map.1 hm
  rw [← hyx]
  exact h.1 y hy
def eqD (d e : Wv.Dt) : Bool := eq3 d.o d.s d.i e.o e.s e.i
theorem eqD_iff (d e : Wv.Dt) : eqD d e = true ↔ d = e := by
  unfold eqD eq3
  cases d; cases e
  simp [and_assoc]
/-- Where a dot's entry stands. -/
def idxD (d : Wv.Dt) (m : Lv) : Option Nat := m.findIdx? (fun x => eqD d x.1)
def putD (m : Lv) (d : Wv.Dt) (v : Int) : Lv := match idxD d m with | some i => m.set i (d, v) | none => m ++ [(d, v)]
def delD (m : Lv) (d : Wv.Dt) : Lv := match idxD d m with | some i => m.eraseIdx i | none => m
def getD (m : Lv) (d : Wv.Dt) : Int := match idxD d m with | some i => ((m[i]?).map (·.2)).getD 0 | none => 0

set_option maxHeartbeats 400000 in
theorem run_equal_dot (d e : Wv.Dt) (w : World) : (Op.equal 146 (dotV d) (dotV e)).run Tryz.prog w = .ok (eqD d e) w := by
  unfold eqD
  show (Op.equalIn (9999 + 1) 146 (.agg #[I d.o, I d.s, I d.i]) (.agg #[I e.o, I e.s, I e.i])).run Tryz.prog w = _
  go_simp
  unfold eq3
  by_cases h1 : d.o = e.o <;> by_cases h2 : d.s = e.s <;> by_cases h3 : d.i = e.i <;> simp [h1, h2, h3]
theorem run_findAsking_dot (d : Wv.Dt) (w : World) : ∀ (es : List MapEntry) (m : Lv) (i : Nat), es.map (fun e => (e.key, e.val)) = m.map (fun x => (dotV x.1, I x.2)) →
    (Instr.findAsking 146 (dotV d) es i).run Tryz.prog w = .ok ((idxD d m).map (fun j => (i + j, I (((m[j]?).map (·.2)).getD 0)))) w
  | [], [], i, _ => by simp [Instr.findAsking, idxD]
  | [], _ :: _, _, h => by simp at h
  | _ :: _, [], _, h => by simp at h
  | e :: es, x :: m, i, h => by
    simp only [List.map_cons, List.cons.injEq, Prod.mk.injEq] at h
    obtain ⟨⟨h1, h2⟩, h3⟩ := h
    unfold Instr.findAsking
    rw [h1, Sem.run_bind, run_equal_dot]
    simp only [Result.andThen_ok]
    by_cases hq : eqD d x.1 = true
    · rw [if_pos hq]
      simp [idxD, List.findIdx?_cons, hq, h2]
    · have hq' : eqD d x.1 = false := by simpa using hq
      rw [if_neg hq, run_findAsking_dot d w es m (i + 1) h3]
      simp only [idxD, List.findIdx?_cons, hq']
      cases hf : m.findIdx? (fun x => eqD d x.1) with
      | none => simp
      | some j => simp; omega
theorem run_findKey_dot (d : Wv.Dt) (w : World) (es : List MapEntry) (m : Lv) (h : es.map (fun e => (e.key, e.val)) = m.map (fun x => (dotV x.1, I x.2))) :
    (Instr.findKey 146 (dotV d) es).run Tryz.prog w = .ok ((idxD d m).map (fun j => (j, I (((m[j]?).map (·.2)).getD 0)))) w := by
  have hf := run_findAsking_dot d w es m 0 h
  unfold Instr.findKey
  rw [Sem.run_bind, run_underlying Tryz.underlying146]
  simp only [Result.andThen_ok]
  cases es with
  | nil =>
    cases m with
    | nil => simp [Instr.findNow, idxD]
    | cons x m => simp at h
  | cons e es =>
    simp only [Instr.findNow, Instr.sameNow]
    rw [hf]
    simp
set_option maxHeartbeats 400000 in
theorem run_checkKey_dot (d : Wv.Dt) (b : Bool) (w : World) : (Instr.checkKey b 10000 146 (dotV d)).run Tryz.prog w = .ok () w := by
  show (Instr.checkKey b (9999 + 1) 146 (.agg #[I d.o, I d.s, I d.i])).run Tryz.prog w = _
  rw [Instr.checkKey, Sem.run_bind, run_underlying Tryz.underlying146]
  have hc : ∀ x w, (Instr.checkKey b 9999 3 (I x)).run Tryz.prog w = .ok () w := fun x w => by
    show (Instr.checkKey b (9998 + 1) 3 (.int .i64 x)).run Tryz.prog w = _
    rw [Instr.checkKey, Sem.run_bind, run_underlying Tryz.underlying3]
    simp
  simp only [Result.andThen_ok, List.forIn_toArray, List.forIn_cons, List.forIn_nil]
  go_simp
theorem MpAt.lt {w : World} {b : Nat} {m : Lv} (h : MpAt w b m) : b < w.heap.size := by
  obtain ⟨es, clock, hb, _⟩ := h
  exact (Array.getElem?_eq_some_iff.1 hb).1
theorem MpAt.same {w w' : World} {b : Nat} {m : Lv} (h : MpAt w b m) (hb : w'.heap[b]? = w.heap[b]?) : MpAt w' b m := by
  obtain ⟨es, clock, h1, h2⟩ := h
  exact ⟨es, clock, hb.trans h1, h2⟩
theorem MpAt.new (w : World) : MpAt (w.alloc (.map #[] 0)) w.heap.size [] := ⟨#[], 0, (MapKept.heap_alloc w _).1, rfl, Stm.none⟩
theorem ents_at {es : Array MapEntry} {m : Lv} (h : es.toList.map (fun e => (e.key, e.val)) = m.map (fun x => (dotV x.1, I x.2))) : es.size = m.length := by
  have := congrArg List.length h
  simpa using this
theorem run_lookup_dot (d : Wv.Dt) (w : World) (b : Nat) (m : Lv) (h : MpAt w b m) : (Instr.lookup 185 (.map (some b)) (dotV d) false).run Tryz.prog w = .ok (I (getD m d)) w := by
  obtain ⟨es, clock, hb, he, hst0⟩ := h
  have hz : (zeroValue 3).run Tryz.prog w = .ok (.int .i64 0) w := Tryz.zeroValue3 w
  unfold Instr.lookup
  simp only [Sem.run_bind, run_underlying Tryz.underlying185, Result.andThen_ok, MapKept.run_getObj_map hb, Sem.run_pure, run_checkKey_dot, run_findKey_dot d w es.toList m he]
  unfold getD
  cases idxD d m with
  | none => simp [hz]
  | some j => simp
theorem sameBits_dot (d : Wv.Dt) : Instr.sameBits 10000 (dotV d) (dotV d) = true := by
  show Instr.sameBits (9999 + 1) (.agg #[I d.o, I d.s, I d.i]) (.agg #[I d.o, I d.s, I d.i]) = true
  simp [Instr.sameBits]
theorem idxD_some {d : Wv.Dt} {m : Lv} {j : Nat} (h : idxD d m = some j) : ∃ hj : j < m.length, m[j].1 = d := by
  obtain ⟨hj, h1, _⟩ := List.findIdx?_eq_some_iff_getElem.1 h
  exact ⟨hj, ((eqD_iff _ _).1 h1).symm⟩
/-- A map's block written. -/
def setM (w : World) (b : Nat) (o : Obj) : World := { w with heap := w.heap.setIfInBounds b o }
theorem setM_grown (w : World) (b : Nat) (o : Obj) : w.grownBy (setM w b o) (some b) :=
  ⟨rfl, rfl, rfl, by simp [setM], fun k _ hk => by
    show (w.heap.setIfInBounds b o)[k]? = _
    rw [Array.getElem?_setIfInBounds_ne (fun e => hk (by rw [e]))]⟩
theorem setM_at {w : World} {b : Nat} (hb : b < w.heap.size) (o : Obj) : (setM w b o).heap[b]? = some o := by simp [setM, hb]
theorem run_update_dot (d : Wv.Dt) (v : Int) (w : World) (b : Nat) (m : Lv) (h : MpAt w b m) : ∃ w', (Instr.mapUpdate 185 (.map (some b)) (dotV d) (I v)).run Tryz.prog w = .ok () w' ∧ MpAt w' b (putD m d v) ∧ w.grownBy w' (some b) := by
  have hlt := h.lt
  obtain ⟨es, clock, hb, he, hst0⟩ := h
  have hset : ∀ o : Obj, (setObj b o).run Tryz.prog w = .ok () (setM w b o) := fun o => MapKept.run_setObj_map o hb
  unfold Instr.mapUpdate
  simp only [Sem.run_bind, run_underlying Tryz.underlying185, Result.andThen_ok, MapKept.run_getObj_map hb, run_checkKey_dot, run_findKey_dot d w es.toList m he]
  unfold putD
  cases hq : idxD d m with
  | none =>
    simp only [Option.map_none, hset]
    refine ⟨_, rfl, ⟨_, _, setM_at hlt _, ?_, hst0.push _ _⟩, setM_grown w b _⟩
    rw [Array.toList_push, List.map_append, he, List.map_append]
    rfl
  | some j =>
    obtain ⟨hj, hd⟩ := idxD_some hq
    have hsz := ents_at he
    have hje : j < es.size := by omega
    have hk : es[j].key = dotV d := by
      have h1 : (es.toList.map (fun e => (e.key, e.val)))[j]? = some (es[j].key, es[j].val) := by simp [hje]
      rw [he] at h1
      simp only [List.getElem?_map, List.getElem?_eq_getElem hj, Option.map_some, Option.some.injEq, Prod.mk.injEq] at h1
      rw [← h1.1, hd]
    have hst : (Instr.keyThatStays ((Option.map (fun x => x.key) es[j]?).getD (dotV d)) (dotV d)).run Tryz.prog w = .ok (dotV d) w := by
      rw [Array.getElem?_eq_getElem hje]
      simp only [Option.map_some, Option.getD_some, hk]
      unfold Instr.keyThatStays
      rw [if_pos (sameBits_dot d)]
      rfl
    simp only [Option.map_some, Sem.run_bind, hst, Result.andThen_ok, hset]
    refine ⟨_, rfl, ⟨_, _, setM_at hlt _, ?_, hst0.modify _ _ (fun _ => rfl)⟩, setM_grown w b _⟩
    apply List.ext_getElem?
    intro k
    have hek : (es.toList.map (fun e => (e.key, e.val)))[k]? = (m.map (fun x => (dotV x.1, I x.2)))[k]? := by rw [he]
    simp only [List.getElem?_map, Array.getElem?_toList] at hek
    simp only [List.getElem?_map, Array.getElem?_toList, Array.getElem?_modify, List.getElem?_set]
    by_cases hjk : j = k
    · subst hjk
      simp [hj, hje]
    · rw [if_neg hjk, if_neg hjk]
      exact hek
theorem map_erase {α β : Type} (f : α → β) : ∀ (l : List α) (j : Nat), (l.eraseIdx j).map f = (l.map f).eraseIdx j
  | [], _ => by simp
  | _ :: _, 0 => by simp
  | a :: r, j + 1 => by simp [map_erase f r j]
theorem run_delete_dot (d : Wv.Dt) (w : World) (b : Nat) (ty t2 : TypeId) (m : Lv) (h : MpAt w b m) : ∃ w', (Builtin.delete_ #[185, t2] ty #[.map (some b), dotV d]).run Tryz.prog w = .ok (.tuple #[]) w' ∧ MpAt w' b (delD m d) ∧ w.grownBy w' (some b) := by
  have hlt := h.lt
  obtain ⟨es, clock, hb, he, hst0⟩ := h
  have hset : ∀ o : Obj, (setObj b o).run Tryz.prog w = .ok () (setM w b o) := fun o => MapKept.run_setObj_map o hb
  have hsz := ents_at he
  unfold Builtin.delete_
  simp only [List.getElem?_toArray, List.getElem?_cons_zero, List.getElem?_cons_succ, Sem.run_bind, run_underlying Tryz.underlying185, Result.andThen_ok, MapKept.run_getObj_map hb, run_checkKey_dot, run_findKey_dot d w es.toList m he]
  unfold delD
  cases hq : idxD d m with
  | none =>
    simp only [Option.map_none, Sem.run_bind, hset, Result.andThen_ok, Sem.run_pure]
    exact ⟨_, rfl, ⟨_, _, setM_at hlt _, he, hst0⟩, setM_grown w b _⟩
  | some j =>
    obtain ⟨hj, hd⟩ := idxD_some hq
    simp only [Option.map_some, Sem.run_bind, hset, Result.andThen_ok, Sem.run_pure]
    refine ⟨_, rfl, ⟨_, _, setM_at hlt _, ?_, hst0.erase _⟩, setM_grown w b _⟩
    rw [Array.toList_eraseIdxIfInBounds, map_erase, map_erase, he]

end Go.Proofs.YtfmcngncaffloaaGreatDoor
