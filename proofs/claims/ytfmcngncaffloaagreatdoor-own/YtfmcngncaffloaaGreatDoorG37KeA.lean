import Derived.Test.YtfmcngncaffloaaGreatDoorG09MapD
import Derived.Maps.RangeRun
import Derived.RangeFuncGives
namespace Go.Proofs.YtfmcngncaffloaaGreatDoor
open Go.RowKit
set_option maxRecDepth 100000

/-- What a map's entry was made of. -/
def unI : Value → Int
  | .int _ x => x
  | _ => 0
def unD : Value → Wv.Dt
  | .agg a => ⟨unI (a[0]?.getD undef), unI (a[1]?.getD undef), unI (a[2]?.getD undef)⟩
  | _ => ⟨0, 0, 0⟩
def unE (e : MapEntry) : Wv.Dt × Int := (unD e.key, unI e.val)
theorem unD_dot (d : Wv.Dt) : unD (dotV d) = d := rfl
theorem ents_un {es : List MapEntry} {m : Lv} (h : es.map (fun e => (e.key, e.val)) = m.map (fun x => (dotV x.1, I x.2))) : es.map unE = m := by
  have h1 := congrArg (List.map (fun p : Value × Value => (unD p.1, unI p.2))) h
  rw [List.map_map, List.map_map] at h1
  have h2 : es.map unE = m.map (fun x => (unD (dotV x.1), unI (I x.2))) := h1
  rw [h2]
  simp [unD_dot, unI]
theorem ent_of {es : List MapEntry} {m : Lv} (h : es.map (fun e => (e.key, e.val)) = m.map (fun x => (dotV x.1, I x.2))) {e : MapEntry} (he : e ∈ es) : e.key = dotV (unE e).1 ∧ e.val = I (unE e).2 := by
  have h1 : (e.key, e.val) ∈ es.map (fun e => (e.key, e.val)) := List.mem_map.2 ⟨e, he, rfl⟩
  rw [h] at h1
  obtain ⟨x, _, hx⟩ := List.mem_map.1 h1
  obtain ⟨h2, h3⟩ := Prod.mk.inj hx
  unfold unE
  rw [← h2, ← h3]
  exact ⟨rfl, rfl⟩
theorem perm_out {e : MapEntry} : ∀ {L : List MapEntry}, (L.map (·.born)).Nodup → e ∈ L → L.Perm (e :: L.filter (fun x => !(x.born == e.born)))
  | [], _, h => by simp at h
  | a :: L, hn, he => by
    simp only [List.map_cons, List.nodup_cons] at hn
    rcases List.mem_cons.1 he with rfl | he'
    · have hf : L.filter (fun x => !(x.born == e.born)) = L := List.filter_eq_self.2 (fun x hx => by
        have : x.born ≠ e.born := fun h => hn.1 (h ▸ List.mem_map.2 ⟨x, hx, rfl⟩)
        simp [this])
      simp [hf]
    · have hne : a.born ≠ e.born := fun h => hn.1 (h ▸ List.mem_map.2 ⟨e, he', rfl⟩)
      have hf : (a :: L).filter (fun x => !(x.born == e.born)) = a :: L.filter (fun x => !(x.born == e.born)) := by simp [hne]
      rw [hf]
      exact ((perm_out hn.2 he').cons a).trans (List.Perm.swap e a _)
theorem left_list (es : Array MapEntry) (seen : Array Nat) : (leftOf es seen).toList = es.toList.filter (fun e => !seen.contains e.born) := by
  unfold leftOf
  rw [← Array.toList_filter]
theorem left_push {es : Array MapEntry} {seen : Array Nat} {e : MapEntry} (hn : (es.toList.map (·.born)).Nodup) (he : e ∈ (leftOf es seen).toList) : (leftOf es seen).toList.Perm (e :: (leftOf es (seen.push e.born)).toList) := by
  have h1 : (leftOf es (seen.push e.born)).toList = (leftOf es seen).toList.filter (fun x => !(x.born == e.born)) := by
    rw [left_list, left_list, List.filter_filter]
    congr 1
    funext x
    rw [contains_push]
    cases seen.contains x.born <;> cases (x.born == e.born) <;> rfl
  rw [h1]
  refine perm_out ?_ he
  rw [left_list]
  exact (List.Sublist.map _ List.filter_sublist).nodup hn

/-- A range over a map of dots under way: ss came, so many are left. -/
def RgAt (w : World) (b r : Nat) (m ss : Lv) (left : Nat) : Prop :=
  ∃ es clock since seen c0, w.heap[b]? = some (.map es clock) ∧ es.toList.map (fun e => (e.key, e.val)) = m.map (fun x => (dotV x.1, I x.2)) ∧ Stm es clock ∧ w.heap[r]? = some (.mapIter (some b) since seen c0) ∧ (∀ x ∈ es.toList, x.born < since) ∧ since ≤ c0 ∧ since ≤ clock ∧
    (leftOf es seen).size = left ∧ (ss ++ (leftOf es seen).toList.map unE).Perm m
theorem RgAt.count {w : World} {b r : Nat} {m ss : Lv} {left : Nat} (h : RgAt w b r m ss left) : ss.length + left = m.length := by
  obtain ⟨es, clock, since, seen, c0, _, _, _, _, _, _, _, hl, hp⟩ := h
  have := hp.length_eq
  simp only [List.length_append, List.length_map, Array.length_toList] at this
  omega
theorem RgAt.same {w w' : World} {b r : Nat} {m ss : Lv} {left : Nat} (h : RgAt w b r m ss left) (hk : KeepsWalks w w') : RgAt w' b r m ss left := by
  obtain ⟨es, clock, since, seen, c0, hb, he, hs, hr, rest⟩ := h
  exact ⟨es, clock, since, seen, c0, hk.same b _ hb rfl, he, hs, hk.same r _ hr rfl, rest⟩
theorem RgAt.iter {w : World} {b r : Nat} {m ss : Lv} {left : Nat} (h : RgAt w b r m ss left) : ∃ o : Obj, w.heap[r]? = some o ∧ o.isWalk = true := by
  obtain ⟨es, clock, since, seen, c0, hb, he, hs, hr, rest⟩ := h
  exact ⟨_, hr, rfl⟩
theorem run_range_dot (w : World) (b : Nat) (m : Lv) (h : MpAt w b m) :
    ∃ w', (Instr.range 185 (.map (some b))).run Tryz.prog w = .ok (.pointer (some ⟨w.heap.size, 0, none⟩)) w' ∧ RgAt w' b w.heap.size m [] m.length ∧ w.grownBy w' none ∧ w'.heap.size = w.heap.size + 1 := by
  have hlt := h.lt
  obtain ⟨es, clock, hb, he, hs⟩ := h
  have hl : (leftOf es #[]) = es := by
    unfold leftOf
    exact Array.filter_eq_self.2 (fun x _ => by simp)
  refine ⟨_, run_range_map w 185 _ _ b es clock Tryz.underlying185 hb, ⟨es, clock, clock, #[], clock, ((MapKept.heap_alloc w _).2 b hlt).trans hb, he, hs, (MapKept.heap_alloc w _).1, hs.1, Nat.le_refl _, Nat.le_refl _, ?_, ?_⟩, World.grownBy_alloc w _ none, by simp⟩
  · rw [hl, ents_at he]
  · rw [hl, List.nil_append, ents_un he]
theorem run_next_dot (w : World) (ty : TypeId) (b r : Nat) (m ss : Lv) (left : Nat) (h : RgAt w b r m ss left) :
    (ss.Perm m ∧ (Instr.next (.pointer (some ⟨r, 0, none⟩)) false ty).run Tryz.prog w = .ok (.tuple #[.bool false]) w) ∨
    ∃ d v w' left', (Instr.next (.pointer (some ⟨r, 0, none⟩)) false ty).run Tryz.prog w = .ok (.tuple #[.bool true, dotV d, I v]) w' ∧ RgAt w' b r m (ss ++ [(d, v)]) left' ∧ left' < left ∧ w.grownBy w' (some r) ∧ w'.heap.size = w.heap.size ∧ (Instr.entry (.pointer (some ⟨r, 0, none⟩))).run Tryz.prog w' = .ok (.tuple #[dotV d, I v]) w' := by
  obtain ⟨es, clock, since, seen, c0, hb, he, hs, hr, hold, hsc, hsk, hl, hp⟩ := h
  have hne : r ≠ b := by
    intro e
    rw [e, hb] at hr
    cases hr
  rcases run_next_at (P := Tryz.prog) w ty r b since c0 seen es clock hr hb hold hsc with ⟨h0, hrun⟩ | ⟨e, hem, w1, hal, hrun⟩
  · refine Or.inl ⟨?_, hrun⟩
    have : (leftOf es seen).toList = [] := by
      have h1 : (leftOf es seen) = #[] := Array.eq_empty_of_size_eq_zero h0
      rw [h1]
    rw [this] at hp
    simpa using hp
  · obtain ⟨hes, hns⟩ := mem_left hem
    obtain ⟨hk, hv⟩ := ent_of he hes
    have hr1 : w1.heap[r]? = some (.mapIter (some b) since seen c0) := by rcases hal with rfl | rfl <;> exact hr
    have hb1 : w1.heap[b]? = some (.map es clock) := by rcases hal with rfl | rfl <;> exact hb
    have hset := MapKept.heap_set (o' := .mapIter (some b) since (seen.push e.born) clock) hr1
    have hb' : (ChangeMaps.setBlock w1 r (.mapIter (some b) since (seen.push e.born) clock)).heap[b]? = some (.map es clock) := (hset.2 b (fun e1 => hne e1.symm)).trans hb1
    rw [hk, hv] at hrun
    refine Or.inr ⟨(unE e).1, (unE e).2, _, _, hrun, ⟨es, clock, since, seen.push e.born, clock, hb', he, hs, hset.1, hold, hsk, hsk, rfl, ?_⟩, hl ▸ left_shrinks es seen e hem, ?_, ?_, ?_⟩
    · have h1 := (left_push hs.2 hem).map unE
      refine List.Perm.trans ?_ hp
      rw [List.append_assoc]
      exact List.Perm.append_left ss h1.symm
    · rcases hal with rfl | rfl <;> exact ⟨rfl, rfl, rfl, by simp [ChangeMaps.setBlock], fun i _ hi => hset.2 i (fun e1 => hi (by rw [e1]))⟩
    · rcases hal with rfl | rfl <;> simp [ChangeMaps.setBlock]
    · have h2 := run_entry_at (P := Tryz.prog) _ r b since seen es clock e hset.1 hb' hes hs.2
      rw [hk, hv] at h2
      exact h2

end Go.Proofs.YtfmcngncaffloaaGreatDoor
