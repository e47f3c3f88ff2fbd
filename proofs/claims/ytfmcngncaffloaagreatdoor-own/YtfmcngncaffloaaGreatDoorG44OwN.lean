import Derived.Test.YtfmcngncaffloaaGreatDoorG43OwA
import Derived.Test.YtfmcngncaffloaaGreatDoorG39SoJ
import Derived.Test.YtfmcngncaffloaaGreatDoorG40QsE
import Derived.Test.YtfmcngncaffloaaGreatDoorG42OwF
import Derived.Laws.Rows
import Derived.Laws.CopyOwn
import Derived.Test.YtfmcngncaffloaaGreatDoorG41CsB
import Derived.Test.YtfmcngncaffloaaGreatDoorG35KpB
import Derived.Test.YtfmcngncaffloaaGreatDoorG34BkF
namespace Go.Proofs.YtfmcngncaffloaaGreatDoor
open Go.RowKit
set_option maxRecDepth 100000

/-! One writer's sets and registers. -/
instance : DecidableEq Wv.Dt := fun a b => decidable_of_iff (eqD a b = true) (eqD_iff a b)
structure LvO (r s i : Int) (m : Lv) : Prop where
  old : ∀ x ∈ m, Old r s i x.1
  nd : (m.map (·.1)).Nodup
theorem LvO.next {r s i : Int} {m : Lv} (h : LvO r s i m) : LvO r s (i + 1) m := ⟨fun e he => (h.old e he).next, h.nd⟩
theorem LvO.mono {r s i s' i' : Int} {m : Lv} (h : LvO r s i m) (hs : s < s' ∨ s = s' ∧ i ≤ i') : LvO r s' i' m := ⟨fun e he => (h.old e he).mono hs, h.nd⟩
theorem LvO.nil (r s i : Int) : LvO r s i [] := ⟨fun _ h => (by cases h), by simp⟩
theorem eqD_no {d e : Wv.Dt} (h : e ≠ d) : eqD d e = false := by rw [← Bool.not_eq_true, eqD_iff]; exact fun q => h q.symm
theorem putD_new {m : Lv} {d : Wv.Dt} (h : ∀ x ∈ m, x.1 ≠ d) (v : Int) : putD m d v = m ++ [(d, v)] := by
  have : idxD d m = none := by
    unfold idxD
    rw [List.findIdx?_eq_none_iff]
    exact fun x hx => eqD_no (h x hx)
  unfold putD
  rw [this]
theorem delD_filter : ∀ {m : Lv} (d : Wv.Dt), (m.map (·.1)).Nodup → delD m d = m.filter (fun x => !eqD d x.1)
  | [], d, _ => rfl
  | x :: m, d, h => by
    rw [List.map_cons, List.nodup_cons] at h
    obtain ⟨h1, h2⟩ := h
    have ih := delD_filter (m := m) d h2
    unfold delD idxD at ih ⊢
    rw [List.findIdx?_cons]
    cases hq : eqD d x.1 with
    | true =>
      rw [List.filter_cons]
      simp only [hq]
      have : ∀ y ∈ m, (!eqD d y.1) = true := fun y hy => by
        rw [Bool.not_eq_true', eqD_no]
        rintro rfl
        rw [eqD_iff] at hq
        exact h1 (List.mem_map.2 ⟨y, hy, hq⟩)
      rw [List.filter_eq_self.2 this]
      rfl
    | false =>
      rw [List.filter_cons]
      simp only [hq]
      cases hz : List.findIdx? (fun x => eqD d x.1) m with
      | none => rw [hz] at ih; simpa using ih
      | some j => rw [hz] at ih; simpa using ih
theorem nodup_filter {m : Lv} (p : Wv.Dt × Int → Bool) (h : (m.map (·.1)).Nodup) : ((m.filter p).map (·.1)).Nodup := h.sublist (List.filter_sublist.map _)
theorem delsD_filter : ∀ (ds : List Wv.Dt) {m : Lv}, (m.map (·.1)).Nodup → delsD m ds = m.filter (fun x => decide (x.1 ∉ ds))
  | [], m, _ => by
    show m = _
    rw [List.filter_eq_self.2]
    simp
  | d :: ds, m, h => by
    have e : delsD m (d :: ds) = delsD (delD m d) ds := rfl
    rw [e, delD_filter d h, delsD_filter ds (nodup_filter _ h), List.filter_filter]
    refine List.filter_congr fun x _ => ?_
    have : (!eqD d x.1) = decide (x.1 ≠ d) := by
      by_cases hq : x.1 = d
      · subst hq; simp [(eqD_iff _ _).2 rfl]
      · rw [eqD_no hq]; simp [hq]
    rw [this]
    by_cases h1 : x.1 = d <;> by_cases h2 : x.1 ∈ ds <;> simp [h1, h2]
theorem getD_mem : ∀ {m : Lv} {d : Wv.Dt} {v : Int}, (m.map (·.1)).Nodup → (d, v) ∈ m → getD m d = v
  | x :: m, d, v, h, hm => by
    rw [List.map_cons, List.nodup_cons] at h
    unfold getD idxD
    rw [List.findIdx?_cons]
    rcases List.mem_cons.1 hm with rfl | hm
    · simp [(eqD_iff d d).2 rfl]
    · have hne : eqD d x.1 = false := eqD_no (by rintro rfl; exact h.1 (List.mem_map.2 ⟨_, hm, rfl⟩))
      rw [hne]
      have ih := getD_mem h.2 hm
      unfold getD idxD at ih
      cases hz : List.findIdx? (fun x => eqD d x.1) m with
      | none => rw [hz] at ih; simpa using ih
      | some j => rw [hz] at ih; simpa using ih
theorem key_mem {m : Lv} {d : Wv.Dt} (h : d ∈ m.map (·.1)) : ∃ v, (d, v) ∈ m := by
  obtain ⟨⟨a, v⟩, hx, rfl⟩ := List.mem_map.1 h
  exact ⟨v, hx⟩
theorem remD_mem {m : Lv} (h : (m.map (·.1)).Nodup) (x : Int) (d : Wv.Dt) : d ∈ remD m x ↔ (d, x) ∈ m := by
  unfold remD keepD
  rw [List.mem_filter, (sortD_perm _).mem_iff]
  constructor
  · rintro ⟨h1, h2⟩
    obtain ⟨v, hv⟩ := key_mem h1
    have h2 : (!(getD m d != x)) = true := h2
    rw [getD_mem h hv] at h2
    have : v = x := by simpa using h2
    rw [← this]; exact hv
  · intro hm
    refine ⟨List.mem_map.2 ⟨_, hm, rfl⟩, ?_⟩
    show (!(getD m d != x)) = true
    rw [getD_mem h hm]
    simp
/-- Dots that rise. -/
def Rise (ds : List Wv.Dt) : Prop := ds.Pairwise (fun a b => Wv.lessD a b = true)
theorem lessD_ne {a b : Wv.Dt} (h : Wv.lessD b a = false) (hne : a ≠ b) : Wv.lessD a b = true := by
  rw [lessD_not] at h
  rw [lessD_iff]
  have : ¬ (a.o = b.o ∧ a.s = b.s ∧ a.i = b.i) := fun ⟨h1, h2, h3⟩ => hne (by cases a; cases b; simp_all)
  omega
theorem sortD_rise {l : List Wv.Dt} (h : l.Nodup) : Rise (sortD l) := by
  have hs := sortD_sorted l
  have hn : (sortD l).Nodup := (sortD_perm l).nodup_iff.2 h
  unfold Rise
  refine (hs.and hn).imp (fun ⟨h1, h2⟩ => ?_)
  exact lessD_ne (by simpa using h1) h2
theorem remD_rise {m : Lv} (h : (m.map (·.1)).Nodup) (x : Int) : Rise (remD m x) := (sortD_rise h).sublist List.filter_sublist
theorem remD_len (m : Lv) (x : Int) : (remD m x).length ≤ m.length := by
  unfold remD keepD
  refine Nat.le_trans (List.length_filter_le _ _) ?_
  rw [sortD_len, List.length_map]
  exact Nat.le_refl _
/-- An Insert, a Remove, a Write. -/
theorem insert_own {r s i : Int} {m : Lv} (h : LvO r s i m) (h1 : 1 ≤ s) (h0 : 0 ≤ i) (h5 : i < 5) (v : Int) : putD m ⟨r, s, i⟩ v = m ++ [(⟨r, s, i⟩, v)] ∧ LvO r s (i + 1) (m ++ [(⟨r, s, i⟩, v)]) := by
  refine ⟨putD_new (fun x hx => (h.old x hx).ne) v, fun x hx => ?_, ?_⟩
  · rcases List.mem_append.1 hx with hx | hx
    · exact (h.old x hx).next
    · rw [List.mem_singleton.1 hx]; exact Old.self h1 h0 h5
  · rw [List.map_append, List.nodup_append]
    refine ⟨h.nd, by simp, fun a ha b hb => ?_⟩
    obtain ⟨x, hx, rfl⟩ := List.mem_map.1 ha
    simp only [List.map_cons, List.map_nil, List.mem_singleton] at hb
    rw [hb]
    exact (h.old x hx).ne
theorem remove_own {r s i : Int} {m : Lv} (h : LvO r s i m) (x : Int) : delsD m (remD m x) = m.filter (fun y => decide (y.2 ≠ x)) ∧ LvO r s (i + 1) (m.filter (fun y => decide (y.2 ≠ x))) := by
  refine ⟨?_, fun y hy => (h.old y (List.mem_filter.1 hy).1).next, nodup_filter _ h.nd⟩
  rw [delsD_filter _ h.nd]
  refine List.filter_congr fun y hy => ?_
  have : y.1 ∈ remD m x ↔ y.2 = x := by
    rw [remD_mem h.nd]
    constructor
    · intro hm
      have e1 := getD_mem h.nd hm
      have e2 := getD_mem (d := y.1) (v := y.2) h.nd hy
      rw [e1] at e2; exact e2.symm
    · rintro rfl; exact hy
  by_cases hq : y.2 = x
  · simp [this, hq]
  · simp [this, hq]
theorem write_own {r s i : Int} {m : Lv} (h : LvO r s i m) (h1 : 1 ≤ s) (h0 : 0 ≤ i) (h5 : i < 5) (v : Int) : putD (delsD m (sortD (m.map (·.1)))) ⟨r, s, i⟩ v = [(⟨r, s, i⟩, v)] ∧ LvO r s (i + 1) [(⟨r, s, i⟩, v)] := by
  have e : delsD m (sortD (m.map (·.1))) = [] := by
    rw [delsD_filter _ h.nd, List.filter_eq_nil_iff]
    intro x hx
    have : x.1 ∈ sortD (m.map (·.1)) := (sortD_perm _).mem_iff.2 (List.mem_map.2 ⟨x, hx, rfl⟩)
    simp [this]
  rw [e]
  have := insert_own (LvO.nil r s i) h1 h0 h5 v
  exact this
/-! What a set tells. -/
theorem compA_mem : ∀ (p : Int) (l : List Int) (x : Int), x ∈ p :: compA p l ↔ x ∈ p :: l
  | p, [], x => Iff.rfl
  | p, y :: l, x => by
    unfold compA
    split
    · rename_i e
      subst e
      rw [compA_mem y l x]
      simp
    · have := compA_mem y l x
      simp only [List.mem_cons] at this ⊢
      rw [this]
theorem compI_mem (l : List Int) (x : Int) : x ∈ compI l ↔ x ∈ l := by
  match l with
  | [] => exact Iff.rfl
  | y :: l => exact compA_mem y l x
theorem compA_rise : ∀ (p : Int) (l : List Int), (p :: l).Pairwise (· ≤ ·) → (p :: compA p l).Pairwise (· < ·)
  | p, [], _ => by simp [compA]
  | p, y :: l, h => by
    obtain ⟨h1, h2⟩ := List.pairwise_cons.1 h
    unfold compA
    split
    · rename_i e
      subst e
      exact compA_rise y l h2
    · rename_i e
      have ih := compA_rise y l h2
      refine List.pairwise_cons.2 ⟨fun z hz => ?_, ih⟩
      have hy : p < y := by have := h1 y (List.mem_cons_self ..); omega
      rcases List.mem_cons.1 ((compA_mem y l z).1 hz) with rfl | hz'
      · exact hy
      · have := (List.pairwise_cons.1 h2).1 z hz'
        omega
theorem compI_rise (l : List Int) (h : l.Pairwise (· ≤ ·)) : (compI l).Pairwise (· < ·) := by
  match l, h with
  | [], _ => exact List.Pairwise.nil
  | y :: l, h => exact compA_rise y l h
theorem rise_eq : ∀ {l r : List Int}, l.Pairwise (· < ·) → r.Pairwise (· < ·) → (∀ x, x ∈ l ↔ x ∈ r) → l = r
  | [], [], _, _, _ => rfl
  | [], y :: r, _, _, h => by have := (h y).2 (List.mem_cons_self ..); cases this
  | x :: l, [], _, _, h => by have := (h x).1 (List.mem_cons_self ..); cases this
  | x :: l, y :: r, hl, hr, h => by
    obtain ⟨l1, l2⟩ := List.pairwise_cons.1 hl
    obtain ⟨r1, r2⟩ := List.pairwise_cons.1 hr
    have hxy : x = y := by
      rcases List.mem_cons.1 ((h x).1 (List.mem_cons_self ..)) with e | e
      · exact e
      · rcases List.mem_cons.1 ((h y).2 (List.mem_cons_self ..)) with e2 | e2
        · exact e2.symm
        · have := r1 x e
          have := l1 y e2
          omega
    subst hxy
    rw [rise_eq l2 r2 (fun z => ?_)]
    constructor
    · intro hz
      rcases List.mem_cons.1 ((h z).1 (List.mem_cons_of_mem _ hz)) with e | e
      · subst e; have := l1 z hz; omega
      · exact e
    · intro hz
      rcases List.mem_cons.1 ((h z).2 (List.mem_cons_of_mem _ hz)) with e | e
      · subst e; have := r1 z hz; omega
      · exact e
/-- The numbers that are marked, in their order. -/
def marked (f : List Bool) : List Int := ((List.range f.length).filter (fun v => f.getD v false)).map Int.ofNat
theorem marked_rise (f : List Bool) : (marked f).Pairwise (· < ·) := by
  unfold marked
  rw [List.pairwise_map]
  exact (List.pairwise_lt_range.sublist List.filter_sublist).imp (fun h => Int.ofNat_lt.2 h)
theorem marked_mem (f : List Bool) (x : Int) : x ∈ marked f ↔ 0 ≤ x ∧ f.getD x.toNat false = true := by
  unfold marked
  rw [List.mem_map]
  constructor
  · rintro ⟨v, hv, rfl⟩
    rw [List.mem_filter] at hv
    exact ⟨Int.natCast_nonneg v, by simpa using hv.2⟩
  · rintro ⟨h0, h1⟩
    refine ⟨x.toNat, List.mem_filter.2 ⟨?_, h1⟩, Int.toNat_of_nonneg h0⟩
    rw [List.mem_range]
    rcases Nat.lt_or_ge x.toNat f.length with h | h
    · exact h
    · rw [List.getD_eq_getElem?_getD, List.getElem?_eq_none h] at h1
      simp at h1
/-- The set and the marks are the same. -/
def SetRel (m : Lv) (f : List Bool) : Prop := ∀ x : Int, (∃ d, (d, x) ∈ m) ↔ 0 ≤ x ∧ f.getD x.toNat false = true
theorem SetRel.tells {m : Lv} {f : List Bool} (h : SetRel m f) : Ob.tells (.set m) = marked f := by
  refine rise_eq (compI_rise _ (sortI_sorted _)) (marked_rise f) (fun x => ?_)
  show x ∈ compI (sortI (m.map (·.2))) ↔ _
  rw [compI_mem, (sortI_perm _).mem_iff, marked_mem, ← h x, List.mem_map]
  constructor
  · rintro ⟨⟨d, v⟩, hx, rfl⟩; exact ⟨d, hx⟩
  · rintro ⟨d, hd⟩; exact ⟨_, hd, rfl⟩
theorem SetRel.insert {m : Lv} {f : List Bool} (h : SetRel m f) (d : Wv.Dt) (v : Nat) (hv : v < f.length) : SetRel (m ++ [(d, (v : Int))]) (f.set v true) := by
  intro x
  have hx := h x
  rw [List.getD_eq_getElem?_getD, List.getElem?_set]
  rw [List.getD_eq_getElem?_getD] at hx
  by_cases hq : x = v
  · subst hq
    simp only [Int.toNat_natCast, if_true, hv]
    simp
  · constructor
    · rintro ⟨d', hd⟩
      rcases List.mem_append.1 hd with hd | hd
      · obtain ⟨h1, h2⟩ := hx.1 ⟨d', hd⟩
        exact ⟨h1, by rw [if_neg (by omega)]; exact h2⟩
      · simp at hd; omega
    · rintro ⟨h1, h2⟩
      rw [if_neg (by omega)] at h2
      obtain ⟨d', hd⟩ := hx.2 ⟨h1, h2⟩
      exact ⟨d', List.mem_append_left _ hd⟩
theorem SetRel.remove {m : Lv} {f : List Bool} (h : SetRel m f) (v : Nat) : SetRel (m.filter (fun y => decide (y.2 ≠ (v : Int)))) (f.set v false) := by
  intro x
  have hx := h x
  rw [List.getD_eq_getElem?_getD, List.getElem?_set]
  rw [List.getD_eq_getElem?_getD] at hx
  by_cases hq : x = v
  · subst hq
    constructor
    · rintro ⟨d, hd⟩
      have := (List.mem_filter.1 hd).2
      simp at this
    · rintro ⟨_, h2⟩
      simp only [Int.toNat_natCast, if_true] at h2
      split at h2 <;> simp at h2
  · constructor
    · rintro ⟨d', hd⟩
      obtain ⟨h1, h2⟩ := hx.1 ⟨d', (List.mem_filter.1 hd).1⟩
      exact ⟨h1, by rw [if_neg (by omega)]; exact h2⟩
    · rintro ⟨h1, h2⟩
      rw [if_neg (by omega)] at h2
      obtain ⟨d', hd⟩ := hx.2 ⟨h1, h2⟩
      exact ⟨d', List.mem_filter.2 ⟨hd, by simp [hq]⟩⟩
/-- A Remove of what isn't there. -/
theorem remD_none {m : Lv} {f : List Bool} (h : SetRel m f) (hn : (m.map (·.1)).Nodup) (v : Nat) (hr : remD m v = []) : SetRel m (f.set v false) := by
  have e : m.filter (fun y => decide (y.2 ≠ (v : Int))) = m := by
    rw [List.filter_eq_self]
    intro y hy
    simp only [decide_eq_true_eq]
    intro q
    have := (remD_mem hn v y.1).2 (by rw [← q]; exact hy)
    rw [hr] at this
    cases this
  have := h.remove v
  rw [e] at this
  exact this

end Go.Proofs.YtfmcngncaffloaaGreatDoor

namespace Go.Proofs.YtfmcngncaffloaaGreatDoor
open Go.RowKit
set_option maxRecDepth 100000

/-! Whether a batch is one doesn't hang on its values, where these are in their bounds. -/
def zv (e : Wv.Ef) : Wv.Ef := { e with va := 0 }
def zBt (b : Wv.Bt) : Wv.Bt := { b with effs := b.effs.map zv }
/-! The states that the law comes through. -/
def mP (o : Int) : List Int → List Wv.Ef
  | [] => []
  | [a] => [⟨5, 3, a, ⟨0, 0, 0⟩, []⟩]
  | a :: b :: _ => [⟨5, 3, a, ⟨0, 0, 0⟩, []⟩, ⟨5, 3, b, ⟨o, 1, 0⟩, []⟩]
def mE1 (A : List Int) (x : Int) : List Wv.Ef := mP 0 A ++ [⟨4, 2, x, ⟨0, 0, 0⟩, []⟩, ⟨1, 0, x, ⟨0, 0, 0⟩, []⟩, ⟨2, 1, x, ⟨0, 0, 0⟩, []⟩]
def mE2 (B : List Int) (y : Int) : List Wv.Ef := mP 1 B ++ [⟨4, 2, y, ⟨0, 0, 0⟩, []⟩, ⟨1, 0, -y, ⟨0, 0, 0⟩, []⟩]
def mb1 (A : List Int) (x : Int) : Wv.Bt := ⟨0, 1, 1, [0, 0], mE1 A x⟩
def mb2 (B : List Int) (y : Int) : Wv.Bt := ⟨1, 1, 1, [0, 0], mE2 B y⟩
/-- Numbers of a byte, at most two. -/
def Sml (A : List Int) : Prop := A.length ≤ 2 ∧ ∀ a ∈ A, 0 ≤ a ∧ a ≤ 255
theorem Sml.cases {A : List Int} (h : Sml A) : A = [] ∨ (∃ a, A = [a] ∧ 0 ≤ a ∧ a ≤ 255) ∨ ∃ a b, A = [a, b] ∧ 0 ≤ a ∧ a ≤ 255 ∧ 0 ≤ b ∧ b ≤ 255 := by
  obtain ⟨h1, h2⟩ := h
  match A, h1, h2 with
  | [], _, _ => exact .inl rfl
  | [a], _, h2 => exact .inr (.inl ⟨a, rfl, h2 a (by simp)⟩)
  | [a, b], _, h2 =>
    have ha := h2 a (by simp)
    have hb := h2 b (by simp)
    exact .inr (.inr ⟨a, b, rfl, ha.1, ha.2, hb.1, hb.2⟩)
end Go.Proofs.YtfmcngncaffloaaGreatDoor

namespace Go.Proofs.YtfmcngncaffloaaGreatDoor
open Go.RowKit
set_option maxRecDepth 100000

theorem ans_add (n x : Int) (h0 : -1000 ≤ x) (h1 : x ≤ 1000) : Ob.answer (.counter n) 1 x 0 = ⟨x, ⟨0, 0, 0⟩, [], 0⟩ := by
  show (⟨(addE x).1, ⟨0, 0, 0⟩, [], (addE x).2⟩ : Sya) = _
  unfold addE
  rw [if_neg (by omega)]
theorem val_ok {x : Int} (h0 : 0 ≤ x) (h1 : x ≤ 255) : valE x = 0 := by unfold valE; rw [if_neg (by omega)]
theorem ans_write (m : Lv) (x : Int) (h0 : 0 ≤ x) (h1 : x ≤ 255) : Ob.answer (.reg m) 4 x 0 = ⟨x, ⟨0, 0, 0⟩, sortD (m.map (·.1)), 0⟩ := by
  show (⟨(regE m x).1, ⟨0, 0, 0⟩, (regE m x).2.1, (regE m x).2.2⟩ : Sya) = _
  unfold regE
  rw [val_ok h0 h1, if_neg (by simp)]
theorem ans_insert (m : Lv) (x : Int) (h0 : 0 ≤ x) (h1 : x ≤ 255) : Ob.answer (.set m) 2 x 0 = ⟨x, ⟨0, 0, 0⟩, [], 0⟩ := by
  show (⟨(setE m 2 x).1, ⟨0, 0, 0⟩, (setE m 2 x).2.1, (setE m 2 x).2.2⟩ : Sya) = _
  unfold setE
  rw [val_ok h0 h1, if_neg (by simp), if_neg (by decide)]
theorem ans_remove (m : Lv) (x : Int) (h0 : 0 ≤ x) (h1 : x ≤ 255) : Ob.answer (.set m) 3 x 0 = ⟨0, ⟨0, 0, 0⟩, remD m x, 0⟩ := by
  show (⟨(setE m 3 x).1, ⟨0, 0, 0⟩, (setE m 3 x).2.1, (setE m 3 x).2.2⟩ : Sya) = _
  unfold setE
  rw [val_ok h0 h1, if_neg (by simp), if_pos rfl]
/-- An effect that a replica may hold. -/
def EvOk (e : Wv.Ef) : Prop := 0 ≤ e.ob ∧ e.ob < 8 ∧ -1000 ≤ e.va ∧ e.va ≤ 1000 ∧ e.dots.length ≤ 1048576
/-- A replica with a transaction open. -/
abbrev opn (R : Rp) (es : List Wv.Ef) : Rp := { R with st := 1, effs := es }
structure Rest (R : Rp) : Prop where
  ok : Rok R
  n0 : 0 ≤ R.n
  n1 : R.n < R.clock.length
theorem Rest.up {R : Rp} (h : Rest R) (es : List Wv.Ef) (hl : es.length ≤ 5) (hv : ∀ e ∈ es, EvOk e) : Rup (opn R es) := ⟨h.ok.same rfl rfl rfl rfl rfl, h.n0, h.n1, by show (1 : Int) ≠ 2; omega, hl, hv⟩
end Go.Proofs.YtfmcngncaffloaaGreatDoor

namespace Go.Proofs.YtfmcngncaffloaaGreatDoor
open Go.RowKit
set_option maxRecDepth 100000

/-! One writer's operations: what the document says of each, against what the objects do. -/
/-- What the objects come to, with one writer. -/
structure Md where
  sums : List Int
  sets : List (List Bool)
  regs : List Int
  lists : List (List Int)
def Md.listed (m : Md) (k : Nat) : List Int :=
  if k % 4 = 0 then [m.sums.getD (k / 4) 0] else if k % 4 = 1 then marked (m.sets.getD (k / 4) []) else if k % 4 = 2 then (if 0 ≤ m.regs.getD (k / 4) 0 then [m.regs.getD (k / 4) 0] else []) else m.lists.getD (k / 4) []
def ObRel (r s i : Int) (m : Md) (k : Nat) : Ob → Prop
  | .counter n => k % 4 = 0 ∧ n = m.sums.getD (k / 4) 0
  | .set l => k % 4 = 1 ∧ LvO r s i l ∧ SetRel l (m.sets.getD (k / 4) [])
  | .reg l => k % 4 = 2 ∧ LvO r s i l ∧ ((0 ≤ m.regs.getD (k / 4) 0 ∧ ∃ d, l = [(d, m.regs.getD (k / 4) 0)]) ∨ (m.regs.getD (k / 4) 0 < 0 ∧ l = []))
  | .list l => k % 4 = 3 ∧ LsO r s i l ∧ (stands l).map El.v = m.lists.getD (k / 4) []
theorem ObRel.tells {r s i : Int} {m : Md} {k : Nat} {o : Ob} (h : ObRel r s i m k o) : o.tells = m.listed k := by
  unfold Md.listed
  cases o with
  | counter n => obtain ⟨h1, h2⟩ := h; rw [if_pos h1, ← h2]; rfl
  | set l => obtain ⟨h1, _, h2⟩ := h; rw [if_neg (by omega), if_pos h1]; exact h2.tells
  | reg l =>
    obtain ⟨h1, _, h2⟩ := h
    rw [if_neg (by omega), if_neg (by omega), if_pos h1]
    rcases h2 with ⟨h3, d, rfl⟩ | ⟨h3, rfl⟩
    · rw [if_pos h3]
      have hg : getD [(d, m.regs.getD (k / 4) 0)] d = m.regs.getD (k / 4) 0 := getD_mem (by simp) (by simp)
      show [getD [(d, m.regs.getD (k / 4) 0)] d] = _
      rw [hg]
    · rw [if_neg (by omega)]; rfl
  | list l => obtain ⟨h1, _, h2⟩ := h; rw [if_neg (by omega), if_neg (by omega), if_neg (by omega)]; exact h2
theorem ObRel.mono {r s i s' i' : Int} {m : Md} {k : Nat} {o : Ob} (h : ObRel r s i m k o) (hs : s < s' ∨ s = s' ∧ i ≤ i') : ObRel r s' i' m k o := by
  cases o with
  | counter n => exact h
  | set l => obtain ⟨h1, h2, h3⟩ := h; exact ⟨h1, h2.mono hs, h3⟩
  | reg l => obtain ⟨h1, h2, h3⟩ := h; exact ⟨h1, h2.mono hs, h3⟩
  | list l => obtain ⟨h1, h2, h3⟩ := h; exact ⟨h1, h2.mono hs, h3⟩
/-- Another model that says the same of that object. -/
theorem ObRel.other {r s i : Int} {m m' : Md} {k : Nat} {o : Ob} (h : ObRel r s i m k o) (h0 : k % 4 = 0 → m'.sums.getD (k / 4) 0 = m.sums.getD (k / 4) 0) (h1 : k % 4 = 1 → m'.sets.getD (k / 4) [] = m.sets.getD (k / 4) []) (h2 : k % 4 = 2 → m'.regs.getD (k / 4) 0 = m.regs.getD (k / 4) 0) (h3 : k % 4 = 3 → m'.lists.getD (k / 4) [] = m.lists.getD (k / 4) []) : ObRel r s i m' k o := by
  cases o with
  | counter n => obtain ⟨q1, q2⟩ := h; exact ⟨q1, by rw [h0 q1]; exact q2⟩
  | set l => obtain ⟨q1, q2, q3⟩ := h; exact ⟨q1, q2, by rw [h1 q1]; exact q3⟩
  | reg l => obtain ⟨q1, q2, q3⟩ := h; exact ⟨q1, q2, by rw [h2 q1]; exact q3⟩
  | list l => obtain ⟨q1, q2, q3⟩ := h; exact ⟨q1, q2, by rw [h3 q1]; exact q3⟩
def kOf (op : Int) : Nat := (Wv.rKind op).toNat
/-- The model's step. -/
def Md.step (m : Md) (op : Int) (ix : Nat) (a b : Int) : Md :=
  if op = 1 then { m with sums := m.sums.set ix (m.sums.getD ix 0 + a) }
  else if op = 2 then { m with sets := m.sets.set ix ((m.sets.getD ix []).set a.toNat true) }
  else if op = 3 then { m with sets := m.sets.set ix ((m.sets.getD ix []).set a.toNat false) }
  else if op = 4 then { m with regs := m.regs.set ix a }
  else if op = 5 then { m with lists := m.lists.set ix (insV (m.lists.getD ix []) a.toNat b) }
  else { m with lists := m.lists.set ix (delV (m.lists.getD ix []) a.toNat) }
structure MdOk (m : Md) : Prop where
  sums : m.sums.length = 2
  sets : m.sets.length = 2
  sets0 : ∀ l ∈ m.sets, l.length = 256
  regs : m.regs.length = 2
  lists : m.lists.length = 2
/-- The operation may be done. -/
structure Can (m : Md) (op : Int) (ix : Nat) (a b : Int) : Prop where
  op1 : 1 ≤ op
  op6 : op ≤ 6
  lt2 : ix < 2
  add : op = 1 → -1000 ≤ a ∧ a ≤ 1000
  val : op = 2 ∨ op = 3 ∨ op = 4 → 0 ≤ a ∧ a ≤ 255
  put : op = 5 → 0 ≤ a ∧ a ≤ (m.lists.getD ix []).length ∧ 0 ≤ b ∧ b ≤ 255
  era : op = 6 → 0 ≤ a ∧ a < (m.lists.getD ix []).length
  b0 : op ≠ 5 → b = 0
theorem getD_set_ne {α : Type} (l : List α) (i j : Nat) (x d : α) (h : i ≠ j) : (l.set i x).getD j d = l.getD j d := by
  rw [List.getD_eq_getElem?_getD, List.getD_eq_getElem?_getD, List.getElem?_set_ne h]
theorem getD_set_eq {α : Type} (l : List α) (i : Nat) (x d : α) (h : i < l.length) : (l.set i x).getD i d = x := by
  rw [List.getD_eq_getElem?_getD, List.getElem?_set_self h]
  rfl
/-- Other objects stay. -/
theorem ObRel.apart {r s i : Int} {m : Md} {k : Nat} {o : Ob} (h : ObRel r s i m k o) (op : Int) (ix : Nat) (a b : Int) (hne : k ≠ 4 * ix + kOf op) (h1 : 1 ≤ op) (h6 : op ≤ 6) : ObRel r s i (m.step op ix a b) k o := by
  have hop : op = 1 ∨ op = 2 ∨ op = 3 ∨ op = 4 ∨ op = 5 ∨ op = 6 := by omega
  have hq : ∀ j, k % 4 = j → j = kOf op → ix ≠ k / 4 := by intro j h1 h2; omega
  refine h.other (fun q => ?_) (fun q => ?_) (fun q => ?_) (fun q => ?_)
  all_goals
    rcases hop with rfl | rfl | rfl | rfl | rfl | rfl <;> first | rfl | exact getD_set_ne _ _ _ _ _ (hq _ q (of_decide_eq_true rfl))
/-- A batch under way. -/
structure Bq (b : Wv.Bt) (r s : Int) : Prop where
  o : b.o = r
  sq : b.s = s
  r0 : 0 ≤ r
  r1 : r < b.clock.length
  c : b.clock.getD r.toNat 0 = s - 1
theorem Bq.cov {b : Wv.Bt} {r s i : Int} {d : Wv.Dt} (h : Bq b r s) (hd : Old r s i d) : Wv.cov b d i = true := by
  have h1 := hd.o; have h2 := hd.s1; have h3 := hd.i0; have h4 := hd.i5; have h5 := hd.lt
  have k1 := h.o; have k2 := h.sq; have k3 := h.r0; have k4 := h.r1; have k5 := h.c
  unfold Wv.cov Wv.inD
  rw [h1]
  simp only [Bool.and_eq_true, Bool.or_eq_true, decide_eq_true_eq, beq_iff_eq]
  rw [k5]
  omega
theorem dots_ok {b : Wv.Bt} {r s i : Int} {ds : List Wv.Dt} (h : Bq b r s) (hr : Rise ds) (ho : ∀ d ∈ ds, Old r s i d) : Wv.dotsOk b i ds = true := by
  have : ∀ n, n ≤ ds.length → Wv.dotsTo b i ds n = true := by
    intro n
    induction n with
    | zero => intro _; rfl
    | succ k ih =>
      intro hk
      rw [Wv.dotsTo, ih (by omega), Bool.true_and]
      unfold Wv.dOk
      have hk' : k < ds.length := by omega
      have e : ds.getD k ⟨0, 0, 0⟩ = ds[k] := by simp [hk']
      rw [e, h.cov (ho _ (List.getElem_mem hk')), Bool.and_true]
      rcases k with _ | k
      · rfl
      · have e2 : ds.getD (k + 1 - 1) ⟨0, 0, 0⟩ = ds[k] := by simp [show k < ds.length by omega]
        rw [e2, List.pairwise_iff_getElem.1 hr k (k + 1) (by omega) hk' (by omega)]
        simp
  exact this _ (Nat.le_refl _)
theorem eff_ok {b : Wv.Bt} {r s i : Int} (h : Bq b r s) (op : Int) (ix : Nat) (va : Int) (ref : Wv.Dt) (ds : List Wv.Dt) (h1 : 1 ≤ op) (h6 : op ≤ 6) (hix : ix < 2) (hva : Wv.rLeast op ≤ va ∧ va ≤ Wv.rGreat op) (hrf : (ref = ⟨0, 0, 0⟩ ∧ Wv.rRef op ≠ 2) ∨ (Old r s i ref ∧ Wv.rRef op ≠ 0)) (hd1 : Wv.rLeastD op ≤ ds.length) (hd2 : (ds.length : Int) ≤ Wv.rMostD op) (hr : Rise ds) (ho : ∀ d ∈ ds, Old r s i d) : Wv.effOk b i ⟨op, ((4 * ix + kOf op : Nat) : Int), va, ref, ds⟩ = true := by
  have hop : op = 1 ∨ op = 2 ∨ op = 3 ∨ op = 4 ∨ op = 5 ∨ op = 6 := by omega
  have hk : (kOf op : Int) = Wv.rKind op ∧ kOf op < 4 := by rcases hop with rfl | rfl | rfl | rfl | rfl | rfl <;> exact ⟨rfl, of_decide_eq_true rfl⟩
  unfold Wv.effOk Wv.isOp
  simp only [Bool.and_eq_true, decide_eq_true_eq, beq_iff_eq]
  refine ⟨⟨⟨⟨⟨⟨h1, h6⟩, ⟨by omega, by omega⟩, by omega⟩, hva⟩, ?_⟩, hd1, hd2⟩, dots_ok h hr ho⟩
  unfold Wv.refOk
  rcases hrf with ⟨rfl, hu⟩ | ⟨hold, hu⟩
  · rw [if_pos (show Wv.noneD ⟨0, 0, 0⟩ = true from rfl)]
    simp [hu]
  · have hn : Wv.noneD ref = false := by
      unfold Wv.noneD
      have := hold.s1
      simp only [Bool.and_eq_false_iff, beq_eq_false_iff_ne]
      omega
    rw [hn, h.cov hold]
    simp [hu]
/-- What an operation does with its object. -/
def StepOk (b : Wv.Bt) (r s i : Int) (m' : Md) (k : Nat) (o : Ob) (op x y : Int) : Prop :=
  (o.answer op x y).err = 0 ∧
  ((((o.answer op x y).ds.length : Int) < Wv.rLeastD op ∧ ObRel r s i m' k o) ∨
   (¬ ((o.answer op x y).ds.length : Int) < Wv.rLeastD op ∧ ¬ ((o.answer op x y).ds.length : Int) > Wv.rMostD op ∧ Wv.effOk b i (syE op k (o.answer op x y)) = true ∧ ObRel r s (i + 1) m' k (o.take ⟨⟨r, s, i⟩, s⟩ (syE op k (o.answer op x y)))))
theorem rise_nil : Rise [] := List.Pairwise.nil
theorem marks_len {m : Md} (hm : MdOk m) (ix : Nat) (h : ix < 2) : (m.sets.getD ix []).length = 256 := by
  have hl := hm.sets
  have e : m.sets.getD ix [] = m.sets[ix] := by simp [show ix < m.sets.length by omega]
  rw [e]
  exact hm.sets0 _ (List.getElem_mem _)
set_option maxHeartbeats 1600000 in
theorem step_own {b : Wv.Bt} {r s i : Int} {m : Md} {o : Ob} (hb : Bq b r s) (hs1 : 1 ≤ s) (hi0 : 0 ≤ i) (hi5 : i < 5) (hm : MdOk m) (op : Int) (ix : Nat) (x y : Int) (hc : Can m op ix x y) (h : ObRel r s i m (4 * ix + kOf op) o) (hbd : o.bound 150) : StepOk b r s i (m.step op ix x y) (4 * ix + kOf op) o op x y := by
  have hop : op = 1 ∨ op = 2 ∨ op = 3 ∨ op = 4 ∨ op = 5 ∨ op = 6 := by have := hc.op1; have := hc.op6; omega
  have hix := hc.lt2
  rcases hop with rfl | rfl | rfl | rfl | rfl | rfl
  · have e1 : (4 * ix + kOf 1) / 4 = ix := by show (4 * ix + 0) / 4 = ix; omega
    have e2 : (4 * ix + kOf 1) % 4 = 0 := by show (4 * ix + 0) % 4 = 0; omega
    obtain ⟨ha, hb'⟩ := hc.add rfl
    obtain rfl := hc.b0 (by omega)
    cases o with
    | counter n =>
      obtain ⟨_, h2⟩ := h
      unfold StepOk
      rw [ans_add n x ha hb']
      refine ⟨rfl, .inr ⟨of_decide_eq_true rfl, of_decide_eq_true rfl, eff_ok hb 1 ix x ⟨0, 0, 0⟩ [] (by omega) (by omega) hix ⟨ha, hb'⟩ (.inl ⟨rfl, of_decide_eq_true rfl⟩) (of_decide_eq_true rfl) (of_decide_eq_true rfl) rise_nil (fun d hd => by cases hd), e2, ?_⟩⟩
      rw [e1] at h2 ⊢
      show n + x = (m.sums.set ix (m.sums.getD ix 0 + x)).getD ix 0
      rw [getD_set_eq _ _ _ _ (by rw [hm.sums]; exact hix), h2]
    | set l => obtain ⟨h1, _⟩ := h; omega
    | reg l => obtain ⟨h1, _⟩ := h; omega
    | list l => obtain ⟨h1, _⟩ := h; omega
  · have e1 : (4 * ix + kOf 2) / 4 = ix := by show (4 * ix + 1) / 4 = ix; omega
    have e2 : (4 * ix + kOf 2) % 4 = 1 := by show (4 * ix + 1) % 4 = 1; omega
    obtain ⟨ha, hb'⟩ := hc.val (.inl rfl)
    obtain rfl := hc.b0 (by omega)
    cases o with
    | counter n => obtain ⟨h1, _⟩ := h; omega
    | set l =>
      obtain ⟨_, h2, h3⟩ := h
      unfold StepOk
      rw [ans_insert l x ha hb']
      obtain ⟨q1, q2⟩ := insert_own h2 hs1 hi0 hi5 x
      refine ⟨rfl, .inr ⟨of_decide_eq_true rfl, of_decide_eq_true rfl, eff_ok hb 2 ix x ⟨0, 0, 0⟩ [] (by omega) (by omega) hix ⟨ha, hb'⟩ (.inl ⟨rfl, of_decide_eq_true rfl⟩) (of_decide_eq_true rfl) (of_decide_eq_true rfl) rise_nil (fun d hd => by cases hd), ?_⟩⟩
      show ObRel r s (i + 1) _ _ (.set (putD l ⟨r, s, i⟩ x))
      rw [q1]
      refine ⟨e2, q2, ?_⟩
      rw [e1] at h3 ⊢
      show SetRel _ ((m.sets.set ix ((m.sets.getD ix []).set x.toNat true)).getD ix [])
      rw [getD_set_eq _ _ _ _ (by rw [hm.sets]; exact hix)]
      have := h3.insert ⟨r, s, i⟩ x.toNat (by rw [marks_len hm ix hix]; omega)
      rw [Int.toNat_of_nonneg ha] at this
      exact this
    | reg l => obtain ⟨h1, _⟩ := h; omega
    | list l => obtain ⟨h1, _⟩ := h; omega
  · have e1 : (4 * ix + kOf 3) / 4 = ix := by show (4 * ix + 1) / 4 = ix; omega
    have e2 : (4 * ix + kOf 3) % 4 = 1 := by show (4 * ix + 1) % 4 = 1; omega
    obtain ⟨ha, hb'⟩ := hc.val (.inr (.inl rfl))
    obtain rfl := hc.b0 (by omega)
    cases o with
    | counter n => obtain ⟨h1, _⟩ := h; omega
    | set l =>
      obtain ⟨_, h2, h3⟩ := h
      unfold StepOk
      rw [ans_remove l x ha hb']
      refine ⟨rfl, ?_⟩
      have hl : l.length ≤ 150 := hbd
      have hrl := remD_len l x
      have eM : (m.step 3 ix x 0).sets.getD ix [] = (m.sets.getD ix []).set x.toNat false := getD_set_eq _ _ _ _ (by rw [hm.sets]; exact hix)
      rw [e1] at h3
      by_cases hn : remD l x = []
      · refine .inl ⟨by show ((remD l x).length : Int) < 1; rw [hn]; simp, e2, h2, ?_⟩
        rw [e1, eM]
        exact remD_none h3 h2.nd x.toNat (by rw [Int.toNat_of_nonneg ha]; exact hn)
      · have hp : 0 < (remD l x).length := List.length_pos_iff.2 hn
        refine .inr ⟨by show ¬ ((remD l x).length : Int) < 1; omega, by show ¬ ((remD l x).length : Int) > 150; omega, eff_ok hb 3 ix 0 ⟨0, 0, 0⟩ (remD l x) (by omega) (by omega) hix ⟨of_decide_eq_true rfl, of_decide_eq_true rfl⟩ (.inl ⟨rfl, of_decide_eq_true rfl⟩) (by show (1 : Int) ≤ _; omega) (by show _ ≤ (150 : Int); omega) (remD_rise h2.nd x) (fun d hd => h2.old _ ((remD_mem h2.nd x d).1 hd)), ?_⟩
        obtain ⟨q1, q2⟩ := remove_own h2 x
        show ObRel r s (i + 1) _ _ (.set (delsD l (remD l x)))
        rw [q1]
        refine ⟨e2, q2, ?_⟩
        rw [e1, eM]
        have := h3.remove x.toNat
        rw [Int.toNat_of_nonneg ha] at this
        exact this
    | reg l => obtain ⟨h1, _⟩ := h; omega
    | list l => obtain ⟨h1, _⟩ := h; omega
  · have e1 : (4 * ix + kOf 4) / 4 = ix := by show (4 * ix + 2) / 4 = ix; omega
    have e2 : (4 * ix + kOf 4) % 4 = 2 := by show (4 * ix + 2) % 4 = 2; omega
    obtain ⟨ha, hb'⟩ := hc.val (.inr (.inr rfl))
    obtain rfl := hc.b0 (by omega)
    cases o with
    | counter n => obtain ⟨h1, _⟩ := h; omega
    | set l => obtain ⟨h1, _⟩ := h; omega
    | reg l =>
      obtain ⟨_, h2, h3⟩ := h
      unfold StepOk
      rw [ans_write l x ha hb']
      obtain ⟨q1, q2⟩ := write_own h2 hs1 hi0 hi5 x
      have hl : (sortD (l.map (·.1))).length ≤ 1 := by
        rw [sortD_len, List.length_map]
        rcases h3 with ⟨_, d, rfl⟩ | ⟨_, rfl⟩ <;> simp
      refine ⟨rfl, .inr ⟨by show ¬ ((sortD (l.map (·.1))).length : Int) < 0; omega, by show ¬ ((sortD (l.map (·.1))).length : Int) > 150; omega, eff_ok hb 4 ix x ⟨0, 0, 0⟩ (sortD (l.map (·.1))) (by omega) (by omega) hix ⟨ha, hb'⟩ (.inl ⟨rfl, of_decide_eq_true rfl⟩) (by show (0 : Int) ≤ _; omega) (by show _ ≤ (150 : Int); omega) (sortD_rise h2.nd) (fun d hd => by
        obtain ⟨y, hy, rfl⟩ := List.mem_map.1 ((sortD_perm _).mem_iff.1 hd)
        exact h2.old _ hy), ?_⟩⟩
      show ObRel r s (i + 1) _ _ (.reg (putD (delsD l (sortD (l.map (·.1)))) ⟨r, s, i⟩ x))
      rw [q1]
      refine ⟨e2, q2, .inl ?_⟩
      rw [e1]
      have eM : (m.step 4 ix x 0).regs.getD ix 0 = x := getD_set_eq _ _ _ _ (by rw [hm.regs]; exact hix)
      rw [eM]
      exact ⟨ha, _, rfl⟩
    | list l => obtain ⟨h1, _⟩ := h; omega
  · have e1 : (4 * ix + kOf 5) / 4 = ix := by show (4 * ix + 3) / 4 = ix; omega
    have e2 : (4 * ix + kOf 5) % 4 = 3 := by show (4 * ix + 3) % 4 = 3; omega
    obtain ⟨ha, hb', hy0, hy1⟩ := hc.put rfl
    cases o with
    | counter n => obtain ⟨h1, _⟩ := h; omega
    | set l => obtain ⟨h1, _⟩ := h; omega
    | reg l => obtain ⟨h1, _⟩ := h; omega
    | list l =>
      obtain ⟨_, h2, h3⟩ := h
      rw [e1] at h3
      have hlen : (stands l).length = (m.lists.getD ix []).length := by rw [← h3, List.length_map]
      obtain ⟨n, rfl⟩ := Int.eq_ofNat_of_zero_le ha
      obtain ⟨d, q1, q2, q3, q4⟩ := put_own h2 hs1 hi0 hi5 n y (by omega)
      have ha : Ob.answer (.list l) 5 n y = ⟨y, d, [], 0⟩ := by
        show (⟨(listE l 5 n y).1, (listE l 5 n y).2.1, [], (listE l 5 n y).2.2⟩ : Sya) = _
        unfold listE
        rw [if_neg (by decide), val_ok hy0 hy1, if_neg (by simp), q1]
      unfold StepOk
      rw [ha]
      refine ⟨rfl, .inr ⟨of_decide_eq_true rfl, of_decide_eq_true rfl, eff_ok hb 5 ix y d [] (by omega) (by omega) hix ⟨hy0, hy1⟩ ?_ (of_decide_eq_true rfl) (of_decide_eq_true rfl) rise_nil (fun d hd => by cases hd), e2, q3, ?_⟩⟩
      · rcases q2 with ⟨_, q⟩ | q
        · exact .inl ⟨q, of_decide_eq_true rfl⟩
        · exact .inr ⟨q, of_decide_eq_true rfl⟩
      · have eM : (m.step 5 ix n y).lists.getD ix [] = insV (m.lists.getD ix []) n y := getD_set_eq _ _ _ _ (by rw [hm.lists]; exact hix)
        rw [e1, eM, ← h3]
        exact q4
  · have e1 : (4 * ix + kOf 6) / 4 = ix := by show (4 * ix + 3) / 4 = ix; omega
    have e2 : (4 * ix + kOf 6) % 4 = 3 := by show (4 * ix + 3) % 4 = 3; omega
    obtain ⟨ha, hb'⟩ := hc.era rfl
    obtain rfl := hc.b0 (by omega)
    cases o with
    | counter n => obtain ⟨h1, _⟩ := h; omega
    | set l => obtain ⟨h1, _⟩ := h; omega
    | reg l => obtain ⟨h1, _⟩ := h; omega
    | list l =>
      obtain ⟨_, h2, h3⟩ := h
      rw [e1] at h3
      have hlen : (stands l).length = (m.lists.getD ix []).length := by rw [← h3, List.length_map]
      obtain ⟨n, rfl⟩ := Int.eq_ofNat_of_zero_le ha
      obtain ⟨d, q1, q2, q3, q4⟩ := erase_own h2 n (by omega)
      have ha : Ob.answer (.list l) 6 n 0 = ⟨0, d, [], 0⟩ := by
        show (⟨(listE l 6 n 0).1, (listE l 6 n 0).2.1, [], (listE l 6 n 0).2.2⟩ : Sya) = _
        unfold listE
        rw [if_pos rfl, q1]
      unfold StepOk
      rw [ha]
      refine ⟨rfl, .inr ⟨of_decide_eq_true rfl, of_decide_eq_true rfl, eff_ok hb 6 ix 0 d [] (by omega) (by omega) hix ⟨of_decide_eq_true rfl, of_decide_eq_true rfl⟩ (.inr ⟨q2, of_decide_eq_true rfl⟩) (of_decide_eq_true rfl) (of_decide_eq_true rfl) rise_nil (fun d hd => by cases hd), e2, q3, ?_⟩⟩
      have eM : (m.step 6 ix n 0).lists.getD ix [] = delV (m.lists.getD ix []) n := getD_set_eq _ _ _ _ (by rw [hm.lists]; exact hix)
      rw [e1, eM, ← h3]
      exact q4

end Go.Proofs.YtfmcngncaffloaaGreatDoor

namespace Go.Proofs.YtfmcngncaffloaaGreatDoor
open Go.RowKit
set_option maxRecDepth 100000

theorem infoMd : (Tryz.prog.info? 37).map (·.size) = some 518 := by kernel_rfl
/-- The cells of a model. -/
structure MdCs (w : World) (cs : Array Value) (m : Md) : Prop where
  size : cs.size = 518
  one : cs.all (·.oneCell') = true
  sums : ∀ i, i < 2 → cs[i]? = some (I (m.sums.getD i 0))
  sets : ∀ i v, i < 2 → v < 256 → cs[2 + i * 256 + v]? = some (.bool ((m.sets.getD i []).getD v false))
  regs : ∀ i, i < 2 → cs[514 + i]? = some (I (m.regs.getD i 0))
  lists : ∀ i, i < 2 → ∃ v, cs[516 + i]? = some v ∧ Lst w v (m.lists.getD i [])
/-- The blocks that its lists lie in. -/
def MdIn (P : Nat → Prop) (cs : Array Value) : Prop := ∀ i, i < 2 → ∀ p q n c, cs[516 + i]? = some (.slice (some ⟨p, q, none⟩) n c) → P p
theorem Lst.same {w w' : World} {v : Value} {l : List Int} (h : Lst w v l) (hb : ∀ p q n c, v = .slice (some ⟨p, q, none⟩) n c → w'.heap[p]? = w.heap[p]?) : Lst w' v l := by
  rcases h with h | ⟨p, q, c, e, hc, hA⟩
  · exact .inl h
  · refine .inr ⟨p, q, c, e, hc, fun j u hj => ?_⟩
    obtain ⟨b, o, e2, hx⟩ := hA j u hj
    cases e2
    exact ⟨p, q, rfl, cell_same hx (hb p q _ c e)⟩
theorem Lst.slice {w : World} {v : Value} {l : List Int} (h : Lst w v l) : ∃ ad c, v = .slice ad l.length c ∧ (ad = none → l.length = 0) ∧ At w ad (l.map I) := by
  rcases h with ⟨rfl, rfl⟩ | ⟨p, q, c, e, hc, hA⟩
  · exact ⟨none, 0, rfl, fun _ => rfl, fun j u hj => by simp at hj⟩
  · exact ⟨_, c, e, fun e => (by cases e), hA⟩
theorem MdCs.same {w w' : World} {cs : Array Value} {m : Md} {P : Nat → Prop} (h : MdCs w cs m) (hi : MdIn P cs) (hb : ∀ g, P g → w'.heap[g]? = w.heap[g]?) : MdCs w' cs m :=
  ⟨h.size, h.one, h.sums, h.sets, h.regs, fun i hl => by
    obtain ⟨v, e, hv⟩ := h.lists i hl
    exact ⟨v, e, hv.same (fun p q n c e2 => hb p (hi i hl p q n c (by rw [e, e2])))⟩⟩
theorem MdCs.kept {w w' : World} {cs : Array Value} {m : Md} (h : MdCs w cs m) (hb : Below w.heap.size w w') : MdCs w' cs m :=
  ⟨h.size, h.one, h.sums, h.sets, h.regs, fun i hl => by
    obtain ⟨v, e, hv⟩ := h.lists i hl
    exact ⟨v, e, hv.kept hb⟩⟩
/-- A list is another one with the same numbers, or with others. -/
theorem MdCs.list {w : World} {cs : Array Value} {m : Md} (h : MdCs w cs m) (k : Nat) (hk : k < 2) (v : Value) (l : List Int) (hv : Lst w v l) (h1 : v.oneCell' = true) (hm : m.lists.length = 2) : MdCs w (cs.setIfInBounds (516 + k) v) { m with lists := m.lists.set k l } := by
  have hz := h.size
  refine ⟨by simp [hz], ?_, fun i hi => ?_, fun i u hi hu => ?_, fun i hi => ?_, fun i hi => ?_⟩
  · rw [Array.all_eq_true_iff_forall_mem]
    intro x hx
    rcases Array.mem_or_eq_of_mem_setIfInBounds hx with hx | rfl
    · exact Array.all_eq_true_iff_forall_mem.1 h.one x hx
    · exact h1
  · rw [Array.getElem?_setIfInBounds_ne (by omega)]; exact h.sums i hi
  · rw [Array.getElem?_setIfInBounds_ne (by omega)]; exact h.sets i u hi hu
  · rw [Array.getElem?_setIfInBounds_ne (by omega)]; exact h.regs i hi
  · by_cases hq : i = k
    · subst hq
      refine ⟨v, by rw [Array.getElem?_setIfInBounds_self_of_lt (by omega)], ?_⟩
      show Lst w v ((m.lists.set i l).getD i [])
      rw [getD_set_eq _ _ _ _ (by omega)]
      exact hv
    · obtain ⟨u, e, hu⟩ := h.lists i hi
      refine ⟨u, by rw [Array.getElem?_setIfInBounds_ne (by omega)]; exact e, ?_⟩
      show Lst w u ((m.lists.set k l).getD i [])
      rw [getD_set_ne _ _ _ _ _ (by omega)]
      exact hu
/-- A copy under way. -/
structure CpAt (w wr : World) (cs ck : Array Value) (m : Md) (k : Nat) : Prop where
  size : ck.size = 518
  low : ∀ j, j < 516 → ck[j]? = cs[j]?
  old : ∀ i, k ≤ i → i < 2 → ck[516 + i]? = cs[516 + i]?
  new : ∀ i, i < k → ∃ v, ck[516 + i]? = some v ∧ Lst wr v (m.lists.getD i []) ∧ v.oneCell' = true ∧ ∀ p q n c, v = .slice (some ⟨p, q, none⟩) n c → w.heap.size + 2 ≤ p ∧ p < wr.heap.size
theorem CpAt.step {w wr w5 : World} {cs ck : Array Value} {m : Md} {k : Nat} (h : CpAt w wr cs ck m k) (hk : k < 2) (hb : Below wr.heap.size wr w5) (v : Value) (hv : Lst w5 v (m.lists.getD k [])) (h1 : v.oneCell' = true) (hn : ∀ p q n c, v = .slice (some ⟨p, q, none⟩) n c → w.heap.size + 2 ≤ p ∧ p < w5.heap.size) (u : Value) :
    CpAt w (w5.setCell ⟨w.heap.size, 516 + k, none⟩ u) cs (ck.setIfInBounds (516 + k) v) m (k + 1) := by
  have hz := h.size
  have hset : ∀ (v : Value) (l : List Int), Lst w5 v l → (∀ p q n c, v = .slice (some ⟨p, q, none⟩) n c → w.heap.size + 2 ≤ p ∧ p < w5.heap.size) → Lst (w5.setCell ⟨w.heap.size, 516 + k, none⟩ u) v l := fun v l hl hp =>
    hl.same (fun p q n c e => heap_setCell_other _ ⟨w.heap.size, 516 + k, none⟩ p _ (by have := hp p q n c e; show p ≠ w.heap.size; omega))
  have hsz : (w5.setCell ⟨w.heap.size, 516 + k, none⟩ u).heap.size = w5.heap.size := by simp
  refine ⟨by simp [hz], fun j hj => ?_, fun i hi h2 => ?_, fun i hi => ?_⟩
  · rw [Array.getElem?_setIfInBounds_ne (by omega)]; exact h.low j hj
  · rw [Array.getElem?_setIfInBounds_ne (by omega)]; exact h.old i (by omega) h2
  · by_cases hq : i = k
    · subst hq
      exact ⟨v, by rw [Array.getElem?_setIfInBounds_self_of_lt (by omega)], hset v _ hv hn, h1, by rw [hsz]; exact hn⟩
    · obtain ⟨u', e, hu, h3, h4⟩ := h.new i (by omega)
      exact ⟨u', by rw [Array.getElem?_setIfInBounds_ne (by omega)]; exact e, hset u' _ (hu.kept hb) (fun p q n c e => ⟨(h4 p q n c e).1, Nat.lt_of_lt_of_le (h4 p q n c e).2 hb.size⟩), h3, by rw [hsz]; exact fun p q n c e => ⟨(h4 p q n c e).1, Nat.lt_of_lt_of_le (h4 p q n c e).2 hb.size⟩⟩
theorem CpAt.done {w wr : World} {cs ck : Array Value} {m : Md} (h : CpAt w wr cs ck m 2) (hc : MdCs w cs m) : MdCs wr ck m ∧ MdIn (fun g => w.heap.size ≤ g ∧ g < wr.heap.size) ck := by
  have hz := h.size
  have hz2 := hc.size
  refine ⟨⟨hz, ?_, fun i hi => by rw [h.low i (by omega)]; exact hc.sums i hi, fun i v hi hv => by rw [h.low _ (by omega)]; exact hc.sets i v hi hv, fun i hi => by rw [h.low _ (by omega)]; exact hc.regs i hi, fun i hi => ?_⟩, fun i hi p q n c e => ?_⟩
  · rw [Array.all_eq_true]
    intro j hj
    by_cases hl : j < 516
    · have e := h.low j hl
      rw [Array.getElem?_eq_getElem hj, Array.getElem?_eq_getElem (by omega)] at e
      rw [Option.some.inj e]
      exact Array.all_eq_true.1 hc.one j (by omega)
    · obtain ⟨v, e, _, h3, _⟩ := h.new (j - 516) (by omega)
      rw [show 516 + (j - 516) = j by omega, Array.getElem?_eq_getElem hj] at e
      rw [Option.some.inj e]
      exact h3
  · obtain ⟨v, e, hl, _, _⟩ := h.new i hi
    exact ⟨v, e, hl⟩
  · obtain ⟨v, e2, _, _, h4⟩ := h.new i hi
    have := h4 p q n c (by rw [e2] at e; exact Option.some.inj e)
    show w.heap.size ≤ p ∧ p < wr.heap.size
    omega
set_option maxHeartbeats 1600000 in
theorem copied_any (cs : Array Value) (m : Md) (w : World) (h : MdCs w cs m) (hm : MdOk m) (hl : ∀ l ∈ m.lists, l.length ≤ 1048576) :
    Calls Tryz.prog 15 #[.agg cs] w fun e w' => ∃ cs', e = .returned (.agg cs') ∧ MdCs w' cs' m ∧ MdIn (fun g => w.heap.size ≤ g ∧ g < w'.heap.size) cs' ∧ Below w.heap.size w w' := by
  obtain ⟨i1, HI1⟩ : ∃ i, Hid (Tryz.prog.info? 3 = some i ∧ i.zero = some (.int .i64 0) ∧ i.size = 1 ∧ i.bytes = 8) := by obtain ⟨i, h⟩ := info_parts infoIn; exact ⟨i, h⟩
  obtain ⟨wA, hwA⟩ : ∃ wA, wA = (w.alloc (.cells cs 37)).alloc (.cells Tryz.zeroCells37 37) := ⟨_, rfl⟩
  have GB : Hid (Below w.heap.size w wA) := by rw [hwA]; exact ((Below.refl _ _).alloc (Nat.le_refl _) _).alloc (by simp) _
  have GX : Hid (Blk wA w.heap.size cs 37) := by rw [hwA]; exact Blk.alloc (heap_alloc_new w _) _
  have GY : Hid (Blk wA (w.heap.size + 1) Tryz.zeroCells37 37) := by rw [hwA]; exact Blk.second w _ _ _
  have GM : Hid (CpAt w wA cs cs m 0) := ⟨h.size, fun _ _ => rfl, fun _ _ _ => rfl, fun i hi => by omega⟩
  have HC : Hid (MdCs w cs m) := h
  clear h
  go_enter Tryz.func15, Tryz.ntmps15
  go_wp2_with fail
  rw [← hwA]
  clear hwA
  go_loopw [3] (fun x wr => ∃ k : Nat, k ≤ 2 ∧ x = I k ∧ ∃ ck, Hid (Below w.heap.size w wr) ∧ Hid (Blk wr w.heap.size ck 37) ∧ Hid (Blk wr (w.heap.size + 1) Tryz.zeroCells37 37) ∧ Hid (CpAt w wr cs ck m k)) (fun x _ => 2 - (intOf x).toNat)
  case atStart => exact ⟨0, by omega, rfl, cs, GB, GX, GY, GM⟩
  case round =>
    obtain ⟨k, hk, rfl, ck, HB, HX, HY, HM⟩ := hrel
    clear GX GY GM GB
    by_cases hlt : k < 2
    · have hki : (k : Int) < 2 := by omega
      obtain ⟨lv, he, hL⟩ := HC.out.lists k hlt
      have he2 : ck[516 + k]? = some lv := (HM.out.old k (Nat.le_refl _) hlt).trans he
      have HST : Hid (∀ (w5 : World) (v : Value), Below wr.heap.size wr w5 → Lst w5 v (m.lists.getD k []) → v.oneCell' = true → (∀ p q n c, v = .slice (some ⟨p, q, none⟩) n c → w.heap.size + 2 ≤ p ∧ p < w5.heap.size) → CpAt w (w5.setCell ⟨w.heap.size, 516 + k, none⟩ v) cs (ck.setIfInBounds (516 + k) v) m (k + 1)) := fun w5 v h1 h2 h3 h4 => HM.out.step hlt h1 v h2 h3 h4 v
      have hll : (m.lists.getD k []).length ≤ 1048576 := by
        have h2 := hm.lists
        have e : m.lists.getD k [] = m.lists[k] := by simp [show k < m.lists.length by omega]
        rw [e]
        exact hl _ (List.getElem_mem _)
      generalize m.lists.getD k [] = l at *
      obtain ⟨ad, c, rfl, hnil, hA⟩ := hL.slice
      have e1 : wr.cell? ⟨w.heap.size, 516 + k, none⟩ = some (.slice ad l.length c) := (HX.out.cell (516 + k)).trans he2
      have HA : Hid (At wr ad (l.map I)) := hA.kept HB.out
      have HNL : Hid (ad = none → l.length = 0) := hnil
      have n1 : 0 + l.length ≤ maxLen := by unfold maxLen; omega
      have n2 : (0 + l.length) * 8 ≤ 140737488355328 := by omega
      have HE : Hid (ck[516 + k]? = some (.slice ad l.length c)) := he2
      have hz0 : w.heap.size + 2 ≤ wr.heap.size := by have := HY.out.lt; omega
      clear hA hnil he he2 hL hl
      go_wp2_with (first
        | (at_builtin; refine wpList_append_optw rfl _ _ _ rfl wr.heap.size 3 i1 (.int .i64 0) 1 8 Tryz.underlying34 HI1.out.1 HI1.out.2.1 HI1.out.2.2.1 HI1.out.2.2.2 rfl (by decide) (.slice none 0 0) 0 [] rfl ⟨rfl, .inl ⟨rfl, rfl⟩⟩ ad l.length c (l.map I) rfl (by rw [List.length_map]; omega) HNL.out HA.out.addw (ints_onew _) n1 n2 (Nat.le_refl _) ?_; intro v5 w5 hown5 hgrow5; have hown5' : w5.ownsRow wr.heap.size 3 1 v5 (0 + l.length) (l.map I) := hown5; obtain ⟨a5, c5, rfl⟩ := own_sl hown5'; have HO5 : Hid (w5.ownsRow wr.heap.size 3 1 (.slice a5 (0 + l.length) c5) (0 + l.length) (l.map I)) := hown5'; have hB5 : Below wr.heap.size wr w5 := (Below.refl _ _).grown hgrow5 (Nat.le_refl _) (fun b e => by cases e); have HB5 : Hid (Below wr.heap.size wr w5) := hB5; have HX5 : Hid (Blk w5 w.heap.size ck 37) := HX.out.kept hB5 (by omega); have HY5 : Hid (Blk w5 (w.heap.size + 1) Tryz.zeroCells37 37) := HY.out.kept hB5 (by omega); have e5 : w5.cell? ⟨w.heap.size, 516 + k, none⟩ = some (.slice ad l.length c) := (HX5.out.cell (516 + k)).trans HE.out; have z5 : w5.frozen? ⟨w.heap.size, 516 + k, none⟩ = false := HX5.out.frozen _; clear hown5 hown5' hgrow5 hB5))
      have HN : Hid (∃ ck', Hid (Below w.heap.size w (w5.setCell ⟨w.heap.size, 516 + k, none⟩ (.slice a5 l.length c5))) ∧ Hid (Blk (w5.setCell ⟨w.heap.size, 516 + k, none⟩ (.slice a5 l.length c5)) w.heap.size ck' 37) ∧ Hid (Blk (w5.setCell ⟨w.heap.size, 516 + k, none⟩ (.slice a5 l.length c5)) (w.heap.size + 1) Tryz.zeroCells37 37) ∧ Hid (CpAt w (w5.setCell ⟨w.heap.size, 516 + k, none⟩ (.slice a5 l.length c5)) cs ck' m (k + 1))) := by
        have hO := HO5.out
        rw [Nat.zero_add] at hO
        refine ⟨_, (HB.out.trans (HB5.out.mono HB.out.size)).setCell (Nat.le_refl _) _, HX5.out.set _ _, HY5.out.other (by simp) _, HST.out w5 _ HB5.out (Lst.own hO) rfl (fun p q n c e => ?_)⟩
        rcases hO.2 with ⟨e2, _⟩ | ⟨g, cap, cur, e2, hg, _⟩
        · rw [e2] at e; cases e
        · have hlt := hO.lt g (by rw [e2]; rfl)
          rw [e2] at e; cases e; omega
      clear HO5 HB5 HX5 HY5 HST HM HE HA
      go_roundw
      case rel => exact ⟨k + 1, by omega, by go_num, HN.out⟩
      case measure => simp [intOf]; omega
    · have hki : ¬ (k : Int) < 2 := by omega
      obtain rfl : k = 2 := by omega
      obtain ⟨hMC, hMI⟩ := HM.out.done HC.out
      have HMC : Hid (MdCs wr ck m) := hMC
      have HMI : Hid (MdIn (fun g => w.heap.size ≤ g ∧ g < (wr.setRow (w.heap.size + 1) ck).heap.size) ck) := by rw [setRow_size]; exact hMI
      have HSZ : Hid ((Tryz.prog.info? 37).map (·.size) = some ck.size) := by show _ = _; rw [infoMd, hMC.size]
      have HZZ : Hid ((Tryz.zeroCells37 : Array Value).size = ck.size) := by show _ = _; rw [hMC.size]; rfl
      have HY2 : Hid (Blk (wr.setRow (w.heap.size + 1) ck) (w.heap.size + 1) ck 37) := setRow_heap wr (w.heap.size + 1) _ ck _ _ HY.out
      have HB2 : Hid (Below w.heap.size w (wr.setRow (w.heap.size + 1) ck)) := below_setRow HB.out (by omega) ck
      have HM2 : Hid (MdCs (wr.setRow (w.heap.size + 1) ck) ck m) := by
        refine hMC.same (P := fun g => g ≠ w.heap.size + 1) (fun i hi p q n c e => ?_) (fun g hg => setRow_other _ _ _ _ hg)
        obtain ⟨v, e2, _, _, h4⟩ := HM.out.new i hi
        have := h4 p q n c (by rw [e2] at e; exact Option.some.inj e)
        show p ≠ w.heap.size + 1
        omega
      clear hMC hMI HM
      go_wp2_with (first
        | (refine wpList_load_row rfl 37 _ rfl w.heap.size rfl 37 ck (0, 0) _ HX.out Tryz.underlying37 rfl HSZ.out ?_)
        | (refine wpList_store_row rfl 37 _ _ rfl (w.heap.size + 1) ck rfl rfl 37 _ HY.out HSZ.out HZZ.out HMC.out.one ?_))
      refine bodyPost_ret (v := .agg ck) ?_ rfl ⟨ck, rfl, HM2.out, HMI.out, HB2.out⟩
      exact results_cell_row (p := 2) (ty := 37) rfl _ _ (w.heap.size + 1) 37 ck (0, 0) _ rfl HY2.out Tryz.underlying37 rfl HSZ.out

end Go.Proofs.YtfmcngncaffloaaGreatDoor

namespace Go.Proofs.YtfmcngncaffloaaGreatDoor
open Go.RowKit
set_option maxRecDepth 100000

theorem tdiv4 (k : Nat) : ((k : Int)).tdiv 4 = ((k / 4 : Nat) : Int) := by rw [Int.tdiv_eq_ediv_of_nonneg (by omega)]; omega
theorem tmod4 (k : Nat) : ((k : Int)).tmod 4 = ((k % 4 : Nat) : Int) := by rw [Int.tmod_eq_emod_of_nonneg (by omega)]; omega
abbrev wM (w : World) (cs : Array Value) : World := w.alloc (.cells cs 37)
/-- What listed leaves. -/
def LdOk (w : World) (l : List Int) (e : Ending) (w' : World) : Prop := ∃ v, e = .returned v ∧ w'.ownsRow w.heap.size 3 1 v l.length (l.map I) ∧ Below w.heap.size w w'
set_option maxHeartbeats 3200000 in
theorem listed0 (cs : Array Value) (k i : Nat) (v : Int) (w : World) (_hk : k < 8) (hi2 : i < 2) (hq : ((k : Int)).tdiv 4 = (i : Int)) (hr : ((k : Int)).tmod 4 = 0) (hc : cs[i]? = some (I v)) :
    Calls Tryz.prog 44 #[.agg cs, I k] w fun e w' => LdOk w [v] e w' := by
  obtain ⟨i1, HI1⟩ : ∃ i, Hid (Tryz.prog.info? 3 = some i ∧ i.zero = some (.int .i64 0) ∧ i.size = 1 ∧ i.bytes = 8) := by obtain ⟨i, h⟩ := info_parts infoIn; exact ⟨i, h⟩
  have hX : Blk (wM w cs) w.heap.size cs 37 := heap_alloc_new w _
  have e1 : (wM w cs).cell? ⟨w.heap.size, i, none⟩ = some (I v) := (hX.cell i).trans hc
  have hone : ∀ u ∈ [I v], u.oneCell' = true := ints_onew [v]
  clear hX
  go_enter Tryz.func44, Tryz.ntmps44
  go_wp2_with (first | (at_builtin; refine wpList_append_own_at _ rfl _ _ _ rfl w.heap.size 3 i1 (.int .i64 0) 1 8 Tryz.underlying34 HI1.out.1 HI1.out.2.1 HI1.out.2.2.1 HI1.out.2.2.2 rfl (by decide) (.slice none 0 0) 0 [] rfl ⟨rfl, .inl ⟨rfl, rfl⟩⟩ ⟨w.heap.size + 1, 0, none⟩ 1 1 [I v] rfl rfl (by have := lit_any (wM w cs) [I v] 3; simpa using this) hone (by decide) (by decide) (by simp; omega) ?_; intro v5 w5 hown5 hgrow5 hnil5 hat5; have HO5 : Hid (w5.ownsRow w.heap.size 3 1 v5 1 [I v]) := hown5; have HB5 : Hid (Below w.heap.size w w5) := (((Below.refl _ _).alloc (Nat.le_refl _) _).alloc (by simp) _).grown hgrow5 (by simp; omega) (fun b e => by cases e); clear hown5 hgrow5 hnil5 hat5))
  go_wp2
  go_ret
  exact ⟨v5, rfl, HO5.out, HB5.out⟩
set_option maxHeartbeats 3200000 in
theorem listed2 (cs : Array Value) (k i : Nat) (v : Int) (w : World) (_hk : k < 8) (hi2 : i < 2) (hq : ((k : Int)).tdiv 4 = (i : Int)) (hr : ((k : Int)).tmod 4 = 2) (hc : cs[514 + i]? = some (I v)) :
    Calls Tryz.prog 44 #[.agg cs, I k] w fun e w' => LdOk w (if 0 ≤ v then [v] else []) e w' := by
  obtain ⟨i1, HI1⟩ : ∃ i, Hid (Tryz.prog.info? 3 = some i ∧ i.zero = some (.int .i64 0) ∧ i.size = 1 ∧ i.bytes = 8) := by obtain ⟨i, h⟩ := info_parts infoIn; exact ⟨i, h⟩
  have hX : Blk (wM w cs) w.heap.size cs 37 := heap_alloc_new w _
  have e1 : (wM w cs).cell? ⟨w.heap.size, 514 + i, none⟩ = some (I v) := (hX.cell (514 + i)).trans hc
  have hone : ∀ u ∈ [I v], u.oneCell' = true := ints_onew [v]
  clear hX
  by_cases hv : 0 ≤ v
  · rw [if_pos hv]
    go_enter Tryz.func44, Tryz.ntmps44
    go_wp2_with (first | (at_builtin; refine wpList_append_own_at _ rfl _ _ _ rfl w.heap.size 3 i1 (.int .i64 0) 1 8 Tryz.underlying34 HI1.out.1 HI1.out.2.1 HI1.out.2.2.1 HI1.out.2.2.2 rfl (by decide) (.slice none 0 0) 0 [] rfl ⟨rfl, .inl ⟨rfl, rfl⟩⟩ ⟨w.heap.size + 1, 0, none⟩ 1 1 [I v] rfl rfl (by have := lit_any (wM w cs) [I v] 3; simpa using this) hone (by decide) (by decide) (by simp; omega) ?_; intro v5 w5 hown5 hgrow5 hnil5 hat5; have HO5 : Hid (w5.ownsRow w.heap.size 3 1 v5 1 [I v]) := hown5; have HB5 : Hid (Below w.heap.size w w5) := (((Below.refl _ _).alloc (Nat.le_refl _) _).alloc (by simp) _).grown hgrow5 (by simp; omega) (fun b e => by cases e); clear hown5 hgrow5 hnil5 hat5))
    go_wp2
    go_ret
    exact ⟨v5, rfl, HO5.out, HB5.out⟩
  · rw [if_neg hv]
    have HB5 : Hid (Below w.heap.size w (wM w cs)) := (Below.refl _ _).alloc (Nat.le_refl _) _
    go_enter Tryz.func44, Tryz.ntmps44
    go_wp2
    go_ret
    exact ⟨_, rfl, ⟨rfl, .inl ⟨rfl, rfl⟩⟩, HB5.out⟩
set_option maxHeartbeats 3200000 in
theorem listed3 (cs : Array Value) (k i : Nat) (lv : Value) (l : List Int) (w : World) (_hk : k < 8) (hi2 : i < 2) (hq : ((k : Int)).tdiv 4 = (i : Int)) (hr : ((k : Int)).tmod 4 = 3) (hc : cs[516 + i]? = some lv) (hL : Lst w lv l) (hll : l.length ≤ 1048576) :
    Calls Tryz.prog 44 #[.agg cs, I k] w fun e w' => LdOk w l e w' := by
  obtain ⟨i1, HI1⟩ : ∃ i, Hid (Tryz.prog.info? 3 = some i ∧ i.zero = some (.int .i64 0) ∧ i.size = 1 ∧ i.bytes = 8) := by obtain ⟨i, h⟩ := info_parts infoIn; exact ⟨i, h⟩
  have hX : Blk (wM w cs) w.heap.size cs 37 := heap_alloc_new w _
  have hB : Below w.heap.size w (wM w cs) := (Below.refl _ _).alloc (Nat.le_refl _) _
  obtain ⟨ad, c, rfl, hnil, hA⟩ := hL.slice
  have e1 : (wM w cs).cell? ⟨w.heap.size, 516 + i, none⟩ = some (.slice ad l.length c) := (hX.cell (516 + i)).trans hc
  have HA : Hid (At (wM w cs) ad (l.map I)) := hA.kept hB
  have HNL : Hid (ad = none → l.length = 0) := hnil
  have n1 : 0 + l.length ≤ maxLen := by unfold maxLen; omega
  have n2 : (0 + l.length) * 8 ≤ 140737488355328 := by omega
  clear hX hB hA hnil hL
  go_enter Tryz.func44, Tryz.ntmps44
  go_wp2_with (first | (at_builtin; refine wpList_append_optw rfl _ _ _ rfl w.heap.size 3 i1 (.int .i64 0) 1 8 Tryz.underlying34 HI1.out.1 HI1.out.2.1 HI1.out.2.2.1 HI1.out.2.2.2 rfl (by decide) (.slice none 0 0) 0 [] rfl ⟨rfl, .inl ⟨rfl, rfl⟩⟩ ad l.length c (l.map I) rfl (by rw [List.length_map]; omega) HNL.out HA.out.addw (ints_onew _) n1 n2 (by simp) ?_; intro v5 w5 hown5 hgrow5; have HO5 : Hid (w5.ownsRow w.heap.size 3 1 v5 (0 + l.length) (l.map I)) := hown5; have HB5 : Hid (Below w.heap.size w w5) := ((Below.refl _ _).alloc (Nat.le_refl _) _).grown hgrow5 (by simp) (fun b e => by cases e); clear hown5 hgrow5))
  have HE : Hid (w5.ownsRow w.heap.size 3 1 v5 l.length (l.map I)) := by have := HO5.out; rw [Nat.zero_add] at this; exact this
  clear HO5
  go_wp2
  go_ret
  exact ⟨v5, rfl, HE.out, HB5.out⟩
/-- The marks up to a number. -/
def mkTo (f : List Bool) (k : Nat) : List Int := ((List.range k).filter (fun v => f.getD v false)).map Int.ofNat
theorem mkTo_succ (f : List Bool) (k : Nat) : mkTo f (k + 1) = mkTo f k ++ (if f.getD k false = true then [(k : Int)] else []) := by
  unfold mkTo
  rw [List.range_succ, List.filter_append, List.map_append]
  congr 1
  cases h : f.getD k false
  · rw [if_neg (by simp)]
    simp only [List.filter_cons, h]
    rfl
  · rw [if_pos rfl]
    simp only [List.filter_cons, h]
    rfl
theorem mkTo_len (f : List Bool) (k : Nat) : (mkTo f k).length ≤ k := by
  unfold mkTo
  rw [List.length_map]
  have := List.length_filter_le (fun v => f.getD v false) (List.range k)
  rw [List.length_range] at this
  exact this
set_option maxHeartbeats 3200000 in
theorem listed1 (cs : Array Value) (k i : Nat) (f : List Bool) (w : World) (_hk : k < 8) (hi2 : i < 2) (hq : ((k : Int)).tdiv 4 = (i : Int)) (hr : ((k : Int)).tmod 4 = 1) (hc : ∀ v, v < 256 → cs[2 + i * 256 + v]? = some (.bool (f.getD v false))) :
    Calls Tryz.prog 44 #[.agg cs, I k] w fun e w' => LdOk w (mkTo f 256) e w' := by
  obtain ⟨i1, HI1⟩ : ∃ i, Hid (Tryz.prog.info? 3 = some i ∧ i.zero = some (.int .i64 0) ∧ i.size = 1 ∧ i.bytes = 8) := by obtain ⟨i, h⟩ := info_parts infoIn; exact ⟨i, h⟩
  have HX : Hid (Blk (wM w cs) w.heap.size cs 37) := heap_alloc_new w _
  have HB0 : Hid (Below (w.heap.size + 1) (wM w cs) (wM w cs)) := Below.refl _ _
  have HC : Hid (∀ v, v < 256 → cs[2 + i * 256 + v]? = some (.bool (f.getD v false))) := hc
  have hz : w.heap.size + 1 = (wM w cs).heap.size := by simp
  clear hc
  go_enter Tryz.func44, Tryz.ntmps44
  go_wp2_with fail
  go_loopw [5, 7] (fun lv x wr => ∃ j : Nat, j ≤ 256 ∧ x = I j ∧ Hid (wr.ownsRow (w.heap.size + 1) 3 1 lv (mkTo f j).length ((mkTo f j).map I)) ∧ Hid (Below (w.heap.size + 1) (wM w cs) wr)) (fun _ x _ => 256 - (intOf x).toNat)
  case atStart => exact ⟨0, by omega, rfl, ⟨rfl, .inl ⟨rfl, rfl⟩⟩, HB0⟩
  case round =>
    obtain ⟨j, hj, rfl, HO, HB⟩ := hrel
    by_cases hlt : j < 256
    · have hji : (j : Int) ≤ 255 := by omega
      have e1 : wr.cell? ⟨w.heap.size, 2 + i * 256 + j, none⟩ = some (.bool (f.getD j false)) := ((HX.out.kept HB.out (by omega)).cell _).trans (HC.out j hlt)
      have HS : Hid (mkTo f (j + 1) = mkTo f j ++ (if f.getD j false = true then [(j : Int)] else [])) := mkTo_succ f j
      have HLN : Hid ((mkTo f j).length ≤ 256) := Nat.le_trans (mkTo_len f j) (by omega)
      clear hz HB0
      cases hb : f.getD j false with
      | false =>
        rw [hb] at e1 HS
        have HN : Hid (wr.ownsRow (w.heap.size + 1) 3 1 u5 (mkTo f (j + 1)).length ((mkTo f (j + 1)).map I)) := by
          show World.ownsRow _ _ _ _ _ _ _
          rw [HS.out, if_neg (by simp), List.append_nil]
          exact HO.out
        clear HS HC HX HO
        go_wp2_with fail
        go_roundw
        case rel => exact ⟨j + 1, by omega, by go_num, HN, HB⟩
        case measure => simp [intOf]; omega
      | true =>
        rw [hb] at e1 HS
        have n1 : (mkTo f j).length + 1 ≤ maxLen := by have := HLN.out; unfold maxLen; omega
        have n2 : ((mkTo f j).length + 1) * 8 ≤ 140737488355328 := by have := HLN.out; omega
        have hone : ∀ u ∈ [I (j : Int)], u.oneCell' = true := ints_onew [(j : Int)]
        have hz1 : w.heap.size + 1 ≤ wr.heap.size := by have := HB.out.size; simpa using this
        have HS2 : Hid (mkTo f (j + 1) = mkTo f j ++ [(j : Int)]) := by show _ = _; rw [HS.out, if_pos rfl]
        clear HS HC HX HLN
        generalize mkTo f j = ms at *
        go_wp2_with (first | (at_builtin; refine wpList_append_own_at _ rfl _ _ _ rfl (w.heap.size + 1) 3 i1 (.int .i64 0) 1 8 Tryz.underlying34 HI1.out.1 HI1.out.2.1 HI1.out.2.2.1 HI1.out.2.2.2 rfl (by decide) u5 ms.length (ms.map I) rfl (HO.out.alloc _) ⟨wr.heap.size, 0, none⟩ 1 1 [I (j : Int)] rfl rfl (lit_any wr [I (j : Int)] _) hone n1 n2 (by simp; omega) ?_; intro v5 w5 hown5 hgrow5 hnil5 hat5; have HO5 : Hid (w5.ownsRow (w.heap.size + 1) 3 1 v5 (ms.length + 1) (ms.map I ++ [I (j : Int)])) := hown5; have HB5 : Hid (Below (w.heap.size + 1) (wM w cs) w5) := (HB.out.alloc hz1 _).grown hgrow5 (by simp; omega) (fun b e => (HO.out.lt b e).1); clear hown5 hgrow5 hnil5 hat5))
        have HN : Hid (w5.ownsRow (w.heap.size + 1) 3 1 v5 (mkTo f (j + 1)).length ((mkTo f (j + 1)).map I)) := by
          show World.ownsRow _ _ _ _ _ _ _
          rw [HS2.out, List.length_append, List.map_append]
          exact HO5.out
        clear HO HO5 HB
        go_roundw
        case rel => exact ⟨j + 1, by omega, by go_num, HN, HB5⟩
        case measure => simp [intOf]; omega
    · have hji : ¬ (j : Int) ≤ 255 := by omega
      obtain rfl : j = 256 := by omega
      have HE : Hid (wr.ownsRow w.heap.size 3 1 u5 (mkTo f 256).length ((mkTo f 256).map I)) := by
        obtain ⟨h1, h2⟩ := HO.out
        refine ⟨h1, ?_⟩
        rcases h2 with h2 | ⟨g, cap, cur, e, hg, h3⟩
        · exact .inl h2
        · exact .inr ⟨g, cap, cur, e, by omega, h3⟩
      have HBE : Hid (Below w.heap.size w wr) := ((Below.refl _ _).alloc (Nat.le_refl _) _).trans (HB.out.mono (by omega))
      clear HO HB HC HX
      go_wp2
      go_ret
      exact ⟨u5, rfl, HE.out, HBE.out⟩
theorem listed_any (cs : Array Value) (m : Md) (k : Nat) (w : World) (h : MdCs w cs m) (hm : MdOk m) (hl : ∀ l ∈ m.lists, l.length ≤ 1048576) (hk : k < 8) :
    Calls Tryz.prog 44 #[.agg cs, I k] w fun e w' => LdOk w (m.listed k) e w' := by
  have hi2 : k / 4 < 2 := by omega
  have hcase : k % 4 = 0 ∨ k % 4 = 1 ∨ k % 4 = 2 ∨ k % 4 = 3 := by omega
  unfold Md.listed
  rcases hcase with hc | hc | hc | hc
  · rw [if_pos hc]
    exact listed0 cs k (k / 4) _ w hk hi2 (tdiv4 k) (by rw [tmod4, hc]; rfl) (h.sums _ hi2)
  · rw [if_neg (by omega), if_pos hc]
    have := listed1 cs k (k / 4) (m.sets.getD (k / 4) []) w hk hi2 (tdiv4 k) (by rw [tmod4, hc]; rfl) (fun v hv => h.sets _ v hi2 hv)
    have e : mkTo (m.sets.getD (k / 4) []) 256 = marked (m.sets.getD (k / 4) []) := by unfold mkTo marked; rw [marks_len hm _ hi2]
    rw [← e]
    exact this
  · rw [if_neg (by omega), if_neg (by omega), if_pos hc]
    exact listed2 cs k (k / 4) _ w hk hi2 (tdiv4 k) (by rw [tmod4, hc]; rfl) (h.regs _ hi2)
  · rw [if_neg (by omega), if_neg (by omega), if_neg (by omega)]
    obtain ⟨lv, e, hL⟩ := h.lists _ hi2
    refine listed3 cs k (k / 4) lv _ w hk hi2 (tdiv4 k) (by rw [tmod4, hc]; rfl) e hL ?_
    have h2 := hm.lists
    have e : m.lists.getD (k / 4) [] = m.lists[k / 4] := by simp [show k / 4 < m.lists.length by omega]
    rw [e]
    exact hl _ (List.getElem_mem _)

end Go.Proofs.YtfmcngncaffloaaGreatDoor

namespace Go.Proofs.YtfmcngncaffloaaGreatDoor
open Go.RowKit
set_option maxRecDepth 100000

/-! One writer's replica. -/
theorem see_pre {b b' : Wv.Bt} (ho : b'.o = b.o) (hs : b'.s = b.s) (ht : b'.t = b.t) {k : Int} {o : Ob} : ∀ n, (∀ j, j < n → b'.effs[j]? = b.effs[j]?) → seeTo b' k o n = seeTo b k o n
  | 0, _ => rfl
  | n + 1, h => by
    have ih := see_pre ho hs ht (k := k) (o := o) n (fun j hj => h j (by omega))
    rw [seeTo, seeTo, h n (by omega), ih]
    have e : stampB b' n = stampB b n := by unfold stampB; rw [ho, hs, ht]
    rw [e]
theorem see_snoc {R R' : Rp} {e : Wv.Ef} (hn : R'.n = R.n) (hc : R'.clock = R.clock) (ht : R'.time = R.time) (he : R'.effs = R.effs ++ [e]) (k : Int) (o : Ob) :
    seeTo (pendB R') k o R'.effs.length = if e.ob = k then (seeTo (pendB R) k o R.effs.length).take (stampB (pendB R) R.effs.length) e else seeTo (pendB R) k o R.effs.length := by
  have hl : R'.effs.length = R.effs.length + 1 := by rw [he]; simp
  have h1 : (pendB R').o = (pendB R).o := hn
  have h2 : (pendB R').s = (pendB R).s := by show R'.clock.getD R'.n.toNat 0 + 1 = _; rw [hn, hc]; rfl
  have h3 : (pendB R').t = (pendB R).t := by show R'.time + 1 = _; rw [ht]; rfl
  have h4 : (pendB R').effs[R.effs.length]? = some e := by show R'.effs[R.effs.length]? = _; rw [he]; simp
  have h5 := see_pre h1 h2 h3 (k := k) (o := o) R.effs.length (fun j hj => by show R'.effs[j]? = R.effs[j]?; rw [he, List.getElem?_append_left hj])
  have h6 : stampB (pendB R') R.effs.length = stampB (pendB R) R.effs.length := by unfold stampB; rw [h1, h2, h3]
  rw [hl, seeTo, h4]
  simp only [h5, h6]
/-- What a batch leaves of an object is what is seen of it. -/
theorem obs_see {b : Wv.Bt} {obs : List Ob} (hob : ∀ e ∈ b.effs, 0 ≤ e.ob) (k : Nat) (o : Ob) (hk : obs[k]? = some o) : ∀ n, (obsTo b obs n)[k]? = some (seeTo b k o n)
  | 0 => hk
  | n + 1 => by
    have ih := obs_see hob k o hk n
    rw [obsTo, seeTo]
    cases he : b.effs[n]? with
    | none => exact ih
    | some e =>
      have h0 := hob e (List.mem_of_getElem? he)
      simp only
      unfold stepOb
      by_cases hq : e.ob = k
      · have hq' : e.ob.toNat = k := by omega
        rw [if_pos hq, hq', ih]
        simp only
        rw [List.getElem?_set_self (List.getElem?_eq_some_iff.1 ih).1]
      · rw [if_neg hq]
        split
        · exact ih
        · rw [List.getElem?_set_ne (by omega)]; exact ih
theorem cov_pre {b b' : Wv.Bt} (ho : b'.o = b.o) (hs : b'.s = b.s) (hc : b'.clock = b.clock) (d : Wv.Dt) (i : Int) : Wv.cov b' d i = Wv.cov b d i := by
  unfold Wv.cov Wv.inD
  rw [ho, hs, hc]
theorem dotsTo_pre {b b' : Wv.Bt} (ho : b'.o = b.o) (hs : b'.s = b.s) (hc : b'.clock = b.clock) (i : Int) (ds : List Wv.Dt) : ∀ n, Wv.dotsTo b' i ds n = Wv.dotsTo b i ds n
  | 0 => rfl
  | n + 1 => by
    rw [Wv.dotsTo, Wv.dotsTo, dotsTo_pre ho hs hc i ds n]
    unfold Wv.dOk
    rw [cov_pre ho hs hc]
theorem effOk_pre {b b' : Wv.Bt} (ho : b'.o = b.o) (hs : b'.s = b.s) (hc : b'.clock = b.clock) (i : Int) (e : Wv.Ef) : Wv.effOk b' i e = Wv.effOk b i e := by
  unfold Wv.effOk Wv.refOk Wv.dotsOk
  rw [cov_pre ho hs hc, dotsTo_pre ho hs hc]
def owClk (n r seq : Nat) : List Int := (List.replicate n 0).set r (seq : Int)
theorem owClk_len (n r seq : Nat) : (owClk n r seq).length = n := by simp [owClk]
theorem owClk_at (n r seq : Nat) (h : r < n) : (owClk n r seq).getD r 0 = seq := getD_set_eq _ _ _ _ (by simpa using h)
theorem owClk_other (n r seq k : Nat) (h : r ≠ k) : (owClk n r seq).getD k 0 = 0 := by
  unfold owClk
  rw [getD_set_ne _ _ _ _ _ h, List.getD_eq_getElem?_getD, List.getElem?_replicate]
  split <;> rfl
theorem owClk_set (n r seq seq' : Nat) : (owClk n r seq).set r (seq' : Int) = owClk n r seq' := by unfold owClk; rw [List.set_set]
theorem owClk_sum : ∀ (n r seq : Nat), r < n → sumN (owClk n r seq) = seq
  | n + 1, 0, seq, _ => by
    show sumN ((seq : Int) :: List.replicate n 0) = seq
    have : ∀ n, sumN (List.replicate n 0) = 0 := fun n => by induction n with | zero => rfl | succ n ih => rw [List.replicate_succ]; show (0 : Int).toNat + _ = 0; rw [ih]; rfl
    show (seq : Int).toNat + sumN (List.replicate n 0) = seq
    rw [this]
    omega
  | n + 1, r + 1, seq, h => by
    have ih := owClk_sum n r seq (by omega)
    show sumN (0 :: (List.replicate n 0).set r (seq : Int)) = seq
    show (0 : Int).toNat + sumN (owClk n r seq) = seq
    rw [ih]
    simp
structure OwR (n r seq : Nat) (R : Rp) (now done : Md) : Prop where
  n2 : 2 ≤ n
  n4 : n ≤ 4
  rlt : r < n
  num : R.n = r
  clk : R.clock = owClk n r seq
  time : R.time = seq
  ok : Rok R
  el : R.effs.length ≤ 4
  eff : ∀ j (h : j < R.effs.length), Wv.effOk (pendB R) j R.effs[j] = true
  obs : ∀ k, k < 8 → ∃ o, R.obs[k]? = some o ∧ ObRel r (seq + 1) 0 done k o ∧ ObRel r (seq + 1) R.effs.length now k (seeTo (pendB R) k o R.effs.length)
  now : MdOk now
  done : MdOk done
section
variable {n r seq : Nat} {R : Rp} {now done : Md}
theorem OwR.bq (h : OwR n r seq R now done) : Bq (pendB R) r (seq + 1) := by
  have h1 := h.num; have h2 := h.clk; have h3 := h.rlt
  refine ⟨h1, ?_, by omega, ?_, ?_⟩
  · show R.clock.getD R.n.toNat 0 + 1 = seq + 1
    rw [h1, h2, Int.toNat_natCast, owClk_at n r seq h3]
  · show (r : Int) < R.clock.length
    rw [h2, owClk_len]; omega
  · show R.clock.getD (r : Int).toNat 0 = _
    rw [h2, Int.toNat_natCast, owClk_at n r seq h3]; omega
theorem OwR.t (h : OwR n r seq R now done) : (pendB R).t = seq + 1 := by show R.time + 1 = _; rw [h.time]
theorem effOk_op {b : Wv.Bt} {i : Int} {e : Wv.Ef} (h : Wv.effOk b i e = true) : 1 ≤ e.op ∧ e.op ≤ 6 ∧ 0 ≤ e.ob ∧ e.ob ≤ 7 ∧ -1000 ≤ e.va ∧ e.va ≤ 1000 ∧ (e.dots.length : Int) ≤ 150 := by
  unfold Wv.effOk Wv.isOp at h
  simp only [Bool.and_eq_true, decide_eq_true_eq] at h
  obtain ⟨⟨⟨⟨⟨⟨h1, h2⟩, ⟨⟨h3, h4⟩, _⟩⟩, h5, h6⟩, _⟩, h7, h8⟩, _⟩ := h
  have hop : e.op = 1 ∨ e.op = 2 ∨ e.op = 3 ∨ e.op = 4 ∨ e.op = 5 ∨ e.op = 6 := by omega
  refine ⟨h1, h2, h3, h4, ?_, ?_, ?_⟩
  · rcases hop with q | q | q | q | q | q <;> (rw [q] at h5; exact Int.le_trans (of_decide_eq_true rfl) h5)
  · rcases hop with q | q | q | q | q | q <;> (rw [q] at h6; exact Int.le_trans h6 (of_decide_eq_true rfl))
  · rcases hop with q | q | q | q | q | q <;> (rw [q] at h8; exact Int.le_trans h8 (of_decide_eq_true rfl))
theorem OwR.ev (h : OwR n r seq R now done) : ∀ e ∈ R.effs, 0 ≤ e.ob ∧ e.ob < 8 ∧ -1000 ≤ e.va ∧ e.va ≤ 1000 ∧ e.dots.length ≤ 1048576 := fun e he => by
  obtain ⟨j, hj, rfl⟩ := List.mem_iff_getElem.1 he
  have := effOk_op (h.eff j hj)
  omega
theorem OwR.up (h : OwR n r seq R now done) (hst : R.st ≠ 2) : Rup R := by
  have h1 := h.num; have h2 := h.rlt; have h3 := h.el
  refine ⟨h.ok, by omega, ?_, hst, by omega, h.ev⟩
  rw [h.clk, owClk_len, h1]; omega
theorem OwR.same {R' : Rp} (h : OwR n r seq R now done) (e0 : R'.n = R.n) (e1 : R'.obs = R.obs) (e2 : R'.clock = R.clock) (e3 : R'.log = R.log) (e4 : R'.held = R.held) (e5 : R'.time = R.time) (e6 : R'.effs = R.effs) : OwR n r seq R' now done := by
  have eb : pendB R' = pendB R := by unfold pendB; rw [e0, e2, e5, e6]
  refine ⟨h.n2, h.n4, h.rlt, by rw [e0]; exact h.num, by rw [e2]; exact h.clk, by rw [e5]; exact h.time, h.ok.same e1 e2 e3 e4 e5, by rw [e6]; exact h.el, ?_, ?_, h.now, h.done⟩
  · rw [eb]; simp only [e6]; exact h.eff
  · rw [eb, e1, e6]; exact h.obs
theorem OwR.see (h : OwR n r seq R now done) (k : Nat) (hk : k < 8) : ∃ o, R.obs[k]? = some o ∧ (seeTo (pendB R) k o R.effs.length).tells = now.listed k := by
  obtain ⟨o, h1, _, h2⟩ := h.obs k hk
  exact ⟨o, h1, h2.tells⟩
theorem OwR.head (h : OwR n r seq R now done) (hs : seq < 30) (he : R.effs ≠ []) : Wv.isB (pendB R) = true := by
  have h1 := h.num; have h2 := h.rlt; have h3 := h.el; have h4 := h.n2; have h5 := h.n4
  have hb := h.bq
  have ho : (pendB R).o = r := hb.o
  have hsq : (pendB R).s = seq + 1 := hb.sq
  have ht := h.t
  have hc : (pendB R).clock = owClk n r seq := h.clk
  have hl : (pendB R).clock.length = n := by rw [hc, owClk_len]
  have hpos : 0 < R.effs.length := List.length_pos_iff.2 he
  have hel : (pendB R).effs.length = R.effs.length := rfl
  unfold Wv.isB Wv.headOk
  rw [Bool.and_eq_true]
  constructor
  · simp only [Bool.and_eq_true, decide_eq_true_eq]
    refine ⟨⟨⟨⟨⟨⟨by omega, by omega⟩, by omega, by omega⟩, by omega, by omega⟩, by omega, by omega⟩, by omega, by omega⟩, ?_⟩
    have hall : ∀ m, m ≤ n → Wv.clkTo (pendB R) m = true := by
      intro m
      induction m with
      | zero => intro _; rfl
      | succ m ih =>
        intro hm
        rw [Wv.clkTo, ih (by omega), Bool.true_and]
        unfold Wv.cOk
        rw [hc, ho, hsq]
        by_cases hq : r = m
        · subst hq
          rw [owClk_at n r seq h2]
          simp
          omega
        · rw [owClk_other n r seq m hq]
          simp
          omega
    unfold Wv.clkOk
    rw [hl]
    exact hall n (Nat.le_refl _)
  · have hall : ∀ m, m ≤ R.effs.length → Wv.effsTo (pendB R) m = true := by
      intro m
      induction m with
      | zero => intro _; rfl
      | succ m ih =>
        intro hm
        rw [Wv.effsTo, ih (by omega), Bool.true_and]
        have e : (pendB R).effs.getD m ⟨0, 0, 0, ⟨0, 0, 0⟩, []⟩ = R.effs[m] := by show R.effs.getD m _ = _; simp [show m < R.effs.length by omega]
        rw [e]
        exact h.eff m (by omega)
    exact hall _ (Nat.le_refl _)
/-- An operation. -/
theorem OwR.step (h : OwR n r seq R now done) (hs : seq < 30) (hl : R.effs.length < 4) (op : Int) (ix : Nat) (x y : Int) (hc : Can now op ix x y) :
    ∃ o, R.obs[4 * ix + kOf op]? = some o ∧ ((seeTo (pendB R) ((4 * ix + kOf op : Nat) : Int) o R.effs.length).answer op x y).err = 0 ∧
    ((((seeTo (pendB R) ((4 * ix + kOf op : Nat) : Int) o R.effs.length).answer op x y).ds.length : Int) < Wv.rLeastD op ∧ OwR n r seq R (now.step op ix x y) done ∨
     ¬ (((seeTo (pendB R) ((4 * ix + kOf op : Nat) : Int) o R.effs.length).answer op x y).ds.length : Int) < Wv.rLeastD op ∧ ¬ (((seeTo (pendB R) ((4 * ix + kOf op : Nat) : Int) o R.effs.length).answer op x y).ds.length : Int) > Wv.rMostD op ∧ OwR n r seq (putR R op (4 * ix + kOf op) x y o) (now.step op ix x y) done) := by
  have hop : op = 1 ∨ op = 2 ∨ op = 3 ∨ op = 4 ∨ op = 5 ∨ op = 6 := by have := hc.op1; have := hc.op6; omega
  have hix := hc.lt2
  have hkk : kOf op < 4 := by rcases hop with rfl | rfl | rfl | rfl | rfl | rfl <;> exact of_decide_eq_true rfl
  obtain ⟨o, h1, h2, h3⟩ := h.obs (4 * ix + kOf op) (by omega)
  refine ⟨o, h1, ?_⟩
  have hbd : (seeTo (pendB R) ((4 * ix + kOf op : Nat) : Int) o R.effs.length).bound 150 := by
    have hb := see_bound (b := pendB R) (k := ((4 * ix + kOf op : Nat) : Int)) (h.ok.bd o (List.mem_of_getElem? h1)) (fun e he => by have := h.ev e he; omega) R.effs.length (Nat.le_refl _)
    refine Ob.bound_mono hb ?_
    rw [h.clk, owClk_sum n r seq h.rlt]
    omega
  have hst := step_own h.bq (by omega) (by omega) (by omega) h.now op ix x y hc h3 hbd
  obtain ⟨q1, q2⟩ := hst
  have hmd : MdOk (now.step op ix x y) := by
    have hn := h.now
    rcases hop with rfl | rfl | rfl | rfl | rfl | rfl
    · exact ⟨by show (now.sums.set _ _).length = 2; rw [List.length_set]; exact hn.sums, hn.sets, hn.sets0, hn.regs, hn.lists⟩
    · refine ⟨hn.sums, by show (now.sets.set _ _).length = 2; rw [List.length_set]; exact hn.sets, fun l hq => ?_, hn.regs, hn.lists⟩
      rcases List.mem_or_eq_of_mem_set hq with hq | rfl
      · exact hn.sets0 l hq
      · rw [List.length_set]; exact marks_len hn ix hix
    · refine ⟨hn.sums, by show (now.sets.set _ _).length = 2; rw [List.length_set]; exact hn.sets, fun l hq => ?_, hn.regs, hn.lists⟩
      rcases List.mem_or_eq_of_mem_set hq with hq | rfl
      · exact hn.sets0 l hq
      · rw [List.length_set]; exact marks_len hn ix hix
    · exact ⟨hn.sums, hn.sets, hn.sets0, by show (now.regs.set _ _).length = 2; rw [List.length_set]; exact hn.regs, hn.lists⟩
    · exact ⟨hn.sums, hn.sets, hn.sets0, hn.regs, by show (now.lists.set _ _).length = 2; rw [List.length_set]; exact hn.lists⟩
    · exact ⟨hn.sums, hn.sets, hn.sets0, hn.regs, by show (now.lists.set _ _).length = 2; rw [List.length_set]; exact hn.lists⟩
  refine ⟨q1, ?_⟩
  rcases q2 with ⟨q2, q3⟩ | ⟨q2, q3, q4, q5⟩
  · refine .inl ⟨q2, h.n2, h.n4, h.rlt, h.num, h.clk, h.time, h.ok, h.el, h.eff, fun k hk => ?_, hmd, h.done⟩
    by_cases hq : k = 4 * ix + kOf op
    · subst hq; exact ⟨o, h1, h2, q3⟩
    · obtain ⟨o', g1, g2, g3⟩ := h.obs k hk
      exact ⟨o', g1, g2, g3.apart op ix x y hq hc.op1 hc.op6⟩
  · refine .inr ⟨q2, q3, ?_⟩
    have hp : (putR R op (4 * ix + kOf op) x y o).effs = R.effs ++ [syE op ((4 * ix + kOf op : Nat) : Int) ((seeTo (pendB R) ((4 * ix + kOf op : Nat) : Int) o R.effs.length).answer op x y)] := rfl
    refine ⟨h.n2, h.n4, h.rlt, h.num, h.clk, h.time, h.ok.same rfl rfl rfl rfl rfl, by rw [hp, List.length_append]; show R.effs.length + 1 ≤ 4; omega, ?_, fun k hk => ?_, hmd, h.done⟩
    · intro j hj
      simp only [hp] at hj ⊢
      by_cases hq : j < R.effs.length
      · rw [List.getElem_append_left hq, effOk_pre (b := pendB R) (b' := pendB (putR R op (4 * ix + kOf op) x y o)) rfl rfl rfl]; exact h.eff j hq
      · have hj' : j = R.effs.length := by simp at hj; omega
        subst hj'
        rw [List.getElem_append_right (Nat.le_refl _)]
        simp only [Nat.sub_self, List.getElem_cons_zero]
        rw [effOk_pre (b := pendB R) (b' := pendB (putR R op (4 * ix + kOf op) x y o)) rfl rfl rfl]
        exact q4
    · have hlen : (putR R op (4 * ix + kOf op) x y o).effs.length = R.effs.length + 1 := by rw [hp, List.length_append]; rfl
      obtain ⟨o', g1, g2, g3⟩ := h.obs k hk
      refine ⟨o', g1, g2, ?_⟩
      have hs := see_snoc (R := R) (R' := putR R op (4 * ix + kOf op) x y o) rfl rfl rfl hp k o'
      rw [hs, hlen]
      by_cases hq : k = 4 * ix + kOf op
      · subst hq
        obtain rfl : o' = o := by rw [h1] at g1; exact (Option.some.inj g1).symm
        rw [if_pos (show (syE op ((4 * ix + kOf op : Nat) : Int) ((seeTo (pendB R) ((4 * ix + kOf op : Nat) : Int) o' R.effs.length).answer op x y)).ob = ((4 * ix + kOf op : Nat) : Int) from rfl)]
        have e : stampB (pendB R) R.effs.length = ⟨⟨r, seq + 1, R.effs.length⟩, seq + 1⟩ := by
          unfold stampB; rw [h.bq.o, h.bq.sq, h.t]
        rw [e, Int.natCast_add]
        exact q5
      · rw [if_neg (by show ¬ ((4 * ix + kOf op : Nat) : Int) = (k : Int); omega), Int.natCast_add]
        exact (g3.apart op ix x y hq hc.op1 hc.op6).mono (.inr ⟨rfl, by omega⟩)
/-- Its end without effects. -/
theorem OwR.abort (h : OwR n r seq R now done) : OwR n r seq (endR R) done done :=
  ⟨h.n2, h.n4, h.rlt, h.num, h.clk, h.time, h.ok.same rfl rfl rfl rfl rfl, by simp [endR], fun j hj => (by simp [endR] at hj), fun k hk => by
    obtain ⟨o, h1, h2, _⟩ := h.obs k hk
    exact ⟨o, h1, h2, h2⟩, h.done, h.done⟩
theorem OwR.none (h : OwR n r seq R now done) (he : R.effs = []) : OwR n r seq (endR R) now now :=
  ⟨h.n2, h.n4, h.rlt, h.num, h.clk, h.time, h.ok.same rfl rfl rfl rfl rfl, by simp [endR], fun j hj => (by simp [endR] at hj), fun k hk => by
    obtain ⟨o, h1, _, h2⟩ := h.obs k hk
    rw [he] at h2
    exact ⟨o, h1, h2, h2⟩, h.now, h.now⟩
/-- Its end with effects. -/
theorem OwR.commit (h : OwR n r seq R now done) (hs : seq < 30) (he : R.effs ≠ []) : OwR n r (seq + 1) (commitS R) now now ∧ (commitS R).st = 0 := by
  have hb := h.head hs he
  have h2 := h.rlt
  have hob : ∀ e ∈ (pendB R).effs, 0 ≤ e.ob := fun e hq => (h.ev e hq).1
  refine ⟨⟨h.n2, h.n4, h2, h.num, ?_, ?_, h.ok.commit hb, by show 0 ≤ 4; omega, fun j hj => (by simp [commitS, commitR, deliverR, endR, syncR] at hj), fun k hk => ?_, h.now, h.now⟩, rfl⟩
  · show R.clock.set (pendB R).o.toNat (pendB R).s = _
    rw [h.bq.o, h.bq.sq, h.clk, Int.toNat_natCast]
    exact owClk_set n r seq (seq + 1)
  · show max R.time (pendB R).t = _
    rw [h.t, h.time]; omega
  · obtain ⟨o, h1, _, h3⟩ := h.obs k hk
    have h4 := obs_see (b := pendB R) hob k o h1 (pendB R).effs.length
    have h5 : ObRel r ((seq + 1 : Nat) + 1) 0 now k (seeTo (pendB R) k o R.effs.length) := h3.mono (.inl (by omega))
    exact ⟨_, h4, h5, h5⟩
/-- No operation yet. -/
def md0 : Md := ⟨[0, 0], [List.replicate 256 false, List.replicate 256 false], [-1, -1], [[], []]⟩
theorem md0_ok : MdOk md0 := ⟨rfl, rfl, fun l hl => by
  simp only [md0, List.mem_cons, List.not_mem_nil, or_false, or_self] at hl
  rw [hl, List.length_replicate], rfl, rfl⟩
theorem set0 : SetRel [] (List.replicate 256 false) := by
  intro x
  constructor
  · rintro ⟨d, hd⟩; cases hd
  · rintro ⟨_, h⟩
    rw [List.getD_eq_getElem?_getD, List.getElem?_replicate] at h
    split at h <;> simp at h
theorem ob0 (r s i : Int) (k : Nat) (hk : k < 8) : ∃ o, (newR 0 0).obs[k]? = some o ∧ ObRel r s i md0 k o := by
  have ls0 : LsO r s i [] := ⟨fun _ h => (by cases h), fun _ h => (by cases h), by simp⟩
  have hk' : k = 0 ∨ k = 1 ∨ k = 2 ∨ k = 3 ∨ k = 4 ∨ k = 5 ∨ k = 6 ∨ k = 7 := by omega
  rcases hk' with rfl | rfl | rfl | rfl | rfl | rfl | rfl | rfl
  · exact ⟨_, rfl, rfl, rfl⟩
  · exact ⟨_, rfl, rfl, LvO.nil _ _ _, set0⟩
  · exact ⟨_, rfl, rfl, LvO.nil _ _ _, .inr ⟨of_decide_eq_true rfl, rfl⟩⟩
  · exact ⟨_, rfl, rfl, ls0, rfl⟩
  · exact ⟨_, rfl, rfl, rfl⟩
  · exact ⟨_, rfl, rfl, LvO.nil _ _ _, set0⟩
  · exact ⟨_, rfl, rfl, LvO.nil _ _ _, .inr ⟨of_decide_eq_true rfl, rfl⟩⟩
  · exact ⟨_, rfl, rfl, ls0, rfl⟩
theorem OwR.new (h2 : 2 ≤ n) (h4 : n ≤ 4) (hr : r < n) : OwR n r 0 (newR r n) md0 md0 := by
  refine ⟨h2, h4, hr, rfl, ?_, rfl, Rok.new r n h4, by simp [newR], fun j hj => (by simp [newR] at hj), fun k hk => ?_, md0_ok, md0_ok⟩
  · show List.replicate n 0 = (List.replicate n 0).set r ((0 : Nat) : Int)
    refine List.ext_getElem? (fun j => ?_)
    by_cases hq : r = j
    · subst hq
      rw [List.getElem?_set_self (by simpa using hr), List.getElem?_replicate, if_pos hr]
      rfl
    · rw [List.getElem?_set_ne hq]
  · obtain ⟨o, h1, h3⟩ := ob0 r (0 + 1) 0 k hk
    exact ⟨o, h1, h3, h3⟩
end

end Go.Proofs.YtfmcngncaffloaaGreatDoor

namespace Go.Proofs.YtfmcngncaffloaaGreatDoor
open Go.RowKit
set_option maxRecDepth 100000

set_option maxHeartbeats 3200000 in
/-- The replica tells of every object what the model does. -/
theorem tells_any (cs : Array Value) (m : Md) (s r : Nat) (w : World) (h : MdCs w cs m) (hm : MdOk m) (hl : ∀ l ∈ m.lists, l.length ≤ 1048576) (hlen : ∀ k, k < 8 → (m.listed k).length ≤ 1048576)
    (hR : ∀ (w' : World) (k : Nat), Below w.heap.size w w' → k < 8 → Calls Tryz.prog 31 #[.pointer (some ⟨s, 0, none⟩), I r, I k] w' fun e w'' => ReadOk w' (m.listed k) e w'') :
    Calls Tryz.prog 19 #[.agg cs, .pointer (some ⟨s, 0, none⟩), I r] w fun e w' => e = .returned (.bool true) ∧ Below w.heap.size w w' := by
  have HX : Hid (Blk (wM w cs) w.heap.size cs 37) := heap_alloc_new w _
  have HB0 : Hid (Below (w.heap.size + 1) (wM w cs) (wM w cs)) := Below.refl _ _
  have HBM : Hid (Below w.heap.size w (wM w cs)) := (Below.refl _ _).alloc (Nat.le_refl _) _
  have HM : Hid (MdCs w cs m) := h
  have HLD : Hid (∀ w' (k : Nat), Below w.heap.size w w' → k < 8 → Calls Tryz.prog 44 #[.agg cs, I k] w' fun e w'' => LdOk w' (m.listed k) e w'') := fun w' k hb hk => listed_any cs m k w' (h.kept hb) hm hl hk
  have HRD : Hid (∀ (w' : World) (k : Nat), Below w.heap.size w w' → k < 8 → Calls Tryz.prog 31 #[.pointer (some ⟨s, 0, none⟩), I r, I k] w' fun e w'' => ReadOk w' (m.listed k) e w'') := hR
  have HLN : Hid (∀ k, k < 8 → (m.listed k).length ≤ 1048576) := hlen
  have HSZ : Hid ((Tryz.prog.info? 37).map (·.size) = some cs.size) := by show _ = _; rw [infoMd, h.size]
  clear h hm hl hlen hR
  go_enter Tryz.func19, Tryz.ntmps19
  go_wp2_with fail
  go_loopw [7] (fun x wr => ∃ k : Nat, k ≤ 8 ∧ x = I k ∧ Hid (Below (w.heap.size + 1) (wM w cs) wr)) (fun x _ => 8 - (intOf x).toNat)
  case atStart => exact ⟨0, by omega, rfl, HB0⟩
  case round =>
    obtain ⟨k, hk, rfl, HB⟩ := hrel
    clear HB0
    by_cases hlt : k < 8
    · have hki : (k : Int) < 8 := by omega
      have hBw : Below w.heap.size w wr := HBM.out.trans (HB.out.mono (by omega))
      have HBw : Hid (Below w.heap.size w wr) := hBw
      have HC := HRD.out wr k hBw hlt
      have HLK : Hid ((m.listed k).length ≤ 1048576) := HLN.out k hlt
      have HLC : Hid (∀ w', Below w.heap.size w w' → Calls Tryz.prog 44 #[.agg cs, I k] w' fun e w'' => LdOk w' (m.listed k) e w'') := fun w' hb => HLD.out w' k hb hlt
      have hz1 : w.heap.size + 1 ≤ wr.heap.size := by have := HB.out.size; simpa using this
      clear HLN HRD HLD hBw
      generalize m.listed k = l at *
      go_wp2_with fail
      refine HC.mono ?_
      rintro e w2 ⟨v2, rfl, hrow2, hb2⟩
      obtain ⟨a2, c2, rfl, hA2, _⟩ := own_list hrow2
      have HA2 : Hid (At w2 a2 (l.map I)) := hA2
      have HB2 : Hid (Below (w.heap.size + 1) (wM w cs) w2) := HB.out.trans (hb2.mono hz1)
      have HX2 : Hid (Blk w2 w.heap.size cs 37) := HX.out.kept HB2.out (by omega)
      have HC2 := HLC.out w2 (HBM.out.trans (HB2.out.mono (by omega)))
      have hz2 : w.heap.size + 1 ≤ w2.heap.size := by have := HB2.out.size; simpa using this
      clear HC hrow2 hA2 hb2 HLC HB
      go_wp2_with (first | (refine wpList_load_row rfl 37 _ rfl w.heap.size rfl 37 cs (0, 0) _ HX2.out Tryz.underlying37 rfl HSZ.out ?_))
      refine HC2.mono ?_
      rintro e w3 ⟨v3, rfl, hrow3, hb3⟩
      obtain ⟨a3, c3, rfl, hA3, _⟩ := own_list hrow3
      have HB3 : Hid (Below (w.heap.size + 1) (wM w cs) w3) := HB2.out.trans (hb3.mono hz2)
      have hz3 : w.heap.size + 1 ≤ w3.heap.size := by have := HB3.out.size; simpa using this
      have HE : Hid (Calls Tryz.prog 32 #[.slice a2 l.length c2, .slice a3 l.length c3] w3 fun e w' => e = .returned (.bool true) ∧ Below w3.heap.size w3 w') := by
        have := equal_any l l a2 a3 c2 c3 w3 (HA2.out.kept hb3) hA3 HLK.out
        rw [decide_eq_true rfl] at this
        exact this
      clear HC2 hrow3 hA3 hb3 HA2 HX2 HB2
      go_wp2_with fail
      refine HE.out.mono ?_
      rintro e w4 ⟨rfl, hb4⟩
      have HB4 : Hid (Below (w.heap.size + 1) (wM w cs) w4) := HB3.out.trans (hb4.mono hz3)
      clear HE hb4 HB3
      go_wp2_with fail
      go_roundw
      case rel => exact ⟨k + 1, by omega, by go_num, HB4⟩
      case measure => simp [intOf]; omega
    · have hki : ¬ (k : Int) < 8 := by omega
      have HBE : Hid (Below w.heap.size w wr) := HBM.out.trans (HB.out.mono (by omega))
      clear HB HX HM HLD HRD HLN HSZ HBM
      go_wp2
      go_ret
      exact ⟨rfl, HBE.out⟩

end Go.Proofs.YtfmcngncaffloaaGreatDoor

namespace Go.Proofs.YtfmcngncaffloaaGreatDoor
open Go.RowKit
set_option maxRecDepth 100000

/-- Blocks that a call of the model's leaves as they were, but for the model's own. -/
structure AcOk (w : World) (p : Nat) (cs : Array Value) (m : Md) (w' : World) : Prop where
  tch : Tch (fun k => k = p) w w'
  blk : ∃ cs', Blk w' p cs' 37 ∧ MdCs w' cs' m ∧ ∀ i, i < 2 → ∀ b q n c, cs'[516 + i]? = some (.slice (some ⟨b, q, none⟩) n c) → w.heap.size ≤ b ∨ cs[516 + i]? = some (.slice (some ⟨b, q, none⟩) n c)
theorem alloc3_cell {w : World} {p j : Nat} {v : Value} (h : w.cell? ⟨p, j, none⟩ = some v) (o1 o2 o3 : Obj) : (((w.alloc o1).alloc o2).alloc o3).cell? ⟨p, j, none⟩ = some v :=
  cell_kept (((Below.refl w.heap.size w).alloc (Nat.le_refl _) o1).alloc (by simp) o2 |>.alloc (by simp; omega) o3) h
abbrev zA : Array Value := #[.int .i64 0, .int .i64 0, .int .i64 0, .int .i64 0, .int .i64 0]
/-- The operation's raw numbers, the answer's place, the operation that is made. -/
abbrev wA3 (w : World) (op ob x y z c0 c1 c2 c3 : Int) : World := ((w.alloc (.cells #[I op, I ob, I x, I y, I z] 41)).alloc (.cells zA 41)).alloc (.cells #[I c0, I c1, I c2, I c3, I 0] 41)
abbrev putA5 (w : World) (R : Nat) (a0 a1 a2 a3 a4 : Value) : World := ((((w.setCell ⟨R, 0, none⟩ a0).setCell ⟨R, 1, none⟩ a1).setCell ⟨R, 2, none⟩ a2).setCell ⟨R, 3, none⟩ a3).setCell ⟨R, 4, none⟩ a4
theorem putA5_blk {w : World} {R : Nat} {t : TypeId} (h : Blk w R zA t) (a0 a1 a2 a3 a4 : Value) : Blk (putA5 w R a0 a1 a2 a3 a4) R #[a0, a1, a2, a3, a4] t := ((((h.set 0 a0).set 1 a1).set 2 a2).set 3 a3).set 4 a4
theorem putA5_other {w : World} {R p : Nat} {t : TypeId} {cs : Array Value} (h : Blk w p cs t) (hne : p ≠ R) (a0 a1 a2 a3 a4 : Value) : Blk (putA5 w R a0 a1 a2 a3 a4) p cs t := ((((h.other hne a0).other hne a1).other hne a2).other hne a3).other hne a4
theorem putA5_tch {F : Nat → Prop} {w0 w : World} {R : Nat} (h : Tch F w0 w) (hR : w0.heap.size ≤ R) (a0 a1 a2 a3 a4 : Value) : Tch F w0 (putA5 w R a0 a1 a2 a3 a4) := ((((h.setCell ⟨R, 0, none⟩ a0 (Or.inr hR)).setCell ⟨R, 1, none⟩ a1 (Or.inr hR)).setCell ⟨R, 2, none⟩ a2 (Or.inr hR)).setCell ⟨R, 3, none⟩ a3 (Or.inr hR)).setCell ⟨R, 4, none⟩ a4 (Or.inr hR)
/-- The world behind the operation, ahead of the answer. -/
structure Ac5 (w w5 : World) (p : Nat) (cs : Array Value) (c0 c1 c2 c3 : Int) : Prop where
  tch : Tch (fun k => k = p) w w5
  blk : Blk w5 p cs 37
  res : Blk w5 (w.heap.size + 1) zA 41
  opr : Blk w5 (w.heap.size + 1 + 1) #[I c0, I c1, I c2, I c3, I 0] 41
  lt : p < w.heap.size
theorem ac5 {w : World} {p : Nat} {cs : Array Value} (h : Blk w p cs 37) (op ob x y z c0 c1 c2 c3 : Int) (j : Nat) (v : Value) : Ac5 w (((wA3 w op ob x y z c0 c1 c2 c3).setCell ⟨p, j, none⟩ v).drew) p (cs.setIfInBounds j v) c0 c1 c2 c3 := by
  have hlt := h.lt
  have hB : Below w.heap.size w (wA3 w op ob x y z c0 c1 c2 c3) := (((Below.refl w.heap.size w).alloc (Nat.le_refl _) _).alloc (by simp) _).alloc (by simp; omega) _
  have h2 : Blk (wA3 w op ob x y z c0 c1 c2 c3) (w.heap.size + 1) zA 41 := (Blk.second w _ zA _).alloc _
  have h3 : Blk (wA3 w op ob x y z c0 c1 c2 c3) (w.heap.size + 1 + 1) #[I c0, I c1, I c2, I c3, I 0] 41 := by
    have := heap_alloc_new ((w.alloc (.cells #[I op, I ob, I x, I y, I z] 41)).alloc (.cells zA 41)) (.cells #[I c0, I c1, I c2, I c3, I 0] 41)
    simpa [Blk] using this
  exact ⟨((Tch.below (F := fun k => k = p) hB).setCell ⟨p, j, none⟩ v (Or.inl rfl)).drew, ((h.kept hB hlt).set j v).drew, (h2.other (by show _ ≠ p; omega) v).drew, (h3.other (by show _ ≠ p; omega) v).drew, hlt⟩
/-- What act leaves. -/
def ActOk (w : World) (p : Nat) (cs : Array Value) (c0 c1 c2 c3 : Int) (so : Bool) (e : Ending) (w' : World) : Prop := e = .returned (.tuple #[.agg #[I c0, I c1, I c2, I c3, I 0], .bool so]) ∧ Tch (fun k => k = p) w w' ∧ Blk w' p cs 37
theorem Ac5.fin {w w5 : World} {p : Nat} {cs : Array Value} {c0 c1 c2 c3 : Int} (h : Ac5 w w5 p cs c0 c1 c2 c3) : Tch (fun k => k = p) w (putA5 w5 (w.heap.size + 1) (I c0) (I c1) (I c2) (I c3) (I 0)) ∧ Blk (putA5 w5 (w.heap.size + 1) (I c0) (I c1) (I c2) (I c3) (I 0)) p cs 37 ∧ Blk (putA5 w5 (w.heap.size + 1) (I c0) (I c1) (I c2) (I c3) (I 0)) (w.heap.size + 1) #[I c0, I c1, I c2, I c3, I 0] 41 :=
  ⟨putA5_tch h.tch (by omega) _ _ _ _ _, putA5_other h.blk (by have := h.lt; omega) _ _ _ _ _, putA5_blk h.res _ _ _ _ _⟩
set_option maxHeartbeats 3200000 in
theorem act1 (p : Nat) (cs : Array Value) (s : Int) (op ob x y z : Int) (ix : Nat) (w : World) (h : Blk w p cs 37) (hix : ix < 2) (hc : cs[ix]? = some (I s)) (hs : -1000000000 ≤ s ∧ s ≤ 1000000000)
    (b1 : -9223372036854775808 ≤ op ∧ op ≤ 9223372036854775807) (b2 : -9223372036854775808 ≤ ob ∧ ob ≤ 9223372036854775807) (b3 : -9223372036854775808 ≤ x ∧ x ≤ 9223372036854775807) (h6 : Wv.pk op 6 = 0) (h2 : Wv.pk ob 2 = ix) :
    Calls Tryz.prog 17 #[.pointer (some ⟨p, 0, none⟩), .agg #[I op, I ob, I x, I y, I z]] w fun e w' => ActOk w p (cs.setIfInBounds ix (I (s + (Wv.pk x 2001 - 1000)))) 1 (4 * ix) (Wv.pk x 2001 - 1000) 0 true e w' := by
  have HP1 : Hid (∀ w', Calls Tryz.prog 13 #[I op, I 6] w' fun e w'' => e = .returned (I 0) ∧ w'' = w') := fun w' => by rw [← h6]; exact pick_any op 6 w' b1 ⟨by decide, by decide⟩
  have HP2 : Hid (∀ w', Calls Tryz.prog 13 #[I ob, I 2] w' fun e w'' => e = .returned (I ix) ∧ w'' = w') := fun w' => by rw [← h2]; exact pick_any ob 2 w' b2 ⟨by decide, by decide⟩
  have HP3 : Hid (∀ w', Calls Tryz.prog 13 #[I x, I 2001] w' fun e w'' => e = .returned (I (Wv.pk x 2001)) ∧ w'' = w') := fun w' => pick_any x 2001 w' b3 ⟨by decide, by decide⟩
  obtain ⟨a0, a1⟩ := Wv.pk_lt x 2001 (by decide)
  generalize Wv.pk x 2001 = xx at *
  have hlt := h.lt
  have e1 : ∀ o1 o2 o3, (((w.alloc o1).alloc o2).alloc o3).cell? ⟨p, ix, none⟩ = some (I s) := alloc3_cell ((h.cell ix).trans hc)
  have z1 : ∀ o1 o2 o3, (((w.alloc o1).alloc o2).alloc o3).frozen? ⟨p, ix, none⟩ = false := fun o1 o2 o3 => ((h.alloc o1).alloc o2 |>.alloc o3).frozen ix
  have HH : Hid (Blk w p cs 37) := h
  clear h b1 b2 b3 h6 h2 hc
  go_enter Tryz.func17, Tryz.ntmps17
  go_wp2_with fail
  refine (HP1.out _).mono ?_
  rintro e w2 ⟨rfl, hw2⟩
  subst hw2
  go_wp2_with fail
  refine (HP2.out _).mono ?_
  rintro e w3 ⟨rfl, hw3⟩
  subst hw3
  go_wp2_with fail
  refine (HP3.out _).mono ?_
  rintro e w3 ⟨rfl, hw3⟩
  subst hw3
  go_wp2_with fail
  go_region
  obtain ⟨w5, hw5⟩ : ∃ w5, w5 = ((wA3 w op ob x y z 1 (4 * ix) (xx - 1000) 0).setCell ⟨p, ix, none⟩ (I (s + (xx - 1000)))).drew := ⟨_, rfl⟩
  have H5 : Hid (Ac5 w w5 p (cs.setIfInBounds ix (I (s + (xx - 1000)))) 1 (4 * ix) (xx - 1000) 0) := by rw [hw5]; exact ac5 HH.out op ob x y z 1 (4 * ix) (xx - 1000) 0 ix _
  change Exit.inBlock 0 _ Exit.normal _ (((wA3 w op ob x y z 1 (4 * ix) (xx - 1000) 0).setCell ⟨p, ix, none⟩ (I (s + (xx - 1000)))).drew)
  rw [← hw5]
  have c0 : w5.cell? ⟨w.heap.size + 1 + 1, 0, none⟩ = some (I 1) := H5.out.opr.cell 0
  have c1 : w5.cell? ⟨w.heap.size + 1 + 1, 1, none⟩ = some (I (4 * ix)) := H5.out.opr.cell 1
  have c2 : w5.cell? ⟨w.heap.size + 1 + 1, 2, none⟩ = some (I (xx - 1000)) := H5.out.opr.cell 2
  have c3 : w5.cell? ⟨w.heap.size + 1 + 1, 3, none⟩ = some (I 0) := H5.out.opr.cell 3
  have c4 : w5.cell? ⟨w.heap.size + 1 + 1, 4, none⟩ = some (I 0) := H5.out.opr.cell 4
  have d0 : w5.cell? ⟨w.heap.size + 1, 0, none⟩ = some (.int .i64 0) := H5.out.res.cell 0
  have d1 : w5.cell? ⟨w.heap.size + 1, 1, none⟩ = some (.int .i64 0) := H5.out.res.cell 1
  have d2 : w5.cell? ⟨w.heap.size + 1, 2, none⟩ = some (.int .i64 0) := H5.out.res.cell 2
  have d3 : w5.cell? ⟨w.heap.size + 1, 3, none⟩ = some (.int .i64 0) := H5.out.res.cell 3
  have d4 : w5.cell? ⟨w.heap.size + 1, 4, none⟩ = some (.int .i64 0) := H5.out.res.cell 4
  have zf : ∀ j, w5.frozen? ⟨w.heap.size + 1, j, none⟩ = false := fun j => H5.out.res.frozen j
  clear hw5 e1 z1 HH HP1 HP2 HP3
  obtain ⟨t5, t6, t7⟩ := H5.out.fin
  have f0 : (putA5 w5 (w.heap.size + 1) (I 1) (I (4 * ix)) (I (xx - 1000)) (I 0) (I 0)).cell? ⟨w.heap.size + 1, 0, none⟩ = some (I 1) := t7.cell 0
  have f1 : (putA5 w5 (w.heap.size + 1) (I 1) (I (4 * ix)) (I (xx - 1000)) (I 0) (I 0)).cell? ⟨w.heap.size + 1, 1, none⟩ = some (I (4 * ix)) := t7.cell 1
  have f2 : (putA5 w5 (w.heap.size + 1) (I 1) (I (4 * ix)) (I (xx - 1000)) (I 0) (I 0)).cell? ⟨w.heap.size + 1, 2, none⟩ = some (I (xx - 1000)) := t7.cell 2
  have f3 : (putA5 w5 (w.heap.size + 1) (I 1) (I (4 * ix)) (I (xx - 1000)) (I 0) (I 0)).cell? ⟨w.heap.size + 1, 3, none⟩ = some (I 0) := t7.cell 3
  have f4 : (putA5 w5 (w.heap.size + 1) (I 1) (I (4 * ix)) (I (xx - 1000)) (I 0) (I 0)).cell? ⟨w.heap.size + 1, 4, none⟩ = some (I 0) := t7.cell 4
  have HT : Hid (Tch (fun k => k = p) w (putA5 w5 (w.heap.size + 1) (I 1) (I (4 * ix)) (I (xx - 1000)) (I 0) (I 0)) ∧ Blk (putA5 w5 (w.heap.size + 1) (I 1) (I (4 * ix)) (I (xx - 1000)) (I 0) (I 0)) p (cs.setIfInBounds ix (I (s + (xx - 1000)))) 37) := ⟨t5, t6⟩
  clear t5 t6 t7 H5
  go_wp2_with fail
  refine bodyPost_ret (v := .tuple #[.agg #[I 1, I (4 * ix), I (xx - 1000), I 0, I 0], .bool true]) (by simp [results, Tryz.results17, go_sem, f0, f1, f2, f3, f4]) rfl ⟨rfl, HT.out.1, HT.out.2⟩

end Go.Proofs.YtfmcngncaffloaaGreatDoor

namespace Go.Proofs.YtfmcngncaffloaaGreatDoor
open Go.RowKit
set_option maxRecDepth 100000

set_option maxHeartbeats 3200000 in
theorem act2 (p : Nat) (cs : Array Value) (b0 : Bool) (op ob x y z : Int) (ix : Nat) (w : World) (h : Blk w p cs 37) (hix : ix < 2) (hc : cs[2 + ix * 256 + (Wv.pk x 256).toNat]? = some (.bool b0))
    (b1 : -9223372036854775808 ≤ op ∧ op ≤ 9223372036854775807) (b2 : -9223372036854775808 ≤ ob ∧ ob ≤ 9223372036854775807) (b3 : -9223372036854775808 ≤ x ∧ x ≤ 9223372036854775807) (h6 : Wv.pk op 6 = 1) (h2 : Wv.pk ob 2 = ix) :
    Calls Tryz.prog 17 #[.pointer (some ⟨p, 0, none⟩), .agg #[I op, I ob, I x, I y, I z]] w fun e w' => ActOk w p (cs.setIfInBounds (2 + ix * 256 + (Wv.pk x 256).toNat) (.bool true)) 2 (4 * ix + 1) (Wv.pk x 256) 0 true e w' := by
  have HP1 : Hid (∀ w', Calls Tryz.prog 13 #[I op, I 6] w' fun e w'' => e = .returned (I 1) ∧ w'' = w') := fun w' => by rw [← h6]; exact pick_any op 6 w' b1 ⟨by decide, by decide⟩
  have HP2 : Hid (∀ w', Calls Tryz.prog 13 #[I ob, I 2] w' fun e w'' => e = .returned (I ix) ∧ w'' = w') := fun w' => by rw [← h2]; exact pick_any ob 2 w' b2 ⟨by decide, by decide⟩
  have HP3 : Hid (∀ w', Calls Tryz.prog 13 #[I x, I 256] w' fun e w'' => e = .returned (I (Wv.pk x 256)) ∧ w'' = w') := fun w' => pick_any x 256 w' b3 ⟨by decide, by decide⟩
  obtain ⟨a0, a1⟩ := Wv.pk_lt x 256 (by decide)
  generalize Wv.pk x 256 = xi at *
  obtain ⟨xx, rfl⟩ := Int.eq_ofNat_of_zero_le a0
  rw [Int.toNat_natCast] at hc ⊢
  have hlt := h.lt
  have e1 : ∀ o1 o2 o3, (((w.alloc o1).alloc o2).alloc o3).cell? ⟨p, 2 + ix * 256 + xx, none⟩ = some (.bool b0) := alloc3_cell ((h.cell (2 + ix * 256 + xx)).trans hc)
  have z1 : ∀ o1 o2 o3, (((w.alloc o1).alloc o2).alloc o3).frozen? ⟨p, 2 + ix * 256 + xx, none⟩ = false := fun o1 o2 o3 => ((h.alloc o1).alloc o2 |>.alloc o3).frozen _
  have HH : Hid (Blk w p cs 37) := h
  clear h b1 b2 b3 h6 h2 hc
  go_enter Tryz.func17, Tryz.ntmps17
  go_wp2_with fail
  refine (HP1.out _).mono ?_
  rintro e w2 ⟨rfl, hw2⟩
  subst hw2
  go_wp2_with fail
  refine (HP2.out _).mono ?_
  rintro e w3 ⟨rfl, hw3⟩
  subst hw3
  go_wp2_with fail
  refine (HP3.out _).mono ?_
  rintro e w3 ⟨rfl, hw3⟩
  subst hw3
  go_wp2_with fail
  go_region
  obtain ⟨w5, hw5⟩ : ∃ w5, w5 = ((wA3 w op ob x y z 2 (4 * ix + 1) xx 0).setCell ⟨p, 2 + ix * 256 + xx, none⟩ (.bool true)).drew := ⟨_, rfl⟩
  have H5 : Hid (Ac5 w w5 p (cs.setIfInBounds (2 + ix * 256 + xx) (.bool true)) 2 (4 * ix + 1) xx 0) := by rw [hw5]; exact ac5 HH.out op ob x y z 2 (4 * ix + 1) xx 0 (2 + ix * 256 + xx) _
  change Exit.inBlock 0 _ Exit.normal _ (((wA3 w op ob x y z 2 (4 * ix + 1) xx 0).setCell ⟨p, 2 + ix * 256 + xx, none⟩ (.bool true)).drew)
  rw [← hw5]
  have c0 : w5.cell? ⟨w.heap.size + 1 + 1, 0, none⟩ = some (I 2) := H5.out.opr.cell 0
  have c1 : w5.cell? ⟨w.heap.size + 1 + 1, 1, none⟩ = some (I (4 * ix + 1)) := H5.out.opr.cell 1
  have c2 : w5.cell? ⟨w.heap.size + 1 + 1, 2, none⟩ = some (I xx) := H5.out.opr.cell 2
  have c3 : w5.cell? ⟨w.heap.size + 1 + 1, 3, none⟩ = some (I 0) := H5.out.opr.cell 3
  have c4 : w5.cell? ⟨w.heap.size + 1 + 1, 4, none⟩ = some (I 0) := H5.out.opr.cell 4
  have d0 : w5.cell? ⟨w.heap.size + 1, 0, none⟩ = some (.int .i64 0) := H5.out.res.cell 0
  have d1 : w5.cell? ⟨w.heap.size + 1, 1, none⟩ = some (.int .i64 0) := H5.out.res.cell 1
  have d2 : w5.cell? ⟨w.heap.size + 1, 2, none⟩ = some (.int .i64 0) := H5.out.res.cell 2
  have d3 : w5.cell? ⟨w.heap.size + 1, 3, none⟩ = some (.int .i64 0) := H5.out.res.cell 3
  have d4 : w5.cell? ⟨w.heap.size + 1, 4, none⟩ = some (.int .i64 0) := H5.out.res.cell 4
  have zf : ∀ j, w5.frozen? ⟨w.heap.size + 1, j, none⟩ = false := fun j => H5.out.res.frozen j
  clear hw5 e1 z1 HH HP1 HP2 HP3
  obtain ⟨t5, t6, t7⟩ := H5.out.fin
  have f0 : (putA5 w5 (w.heap.size + 1) (I 2) (I (4 * ix + 1)) (I xx) (I 0) (I 0)).cell? ⟨w.heap.size + 1, 0, none⟩ = some (I 2) := t7.cell 0
  have f1 : (putA5 w5 (w.heap.size + 1) (I 2) (I (4 * ix + 1)) (I xx) (I 0) (I 0)).cell? ⟨w.heap.size + 1, 1, none⟩ = some (I (4 * ix + 1)) := t7.cell 1
  have f2 : (putA5 w5 (w.heap.size + 1) (I 2) (I (4 * ix + 1)) (I xx) (I 0) (I 0)).cell? ⟨w.heap.size + 1, 2, none⟩ = some (I xx) := t7.cell 2
  have f3 : (putA5 w5 (w.heap.size + 1) (I 2) (I (4 * ix + 1)) (I xx) (I 0) (I 0)).cell? ⟨w.heap.size + 1, 3, none⟩ = some (I 0) := t7.cell 3
  have f4 : (putA5 w5 (w.heap.size + 1) (I 2) (I (4 * ix + 1)) (I xx) (I 0) (I 0)).cell? ⟨w.heap.size + 1, 4, none⟩ = some (I 0) := t7.cell 4
  have HT : Hid (Tch (fun k => k = p) w (putA5 w5 (w.heap.size + 1) (I 2) (I (4 * ix + 1)) (I xx) (I 0) (I 0)) ∧ Blk (putA5 w5 (w.heap.size + 1) (I 2) (I (4 * ix + 1)) (I xx) (I 0) (I 0)) p (cs.setIfInBounds (2 + ix * 256 + xx) (.bool true)) 37) := ⟨t5, t6⟩
  clear t5 t6 t7 H5
  go_wp2_with fail
  refine bodyPost_ret (v := .tuple #[.agg #[I 2, I (4 * ix + 1), I xx, I 0, I 0], .bool true]) (by simp [results, Tryz.results17, go_sem, f0, f1, f2, f3, f4]) rfl ⟨rfl, HT.out.1, HT.out.2⟩

set_option maxHeartbeats 3200000 in
theorem act3 (p : Nat) (cs : Array Value) (b0 : Bool) (op ob x y z : Int) (ix : Nat) (w : World) (h : Blk w p cs 37) (hix : ix < 2) (hc : cs[2 + ix * 256 + (Wv.pk x 256).toNat]? = some (.bool b0))
    (b1 : -9223372036854775808 ≤ op ∧ op ≤ 9223372036854775807) (b2 : -9223372036854775808 ≤ ob ∧ ob ≤ 9223372036854775807) (b3 : -9223372036854775808 ≤ x ∧ x ≤ 9223372036854775807) (h6 : Wv.pk op 6 = 2) (h2 : Wv.pk ob 2 = ix) :
    Calls Tryz.prog 17 #[.pointer (some ⟨p, 0, none⟩), .agg #[I op, I ob, I x, I y, I z]] w fun e w' => ActOk w p (cs.setIfInBounds (2 + ix * 256 + (Wv.pk x 256).toNat) (.bool false)) 3 (4 * ix + 1) (Wv.pk x 256) 0 true e w' := by
  have HP1 : Hid (∀ w', Calls Tryz.prog 13 #[I op, I 6] w' fun e w'' => e = .returned (I 2) ∧ w'' = w') := fun w' => by rw [← h6]; exact pick_any op 6 w' b1 ⟨by decide, by decide⟩
  have HP2 : Hid (∀ w', Calls Tryz.prog 13 #[I ob, I 2] w' fun e w'' => e = .returned (I ix) ∧ w'' = w') := fun w' => by rw [← h2]; exact pick_any ob 2 w' b2 ⟨by decide, by decide⟩
  have HP3 : Hid (∀ w', Calls Tryz.prog 13 #[I x, I 256] w' fun e w'' => e = .returned (I (Wv.pk x 256)) ∧ w'' = w') := fun w' => pick_any x 256 w' b3 ⟨by decide, by decide⟩
  obtain ⟨a0, a1⟩ := Wv.pk_lt x 256 (by decide)
  generalize Wv.pk x 256 = xi at *
  obtain ⟨xx, rfl⟩ := Int.eq_ofNat_of_zero_le a0
  rw [Int.toNat_natCast] at hc ⊢
  have hlt := h.lt
  have e1 : ∀ o1 o2 o3, (((w.alloc o1).alloc o2).alloc o3).cell? ⟨p, 2 + ix * 256 + xx, none⟩ = some (.bool b0) := alloc3_cell ((h.cell (2 + ix * 256 + xx)).trans hc)
  have z1 : ∀ o1 o2 o3, (((w.alloc o1).alloc o2).alloc o3).frozen? ⟨p, 2 + ix * 256 + xx, none⟩ = false := fun o1 o2 o3 => ((h.alloc o1).alloc o2 |>.alloc o3).frozen _
  have HH : Hid (Blk w p cs 37) := h
  clear h b1 b2 b3 h6 h2 hc
  go_enter Tryz.func17, Tryz.ntmps17
  go_wp2_with fail
  refine (HP1.out _).mono ?_
  rintro e w2 ⟨rfl, hw2⟩
  subst hw2
  go_wp2_with fail
  refine (HP2.out _).mono ?_
  rintro e w3 ⟨rfl, hw3⟩
  subst hw3
  go_wp2_with fail
  refine (HP3.out _).mono ?_
  rintro e w3 ⟨rfl, hw3⟩
  subst hw3
  go_wp2_with fail
  go_region
  obtain ⟨w5, hw5⟩ : ∃ w5, w5 = ((wA3 w op ob x y z 3 (4 * ix + 1) xx 0).setCell ⟨p, 2 + ix * 256 + xx, none⟩ (.bool false)).drew := ⟨_, rfl⟩
  have H5 : Hid (Ac5 w w5 p (cs.setIfInBounds (2 + ix * 256 + xx) (.bool false)) 3 (4 * ix + 1) xx 0) := by rw [hw5]; exact ac5 HH.out op ob x y z 3 (4 * ix + 1) xx 0 (2 + ix * 256 + xx) _
  change Exit.inBlock 0 _ Exit.normal _ (((wA3 w op ob x y z 3 (4 * ix + 1) xx 0).setCell ⟨p, 2 + ix * 256 + xx, none⟩ (.bool false)).drew)
  rw [← hw5]
  have c0 : w5.cell? ⟨w.heap.size + 1 + 1, 0, none⟩ = some (I 3) := H5.out.opr.cell 0
  have c1 : w5.cell? ⟨w.heap.size + 1 + 1, 1, none⟩ = some (I (4 * ix + 1)) := H5.out.opr.cell 1
  have c2 : w5.cell? ⟨w.heap.size + 1 + 1, 2, none⟩ = some (I xx) := H5.out.opr.cell 2
  have c3 : w5.cell? ⟨w.heap.size + 1 + 1, 3, none⟩ = some (I 0) := H5.out.opr.cell 3
  have c4 : w5.cell? ⟨w.heap.size + 1 + 1, 4, none⟩ = some (I 0) := H5.out.opr.cell 4
  have d0 : w5.cell? ⟨w.heap.size + 1, 0, none⟩ = some (.int .i64 0) := H5.out.res.cell 0
  have d1 : w5.cell? ⟨w.heap.size + 1, 1, none⟩ = some (.int .i64 0) := H5.out.res.cell 1
  have d2 : w5.cell? ⟨w.heap.size + 1, 2, none⟩ = some (.int .i64 0) := H5.out.res.cell 2
  have d3 : w5.cell? ⟨w.heap.size + 1, 3, none⟩ = some (.int .i64 0) := H5.out.res.cell 3
  have d4 : w5.cell? ⟨w.heap.size + 1, 4, none⟩ = some (.int .i64 0) := H5.out.res.cell 4
  have zf : ∀ j, w5.frozen? ⟨w.heap.size + 1, j, none⟩ = false := fun j => H5.out.res.frozen j
  clear hw5 e1 z1 HH HP1 HP2 HP3
  obtain ⟨t5, t6, t7⟩ := H5.out.fin
  have f0 : (putA5 w5 (w.heap.size + 1) (I 3) (I (4 * ix + 1)) (I xx) (I 0) (I 0)).cell? ⟨w.heap.size + 1, 0, none⟩ = some (I 3) := t7.cell 0
  have f1 : (putA5 w5 (w.heap.size + 1) (I 3) (I (4 * ix + 1)) (I xx) (I 0) (I 0)).cell? ⟨w.heap.size + 1, 1, none⟩ = some (I (4 * ix + 1)) := t7.cell 1
  have f2 : (putA5 w5 (w.heap.size + 1) (I 3) (I (4 * ix + 1)) (I xx) (I 0) (I 0)).cell? ⟨w.heap.size + 1, 2, none⟩ = some (I xx) := t7.cell 2
  have f3 : (putA5 w5 (w.heap.size + 1) (I 3) (I (4 * ix + 1)) (I xx) (I 0) (I 0)).cell? ⟨w.heap.size + 1, 3, none⟩ = some (I 0) := t7.cell 3
  have f4 : (putA5 w5 (w.heap.size + 1) (I 3) (I (4 * ix + 1)) (I xx) (I 0) (I 0)).cell? ⟨w.heap.size + 1, 4, none⟩ = some (I 0) := t7.cell 4
  have HT : Hid (Tch (fun k => k = p) w (putA5 w5 (w.heap.size + 1) (I 3) (I (4 * ix + 1)) (I xx) (I 0) (I 0)) ∧ Blk (putA5 w5 (w.heap.size + 1) (I 3) (I (4 * ix + 1)) (I xx) (I 0) (I 0)) p (cs.setIfInBounds (2 + ix * 256 + xx) (.bool false)) 37) := ⟨t5, t6⟩
  clear t5 t6 t7 H5
  go_wp2_with fail
  refine bodyPost_ret (v := .tuple #[.agg #[I 3, I (4 * ix + 1), I xx, I 0, I 0], .bool true]) (by simp [results, Tryz.results17, go_sem, f0, f1, f2, f3, f4]) rfl ⟨rfl, HT.out.1, HT.out.2⟩

set_option maxHeartbeats 3200000 in
theorem act4 (p : Nat) (cs : Array Value) (s : Int) (op ob x y z : Int) (ix : Nat) (w : World) (h : Blk w p cs 37) (hix : ix < 2) (hc : cs[514 + ix]? = some (I s))
    (b1 : -9223372036854775808 ≤ op ∧ op ≤ 9223372036854775807) (b2 : -9223372036854775808 ≤ ob ∧ ob ≤ 9223372036854775807) (b3 : -9223372036854775808 ≤ x ∧ x ≤ 9223372036854775807) (h6 : Wv.pk op 6 = 3) (h2 : Wv.pk ob 2 = ix) :
    Calls Tryz.prog 17 #[.pointer (some ⟨p, 0, none⟩), .agg #[I op, I ob, I x, I y, I z]] w fun e w' => ActOk w p (cs.setIfInBounds (514 + ix) (I (Wv.pk x 256))) 4 (4 * ix + 2) (Wv.pk x 256) 0 true e w' := by
  have HP1 : Hid (∀ w', Calls Tryz.prog 13 #[I op, I 6] w' fun e w'' => e = .returned (I 3) ∧ w'' = w') := fun w' => by rw [← h6]; exact pick_any op 6 w' b1 ⟨by decide, by decide⟩
  have HP2 : Hid (∀ w', Calls Tryz.prog 13 #[I ob, I 2] w' fun e w'' => e = .returned (I ix) ∧ w'' = w') := fun w' => by rw [← h2]; exact pick_any ob 2 w' b2 ⟨by decide, by decide⟩
  have HP3 : Hid (∀ w', Calls Tryz.prog 13 #[I x, I 256] w' fun e w'' => e = .returned (I (Wv.pk x 256)) ∧ w'' = w') := fun w' => pick_any x 256 w' b3 ⟨by decide, by decide⟩
  obtain ⟨a0, a1⟩ := Wv.pk_lt x 256 (by decide)
  generalize Wv.pk x 256 = xi at *
  obtain ⟨xx, rfl⟩ := Int.eq_ofNat_of_zero_le a0
  have hlt := h.lt
  have e1 : ∀ o1 o2 o3, (((w.alloc o1).alloc o2).alloc o3).cell? ⟨p, 514 + ix, none⟩ = some (I s) := alloc3_cell ((h.cell (514 + ix)).trans hc)
  have z1 : ∀ o1 o2 o3, (((w.alloc o1).alloc o2).alloc o3).frozen? ⟨p, 514 + ix, none⟩ = false := fun o1 o2 o3 => ((h.alloc o1).alloc o2 |>.alloc o3).frozen _
  have HH : Hid (Blk w p cs 37) := h
  clear h b1 b2 b3 h6 h2 hc
  go_enter Tryz.func17, Tryz.ntmps17
  go_wp2_with fail
  refine (HP1.out _).mono ?_
  rintro e w2 ⟨rfl, hw2⟩
  subst hw2
  go_wp2_with fail
  refine (HP2.out _).mono ?_
  rintro e w3 ⟨rfl, hw3⟩
  subst hw3
  go_wp2_with fail
  refine (HP3.out _).mono ?_
  rintro e w3 ⟨rfl, hw3⟩
  subst hw3
  go_wp2_with fail
  go_region
  obtain ⟨w5, hw5⟩ : ∃ w5, w5 = ((wA3 w op ob x y z 4 (4 * ix + 2) xx 0).setCell ⟨p, 514 + ix, none⟩ (I (xx : Int))).drew := ⟨_, rfl⟩
  have H5 : Hid (Ac5 w w5 p (cs.setIfInBounds (514 + ix) (I (xx : Int))) 4 (4 * ix + 2) xx 0) := by rw [hw5]; exact ac5 HH.out op ob x y z 4 (4 * ix + 2) xx 0 (514 + ix) _
  change Exit.inBlock 0 _ Exit.normal _ (((wA3 w op ob x y z 4 (4 * ix + 2) xx 0).setCell ⟨p, 514 + ix, none⟩ (I (xx : Int))).drew)
  rw [← hw5]
  have c0 : w5.cell? ⟨w.heap.size + 1 + 1, 0, none⟩ = some (I 4) := H5.out.opr.cell 0
  have c1 : w5.cell? ⟨w.heap.size + 1 + 1, 1, none⟩ = some (I (4 * ix + 2)) := H5.out.opr.cell 1
  have c2 : w5.cell? ⟨w.heap.size + 1 + 1, 2, none⟩ = some (I xx) := H5.out.opr.cell 2
  have c3 : w5.cell? ⟨w.heap.size + 1 + 1, 3, none⟩ = some (I 0) := H5.out.opr.cell 3
  have c4 : w5.cell? ⟨w.heap.size + 1 + 1, 4, none⟩ = some (I 0) := H5.out.opr.cell 4
  have d0 : w5.cell? ⟨w.heap.size + 1, 0, none⟩ = some (.int .i64 0) := H5.out.res.cell 0
  have d1 : w5.cell? ⟨w.heap.size + 1, 1, none⟩ = some (.int .i64 0) := H5.out.res.cell 1
  have d2 : w5.cell? ⟨w.heap.size + 1, 2, none⟩ = some (.int .i64 0) := H5.out.res.cell 2
  have d3 : w5.cell? ⟨w.heap.size + 1, 3, none⟩ = some (.int .i64 0) := H5.out.res.cell 3
  have d4 : w5.cell? ⟨w.heap.size + 1, 4, none⟩ = some (.int .i64 0) := H5.out.res.cell 4
  have zf : ∀ j, w5.frozen? ⟨w.heap.size + 1, j, none⟩ = false := fun j => H5.out.res.frozen j
  clear hw5 e1 z1 HH HP1 HP2 HP3
  obtain ⟨t5, t6, t7⟩ := H5.out.fin
  have f0 : (putA5 w5 (w.heap.size + 1) (I 4) (I (4 * ix + 2)) (I xx) (I 0) (I 0)).cell? ⟨w.heap.size + 1, 0, none⟩ = some (I 4) := t7.cell 0
  have f1 : (putA5 w5 (w.heap.size + 1) (I 4) (I (4 * ix + 2)) (I xx) (I 0) (I 0)).cell? ⟨w.heap.size + 1, 1, none⟩ = some (I (4 * ix + 2)) := t7.cell 1
  have f2 : (putA5 w5 (w.heap.size + 1) (I 4) (I (4 * ix + 2)) (I xx) (I 0) (I 0)).cell? ⟨w.heap.size + 1, 2, none⟩ = some (I xx) := t7.cell 2
  have f3 : (putA5 w5 (w.heap.size + 1) (I 4) (I (4 * ix + 2)) (I xx) (I 0) (I 0)).cell? ⟨w.heap.size + 1, 3, none⟩ = some (I 0) := t7.cell 3
  have f4 : (putA5 w5 (w.heap.size + 1) (I 4) (I (4 * ix + 2)) (I xx) (I 0) (I 0)).cell? ⟨w.heap.size + 1, 4, none⟩ = some (I 0) := t7.cell 4
  have HT : Hid (Tch (fun k => k = p) w (putA5 w5 (w.heap.size + 1) (I 4) (I (4 * ix + 2)) (I xx) (I 0) (I 0)) ∧ Blk (putA5 w5 (w.heap.size + 1) (I 4) (I (4 * ix + 2)) (I xx) (I 0) (I 0)) p (cs.setIfInBounds (514 + ix) (I (xx : Int))) 37) := ⟨t5, t6⟩
  clear t5 t6 t7 H5
  go_wp2_with fail
  refine bodyPost_ret (v := .tuple #[.agg #[I 4, I (4 * ix + 2), I xx, I 0, I 0], .bool true]) (by simp [results, Tryz.results17, go_sem, f0, f1, f2, f3, f4]) rfl ⟨rfl, HT.out.1, HT.out.2⟩

end Go.Proofs.YtfmcngncaffloaaGreatDoor

namespace Go.Proofs.YtfmcngncaffloaaGreatDoor
open Go.RowKit
set_option maxRecDepth 100000

/-- Ahead of the operation on the model. -/
structure Ac3 (w wB : World) (p : Nat) (cs : Array Value) (op ob x y z c0 c1 c2 c3 : Int) : Prop where
  bel : Below w.heap.size w wB
  blk : Blk wB p cs 37
  raw : Blk wB w.heap.size #[I op, I ob, I x, I y, I z] 41
  res : Blk wB (w.heap.size + 1) zA 41
  opr : Blk wB (w.heap.size + 1 + 1) #[I c0, I c1, I c2, I c3, I 0] 41
  lt : p < w.heap.size
theorem ac3 {w : World} {p : Nat} {cs : Array Value} (h : Blk w p cs 37) (op ob x y z c0 c1 c2 c3 : Int) : Ac3 w (wA3 w op ob x y z c0 c1 c2 c3) p cs op ob x y z c0 c1 c2 c3 := by
  have hlt := h.lt
  have hB : Below w.heap.size w (wA3 w op ob x y z c0 c1 c2 c3) := (((Below.refl w.heap.size w).alloc (Nat.le_refl _) _).alloc (by simp) _).alloc (by simp; omega) _
  have h1 : Blk (wA3 w op ob x y z c0 c1 c2 c3) w.heap.size #[I op, I ob, I x, I y, I z] 41 := (Blk.alloc (heap_alloc_new w _) _).alloc _
  have h2 : Blk (wA3 w op ob x y z c0 c1 c2 c3) (w.heap.size + 1) zA 41 := (Blk.second w _ zA _).alloc _
  have h3 : Blk (wA3 w op ob x y z c0 c1 c2 c3) (w.heap.size + 1 + 1) #[I c0, I c1, I c2, I c3, I 0] 41 := by
    have := heap_alloc_new ((w.alloc (.cells #[I op, I ob, I x, I y, I z] 41)).alloc (.cells zA 41)) (.cells #[I c0, I c1, I c2, I c3, I 0] 41)
    simpa [Blk] using this
  exact ⟨hB, h.kept hB hlt, h1, h2, h3, hlt⟩
theorem Ac3.set2 {w wB : World} {p : Nat} {cs : Array Value} {op ob x y z c0 c1 c2 c3 : Int} (h : Ac3 w wB p cs op ob x y z c0 c1 c2 c3) (v : Int) : Ac3 w (wB.setCell ⟨w.heap.size + 1 + 1, 2, none⟩ (I v)) p cs op ob x y z c0 c1 v c3 := by
  have hlt := h.lt
  exact ⟨h.bel.setCell (Nat.le_succ_of_le (Nat.le_succ _)) _, h.blk.other (by show p ≠ w.heap.size + 1 + 1; omega) _, h.raw.other (by show w.heap.size ≠ w.heap.size + 1 + 1; omega) _, h.res.other (by show w.heap.size + 1 ≠ w.heap.size + 1 + 1; omega) _, h.opr.set 2 _, hlt⟩
theorem Ac3.set3 {w wB : World} {p : Nat} {cs : Array Value} {op ob x y z c0 c1 c2 c3 : Int} (h : Ac3 w wB p cs op ob x y z c0 c1 c2 c3) (v : Int) : Ac3 w (wB.setCell ⟨w.heap.size + 1 + 1, 3, none⟩ (I v)) p cs op ob x y z c0 c1 c2 v := by
  have hlt := h.lt
  exact ⟨h.bel.setCell (Nat.le_succ_of_le (Nat.le_succ _)) _, h.blk.other (by show p ≠ w.heap.size + 1 + 1; omega) _, h.raw.other (by show w.heap.size ≠ w.heap.size + 1 + 1; omega) _, h.res.other (by show w.heap.size + 1 ≠ w.heap.size + 1 + 1; omega) _, h.opr.set 3 _, hlt⟩
theorem Ac3.drew {w wB : World} {p : Nat} {cs : Array Value} {op ob x y z c0 c1 c2 c3 : Int} (h : Ac3 w wB p cs op ob x y z c0 c1 c2 c3) : Ac3 w wB.drew p cs op ob x y z c0 c1 c2 c3 := ⟨h.bel.drew, h.blk, h.raw, h.res, h.opr, h.lt⟩
theorem Ac3.below {w wB w' : World} {p : Nat} {cs : Array Value} {op ob x y z c0 c1 c2 c3 : Int} (h : Ac3 w wB p cs op ob x y z c0 c1 c2 c3) (hb : Below wB.heap.size wB w') : Ac3 w w' p cs op ob x y z c0 c1 c2 c3 :=
  ⟨h.bel.trans (hb.mono h.bel.size), h.blk.kept hb h.blk.lt, h.raw.kept hb h.raw.lt, h.res.kept hb h.res.lt, h.opr.kept hb h.opr.lt, h.lt⟩
theorem Ac3.put {w wB : World} {p : Nat} {cs : Array Value} {op ob x y z c0 c1 c2 c3 : Int} (h : Ac3 w wB p cs op ob x y z c0 c1 c2 c3) (j : Nat) (v : Value) : Ac5 w (wB.setCell ⟨p, j, none⟩ v) p (cs.setIfInBounds j v) c0 c1 c2 c3 := by
  have hlt := h.lt
  exact ⟨(Tch.below (F := fun k => k = p) h.bel).setCell ⟨p, j, none⟩ v (Or.inl rfl), h.blk.set j v, h.res.other (by show _ ≠ p; omega) v, h.opr.other (by show _ ≠ p; omega) v, hlt⟩
theorem Ac5.drew {w w5 : World} {p : Nat} {cs : Array Value} {c0 c1 c2 c3 : Int} (h : Ac5 w w5 p cs c0 c1 c2 c3) : Ac5 w w5.drew p cs c0 c1 c2 c3 := ⟨h.tch.drew, h.blk, h.res, h.opr, h.lt⟩
theorem own_base {w : World} {b b' : Nat} {e : TypeId} {z n : Nat} {v : Value} {xs : List Value} (h : w.ownsRow b e z v n xs) (hb : b' ≤ b) : w.ownsRow b' e z v n xs := by
  obtain ⟨h1, h2⟩ := h
  refine ⟨h1, ?_⟩
  rcases h2 with h2 | ⟨g, cap, cur, e, hg, h3⟩
  · exact .inl h2
  · exact .inr ⟨g, cap, cur, e, Nat.le_trans hb hg, h3⟩
/-- The list that the model has now, behind the answer. -/
theorem own_fin {w wD wE : World} {p : Nat} {cs : Array Value} {op ob x y z c0 c1 c2 c3 : Int} {v : Value} {n : Nat} {xs : List Value} (hD : Ac3 w wD p cs op ob x y z c0 c1 c2 c3) (h : wE.ownsRow wD.heap.size 3 1 v n xs) (j : Nat) (u : Value) (a0 a1 a2 a3 a4 : Value) : (putA5 (wE.setCell ⟨p, j, none⟩ u) (w.heap.size + 1) a0 a1 a2 a3 a4).ownsRow w.heap.size 3 1 v n xs := by
  have hz : w.heap.size + 1 + 1 < wD.heap.size := hD.opr.lt
  refine own_kept (own_base h (by omega)) (fun g e => ?_)
  have hg := (h.lt g e).1
  have hlt := hD.lt
  rw [heap_setCell_other _ ⟨w.heap.size + 1, 4, none⟩ g _ (by show g ≠ w.heap.size + 1; omega), heap_setCell_other _ ⟨w.heap.size + 1, 3, none⟩ g _ (by show g ≠ w.heap.size + 1; omega), heap_setCell_other _ ⟨w.heap.size + 1, 2, none⟩ g _ (by show g ≠ w.heap.size + 1; omega), heap_setCell_other _ ⟨w.heap.size + 1, 1, none⟩ g _ (by show g ≠ w.heap.size + 1; omega), heap_setCell_other _ ⟨w.heap.size + 1, 0, none⟩ g _ (by show g ≠ w.heap.size + 1; omega), heap_setCell_other _ ⟨p, j, none⟩ g _ (by show g ≠ p; omega)]
set_option maxHeartbeats 1600000 in
theorem act5 (p : Nat) (cs : Array Value) (lv : Value) (l : List Int) (op ob x y z : Int) (ix : Nat) (w : World) (h : Blk w p cs 37) (hix : ix < 2) (hc : cs[516 + ix]? = some lv) (hL : Lst w lv l) (hll : l.length ≤ 100000)
    (b1 : -9223372036854775808 ≤ op ∧ op ≤ 9223372036854775807) (b2 : -9223372036854775808 ≤ ob ∧ ob ≤ 9223372036854775807) (b3 : -9223372036854775808 ≤ x ∧ x ≤ 9223372036854775807) (b4 : -9223372036854775808 ≤ y ∧ y ≤ 9223372036854775807) (h6 : Wv.pk op 6 = 4) (h2 : Wv.pk ob 2 = ix) :
    Calls Tryz.prog 17 #[.pointer (some ⟨p, 0, none⟩), .agg #[I op, I ob, I x, I y, I z]] w fun e w' => ∃ v', w'.ownsRow w.heap.size 3 1 v' (l.length + 1) ((insV l (Wv.pk x (l.length + 1)).toNat (Wv.pk y 256)).map I) ∧ ActOk w p (cs.setIfInBounds (516 + ix) v') 5 (4 * ix + 3) (Wv.pk x (l.length + 1)) (Wv.pk y 256) true e w' := by
  have HP1 : Hid (∀ w', Calls Tryz.prog 13 #[I op, I 6] w' fun e w'' => e = .returned (I 4) ∧ w'' = w') := fun w' => by rw [← h6]; exact pick_any op 6 w' b1 ⟨by decide, by decide⟩
  have HP2 : Hid (∀ w', Calls Tryz.prog 13 #[I ob, I 2] w' fun e w'' => e = .returned (I ix) ∧ w'' = w') := fun w' => by rw [← h2]; exact pick_any ob 2 w' b2 ⟨by decide, by decide⟩
  have HP3 : Hid (∀ w', Calls Tryz.prog 13 #[I x, I ((l.length : Int) + 1)] w' fun e w'' => e = .returned (I (Wv.pk x (l.length + 1))) ∧ w'' = w') := fun w' => pick_any x ((l.length : Int) + 1) w' b3 ⟨by omega, by omega⟩
  have HP4 : Hid (∀ w', Calls Tryz.prog 13 #[I y, I 256] w' fun e w'' => e = .returned (I (Wv.pk y 256)) ∧ w'' = w') := fun w' => pick_any y 256 w' b4 ⟨by decide, by decide⟩
  obtain ⟨a0, a1⟩ := Wv.pk_lt x ((l.length : Int) + 1) (by omega)
  obtain ⟨y0, y1⟩ := Wv.pk_lt y 256 (by decide)
  generalize Wv.pk x ((l.length : Int) + 1) = xi at *
  generalize Wv.pk y 256 = yy at *
  obtain ⟨xx, rfl⟩ := Int.eq_ofNat_of_zero_le a0
  rw [Int.toNat_natCast]
  have hlt := h.lt
  have hixi : (ix : Int) < 2 := by omega
  have hwr : IntKind.i64.wrap ((l.length : Int) + 1) = (l.length : Int) + 1 := by rw [IntKind.wrap_i64]; omega
  obtain ⟨ad, c, rfl, hnil, hA⟩ := hL.slice
  have e1 : ∀ o1 o2 o3, (((w.alloc o1).alloc o2).alloc o3).cell? ⟨p, 516 + ix, none⟩ = some (.slice ad l.length c) := alloc3_cell ((h.cell (516 + ix)).trans hc)
  have HH : Hid (Blk w p cs 37) := h
  have HC : Hid (cs[516 + ix]? = some (.slice ad l.length c)) := hc
  have HL : Hid (Lst w (.slice ad l.length c) l) := hL
  have HAT : Hid (∀ w', Below w.heap.size w w' → Calls Tryz.prog 41 #[.slice ad l.length c, I xx, I yy] w' fun e w'' => ∃ v', e = .returned v' ∧ w''.ownsRow w'.heap.size 3 1 v' (l.length + 1) ((insV l xx yy).map I) ∧ Below w'.heap.size w' w'') := fun w' hb => at_any _ l xx yy w' (hL.kept hb) (by omega) (by omega)
  clear h b1 b2 b3 b4 h6 h2 hc hL hA hnil
  go_enter Tryz.func17, Tryz.ntmps17
  go_wp2_with fail
  refine (HP1.out _).mono ?_
  rintro e w2 ⟨rfl, hw2⟩
  subst hw2
  go_wp2_with fail
  refine (HP2.out _).mono ?_
  rintro e w3 ⟨rfl, hw3⟩
  subst hw3
  go_wp2_with fail
  obtain ⟨wB, hwB⟩ : ∃ wB, wB = wA3 w op ob x y z 5 (4 * ix + 3) 0 0 := ⟨_, rfl⟩
  have HB : Hid (Ac3 w wB p cs op ob x y z 5 (4 * ix + 3) 0 0) := by rw [hwB]; exact ac3 HH.out op ob x y z 5 (4 * ix + 3) 0 0
  change Code.wp _ _ _ _ (wA3 w op ob x y z 5 (4 * ix + 3) 0 0)
  rw [← hwB]
  have o2 : wB.cell? ⟨w.heap.size, 2, none⟩ = some (I x) := HB.out.raw.cell 2
  have l1 : wB.cell? ⟨p, 516 + ix, none⟩ = some (.slice ad l.length c) := (HB.out.blk.cell _).trans HC.out
  have x2 : wB.cell? ⟨w.heap.size + 1 + 1, 2, none⟩ = some (I 0) := HB.out.opr.cell 2
  have z2 : wB.frozen? ⟨w.heap.size + 1 + 1, 2, none⟩ = false := HB.out.opr.frozen 2
  clear hwB e1
  have q2 : ∀ v : Value, (wB.drew.setCell ⟨w.heap.size + 1 + 1, 2, none⟩ v).cell? ⟨w.heap.size, 2, none⟩ = some (I x) := fun v => (HB.out.drew.raw.other (by show w.heap.size ≠ w.heap.size + 1 + 1; omega) v).cell 2
  have q3 : ∀ v : Value, (wB.drew.setCell ⟨w.heap.size + 1 + 1, 2, none⟩ v).cell? ⟨p, 516 + ix, none⟩ = some (.slice ad l.length c) := fun v => ((HB.out.drew.blk.other (by show p ≠ w.heap.size + 1 + 1; omega) v).cell _).trans HC.out
  go_region_held_law (fun w' => w'.cell? ⟨w.heap.size, 2, none⟩ = some (I x) ∧ w'.cell? ⟨p, 516 + ix, none⟩ = some (.slice ad l.length c)) (first | exact ⟨o2, l1⟩ | exact ⟨q2 _, q3 _⟩) ((go_simp; go_at_call 13; refine (HP3.out _).mono ?_; rintro e w9 ⟨rfl, hw9⟩; subst hw9))
  obtain ⟨wC, hwC⟩ : ∃ wC, wC = (wB.setCell ⟨w.heap.size + 1 + 1, 2, none⟩ (I xx)).drew := ⟨_, rfl⟩
  have HB3 : Hid (Ac3 w wC p cs op ob x y z 5 (4 * ix + 3) xx 0) := by rw [hwC]; exact (HB.out.set2 xx).drew
  change Exit.then _ _ Exit.normal _ ((wB.setCell ⟨w.heap.size + 1 + 1, 2, none⟩ (I xx)).drew)
  rw [← hwC]
  have o3 : wC.cell? ⟨w.heap.size, 3, none⟩ = some (I y) := HB3.out.raw.cell 3
  have x3 : wC.cell? ⟨w.heap.size + 1 + 1, 3, none⟩ = some (I 0) := HB3.out.opr.cell 3
  have z3 : wC.frozen? ⟨w.heap.size + 1 + 1, 3, none⟩ = false := HB3.out.opr.frozen 3
  clear hwC q2 q3 o2 l1 x2 z2 HB
  go_wp2_with fail
  refine (HP4.out _).mono ?_
  rintro e w9 ⟨rfl, hw9⟩
  subst hw9
  go_wp2_with fail
  obtain ⟨wD, hwD⟩ : ∃ wD, wD = w9.setCell ⟨w.heap.size + 1 + 1, 3, none⟩ (I yy) := ⟨_, rfl⟩
  have HD : Hid (Ac3 w wD p cs op ob x y z 5 (4 * ix + 3) xx yy) := by rw [hwD]; exact HB3.out.set3 yy
  change Code.wp _ _ _ _ (w9.setCell ⟨w.heap.size + 1 + 1, 3, none⟩ (I yy))
  rw [← hwD]
  have l1 : wD.cell? ⟨p, 516 + ix, none⟩ = some (.slice ad l.length c) := (HD.out.blk.cell _).trans HC.out
  have x2 : wD.cell? ⟨w.heap.size + 1 + 1, 2, none⟩ = some (I xx) := HD.out.opr.cell 2
  have x3' : wD.cell? ⟨w.heap.size + 1 + 1, 3, none⟩ = some (I yy) := HD.out.opr.cell 3
  clear hwD o3 x3 z3 HB3 HP1 HP2 HP3 HP4
  go_region_law ((go_simp; go_at_call 41; refine (HAT.out _ HD.out.drew.bel).mono ?_; rintro e wE ⟨v', rfl, hown9, hb9⟩; obtain ⟨a9, c9, rfl⟩ := own_sl hown9; have HO9 : Hid (wE.ownsRow wD.heap.size 3 1 (.slice a9 (l.length + 1) c9) (l.length + 1) ((insV l xx yy).map I)) := hown9; have HE : Hid (Ac3 w wE p cs op ob x y z 5 (4 * ix + 3) xx yy) := HD.out.drew.below hb9; have y1 : wE.cell? ⟨p, 516 + ix, none⟩ = some (.slice ad l.length c) := (HE.out.blk.cell _).trans HC.out; have z1 : wE.frozen? ⟨p, 516 + ix, none⟩ = false := HE.out.blk.frozen _; clear hown9 hb9))
  all_goals
    (obtain ⟨w5, hw5⟩ : ∃ w5, w5 = wE.setCell ⟨p, 516 + ix, none⟩ (.slice a9 (l.length + 1) c9) := ⟨_, rfl⟩
     have H5 : Hid (Ac5 w w5 p (cs.setIfInBounds (516 + ix) (.slice a9 (l.length + 1) c9)) 5 (4 * ix + 3) xx yy) := by rw [hw5]; exact HE.out.put (516 + ix) _
     have HOF : Hid ((putA5 w5 (w.heap.size + 1) (I 5) (I (4 * ix + 3)) (I xx) (I yy) (I 0)).ownsRow w.heap.size 3 1 (.slice a9 (l.length + 1) c9) (l.length + 1) ((insV l xx yy).map I)) := by rw [hw5]; exact own_fin HD.out HO9.out (516 + ix) _ _ _ _ _ _
     change Exit.inBlock 0 _ Exit.normal _ (wE.setCell ⟨p, 516 + ix, none⟩ (.slice a9 (l.length + 1) c9))
     rw [← hw5]
     have c0 : w5.cell? ⟨w.heap.size + 1 + 1, 0, none⟩ = some (I 5) := H5.out.opr.cell 0
     have c1 : w5.cell? ⟨w.heap.size + 1 + 1, 1, none⟩ = some (I (4 * ix + 3)) := H5.out.opr.cell 1
     have c2 : w5.cell? ⟨w.heap.size + 1 + 1, 2, none⟩ = some (I xx) := H5.out.opr.cell 2
     have c3 : w5.cell? ⟨w.heap.size + 1 + 1, 3, none⟩ = some (I yy) := H5.out.opr.cell 3
     have c4 : w5.cell? ⟨w.heap.size + 1 + 1, 4, none⟩ = some (I 0) := H5.out.opr.cell 4
     have d0 : w5.cell? ⟨w.heap.size + 1, 0, none⟩ = some (.int .i64 0) := H5.out.res.cell 0
     have d1 : w5.cell? ⟨w.heap.size + 1, 1, none⟩ = some (.int .i64 0) := H5.out.res.cell 1
     have d2 : w5.cell? ⟨w.heap.size + 1, 2, none⟩ = some (.int .i64 0) := H5.out.res.cell 2
     have d3 : w5.cell? ⟨w.heap.size + 1, 3, none⟩ = some (.int .i64 0) := H5.out.res.cell 3
     have d4 : w5.cell? ⟨w.heap.size + 1, 4, none⟩ = some (.int .i64 0) := H5.out.res.cell 4
     have zf : ∀ j, w5.frozen? ⟨w.heap.size + 1, j, none⟩ = false := fun j => H5.out.res.frozen j
     obtain ⟨t5, t6, t7⟩ := H5.out.fin
     have f0 : (putA5 w5 (w.heap.size + 1) (I 5) (I (4 * ix + 3)) (I xx) (I yy) (I 0)).cell? ⟨w.heap.size + 1, 0, none⟩ = some (I 5) := t7.cell 0
     have f1 : (putA5 w5 (w.heap.size + 1) (I 5) (I (4 * ix + 3)) (I xx) (I yy) (I 0)).cell? ⟨w.heap.size + 1, 1, none⟩ = some (I (4 * ix + 3)) := t7.cell 1
     have f2 : (putA5 w5 (w.heap.size + 1) (I 5) (I (4 * ix + 3)) (I xx) (I yy) (I 0)).cell? ⟨w.heap.size + 1, 2, none⟩ = some (I xx) := t7.cell 2
     have f3 : (putA5 w5 (w.heap.size + 1) (I 5) (I (4 * ix + 3)) (I xx) (I yy) (I 0)).cell? ⟨w.heap.size + 1, 3, none⟩ = some (I yy) := t7.cell 3
     have f4 : (putA5 w5 (w.heap.size + 1) (I 5) (I (4 * ix + 3)) (I xx) (I yy) (I 0)).cell? ⟨w.heap.size + 1, 4, none⟩ = some (I 0) := t7.cell 4
     have HT : Hid (Tch (fun k => k = p) w (putA5 w5 (w.heap.size + 1) (I 5) (I (4 * ix + 3)) (I xx) (I yy) (I 0)) ∧ Blk (putA5 w5 (w.heap.size + 1) (I 5) (I (4 * ix + 3)) (I xx) (I yy) (I 0)) p (cs.setIfInBounds (516 + ix) (.slice a9 (l.length + 1) c9)) 37) := ⟨t5, t6⟩
     clear t5 t6 t7 H5 hw5 l1 x2 x3' y1 z1 HE HD HO9 HC HL HH HAT
     go_wp2_with fail
     exact bodyPost_ret (v := .tuple #[.agg #[I 5, I (4 * ix + 3), I xx, I yy, I 0], .bool true]) (by simp [results, Tryz.results17, go_sem, f0, f1, f2, f3, f4]) rfl ⟨_, HOF.out, rfl, HT.out.1, HT.out.2⟩)

end Go.Proofs.YtfmcngncaffloaaGreatDoor

namespace Go.Proofs.YtfmcngncaffloaaGreatDoor
open Go.RowKit
set_option maxRecDepth 100000

set_option maxHeartbeats 1600000 in
theorem act6 (p : Nat) (cs : Array Value) (lv : Value) (l : List Int) (op ob x y z : Int) (ix : Nat) (w : World) (h : Blk w p cs 37) (hix : ix < 2) (hc : cs[516 + ix]? = some lv) (hL : Lst w lv l) (hll : l.length ≤ 100000)
    (b1 : -9223372036854775808 ≤ op ∧ op ≤ 9223372036854775807) (b2 : -9223372036854775808 ≤ ob ∧ ob ≤ 9223372036854775807) (b3 : -9223372036854775808 ≤ x ∧ x ≤ 9223372036854775807) (h6 : Wv.pk op 6 = 5) (hpos : 0 < l.length) (h2 : Wv.pk ob 2 = ix) :
    Calls Tryz.prog 17 #[.pointer (some ⟨p, 0, none⟩), .agg #[I op, I ob, I x, I y, I z]] w fun e w' => ∃ v', w'.ownsRow w.heap.size 3 1 v' (l.length - 1) ((delV l (Wv.pk x l.length).toNat).map I) ∧ ActOk w p (cs.setIfInBounds (516 + ix) v') 6 (4 * ix + 3) (Wv.pk x l.length) 0 true e w' := by
  have HP1 : Hid (∀ w', Calls Tryz.prog 13 #[I op, I 6] w' fun e w'' => e = .returned (I 5) ∧ w'' = w') := fun w' => by rw [← h6]; exact pick_any op 6 w' b1 ⟨by decide, by decide⟩
  have HP2 : Hid (∀ w', Calls Tryz.prog 13 #[I ob, I 2] w' fun e w'' => e = .returned (I ix) ∧ w'' = w') := fun w' => by rw [← h2]; exact pick_any ob 2 w' b2 ⟨by decide, by decide⟩
  have HP3 : Hid (∀ w', Calls Tryz.prog 13 #[I x, I (l.length : Int)] w' fun e w'' => e = .returned (I (Wv.pk x l.length)) ∧ w'' = w') := fun w' => pick_any x (l.length : Int) w' b3 ⟨by omega, by omega⟩
  obtain ⟨a0, a1⟩ := Wv.pk_lt x (l.length : Int) (by omega)
  generalize Wv.pk x (l.length : Int) = xi at *
  obtain ⟨xx, rfl⟩ := Int.eq_ofNat_of_zero_le a0
  rw [Int.toNat_natCast]
  have hlt := h.lt
  have hixi : (ix : Int) < 2 := by omega
  have hne0 : ¬ (l.length : Int) = 0 := by omega
  have hne : ((l.length : Int) == 0) = false := by simpa using hne0
  obtain ⟨ad, c, rfl, hnil, hA⟩ := hL.slice
  have e1 : ∀ o1 o2 o3, (((w.alloc o1).alloc o2).alloc o3).cell? ⟨p, 516 + ix, none⟩ = some (.slice ad l.length c) := alloc3_cell ((h.cell (516 + ix)).trans hc)
  have HH : Hid (Blk w p cs 37) := h
  have HC : Hid (cs[516 + ix]? = some (.slice ad l.length c)) := hc
  have HL : Hid (Lst w (.slice ad l.length c) l) := hL
  have HAT : Hid (∀ w', Below w.heap.size w w' → Calls Tryz.prog 42 #[.slice ad l.length c, I xx] w' fun e w'' => ∃ v', e = .returned v' ∧ w''.ownsRow w'.heap.size 3 1 v' (l.length - 1) ((delV l xx).map I) ∧ Below w'.heap.size w' w'') := fun w' hb => without_any _ l xx w' (hL.kept hb) (by omega) (by omega)
  clear h b1 b2 b3 h6 h2 hc hL hA hnil
  go_enter Tryz.func17, Tryz.ntmps17
  go_wp2_with fail
  refine (HP1.out _).mono ?_
  rintro e w2 ⟨rfl, hw2⟩
  subst hw2
  go_wp2_with fail
  refine (HP2.out _).mono ?_
  rintro e w3 ⟨rfl, hw3⟩
  subst hw3
  go_wp2_with fail
  obtain ⟨wB, hwB⟩ : ∃ wB, wB = wA3 w op ob x y z 6 (4 * ix + 3) 0 0 := ⟨_, rfl⟩
  have HB : Hid (Ac3 w wB p cs op ob x y z 6 (4 * ix + 3) 0 0) := by rw [hwB]; exact ac3 HH.out op ob x y z 6 (4 * ix + 3) 0 0
  change Code.wp _ _ _ _ (wA3 w op ob x y z 6 (4 * ix + 3) 0 0)
  rw [← hwB]
  have o2 : wB.cell? ⟨w.heap.size, 2, none⟩ = some (I x) := HB.out.raw.cell 2
  have l1 : wB.cell? ⟨p, 516 + ix, none⟩ = some (.slice ad l.length c) := (HB.out.blk.cell _).trans HC.out
  have x2 : wB.cell? ⟨w.heap.size + 1 + 1, 2, none⟩ = some (I 0) := HB.out.opr.cell 2
  have z2 : wB.frozen? ⟨w.heap.size + 1 + 1, 2, none⟩ = false := HB.out.opr.frozen 2
  clear hwB e1
  have q2 : ∀ v : Value, (wB.drew.setCell ⟨w.heap.size + 1 + 1, 2, none⟩ v).cell? ⟨w.heap.size, 2, none⟩ = some (I x) := fun v => (HB.out.drew.raw.other (by show w.heap.size ≠ w.heap.size + 1 + 1; omega) v).cell 2
  have q3 : ∀ v : Value, (wB.drew.setCell ⟨w.heap.size + 1 + 1, 2, none⟩ v).cell? ⟨p, 516 + ix, none⟩ = some (.slice ad l.length c) := fun v => ((HB.out.drew.blk.other (by show p ≠ w.heap.size + 1 + 1; omega) v).cell _).trans HC.out
  go_region_held_law (fun w' => w'.cell? ⟨w.heap.size, 2, none⟩ = some (I x) ∧ w'.cell? ⟨p, 516 + ix, none⟩ = some (.slice ad l.length c)) (first | exact ⟨o2, l1⟩ | exact ⟨q2 _, q3 _⟩) ((go_simp; go_at_call 13; refine (HP3.out _).mono ?_; rintro e w9 ⟨rfl, hw9⟩; subst hw9))
  obtain ⟨wD, hwD⟩ : ∃ wD, wD = (wB.setCell ⟨w.heap.size + 1 + 1, 2, none⟩ (I xx)).drew := ⟨_, rfl⟩
  have HD : Hid (Ac3 w wD p cs op ob x y z 6 (4 * ix + 3) xx 0) := by rw [hwD]; exact (HB.out.set2 xx).drew
  change Exit.then _ _ Exit.normal _ ((wB.setCell ⟨w.heap.size + 1 + 1, 2, none⟩ (I xx)).drew)
  rw [← hwD]
  clear hwD q2 q3 o2 l1 x2 z2 HB HP1 HP2 HP3
  have l1 : wD.cell? ⟨p, 516 + ix, none⟩ = some (.slice ad l.length c) := (HD.out.blk.cell _).trans HC.out
  have x2 : wD.cell? ⟨w.heap.size + 1 + 1, 2, none⟩ = some (I xx) := HD.out.opr.cell 2
  go_wp2_with fail
  go_region_law ((go_simp; go_at_call 42; refine (HAT.out _ HD.out.drew.bel).mono ?_; rintro e wE ⟨v', rfl, hown9, hb9⟩; obtain ⟨a9, c9, rfl⟩ := own_sl hown9; have HO9 : Hid (wE.ownsRow wD.heap.size 3 1 (.slice a9 (l.length - 1) c9) (l.length - 1) ((delV l xx).map I)) := hown9; have HE : Hid (Ac3 w wE p cs op ob x y z 6 (4 * ix + 3) xx 0) := HD.out.drew.below hb9; have y1 : wE.cell? ⟨p, 516 + ix, none⟩ = some (.slice ad l.length c) := (HE.out.blk.cell _).trans HC.out; have z1 : wE.frozen? ⟨p, 516 + ix, none⟩ = false := HE.out.blk.frozen _; clear hown9 hb9))
  all_goals
    (obtain ⟨w5, hw5⟩ : ∃ w5, w5 = wE.setCell ⟨p, 516 + ix, none⟩ (.slice a9 (l.length - 1) c9) := ⟨_, rfl⟩
     have H5 : Hid (Ac5 w w5 p (cs.setIfInBounds (516 + ix) (.slice a9 (l.length - 1) c9)) 6 (4 * ix + 3) xx 0) := by rw [hw5]; exact HE.out.put (516 + ix) _
     have HOF : Hid ((putA5 w5 (w.heap.size + 1) (I 6) (I (4 * ix + 3)) (I xx) (I 0) (I 0)).ownsRow w.heap.size 3 1 (.slice a9 (l.length - 1) c9) (l.length - 1) ((delV l xx).map I)) := by rw [hw5]; exact own_fin HD.out HO9.out (516 + ix) _ _ _ _ _ _
     change Exit.inBlock 0 _ Exit.normal _ (wE.setCell ⟨p, 516 + ix, none⟩ (.slice a9 (l.length - 1) c9))
     rw [← hw5]
     have c0 : w5.cell? ⟨w.heap.size + 1 + 1, 0, none⟩ = some (I 6) := H5.out.opr.cell 0
     have c1 : w5.cell? ⟨w.heap.size + 1 + 1, 1, none⟩ = some (I (4 * ix + 3)) := H5.out.opr.cell 1
     have c2 : w5.cell? ⟨w.heap.size + 1 + 1, 2, none⟩ = some (I xx) := H5.out.opr.cell 2
     have c3 : w5.cell? ⟨w.heap.size + 1 + 1, 3, none⟩ = some (I 0) := H5.out.opr.cell 3
     have c4 : w5.cell? ⟨w.heap.size + 1 + 1, 4, none⟩ = some (I 0) := H5.out.opr.cell 4
     have d0 : w5.cell? ⟨w.heap.size + 1, 0, none⟩ = some (.int .i64 0) := H5.out.res.cell 0
     have d1 : w5.cell? ⟨w.heap.size + 1, 1, none⟩ = some (.int .i64 0) := H5.out.res.cell 1
     have d2 : w5.cell? ⟨w.heap.size + 1, 2, none⟩ = some (.int .i64 0) := H5.out.res.cell 2
     have d3 : w5.cell? ⟨w.heap.size + 1, 3, none⟩ = some (.int .i64 0) := H5.out.res.cell 3
     have d4 : w5.cell? ⟨w.heap.size + 1, 4, none⟩ = some (.int .i64 0) := H5.out.res.cell 4
     have zf : ∀ j, w5.frozen? ⟨w.heap.size + 1, j, none⟩ = false := fun j => H5.out.res.frozen j
     obtain ⟨t5, t6, t7⟩ := H5.out.fin
     have f0 : (putA5 w5 (w.heap.size + 1) (I 6) (I (4 * ix + 3)) (I xx) (I 0) (I 0)).cell? ⟨w.heap.size + 1, 0, none⟩ = some (I 6) := t7.cell 0
     have f1 : (putA5 w5 (w.heap.size + 1) (I 6) (I (4 * ix + 3)) (I xx) (I 0) (I 0)).cell? ⟨w.heap.size + 1, 1, none⟩ = some (I (4 * ix + 3)) := t7.cell 1
     have f2 : (putA5 w5 (w.heap.size + 1) (I 6) (I (4 * ix + 3)) (I xx) (I 0) (I 0)).cell? ⟨w.heap.size + 1, 2, none⟩ = some (I xx) := t7.cell 2
     have f3 : (putA5 w5 (w.heap.size + 1) (I 6) (I (4 * ix + 3)) (I xx) (I 0) (I 0)).cell? ⟨w.heap.size + 1, 3, none⟩ = some (I 0) := t7.cell 3
     have f4 : (putA5 w5 (w.heap.size + 1) (I 6) (I (4 * ix + 3)) (I xx) (I 0) (I 0)).cell? ⟨w.heap.size + 1, 4, none⟩ = some (I 0) := t7.cell 4
     have HT : Hid (Tch (fun k => k = p) w (putA5 w5 (w.heap.size + 1) (I 6) (I (4 * ix + 3)) (I xx) (I 0) (I 0)) ∧ Blk (putA5 w5 (w.heap.size + 1) (I 6) (I (4 * ix + 3)) (I xx) (I 0) (I 0)) p (cs.setIfInBounds (516 + ix) (.slice a9 (l.length - 1) c9)) 37) := ⟨t5, t6⟩
     clear t5 t6 t7 H5 hw5 l1 x2  y1 z1 HE HD HO9 HC HL HH HAT
     go_wp2_with fail
     exact bodyPost_ret (v := .tuple #[.agg #[I 6, I (4 * ix + 3), I xx, I 0, I 0], .bool true]) (by simp [results, Tryz.results17, go_sem, f0, f1, f2, f3, f4]) rfl ⟨_, HOF.out, rfl, HT.out.1, HT.out.2⟩)
set_option maxHeartbeats 1600000 in
/-- An Erase where there is nothing. -/
theorem act6no (p : Nat) (cs : Array Value) (lv : Value) (op ob x y z : Int) (ix : Nat) (w : World) (h : Blk w p cs 37) (hix : ix < 2) (hc : cs[516 + ix]? = some lv) (hL : Lst w lv [])
    (b1 : -9223372036854775808 ≤ op ∧ op ≤ 9223372036854775807) (b2 : -9223372036854775808 ≤ ob ∧ ob ≤ 9223372036854775807) (h6 : Wv.pk op 6 = 5) (h2 : Wv.pk ob 2 = ix) :
    Calls Tryz.prog 17 #[.pointer (some ⟨p, 0, none⟩), .agg #[I op, I ob, I x, I y, I z]] w fun e w' => ActOk w p cs 6 (4 * ix + 3) 0 0 false e w' := by
  have HP1 : Hid (∀ w', Calls Tryz.prog 13 #[I op, I 6] w' fun e w'' => e = .returned (I 5) ∧ w'' = w') := fun w' => by rw [← h6]; exact pick_any op 6 w' b1 ⟨by decide, by decide⟩
  have HP2 : Hid (∀ w', Calls Tryz.prog 13 #[I ob, I 2] w' fun e w'' => e = .returned (I ix) ∧ w'' = w') := fun w' => by rw [← h2]; exact pick_any ob 2 w' b2 ⟨by decide, by decide⟩
  have hlt := h.lt
  have hixi : (ix : Int) < 2 := by omega
  obtain ⟨ad, c, rfl, hnil, hA⟩ := hL.slice
  have e1 : ∀ o1 o2 o3, (((w.alloc o1).alloc o2).alloc o3).cell? ⟨p, 516 + ix, none⟩ = some (.slice ad 0 c) := alloc3_cell ((h.cell (516 + ix)).trans hc)
  have HH : Hid (Blk w p cs 37) := h
  clear h b1 b2 h6 h2 hc hL hA hnil
  go_enter Tryz.func17, Tryz.ntmps17
  go_wp2_with fail
  refine (HP1.out _).mono ?_
  rintro e w2 ⟨rfl, hw2⟩
  subst hw2
  go_wp2_with fail
  refine (HP2.out _).mono ?_
  rintro e w3 ⟨rfl, hw3⟩
  subst hw3
  have hR : Blk (((w.alloc (.cells #[I op, I ob, I x, I y, I z] 41)).alloc (.cells #[I 6, I (4 * ix + 3), I 0, I 0, I 0] 41)).alloc (.cells #[I 6, I (4 * ix + 3), I 0, I 0, I 0] 41)) (w.heap.size + 1) #[I 6, I (4 * ix + 3), I 0, I 0, I 0] 41 := (Blk.second w _ _ _).alloc _
  have f0 := hR.cell 0
  have f1 := hR.cell 1
  have f2 := hR.cell 2
  have f3 := hR.cell 3
  have f4 := hR.cell 4
  have hB : Below w.heap.size w (((w.alloc (.cells #[I op, I ob, I x, I y, I z] 41)).alloc (.cells #[I 6, I (4 * ix + 3), I 0, I 0, I 0] 41)).alloc (.cells #[I 6, I (4 * ix + 3), I 0, I 0, I 0] 41)) := (((Below.refl w.heap.size w).alloc (Nat.le_refl _) _).alloc (by simp) _).alloc (by simp; omega) _
  have HT : Hid (Tch (fun k => k = p) w (((w.alloc (.cells #[I op, I ob, I x, I y, I z] 41)).alloc (.cells #[I 6, I (4 * ix + 3), I 0, I 0, I 0] 41)).alloc (.cells #[I 6, I (4 * ix + 3), I 0, I 0, I 0] 41)) ∧ Blk (((w.alloc (.cells #[I op, I ob, I x, I y, I z] 41)).alloc (.cells #[I 6, I (4 * ix + 3), I 0, I 0, I 0] 41)).alloc (.cells #[I 6, I (4 * ix + 3), I 0, I 0, I 0] 41)) p cs 37) := ⟨Tch.below hB, HH.out.kept hB hlt⟩
  clear hR hB
  go_wp2_with fail
  exact bodyPost_ret (v := .tuple #[.agg #[I 6, I (4 * ix + 3), I 0, I 0, I 0], .bool false]) (by simp [results, Tryz.results17, go_sem, f0, f1, f2, f3, f4]) rfl ⟨rfl, HT.out.1, HT.out.2⟩

end Go.Proofs.YtfmcngncaffloaaGreatDoor

namespace Go.Proofs.YtfmcngncaffloaaGreatDoor
open Go.RowKit
set_option maxRecDepth 100000

theorem all_set {cs : Array Value} {j : Nat} {v : Value} (h : cs.all (·.oneCell') = true) (h1 : v.oneCell' = true) : (cs.setIfInBounds j v).all (·.oneCell') = true := by
  rw [Array.all_eq_true_iff_forall_mem]
  intro x hx
  rcases Array.mem_or_eq_of_mem_setIfInBounds hx with hx | rfl
  · exact Array.all_eq_true_iff_forall_mem.1 h x hx
  · exact h1
theorem MdCs.sum {w : World} {cs : Array Value} {m : Md} (h : MdCs w cs m) (k : Nat) (hk : k < 2) (z : Int) (hm : m.sums.length = 2) : MdCs w (cs.setIfInBounds k (I z)) { m with sums := m.sums.set k z } := by
  have hz := h.size
  refine ⟨by simp [hz], all_set h.one rfl, fun i hi => ?_, fun i u hi hu => ?_, fun i hi => ?_, fun i hi => ?_⟩
  · by_cases hq : i = k
    · subst hq
      rw [Array.getElem?_setIfInBounds_self_of_lt (by omega)]
      show _ = some (I ((m.sums.set i z).getD i 0))
      rw [getD_set_eq _ _ _ _ (by omega)]
    · rw [Array.getElem?_setIfInBounds_ne (by omega)]
      show _ = some (I ((m.sums.set k z).getD i 0))
      rw [getD_set_ne _ _ _ _ _ (by omega)]
      exact h.sums i hi
  · rw [Array.getElem?_setIfInBounds_ne (by omega)]; exact h.sets i u hi hu
  · rw [Array.getElem?_setIfInBounds_ne (by omega)]; exact h.regs i hi
  · rw [Array.getElem?_setIfInBounds_ne (by omega)]; exact h.lists i hi
theorem MdCs.reg {w : World} {cs : Array Value} {m : Md} (h : MdCs w cs m) (k : Nat) (hk : k < 2) (z : Int) (hm : m.regs.length = 2) : MdCs w (cs.setIfInBounds (514 + k) (I z)) { m with regs := m.regs.set k z } := by
  have hz := h.size
  refine ⟨by simp [hz], all_set h.one rfl, fun i hi => ?_, fun i u hi hu => ?_, fun i hi => ?_, fun i hi => ?_⟩
  · rw [Array.getElem?_setIfInBounds_ne (by omega)]; exact h.sums i hi
  · rw [Array.getElem?_setIfInBounds_ne (by omega)]; exact h.sets i u hi hu
  · by_cases hq : i = k
    · subst hq
      rw [Array.getElem?_setIfInBounds_self_of_lt (by omega)]
      show _ = some (I ((m.regs.set i z).getD i 0))
      rw [getD_set_eq _ _ _ _ (by omega)]
    · rw [Array.getElem?_setIfInBounds_ne (by omega)]
      show _ = some (I ((m.regs.set k z).getD i 0))
      rw [getD_set_ne _ _ _ _ _ (by omega)]
      exact h.regs i hi
  · rw [Array.getElem?_setIfInBounds_ne (by omega)]; exact h.lists i hi
theorem MdCs.mark {w : World} {cs : Array Value} {m : Md} (h : MdCs w cs m) (k v : Nat) (hk : k < 2) (hv : v < 256) (b : Bool) (hm : m.sets.length = 2) (hl : (m.sets.getD k []).length = 256) : MdCs w (cs.setIfInBounds (2 + k * 256 + v) (.bool b)) { m with sets := m.sets.set k ((m.sets.getD k []).set v b) } := by
  have hz := h.size
  refine ⟨by simp [hz], all_set h.one rfl, fun i hi => ?_, fun i u hi hu => ?_, fun i hi => ?_, fun i hi => ?_⟩
  · rw [Array.getElem?_setIfInBounds_ne (by omega)]; exact h.sums i hi
  · by_cases hq : i = k
    · subst hq
      show _ = some (Value.bool (((m.sets.set i ((m.sets.getD i []).set v b)).getD i []).getD u false))
      rw [getD_set_eq _ _ _ _ (by omega)]
      by_cases hu2 : u = v
      · subst hu2
        rw [Array.getElem?_setIfInBounds_self_of_lt (by omega), getD_set_eq _ _ _ _ (by omega)]
      · rw [Array.getElem?_setIfInBounds_ne (by omega), getD_set_ne _ _ _ _ _ (by omega)]
        exact h.sets i u hi hu
    · rw [Array.getElem?_setIfInBounds_ne (by omega)]
      show _ = some (Value.bool (((m.sets.set k ((m.sets.getD k []).set v b)).getD i []).getD u false))
      rw [getD_set_ne _ _ _ _ _ (by omega)]
      exact h.sets i u hi hu
  · rw [Array.getElem?_setIfInBounds_ne (by omega)]; exact h.regs i hi
  · rw [Array.getElem?_setIfInBounds_ne (by omega)]; exact h.lists i hi
/-- What act leaves, in the model's words. -/
def ActD (w : World) (p : Nat) (cs : Array Value) (m : Md) (e : Ending) (w' : World) : Prop := ∃ (opn : Int) (ix : Nat) (a b : Int) (so : Bool) (cs' : Array Value), e = .returned (.tuple #[.agg #[I opn, I ((4 * ix + kOf opn : Nat) : Int), I a, I b, I 0], .bool so]) ∧ (so = true → Can m opn ix a b) ∧ Tch (fun k => k = p) w w' ∧ Blk w' p cs' 37 ∧ MdCs w' cs' (if so then m.step opn ix a b else m) ∧ ∀ i, i < 2 → ∀ g q n c, cs'[516 + i]? = some (.slice (some ⟨g, q, none⟩) n c) → (w.heap.size ≤ g ∧ g < w'.heap.size) ∨ cs[516 + i]? = some (.slice (some ⟨g, q, none⟩) n c)
section
variable {p : Nat} {cs : Array Value} {m : Md} {w : World}
theorem MdCs.tch {w' : World} (h : MdCs w cs m) (hin : MdIn (fun g => g ≠ p ∧ g < w.heap.size) cs) (hT : Tch (fun k => k = p) w w') : MdCs w' cs m := h.same hin (fun g hg => hT.block g hg.2 hg.1)
theorem act_low {j : Nat} {v : Value} {i g q n c : Nat} (hj : j < 516) (e : (cs.setIfInBounds j v)[516 + i]? = some (.slice (some ⟨g, q, none⟩) n c)) : cs[516 + i]? = some (.slice (some ⟨g, q, none⟩) n c) := by
  rw [Array.getElem?_setIfInBounds_ne (by omega)] at e
  exact e
theorem act_list {w' : World} {k : Nat} {v : Value} {l : List Int} {n0 : Nat} (hT : Tch (fun k => k = p) w w') (h : MdCs w cs m) (hin : MdIn (fun g => g ≠ p ∧ g < w.heap.size) cs) (hk : k < 2) (ho : w'.ownsRow w.heap.size 3 1 v n0 (l.map I)) (hm : m.lists.length = 2) :
    MdCs w' (cs.setIfInBounds (516 + k) v) { m with lists := m.lists.set k l } ∧ ∀ i, i < 2 → ∀ g q n c, (cs.setIfInBounds (516 + k) v)[516 + i]? = some (.slice (some ⟨g, q, none⟩) n c) → (w.heap.size ≤ g ∧ g < w'.heap.size) ∨ cs[516 + i]? = some (.slice (some ⟨g, q, none⟩) n c) := by
  have hz := h.size
  have h1 : v.oneCell' = true := by
    obtain ⟨a, c, rfl⟩ := own_sl ho
    rfl
  refine ⟨(h.tch hin hT).list k hk v l (Lst.own ho) h1 hm, fun i hi g q n c e => ?_⟩
  by_cases hq : i = k
  · subst hq
    rw [Array.getElem?_setIfInBounds_self_of_lt (by omega)] at e
    have e := Option.some.inj e
    rcases ho.2 with ⟨e2, _⟩ | ⟨g2, cap, cur, e2, hg, hg2, _⟩
    · rw [e2] at e; cases e
    · have hlt := ho.lt g2 (by rw [e2]; rfl)
      rw [e2] at e; cases e
      exact .inl ⟨hg, hlt.2⟩
  · rw [Array.getElem?_setIfInBounds_ne (by omega)] at e
    exact .inr e
theorem act_any (op ob x y z : Int) (h : Blk w p cs 37) (hM : MdCs w cs m) (hin : MdIn (fun g => g ≠ p ∧ g < w.heap.size) cs) (hm : MdOk m) (hs : ∀ i, i < 2 → -1000000000 ≤ m.sums.getD i 0 ∧ m.sums.getD i 0 ≤ 1000000000) (hl : ∀ i, i < 2 → (m.lists.getD i []).length ≤ 100000)
    (b1 : -9223372036854775808 ≤ op ∧ op ≤ 9223372036854775807) (b2 : -9223372036854775808 ≤ ob ∧ ob ≤ 9223372036854775807) (b3 : -9223372036854775808 ≤ x ∧ x ≤ 9223372036854775807) (b4 : -9223372036854775808 ≤ y ∧ y ≤ 9223372036854775807) :
    Calls Tryz.prog 17 #[.pointer (some ⟨p, 0, none⟩), .agg #[I op, I ob, I x, I y, I z]] w fun e w' => ActD w p cs m e w' := by
  obtain ⟨o0, o1⟩ := Wv.pk_lt op 6 (by decide)
  obtain ⟨q0, q1⟩ := Wv.pk_lt ob 2 (by decide)
  obtain ⟨ix, hix⟩ := Int.eq_ofNat_of_zero_le q0
  have h2 : ix < 2 := by omega
  have hop : Wv.pk op 6 = 0 ∨ Wv.pk op 6 = 1 ∨ Wv.pk op 6 = 2 ∨ Wv.pk op 6 = 3 ∨ Wv.pk op 6 = 4 ∨ Wv.pk op 6 = 5 := by omega
  rcases hop with h6 | h6 | h6 | h6 | h6 | h6
  · obtain ⟨a0, a1⟩ := Wv.pk_lt x 2001 (by decide)
    refine (act1 p cs _ op ob x y z ix w h h2 (hM.sums ix h2) (hs ix h2) b1 b2 b3 h6 hix).mono ?_
    rintro e w' ⟨rfl, hT, hB⟩
    have eo : (4 * (ix : Int)) = ((4 * ix + kOf 1 : Nat) : Int) := by show _ = ((4 * ix + 0 : Nat) : Int); omega
    rw [eo]
    exact ⟨1, ix, _, 0, true, _, rfl, fun _ => ⟨by omega, by omega, h2, fun _ => ⟨by omega, by omega⟩, fun q => by omega, fun q => by omega, fun q => by omega, fun _ => rfl⟩, hT, hB, (hM.tch hin hT).sum ix h2 _ hm.sums, fun i hi g q n c e => .inr (act_low (by omega) e)⟩
  · obtain ⟨a0, a1⟩ := Wv.pk_lt x 256 (by decide)
    refine (act2 p cs _ op ob x y z ix w h h2 (hM.sets ix (Wv.pk x 256).toNat h2 (by omega)) b1 b2 b3 h6 hix).mono ?_
    rintro e w' ⟨rfl, hT, hB⟩
    have eo : (4 * (ix : Int) + 1) = ((4 * ix + kOf 2 : Nat) : Int) := by show _ = ((4 * ix + 1 : Nat) : Int); omega
    rw [eo]
    exact ⟨2, ix, _, 0, true, _, rfl, fun _ => ⟨by omega, by omega, h2, fun q => by omega, fun _ => ⟨by omega, by omega⟩, fun q => by omega, fun q => by omega, fun _ => rfl⟩, hT, hB, (hM.tch hin hT).mark ix _ h2 (by omega) true hm.sets (marks_len hm ix h2), fun i hi g q n c e => .inr (act_low (by omega) e)⟩
  · obtain ⟨a0, a1⟩ := Wv.pk_lt x 256 (by decide)
    refine (act3 p cs _ op ob x y z ix w h h2 (hM.sets ix (Wv.pk x 256).toNat h2 (by omega)) b1 b2 b3 h6 hix).mono ?_
    rintro e w' ⟨rfl, hT, hB⟩
    have eo : (4 * (ix : Int) + 1) = ((4 * ix + kOf 3 : Nat) : Int) := by show _ = ((4 * ix + 1 : Nat) : Int); omega
    rw [eo]
    exact ⟨3, ix, _, 0, true, _, rfl, fun _ => ⟨by omega, by omega, h2, fun q => by omega, fun _ => ⟨by omega, by omega⟩, fun q => by omega, fun q => by omega, fun _ => rfl⟩, hT, hB, (hM.tch hin hT).mark ix _ h2 (by omega) false hm.sets (marks_len hm ix h2), fun i hi g q n c e => .inr (act_low (by omega) e)⟩
  · obtain ⟨a0, a1⟩ := Wv.pk_lt x 256 (by decide)
    refine (act4 p cs _ op ob x y z ix w h h2 (hM.regs ix h2) b1 b2 b3 h6 hix).mono ?_
    rintro e w' ⟨rfl, hT, hB⟩
    have eo : (4 * (ix : Int) + 2) = ((4 * ix + kOf 4 : Nat) : Int) := by show _ = ((4 * ix + 2 : Nat) : Int); omega
    rw [eo]
    exact ⟨4, ix, _, 0, true, _, rfl, fun _ => ⟨by omega, by omega, h2, fun q => by omega, fun _ => ⟨by omega, by omega⟩, fun q => by omega, fun q => by omega, fun _ => rfl⟩, hT, hB, (hM.tch hin hT).reg ix h2 _ hm.regs, fun i hi g q n c e => .inr (act_low (by omega) e)⟩
  · obtain ⟨lv, he, hL⟩ := hM.lists ix h2
    obtain ⟨a0, a1⟩ := Wv.pk_lt x (((m.lists.getD ix []).length : Int) + 1) (by omega)
    obtain ⟨y0, y1⟩ := Wv.pk_lt y 256 (by decide)
    refine (act5 p cs lv _ op ob x y z ix w h h2 he hL (hl ix h2) b1 b2 b3 b4 h6 hix).mono ?_
    rintro e w' ⟨v', ho, rfl, hT, hB⟩
    have eo : (4 * (ix : Int) + 3) = ((4 * ix + kOf 5 : Nat) : Int) := by show _ = ((4 * ix + 3 : Nat) : Int); omega
    rw [eo]
    obtain ⟨g1, g2⟩ := act_list hT hM hin h2 ho hm.lists
    exact ⟨5, ix, _, _, true, _, rfl, fun _ => ⟨by omega, by omega, h2, fun q => by omega, fun q => by omega, fun _ => ⟨by omega, by omega, by omega, by omega⟩, fun q => by omega, fun q => by omega⟩, hT, hB, g1, g2⟩
  · obtain ⟨lv, he, hL⟩ := hM.lists ix h2
    by_cases hpos : 0 < (m.lists.getD ix []).length
    · obtain ⟨a0, a1⟩ := Wv.pk_lt x ((m.lists.getD ix []).length : Int) (by omega)
      refine (act6 p cs lv _ op ob x y z ix w h h2 he hL (hl ix h2) b1 b2 b3 h6 hpos hix).mono ?_
      rintro e w' ⟨v', ho, rfl, hT, hB⟩
      have eo : (4 * (ix : Int) + 3) = ((4 * ix + kOf 6 : Nat) : Int) := by show _ = ((4 * ix + 3 : Nat) : Int); omega
      rw [eo]
      obtain ⟨g1, g2⟩ := act_list hT hM hin h2 ho hm.lists
      exact ⟨6, ix, _, 0, true, _, rfl, fun _ => ⟨by omega, by omega, h2, fun q => by omega, fun q => by omega, fun q => by omega, fun _ => ⟨by omega, by omega⟩, fun _ => rfl⟩, hT, hB, g1, g2⟩
    · have hnil : m.lists.getD ix [] = [] := List.eq_nil_of_length_eq_zero (by omega)
      rw [hnil] at hL
      refine (act6no p cs lv op ob x y z ix w h h2 he hL b1 b2 h6 hix).mono ?_
      rintro e w' ⟨rfl, hT, hB⟩
      have eo : (4 * (ix : Int) + 3) = ((4 * ix + kOf 6 : Nat) : Int) := by show _ = ((4 * ix + 3 : Nat) : Int); omega
      rw [eo]
      exact ⟨6, ix, 0, 0, false, cs, rfl, fun q => (by cases q), hT, hB, hM.tch hin hT, fun i hi g q n c e => .inr e⟩
end

end Go.Proofs.YtfmcngncaffloaaGreatDoor
